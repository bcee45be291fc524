import Derived.Test.YtifeekomegoijaaGreatDoorY43
import Derived.Test.YtifeekomegoijaaGreatDoorY44
import Derived.Test.YtifeekomegoijaaGreatDoorY48
import Derived.Test.YtifeekomegoijaaGreatDoorCards
import Derived.Test.YtifeekomegoijaaGreatDoorTie
import Derived.JoinedOf
import Derived.SevenTiedAt
import Derived.ChangeMaps5
set_option linter.unusedVariables false
set_option linter.unusedSimpArgs false
set_option maxRecDepth 100000
set_option maxHeartbeats 8000000
namespace Go.Proofs.YtifeekomegoijaaGreatDoor
open Go Go.ChangeShapes Go.WideShapes Go.RowKit Go.ChangeMaps
theorem polynomialWrites_lifted (os : Os) (started : os.Started) (H : Type) (enc : TypeId × Value -> H) :
 ReturnsInHanded {} Tryz.checked os 6 .any (fun w args => (Rows.polynomialWritesSpec.pre enc Tryz.prog Tryz.f6 [] false w args /\ laidMetH Tryz.prog lay12 w) /\ sizedMet enc Tryz.prog Tryz.f6 (OpenSpec.ofChange Rows.polynomialWritesSpec) false w args)
  (Rows.polynomialWritesSpec.post enc Tryz.prog Tryz.f6 false true false false) := by
 refine handed_and_shaped5 (C := Tryz.checked) (X := fun w _ => laidMetH Tryz.prog lay12 w) (fun _ _ _ hh h => h.of_heap hh) own5 started (by kernel_rfl) Tryz.func6
  (ChangeSpec.witness_shaped (enc := enc) (C := Tryz.checked) (os := os) (X := fun w _ => laidMetH Tryz.prog lay12 w) false (World.laidAll Tryz.prog os lay12) #[.slice none 0 0, .string ⟨#[]⟩] 8 (World.laidAll_os _ _ _) (World.shaped_of_ZipB (by kernel_rfl) (by kernel_rfl)) (by kernel_rfl) (by kernel_rfl) (by kernel_rfl) (door_met12 os _)) ?_
 intro W base args ds gs before hval0 hW hsh hL
 have hval : ∀ (j : Nat) t v, Tryz.f6.params[j]? = some t -> args[j]? = some v -> Value.okWide Tryz.prog W .any base t v := hval0
 have hW' := hW
 have hlt := hW.lt
 obtain ⟨p, q, hA0, hV, rfl, hfz, hnd⟩ := hW
 have hA : DataW.TrodAll enc Tryz.prog W 0 (fun _ => true) true Tryz.f6.params.toList args.toList ds p := hA0
 rw [Tryz.params6] at hA hval
 obtain ⟨v1, v2, d1, d2, p1, p2, rfl, rfl, rfl, h1, h2⟩ := trodAll_two hA
 obtain ⟨rfl, rfl⟩ := trodVars_none hV
 have k1 := h1
 obtain ⟨A1, n1, c1, l1, rfl, g1, r1⟩ := monos_of (hval 0 _ v1 rfl rfl) h1
 obtain ⟨s2, rfl, rfl, rfl, hw2⟩ := open_string Tryz.underlying9 (hval 1 _ v2 rfl rfl) h2
 have m1 : IntKind.i64.min = -9223372036854775808 := rfl
 have m2 : IntKind.i64.max = 9223372036854775807 := rfl
 have m3 : IntKind.u8.min = 0 := rfl
 have m4 : IntKind.u8.max = 255 := rfl
 refine (writes2_law A1 n1 c1 l1 s2 W (txg_of12 hL hsh) g1).mono fun e W' ⟨he, hb⟩ => ?_
 subst he
 have e1 : Rows.polynomialWritesSpec.fn H ([d1, .lit (.string s2.data.toList)] ++ []) = { results := [.lit (.bool true)], args := [d1, .lit (.string s2.data.toList)] } := rfl
 refine ⟨_, rfl, _, _, _, [], p1 ++ [], [], hW', ?_, ?_, ?_, hb.frame _, fun h => by cases h⟩
 ·rw [e1]; exact trodAll_mk1 (shut_bool Tryz.underlying4 true)
 ·rw [e1]
  exact trodAll_mk2 (keep_arg5 (by kernel_rfl) (of_decide_eq_true (by kernel_rfl)) k1 hb (fun x hx => hlt x (by simp [hx]))) (shut_string Tryz.underlying9 hw2)
 ·rw [e1]; rfl
theorem polynomialWrites_row : Rows.PolynomialWritesSaid :=
 OpenClaim.holds_of_wide 6 Tryz.f6 rfl rfl rfl rfl rfl rfl rfl ⟨rfl, rfl, rfl, rfl, rfl⟩ rfl rfl rfl rfl rfl (by as_aux_lemma => kernel_rfl) Tryz.func6 (by as_aux_lemma => kernel_rfl)
  (of_decide_eq_true (by as_aux_lemma => kernel_rfl)) (by unfold Func.isWrapper; first | (rw [if_pos (by decide +kernel)]; kernel_rfl) | (rw [if_neg (by decide +kernel)]; exact ⟨rfl, rfl⟩))
  (fun os started H enc _ => polynomialWrites_lifted os started H enc)
theorem polynomialWrites_holds : Rows.PolynomialWritesCardSaid :=
 Claim7.holds_tied_plain_at .later [] [.data, .data, .data, .data, .sentinel, .sentinel, .pinned] true (true, "9da56ae7fea7d8a6bd9d8e611ac37431547db114ae8d6562f222281433501d8c") true
  polynomialWrites_row (fun _ h => by cases h) (by as_aux_lemma => kernel_rfl) (fun _ h => by cases h) polynomialWrites_row_tie rfl ⟨rfl, rfl⟩ (by as_aux_lemma => kernel_rfl) rfl
  (fun f fn hf hfn => by
   obtain rfl : f = 6 := Option.some.inj ((show Tryz.prog.funcNamed "weighted/weightedlaw02.PolynomialWrites" = some 6 by as_aux_lemma => kernel_rfl).symm.trans hf) |>.symm
   obtain rfl : fn = Tryz.f6 := (Option.some.inj (Tryz.func6.symm.trans hfn)).symm
   exact ⟨by as_aux_lemma => kernel_rfl, fun j t ht => by
    rw [Tryz.params6] at ht
    have hm : t ∈ [22, 9] := by simpa using Array.mem_of_getElem? ht
    have hall : ([22, 9].all fun u => !Tryz.prog.wantsStandIn u) = true := by as_aux_lemma => kernel_rfl
    exact (show Tryz.prog.wantsStandIn t = false by simpa using List.all_eq_true.1 hall t hm)⟩)
  (by as_aux_lemma => kernel_rfl)
end Go.Proofs.YtifeekomegoijaaGreatDoor
