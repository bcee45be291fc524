/- texts -/
import Derived.Test.YtifeekomegoijaaGreatDoorR24
import Derived.Test.YtifeekomegoijaaGreatDoorR47
import Derived.Test.YtifeekomegoijaaGreatDoorR50
import Derived.Test.YtifeekomegoijaaGreatDoorCards
import Derived.Test.YtifeekomegoijaaGreatDoorTie
import Derived.JoinedOf
import Derived.SevenTiedAt
import Derived.ChangeMaps5
set_option linter.unusedVariables false
set_option linter.unusedSimpArgs false
namespace Go.Proofs.YtifeekomegoijaaGreatDoor
open Go Go.ChangeShapes Go.WideShapes Go.RowKit Go.ChangeMaps

set_option maxRecDepth 100000 in
set_option maxHeartbeats 2000000 in
theorem polynomialCalculates_lifted (os : Os) (started : os.Started) (H : Type) (enc : TypeId × Value → H) :
  ReturnsInHanded {} Tryz.checked os 3 .any (fun w args => (Rows.polynomialCalculatesSpec.pre enc Tryz.prog Tryz.f3 [] false w args ∧ laidMetH Tryz.prog lay10 w) ∧ sizedMet enc Tryz.prog Tryz.f3 (OpenSpec.ofChange Rows.polynomialCalculatesSpec) false w args)
   (Rows.polynomialCalculatesSpec.post enc Tryz.prog Tryz.f3 false true false false) := by
 refine handed_and_shaped5 (C := Tryz.checked) (X := fun w _ => laidMetH Tryz.prog lay10 w) (fun _ _ _ hh h => h.of_heap hh) own5 started (by kernel_rfl) Tryz.func3
  (ChangeSpec.witness_shaped (enc := enc) (C := Tryz.checked) (os := os) (X := fun w _ => laidMetH Tryz.prog lay10 w) false (World.laidAll Tryz.prog os lay10) #[.slice none 0 0, .slice none 0 0, .agg #[.bool false, .slice none 0 0, .slice none 0 0]] 8 (World.laidAll_os _ _ _) (World.shaped_of_ZipB (by kernel_rfl) (by kernel_rfl)) (by kernel_rfl) (by kernel_rfl) (by kernel_rfl) (door_met10 os _)) ?_
 intro W base args ds gs before hval0 hW hsh hL
 have hval : ∀ (j : Nat) t v, Tryz.f3.params[j]? = some t → args[j]? = some v → Value.okWide Tryz.prog W .any base t v := hval0
 have hW' := hW
 have hlt := hW.lt
 obtain ⟨p, q, hA0, hV, rfl, hfz, hnd⟩ := hW
 have hA : DataW.TrodAll enc Tryz.prog W 0 (fun _ => true) true Tryz.f3.params.toList args.toList ds p := hA0
 rw [Tryz.params3] at hA hval
 obtain ⟨v1, v2, v3, d1, d2, d3, p1, p2, p3, rfl, rfl, rfl, h1, h2, h3⟩ := trodAll_three hA
 obtain ⟨rfl, rfl⟩ := trodVars_none hV
 have k1 := h1
 have k2 := h2
 have k3 := h3
 obtain ⟨A1, n1, c1, l1, rfl, g1, r1⟩ := monos_of (hval 0 _ v1 rfl rfl) h1
 obtain ⟨A2, n2, c2, l2, rfl, g2, r2⟩ := monos_of (hval 1 _ v2 rfl rfl) h2
 obtain ⟨e3, a3, b3, g3⟩ := fld_of5 (hval 2 _ v3 rfl rfl) h3
 have m1 : IntKind.i64.min = -9223372036854775808 := rfl
 have m2 : IntKind.i64.max = 9223372036854775807 := rfl
 have m3 : IntKind.u8.min = 0 := rfl
 have m4 : IntKind.u8.max = 255 := rfl
 refine (calculates2_law A1 n1 c1 l1 A2 n2 c2 l2 v3 e3 a3 b3 W (tab_of10 hL) g1 g2 g3).mono fun e W' ⟨he, hb⟩ => ?_
 subst he
 have e1 : Rows.polynomialCalculatesSpec.fn H ([d1, d2, d3] ++ []) = { results := [.lit (.bool true)], args := [d1, d2, d3] } := rfl
 refine ⟨_, rfl, _, _, _, [], p1 ++ (p2 ++ p3), [], hW', ?_, ?_, ?_, hb.frame _, fun h => by cases h⟩
 ·rw [e1]; exact trodAll_mk1 (shut_bool Tryz.underlying4 true)
 ·rw [e1]
  exact trodAll_mk3 (keep_arg5 (by kernel_rfl) (of_decide_eq_true (by kernel_rfl)) k1 hb (fun x hx => hlt x (by simp [hx]))) (keep_arg5 (by kernel_rfl) (of_decide_eq_true (by kernel_rfl)) k2 hb (fun x hx => hlt x (by simp [hx]))) (keep_arg5 (by kernel_rfl) (of_decide_eq_true (by kernel_rfl)) k3 hb (fun x hx => hlt x (by simp [hx])))
 ·rw [e1]; rfl
set_option maxHeartbeats 8000000 in
theorem polynomialCalculates_row : Rows.PolynomialCalculatesSaid :=
 OpenClaim.holds_of_wide 3 Tryz.f3 rfl rfl rfl rfl rfl rfl rfl ⟨rfl, rfl, rfl, rfl, rfl⟩ rfl rfl rfl rfl rfl (by as_aux_lemma => kernel_rfl) Tryz.func3 (by as_aux_lemma => kernel_rfl)
  (of_decide_eq_true (by as_aux_lemma => kernel_rfl)) (by unfold Func.isWrapper; first | (rw [if_pos (by decide +kernel)]; kernel_rfl) | (rw [if_neg (by decide +kernel)]; exact ⟨rfl, rfl⟩))
  (fun os started H enc _ => polynomialCalculates_lifted os started H enc)
set_option maxHeartbeats 8000000 in
theorem polynomialCalculates_holds : Rows.PolynomialCalculatesCardSaid :=
 Claim7.holds_tied_plain_at .later [] [.data, .data, .data] true (true, "9da56ae7fea7d8a6bd9d8e611ac37431547db114ae8d6562f222281433501d8c") true
  polynomialCalculates_row (fun _ h => by cases h) (by as_aux_lemma => kernel_rfl) (fun _ h => by cases h) polynomialCalculates_row_tie rfl ⟨rfl, rfl⟩ (by as_aux_lemma => kernel_rfl) rfl
  (fun f fn hf hfn => by
   obtain rfl : f = 3 := Option.some.inj ((show Tryz.prog.funcNamed "weighted/weightedlaw02.PolynomialCalculates" = some 3 by as_aux_lemma => kernel_rfl).symm.trans hf) |>.symm
   obtain rfl : fn = Tryz.f3 := (Option.some.inj (Tryz.func3.symm.trans hfn)).symm
   exact ⟨by as_aux_lemma => kernel_rfl, fun j t ht => by
    rw [Tryz.params3] at ht
    have hm : t ∈ [22, 25] := by simpa using Array.mem_of_getElem? ht
    have hall : ([22, 25].all fun u => !Tryz.prog.wantsStandIn u) = true := by as_aux_lemma => kernel_rfl
    exact (show Tryz.prog.wantsStandIn t = false by simpa using List.all_eq_true.1 hall t hm)⟩)
  (by as_aux_lemma => kernel_rfl)
end Go.Proofs.YtifeekomegoijaaGreatDoor
