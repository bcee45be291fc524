/- texts -/
import Derived.Test.YtifeekomegoijaaGreatDoorQ24
import Derived.Test.YtifeekomegoijaaGreatDoorQ50
import Derived.Test.YtifeekomegoijaaGreatDoorCards
import Derived.Test.YtifeekomegoijaaGreatDoorTie
import Derived.JoinedOf
import Derived.SevenTiedAt
import Derived.ChangeMaps5
set_option linter.unusedVariables false
set_option linter.unusedSimpArgs false
namespace Go.Proofs.YtifeekomegoijaaGreatDoor
open Go Go.ChangeShapes Go.WideShapes Go.RowKit Go.ChangeMaps

set_option maxRecDepth 100000 in
set_option maxHeartbeats 2000000 in
theorem polynomialEvaluates_lifted (os : Os) (started : os.Started) (H : Type) (enc : TypeId × Value → H) :
  ReturnsInHanded {} Tryz.checked os 9 .any (fun w args => (Rows.polynomialEvaluatesSpec.pre enc Tryz.prog Tryz.f9 [] false w args ∧ laidMetH Tryz.prog lay10 w) ∧ sizedMet enc Tryz.prog Tryz.f9 (OpenSpec.ofChange Rows.polynomialEvaluatesSpec) false w args)
   (Rows.polynomialEvaluatesSpec.post enc Tryz.prog Tryz.f9 false true false false) := by
 refine handed_and_shaped5 (C := Tryz.checked) (X := fun w _ => laidMetH Tryz.prog lay10 w) (fun _ _ _ hh h => h.of_heap hh) own5 started (by kernel_rfl) Tryz.func9
  (ChangeSpec.witness_shaped (enc := enc) (C := Tryz.checked) (os := os) (X := fun w _ => laidMetH Tryz.prog lay10 w) false (World.laidAll Tryz.prog os lay10) #[.slice none 0 0, .slice none 0 0, .int .i64 0, .int .i64 0, .int .i64 0] 8 (World.laidAll_os _ _ _) (World.shaped_of_ZipB (by kernel_rfl) (by kernel_rfl)) (by kernel_rfl) (by kernel_rfl) (by kernel_rfl) (door_met10 os _)) ?_
 intro W base args ds gs before hval0 hW hsh hL
 have hval : ∀ (j : Nat) t v, Tryz.f9.params[j]? = some t → args[j]? = some v → Value.okWide Tryz.prog W .any base t v := hval0
 have hW' := hW
 have hlt := hW.lt
 obtain ⟨p, q, hA0, hV, rfl, hfz, hnd⟩ := hW
 have hA : DataW.TrodAll enc Tryz.prog W 0 (fun _ => true) true Tryz.f9.params.toList args.toList ds p := hA0
 rw [Tryz.params9] at hA hval
 obtain ⟨v1, v2, v3, v4, v5, d1, d2, d3, d4, d5, p1, p2, p3, p4, p5, rfl, rfl, rfl, h1, h2, h3, h4, h5⟩ := trodAll_five hA
 obtain ⟨rfl, rfl⟩ := trodVars_none hV
 have k1 := h1
 have k2 := h2
 obtain ⟨A1, n1, c1, l1, rfl, g1, r1⟩ := ints_of2 (hval 0 _ v1 rfl rfl) h1
 obtain ⟨A2, n2, c2, l2, rfl, g2, r2⟩ := ints_of2 (hval 1 _ v2 rfl rfl) h2
 obtain ⟨i3, rfl, rfl, rfl, hw3⟩ := open_int Tryz.underlying3 (hval 2 _ v3 rfl rfl) h3
 have hx3 := hw3
 simp only [Lit.wf, Bool.and_eq_true, decide_eq_true_eq] at hx3
 obtain ⟨i4, rfl, rfl, rfl, hw4⟩ := open_int Tryz.underlying3 (hval 3 _ v4 rfl rfl) h4
 have hx4 := hw4
 simp only [Lit.wf, Bool.and_eq_true, decide_eq_true_eq] at hx4
 obtain ⟨i5, rfl, rfl, rfl, hw5⟩ := open_int Tryz.underlying3 (hval 4 _ v5 rfl rfl) h5
 have hx5 := hw5
 simp only [Lit.wf, Bool.and_eq_true, decide_eq_true_eq] at hx5
 have m1 : IntKind.i64.min = -9223372036854775808 := rfl
 have m2 : IntKind.i64.max = 9223372036854775807 := rfl
 have m3 : IntKind.u8.min = 0 := rfl
 have m4 : IntKind.u8.max = 255 := rfl
 refine (eval_card A1 n1 c1 l1 A2 n2 c2 l2 i3 i4 i5 W (tab_of10 hL) g1 r1 g2 r2 (by omega) (by omega) (by omega) (by omega) (by omega) (by omega)).mono fun e W' ⟨he, hb⟩ => ?_
 subst he
 have e1 : Rows.polynomialEvaluatesSpec.fn H ([d1, d2, .lit (.int .i64 i3), .lit (.int .i64 i4), .lit (.int .i64 i5)] ++ []) = { results := [.lit (.bool true)], args := [d1, d2, .lit (.int .i64 i3), .lit (.int .i64 i4), .lit (.int .i64 i5)] } := rfl
 refine ⟨_, rfl, _, _, _, [], p1 ++ (p2 ++ ([] ++ ([] ++ []))), [], hW', ?_, ?_, ?_, hb.frame _, fun h => by cases h⟩
 ·rw [e1]; exact trodAll_mk1 (shut_bool Tryz.underlying4 true)
 ·rw [e1]
  exact trodAll_mk5 (keep_arg5 (by kernel_rfl) (of_decide_eq_true (by kernel_rfl)) k1 hb (fun x hx => hlt x (by simp [hx]))) (keep_arg5 (by kernel_rfl) (of_decide_eq_true (by kernel_rfl)) k2 hb (fun x hx => hlt x (by simp [hx]))) (shut_int Tryz.underlying3 hw3) (shut_int Tryz.underlying3 hw4) (shut_int Tryz.underlying3 hw5)
 ·rw [e1]; rfl
set_option maxHeartbeats 8000000 in
theorem polynomialEvaluates_row : Rows.PolynomialEvaluatesSaid :=
 OpenClaim.holds_of_wide 9 Tryz.f9 rfl rfl rfl rfl rfl rfl rfl ⟨rfl, rfl, rfl, rfl, rfl⟩ rfl rfl rfl rfl rfl (by as_aux_lemma => kernel_rfl) Tryz.func9 (by as_aux_lemma => kernel_rfl)
  (of_decide_eq_true (by as_aux_lemma => kernel_rfl)) (by unfold Func.isWrapper; first | (rw [if_pos (by decide +kernel)]; kernel_rfl) | (rw [if_neg (by decide +kernel)]; exact ⟨rfl, rfl⟩))
  (fun os started H enc _ => polynomialEvaluates_lifted os started H enc)
set_option maxHeartbeats 8000000 in
theorem polynomialEvaluates_holds : Rows.PolynomialEvaluatesCardSaid :=
 Claim7.holds_tied_plain_at .later [] [.data, .data, .data] true (true, "9da56ae7fea7d8a6bd9d8e611ac37431547db114ae8d6562f222281433501d8c") true
  polynomialEvaluates_row (fun _ h => by cases h) (by as_aux_lemma => kernel_rfl) (fun _ h => by cases h) polynomialEvaluates_row_tie rfl ⟨rfl, rfl⟩ (by as_aux_lemma => kernel_rfl) rfl
  (fun f fn hf hfn => by
   obtain rfl : f = 9 := Option.some.inj ((show Tryz.prog.funcNamed "weighted/weightedlaw02.PolynomialEvaluates" = some 9 by as_aux_lemma => kernel_rfl).symm.trans hf) |>.symm
   obtain rfl : fn = Tryz.f9 := (Option.some.inj (Tryz.func9.symm.trans hfn)).symm
   exact ⟨by as_aux_lemma => kernel_rfl, fun j t ht => by
    rw [Tryz.params9] at ht
    have hm : t ∈ [47, 3] := by simpa using Array.mem_of_getElem? ht
    have hall : ([47, 3].all fun u => !Tryz.prog.wantsStandIn u) = true := by as_aux_lemma => kernel_rfl
    exact (show Tryz.prog.wantsStandIn t = false by simpa using List.all_eq_true.1 hall t hm)⟩)
  (by as_aux_lemma => kernel_rfl)
end Go.Proofs.YtifeekomegoijaaGreatDoor
