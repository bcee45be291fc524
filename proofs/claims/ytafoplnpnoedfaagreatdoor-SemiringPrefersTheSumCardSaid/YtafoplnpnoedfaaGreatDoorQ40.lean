/- SemiringPrefersTheSum: for every input the law returns true and leaves its arguments as they read; the listed variables as the program's text lays them. -/
import Derived.Test.YtafoplnpnoedfaaGreatDoorQ18
import Derived.Test.YtafoplnpnoedfaaGreatDoorQ39
import Derived.Test.YtafoplnpnoedfaaGreatDoorCards
import Derived.Test.YtafoplnpnoedfaaGreatDoorTie
import Derived.JoinedOf
import Derived.SevenTiedAt
set_option linter.unusedVariables false
set_option linter.unusedSimpArgs false
namespace Go.Proofs.YtafoplnpnoedfaaGreatDoor
open Go Go.ChangeShapes Go.WideShapes Go.RowKit

set_option maxRecDepth 100000 in
theorem semiringPrefersTheSum_lifted (os : Os) (started : os.Started) (H : Type) (enc : TypeId × Value → H) :
    ReturnsInHanded {} Tryz.checked os 3 .any (fun w args => (Rows.semiringPrefersTheSumSpec.pre enc Tryz.prog Tryz.f3 [] false w args ∧ laidMetH Tryz.prog lay9 w) ∧ sizedMet enc Tryz.prog Tryz.f3 (OpenSpec.ofChange Rows.semiringPrefersTheSumSpec) false w args)
      (Rows.semiringPrefersTheSumSpec.post enc Tryz.prog Tryz.f3 false true false false) := by
  refine handed_and_shaped9 (C := Tryz.checked) (X := fun w _ => laidMetH Tryz.prog lay9 w) (fun _ _ _ hh h => h.of_heap hh) own9 started (by kernel_rfl) Tryz.func3
    (ChangeSpec.witness_shaped (enc := enc) (C := Tryz.checked) (os := os) (X := fun w _ => laidMetH Tryz.prog lay9 w) false (World.laidAll Tryz.prog os lay9) #[.bool false, .int .i64 0, .int .i64 0, .int .i64 0] 8 (World.laidAll_os _ _ _) (World.shaped_of_ZipB (by kernel_rfl) (by kernel_rfl)) (by kernel_rfl) (by kernel_rfl) (by kernel_rfl) (door_met9 os _)) ?_
  intro W base args ds gs before hval0 hW hsh hL
  have hval : ∀ (j : Nat) t v, Tryz.f3.params[j]? = some t → args[j]? = some v → Value.okWide Tryz.prog W .any base t v := hval0
  have hW' := hW
  obtain ⟨p, q, hA0, hV, rfl, hfz, hnd⟩ := hW
  have hA : DataW.TrodAll enc Tryz.prog W 0 (fun _ => true) true Tryz.f3.params.toList args.toList ds p := hA0
  rw [Tryz.params3] at hA hval
  obtain ⟨v1, v2, v3, v4, d1, d2, d3, d4, p1, p2, p3, p4, rfl, rfl, rfl, h1, h2, h3, h4⟩ := trodAll_four hA
  obtain ⟨rfl, rfl⟩ := trodVars_none hV
  obtain ⟨i1, rfl, rfl, rfl⟩ := open_bool Tryz.underlying4 (hval 0 _ v1 rfl rfl) h1
  obtain ⟨i2, rfl, rfl, rfl, hw2⟩ := open_int Tryz.underlying3 (hval 1 _ v2 rfl rfl) h2
  have hx2 := hw2
  simp only [Lit.wf, Bool.and_eq_true, decide_eq_true_eq] at hx2
  obtain ⟨i3, rfl, rfl, rfl, hw3⟩ := open_int Tryz.underlying3 (hval 2 _ v3 rfl rfl) h3
  have hx3 := hw3
  simp only [Lit.wf, Bool.and_eq_true, decide_eq_true_eq] at hx3
  obtain ⟨i4, rfl, rfl, rfl, hw4⟩ := open_int Tryz.underlying3 (hval 3 _ v4 rfl rfl) h4
  have hx4 := hw4
  simp only [Lit.wf, Bool.and_eq_true, decide_eq_true_eq] at hx4
  refine (prefers_law i1 i2 i3 i4 W (txt_of9 hL hsh) hx2 hx3 hx4).mono fun e W' ⟨he, hb⟩ => ?_
  subst he
  have e1 : Rows.semiringPrefersTheSumSpec.fn H ([.lit (.bool i1), .lit (.int .i64 i2), .lit (.int .i64 i3), .lit (.int .i64 i4)] ++ []) = { results := [.lit (.bool true)], args := [.lit (.bool i1), .lit (.int .i64 i2), .lit (.int .i64 i3), .lit (.int .i64 i4)] } := rfl
  refine ⟨_, rfl, _, _, _, [], [], [], hW', ?_, ?_, ?_, hb.frame _, fun h => by cases h⟩
  · rw [e1]; exact trodAll_mk1 (shut_bool Tryz.underlying4 true)
  · rw [e1]
    exact trodAll_mk4 (shut_bool Tryz.underlying4 i1) (shut_int Tryz.underlying3 hw2) (shut_int Tryz.underlying3 hw3) (shut_int Tryz.underlying3 hw4)
  · rw [e1]; rfl
set_option maxHeartbeats 8000000 in
theorem semiringPrefersTheSum_row : Rows.SemiringPrefersTheSumSaid :=
  OpenClaim.holds_of_wide 3 Tryz.f3 rfl rfl rfl rfl rfl rfl rfl ⟨rfl, rfl, rfl, rfl, rfl⟩ rfl rfl rfl rfl rfl (by as_aux_lemma => kernel_rfl) Tryz.func3 semiringPrefersTheSum_closed
    (of_decide_eq_true (by as_aux_lemma => kernel_rfl)) (by unfold Func.isWrapper; first | (rw [if_pos (by decide +kernel)]; kernel_rfl) | (rw [if_neg (by decide +kernel)]; exact ⟨rfl, rfl⟩))
    (fun os started H enc _ => semiringPrefersTheSum_lifted os started H enc)
set_option maxHeartbeats 8000000 in
theorem semiringPrefersTheSum_holds : Rows.SemiringPrefersTheSumCardSaid :=
  Claim7.holds_tied_plain_at .later [] [.data, .data, .data, .data, .sentinel, .sentinel, .listed, .data, .pinned] true (true, "876e6647d7b0a89c0908b8d484250fe21dcbd8a4f97de5f6899cdf989bead114") true
    semiringPrefersTheSum_row (fun _ h => by cases h) (by as_aux_lemma => kernel_rfl) (fun _ h => by cases h) semiringPrefersTheSum_row_tie rfl ⟨rfl, rfl⟩ (by as_aux_lemma => kernel_rfl) rfl
    (fun f fn hf hfn => by
      obtain rfl : f = 3 := Option.some.inj ((show Tryz.prog.funcNamed "weighted/weightedlaw03.SemiringPrefersTheSum" = some 3 by as_aux_lemma => kernel_rfl).symm.trans hf) |>.symm
      obtain rfl : fn = Tryz.f3 := (Option.some.inj (Tryz.func3.symm.trans hfn)).symm
      exact ⟨by as_aux_lemma => kernel_rfl, fun j t ht => by
        rw [Tryz.params3] at ht
        have hm : t ∈ [4, 3] := by simpa using Array.mem_of_getElem? ht
        have hall : ([4, 3].all fun u => !Tryz.prog.wantsStandIn u) = true := by as_aux_lemma => kernel_rfl
        exact (show Tryz.prog.wantsStandIn t = false by simpa using List.all_eq_true.1 hall t hm)⟩)
    (by as_aux_lemma => kernel_rfl)
end Go.Proofs.YtafoplnpnoedfaaGreatDoor
