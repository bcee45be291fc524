/- WordsReadBack: for every input the law returns true and leaves its arguments as they read; the listed variables as the program's text lays them. -/
import Derived.Test.YtdlmhgijpgnilaaGreatDoorQ39
import Derived.Test.YtdlmhgijpgnilaaGreatDoorQ49
import Derived.Test.YtdlmhgijpgnilaaGreatDoorCards
import Derived.Test.YtdlmhgijpgnilaaGreatDoorTie
import Derived.JoinedOf
import Derived.SevenTiedAt
import Derived.ChangeMaps5
set_option linter.unusedVariables false
set_option linter.unusedSimpArgs false
namespace Go.Proofs.YtdlmhgijpgnilaaGreatDoor
open Go Go.ChangeShapes Go.WideShapes Go.RowKit Go.ChangeMaps

set_option maxRecDepth 100000 in
set_option maxHeartbeats 2000000 in
theorem wordsReadBack_lifted (os : Os) (started : os.Started) (H : Type) (enc : TypeId × Value → H) :
    ReturnsInHanded {} Tryz.checked os 6 .any (fun w args => (Rows.wordsReadBackSpec.pre enc Tryz.prog Tryz.f6 [] false w args ∧ laidMetH Tryz.prog lay8 w) ∧ sizedMet enc Tryz.prog Tryz.f6 (OpenSpec.ofChange Rows.wordsReadBackSpec) false w args)
      (Rows.wordsReadBackSpec.post enc Tryz.prog Tryz.f6 false true false false) := by
  refine handed_and_shaped5 (C := Tryz.checked) (X := fun w _ => laidMetH Tryz.prog lay8 w) (fun _ _ _ hh h => h.of_heap hh) own5 started (by kernel_rfl) Tryz.func6
    (ChangeSpec.witness_shaped (enc := enc) (C := Tryz.checked) (os := os) (X := fun w _ => laidMetH Tryz.prog lay8 w) false (World.laidAll Tryz.prog os lay8) #[.slice none 0 0, .slice none 0 0, .int .u8 0] 8 (World.laidAll_os _ _ _) (World.shaped_of_ZipB (by kernel_rfl) (by kernel_rfl)) (by kernel_rfl) (by kernel_rfl) (by kernel_rfl) (door_met8 os _)) ?_
  intro W base args ds gs before hval0 hW hsh hL
  have hval : ∀ (j : Nat) t v, Tryz.f6.params[j]? = some t → args[j]? = some v → Value.okWide Tryz.prog W .any base t v := hval0
  have hW' := hW
  have hlt := hW.lt
  obtain ⟨p, q, hA0, hV, rfl, hfz, hnd⟩ := hW
  have hA : DataW.TrodAll enc Tryz.prog W 0 (fun _ => true) true Tryz.f6.params.toList args.toList ds p := hA0
  rw [Tryz.params6] at hA hval
  obtain ⟨v1, v2, v3, d1, d2, d3, p1, p2, p3, rfl, rfl, rfl, h1, h2, h3⟩ := trodAll_three hA
  obtain ⟨rfl, rfl⟩ := trodVars_none hV
  have k1 := h1
  have k2 := h2
  obtain ⟨A1, n1, c1, l1, rfl, g1⟩ := names_of (hval 0 _ v1 rfl rfl) h1
  obtain ⟨A2, n2, c2, l2, rfl, g2, r2⟩ := ints_of2 (hval 1 _ v2 rfl rfl) h2
  obtain ⟨i3, rfl, rfl, rfl, hw3⟩ := open_int Tryz.underlying5 (hval 2 _ v3 rfl rfl) h3
  have hx3 := hw3
  simp only [Lit.wf, Bool.and_eq_true, decide_eq_true_eq] at hx3
  have m1 : IntKind.i64.min = -9223372036854775808 := rfl
  have m2 : IntKind.i64.max = 9223372036854775807 := rfl
  have m3 : IntKind.u8.min = 0 := rfl
  have m4 : IntKind.u8.max = 255 := rfl
  refine (readBack_law A1 n1 c1 l1 A2 n2 c2 l2 i3 W (tab_of8 hL) g1 g2 r2 (by omega) (by omega)).mono fun e W' ⟨he, hb⟩ => ?_
  subst he
  have e1 : Rows.wordsReadBackSpec.fn H ([d1, d2, .lit (.int .u8 i3)] ++ []) = { results := [.lit (.bool true)], args := [d1, d2, .lit (.int .u8 i3)] } := rfl
  refine ⟨_, rfl, _, _, _, [], p1 ++ (p2 ++ []), [], hW', ?_, ?_, ?_, hb.frame _, fun h => by cases h⟩
  · rw [e1]; exact trodAll_mk1 (shut_bool Tryz.underlying4 true)
  · rw [e1]
    exact trodAll_mk3 (keep_arg5 (by kernel_rfl) (of_decide_eq_true (by kernel_rfl)) k1 hb (fun x hx => hlt x (by simp [hx]))) (keep_arg5 (by kernel_rfl) (of_decide_eq_true (by kernel_rfl)) k2 hb (fun x hx => hlt x (by simp [hx]))) (shut_int Tryz.underlying5 hw3)
  · rw [e1]; rfl
set_option maxHeartbeats 8000000 in
theorem wordsReadBack_row : Rows.WordsReadBackSaid :=
  OpenClaim.holds_of_wide 6 Tryz.f6 rfl rfl rfl rfl rfl rfl rfl ⟨rfl, rfl, rfl, rfl, rfl⟩ rfl rfl rfl rfl rfl (by as_aux_lemma => kernel_rfl) Tryz.func6 (by as_aux_lemma => kernel_rfl)
    (of_decide_eq_true (by as_aux_lemma => kernel_rfl)) (by unfold Func.isWrapper; first | (rw [if_pos (by decide +kernel)]; kernel_rfl) | (rw [if_neg (by decide +kernel)]; exact ⟨rfl, rfl⟩))
    (fun os started H enc _ => wordsReadBack_lifted os started H enc)
set_option maxHeartbeats 8000000 in
theorem wordsReadBack_holds : Rows.WordsReadBackCardSaid :=
  Claim7.holds_tied_plain_at .later [] [.data, .data, .data, .pinned] true (true, "32a23d990e45bf29e3ac4bcc59d61b6543776d42794a7be9542cc419573d3c66") false
    wordsReadBack_row (fun _ h => by cases h) (by as_aux_lemma => kernel_rfl) (fun _ h => by cases h) wordsReadBack_row_tie rfl ⟨rfl, rfl⟩ (by as_aux_lemma => kernel_rfl) rfl
    (fun f fn hf hfn => by
      obtain rfl : f = 6 := Option.some.inj ((show Tryz.prog.funcNamed "weighted/weightedlaw05.WordsReadBack" = some 6 by as_aux_lemma => kernel_rfl).symm.trans hf) |>.symm
      obtain rfl : fn = Tryz.f6 := (Option.some.inj (Tryz.func6.symm.trans hfn)).symm
      exact ⟨by as_aux_lemma => kernel_rfl, fun j t ht => by
        rw [Tryz.params6] at ht
        have hm : t ∈ [37, 22, 5] := by simpa using Array.mem_of_getElem? ht
        have hall : ([37, 22, 5].all fun u => !Tryz.prog.wantsStandIn u) = true := by as_aux_lemma => kernel_rfl
        exact (show Tryz.prog.wantsStandIn t = false by simpa using List.all_eq_true.1 hall t hm)⟩)
    (by as_aux_lemma => kernel_rfl)
end Go.Proofs.YtdlmhgijpgnilaaGreatDoor
