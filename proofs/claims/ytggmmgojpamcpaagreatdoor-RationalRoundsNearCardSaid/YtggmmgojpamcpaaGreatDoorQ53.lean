/- RationalRoundsNear: for every input the law returns true and leaves its arguments as they read; the listed variables as the program's text lays them. -/
import Derived.Test.YtggmmgojpamcpaaGreatDoorQ35
import Derived.Test.YtggmmgojpamcpaaGreatDoorQ52
import Derived.Test.YtggmmgojpamcpaaGreatDoorCards
import Derived.Test.YtggmmgojpamcpaaGreatDoorTie
import Derived.JoinedOf
import Derived.SevenTiedAt
set_option linter.unusedVariables false
set_option linter.unusedSimpArgs false
namespace Go.Proofs.YtggmmgojpamcpaaGreatDoor
open Go Go.ChangeShapes Go.WideShapes Go.RowKit

set_option maxRecDepth 100000 in
theorem rationalRoundsNear_lifted (os : Os) (started : os.Started) (H : Type) (enc : TypeId × Value → H) :
    ReturnsInHanded {} Tryz.checked os 9 .any (fun w args => (Rows.rationalRoundsNearSpec.pre enc Tryz.prog Tryz.f9 [] false w args ∧ laidMetH Tryz.prog lay5 w) ∧ sizedMet enc Tryz.prog Tryz.f9 (OpenSpec.ofChange Rows.rationalRoundsNearSpec) false w args)
      (Rows.rationalRoundsNearSpec.post enc Tryz.prog Tryz.f9 false true false false) := by
  refine handed_and_shaped (C := Tryz.checked) (X := fun w _ => laidMetH Tryz.prog lay5 w) (fun _ _ _ hh h => h.of_heap hh) own started (by kernel_rfl) Tryz.func9
    (ChangeSpec.witness_shaped (enc := enc) (C := Tryz.checked) (os := os) (X := fun w _ => laidMetH Tryz.prog lay5 w) false (World.doorLaid Tryz.prog 4000 os) #[zRat, zRat, .int .i64 0] 8 rfl (World.shaped_of_RefB (by kernel_rfl) (by kernel_rfl)) (by kernel_rfl) (by kernel_rfl) (by kernel_rfl) (door_met os _)) ?_
  intro W base args ds gs before hval0 hW hsh hL
  have hval : ∀ (j : Nat) t v, Tryz.f9.params[j]? = some t → args[j]? = some v → Value.okWide Tryz.prog W .any base t v := hval0
  have hW' := hW
  have hlt := hW.lt
  obtain ⟨p, q, hA0, hV, rfl, hfz, hnd⟩ := hW
  have hA : DataW.TrodAll enc Tryz.prog W 0 (fun _ => true) true Tryz.f9.params.toList args.toList ds p := hA0
  rw [Tryz.params9] at hA hval
  obtain ⟨v1, v2, v3, d1, d2, d3, p1, p2, p3, rfl, rfl, rfl, h1, h2, h3⟩ := trodAll_three hA
  obtain ⟨rfl, rfl⟩ := trodVars_none hV
  obtain ⟨n1, a1, b1, g1⟩ := fld_of (hval 0 _ v1 rfl rfl) h1
  obtain ⟨n2, a2, b2, g2⟩ := fld_of (hval 1 _ v2 rfl rfl) h2
  obtain ⟨i3, rfl, rfl, rfl, hw3⟩ := open_int Tryz.underlying3 (hval 2 _ v3 rfl rfl) h3
  have hx3 := hw3
  simp only [Lit.wf, Bool.and_eq_true, decide_eq_true_eq] at hx3
  have m1 : IntKind.i64.min = -9223372036854775808 := rfl
  have m2 : IntKind.i64.max = 9223372036854775807 := rfl
  refine (near_law v1 v2 n1 n2 a1 b1 a2 b2 i3 W (txt_of hL hsh) g1 g2 (by omega) (by omega) ).mono fun e W' ⟨he, hb⟩ => ?_
  subst he
  have e1 : Rows.rationalRoundsNearSpec.fn H ([d1, d2, .lit (.int .i64 i3)] ++ []) = { results := [.lit (.bool true)], args := [d1, d2, .lit (.int .i64 i3)] } := rfl
  refine ⟨_, rfl, _, _, _, [], p1 ++ (p2 ++ []), [], hW', ?_, ?_, ?_, hb.frame _, fun h => by cases h⟩
  · rw [e1]; exact trodAll_mk1 (shut_bool Tryz.underlying4 true)
  · rw [e1]
    exact trodAll_mk3 (keep_arg (by kernel_rfl) (of_decide_eq_true (by kernel_rfl)) h1 hb (fun x hx => hlt x (by simp [hx]))) (keep_arg (by kernel_rfl) (of_decide_eq_true (by kernel_rfl)) h2 hb (fun x hx => hlt x (by simp [hx]))) (shut_int Tryz.underlying3 hw3)
  · rw [e1]; rfl
theorem rationalRoundsNear_row : Rows.RationalRoundsNearSaid :=
  OpenClaim.holds_of_wide 9 Tryz.f9 rfl rfl rfl rfl rfl rfl rfl ⟨rfl, rfl, rfl, rfl, rfl⟩ rfl rfl rfl rfl rfl (by kernel_rfl) Tryz.func9 (by kernel_rfl)
    (of_decide_eq_true (by kernel_rfl)) (by unfold Func.isWrapper; first | (rw [if_pos (by decide +kernel)]; kernel_rfl) | (rw [if_neg (by decide +kernel)]; exact ⟨rfl, rfl⟩))
    (fun os started H enc _ => rationalRoundsNear_lifted os started H enc)
theorem rationalRoundsNear_holds : Rows.RationalRoundsNearCardSaid :=
  Claim7.holds_tied_plain_at .later [] [.data, .data, .data, .sentinel, .sentinel] true (true, "8c579399d3bf03003d502c9dff4774c07499e201208034a1aeedee16e83f7da4") true
    rationalRoundsNear_row (fun _ h => by cases h) (by kernel_rfl) (fun _ h => by cases h) rationalRoundsNear_row_tie rfl ⟨rfl, rfl⟩ (by kernel_rfl) rfl
    (fun f fn hf hfn => by
      obtain rfl : f = 9 := Option.some.inj ((show Tryz.prog.funcNamed "weighted/weightedlaw01.RationalRoundsNear" = some 9 by kernel_rfl).symm.trans hf) |>.symm
      obtain rfl : fn = Tryz.f9 := (Option.some.inj (Tryz.func9.symm.trans hfn)).symm
      exact ⟨by kernel_rfl, fun j t ht => by
        rw [Tryz.params9] at ht
        have hm : t ∈ [24, 3] := by simpa using Array.mem_of_getElem? ht
        have hall : ([24, 3].all fun u => !Tryz.prog.wantsStandIn u) = true := by kernel_rfl
        exact (show Tryz.prog.wantsStandIn t = false by simpa using List.all_eq_true.1 hall t hm)⟩)
    (by kernel_rfl)
end Go.Proofs.YtggmmgojpamcpaaGreatDoor
