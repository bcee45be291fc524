/- Whole. -/
import Derived.Test.YtggmmgojpamcpaaGreatDoorQ16
set_option linter.unusedVariables false
set_option linter.unusedSimpArgs false
namespace Go.Proofs.YtggmmgojpamcpaaGreatDoor
open Go.RowKit

def wholeOk (q : Rat) : Bool := decide (q.den = 1 ∧ -9223372036854775808 ≤ q.num ∧ q.num < 9223372036854775808)
def wholeOf (q : Rat) : Int := if wholeOk q then q.num else 0

theorem P_two : P 2 = 18446744073709551616 := by unfold P; rfl
theorem whole_plain (q : Rat) (nb : Bool) (n m : Nat) (p1 : nb = decide (q.num < 0)) (hm : m = 0 ↔ q.den = 1) (hn : n = (limbs q.num.natAbs).length) :
    (¬ 2 < n → q.num.natAbs < 18446744073709551616) ∧
    ((m ≠ 0 ∨ 2 < n ∨ (nb = false ∧ 9223372036854775808 ≤ q.num.natAbs) ∨ (nb = true ∧ 9223372036854775808 < q.num.natAbs)) → wholeOf q = 0 ∧ wholeOk q = false) ∧
    (m = 0 → ((nb = false ∧ q.num.natAbs < 9223372036854775808) ∨ (nb = true ∧ q.num.natAbs ≤ 9223372036854775808)) → wholeOf q = sgn nb q.num.natAbs ∧ wholeOk q = true) ∧
    (nb = true → 0 < q.num.natAbs) := by
  have hnn2 : 2 < n → 18446744073709551616 ≤ q.num.natAbs := fun hc => by
    refine Classical.byContradiction fun hlt => ?_
    have := limbs_length_le (n := q.num.natAbs) (k := 2) (by rw [P_two]; omega)
    omega
  refine ⟨fun hc => ?_, fun hc => ?_, fun h0 hc => ?_, fun hc => ?_⟩
  · have := lt_P_length q.num.natAbs
    rw [← hn] at this
    have h2 := P_le (show n ≤ 2 by omega)
    rw [P_two] at h2
    exact Nat.lt_of_lt_of_le this h2
  · have hk : wholeOk q = false := by
      unfold wholeOk
      refine decide_eq_false fun hall => ?_
      obtain ⟨h1, h2, h3⟩ := hall
      rcases hc with hc | hc | ⟨hc, hc'⟩ | ⟨hc, hc'⟩
      · exact hc (hm.2 h1)
      · have := hnn2 hc; omega
      · rw [p1] at hc; have := of_decide_eq_false hc; omega
      · omega
    unfold wholeOf; rw [hk]; simp
  · have hk : wholeOk q = true := by
      unfold wholeOk
      refine decide_eq_true ⟨hm.1 h0, ?_⟩
      rcases hc with ⟨hc, hc'⟩ | ⟨hc, hc'⟩
      · rw [p1] at hc; have := of_decide_eq_false hc; omega
      · rw [p1] at hc; have := of_decide_eq_true hc; omega
    unfold wholeOf; rw [hk, p1, sgn_self]; simp
  · rw [p1] at hc; have := of_decide_eq_true hc; omega

set_option maxRecDepth 20000 in
set_option maxHeartbeats 1000000 in
theorem Whole_any (v : Value) (q : Rat) (L : Nat) (V : Int) (O : Bool) (w : World) (hT : Tab w) (h : Inp w v q L) (HV : Hid (wholeOf q = V ∧ wholeOk q = O)) :
    Calls Tryz.prog 15 #[v] w (RetV w (.tuple #[.int .i64 V, .bool O])) := by
  obtain ⟨z0, Z, zn, zc, Z', zm, ze, rfl⟩ := h.agg
  have hbA : Below w.heap.size w (w.alloc (R1 (.bool z0) (.slice Z zn zc) (.slice Z' zm ze))) := (Below.refl _ _).alloc (Nat.le_refl _) _
  have hrx := Rc.new w (.bool z0) (.slice Z zn zc) (.slice Z' zm ze)
  go_enter Tryz.func15, Tryz.ntmps15
  go_wp2_with fail
  refine (clean_i _ q L _ (hT.below hbA) (h.below hbA)).mono ?_
  rintro e w1 ⟨v1, rfl, h1, hb1⟩
  have hrx1 := hrx.below hb1 hrx.lt
  obtain ⟨nb, A, n, c, B, m, e, rfl⟩ := h1.agg
  obtain ⟨k0, k1, k2⟩ := hrx1.cells
  obtain ⟨f0, f1, f2⟩ := hrx1.frozen
  have hb01 := hbA.trans (hb1.mono hbA.size)
  have hrx2 := hrx1.set (.bool nb) (.slice A n c) (.slice B m e)
  obtain ⟨p1, p2, p3⟩ := (h1.set3 hrx1 (.bool nb) (.slice A n c) (.slice B m e)).parts
  have hb02 := below_set3 hb01 (Nat.le_refl _) (.bool nb) (.slice A n c) (.slice B m e)
  obtain ⟨hnn, hfail, hgood, hpos⟩ := whole_plain q nb n m p1 (dl_zero p3 q.den_nz) p2.len
  rw [HV.out.1, HV.out.2] at hfail hgood
  have HF := Lib.hid hfail
  have HG := Lib.hid hgood
  have HN := Lib.hid hnn
  have HP := Lib.hid hpos
  clear hfail hgood hnn hpos p1 p3
  by_cases h0 : m = 0
  · subst h0
    have HG1 := Lib.hid (HG.out rfl)
    by_cases h2 : 2 < n
    · have HF1 := Lib.hid (HF.out (.inr (.inl h2)))
      go_wp2_with fail
      go_ret2
      rw [HF1.out.1, HF1.out.2]
      exact ⟨rfl, hb02⟩
    · have hlt := HN.out h2
      have hcl : q.num.natAbs = val (limbs q.num.natAbs) := (val_limbs _).symm
      generalize hsz : q.num.natAbs = a at *
      have HA := Lib.hid hlt
      clear hlt hsz hcl
      go_wp2_with fail
      refine (low_any _ _ _ a _ p2 (by omega)).mono ?_
      rintro e w' ⟨rfl, rfl⟩
      cases nb
      · by_cases hc : 9223372036854775807 < a
        · have HF1 := Lib.hid (HF.out (.inr (.inr (.inl ⟨rfl, by omega⟩))))
          have hd : decide ((9223372036854775807 : Int) < (a : Int)) = true := by simp; omega
          go_wp2_with fail
          go_ret2
          rw [HF1.out.1, HF1.out.2]
          exact ⟨rfl, hb02⟩
        · have HG2 := Lib.hid (HG1.out (.inl ⟨rfl, by omega⟩))
          have hd : decide ((9223372036854775807 : Int) < (a : Int)) = false := by simp; omega
          have hw : IntKind.i64.wrap (a : Int) = (a : Int) := IntWalk.i64_in _ (by omega)
          clear hc
          go_wp2_with fail
          go_ret2
          rw [HG2.out.1, HG2.out.2]
          exact ⟨rfl, hb02⟩
      · have hp := HP.out rfl
        obtain ⟨b, hb⟩ : ∃ b, a - 1 = b := ⟨_, rfl⟩
        have hw0 : IntKind.u64.wrap ((a : Int) - 1) = (b : Int) := by rw [IntKind.wrap_u64]; have := HA.out; omega
        by_cases hc : 9223372036854775807 < b
        · have HF1 := Lib.hid (HF.out (.inr (.inr (.inr ⟨rfl, by omega⟩))))
          have hd : decide ((9223372036854775807 : Int) < (b : Int)) = true := by simp; omega
          clear hb hp
          go_wp2_with fail
          go_ret2
          rw [HF1.out.1, HF1.out.2]
          exact ⟨rfl, hb02⟩
        · have HG2 := Lib.hid (HG1.out (.inr ⟨rfl, by omega⟩))
          have hd : decide ((9223372036854775807 : Int) < (b : Int)) = false := by simp; omega
          have hw : IntKind.i64.wrap (b : Int) = (b : Int) := IntWalk.i64_in _ (by omega)
          have hw1 : IntKind.i64.wrap (-(b : Int)) = -(b : Int) := IntWalk.i64_in _ (by omega)
          have hw2 : IntKind.i64.wrap (-(b : Int) - 1) = -(a : Int) := by rw [IntWalk.i64_in _ (by omega)]; omega
          clear hb hc hp
          go_wp2_with fail
          go_ret2
          rw [HG2.out.1, HG2.out.2]
          exact ⟨rfl, hb02⟩
  · have HF1 := Lib.hid (HF.out (.inl h0))
    have hm0 : 0 < m := Nat.pos_of_ne_zero h0
    go_wp2_with fail
    go_ret2
    rw [HF1.out.1, HF1.out.2]
    exact ⟨rfl, hb02⟩
end Go.Proofs.YtggmmgojpamcpaaGreatDoor
