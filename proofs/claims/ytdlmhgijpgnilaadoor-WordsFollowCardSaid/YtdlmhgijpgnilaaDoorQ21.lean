/- The specification's Valid, Take, Sign. -/
import Derived.Test.YtdlmhgijpgnilaaDoorQ20
import Derived.Test.YtdlmhgijpgnilaaDoorQ19
import Derived.Deep.RegionLaw
set_option linter.unusedVariables false
set_option linter.unusedSimpArgs false
namespace Go.Proofs.YtdlmhgijpgnilaaDoor
open Go.RowKit

theorem pad_top {l : List Nat} {j : Nat} (h : l.length = j + 1) : pad l = decide (l.getD j 0 = 0) := by
  unfold pad
  rw [h, Nat.add_sub_cancel]
  simp
theorem pad_nil : pad [] = false := rfl
theorem beq_zero_false {x : Nat} (h : x ≠ 0) : ((x : Int) == 0) = false := by simp; exact h

/-- The top limb of a list, as it is looked at. -/
theorem num_top {w : World} {l : List Nat} {A : Option Addr} {n c : Nat} (h : Num w l A n c) : n = 0 ∨
    (∃ j b o, n = j + 1 ∧ A = some ⟨b, o, none⟩ ∧ l.getD j 0 = 0 ∧ w.cell? ⟨b, o + j, none⟩ = some (.int .u32 0)) ∨
    (∃ j b o x, n = j + 1 ∧ A = some ⟨b, o, none⟩ ∧ x ≠ 0 ∧ l.getD j 0 = x ∧ w.cell? ⟨b, o + j, none⟩ = some (.int .u32 ((x : Nat) : Int))) := by
  rcases Nat.eq_zero_or_pos n with h0 | h0
  · exact .inl h0
  · obtain ⟨j, rfl⟩ : ∃ j, n = j + 1 := ⟨n - 1, by omega⟩
    obtain ⟨b, o, x, hA, _, hxx, hx4, hcx⟩ := h.at_ (show j < j + 1 by omega)
    by_cases hx0 : x = 0
    · subst hx0
      exact .inr (.inl ⟨j, b, o, rfl, hA, hxx, hcx⟩)
    · exact .inr (.inr ⟨j, b, o, x, rfl, hA, hx0, hxx, hcx⟩)

theorem OwnR.keep {w w' : World} {B : Nat} {v : Value} {l : List Nat} (h : OwnR w B v l) (hg : w.grownBy w' none) : OwnR w' B v l := by
  refine ⟨h.1, ?_⟩
  rcases h.2 with h1 | ⟨g, cap, cur, h1, h2, h3, h4⟩
  · exact .inl h1
  · exact .inr ⟨g, cap, cur, h1, h2, (hg.block g (heap_lt h3) (fun e => by cases e)).trans h3, h4⟩
/-- append of limbs, as a step of a region that draws. -/
theorem step_app {w : World} {ops : Array Oper} {o : Oper} {a : Act} {Q : Exit → Act → World → Prop} {K : Act → World → Prop} {E : Prop} (hgd : o.guard = none) (sl x : Operand)
    (ho : o.op = .call { callee := .builtin .append, args := #[sl, x], argTypes := #[32, 32] }) (hty : o.type = 32) (v v' u : Value) (w' : World) (hs : a.eval sl = v) (hx : a.eval x = u)
    (hrun : Hid ((Builtin.append_ #[32, 32] 32 #[v, u]).run Tryd.prog w = .ok v' w')) (hK : K (a.put o.dst v') w') :
    if Region.wanted o (yielded ops a.tmps) = true then Oper.wp Tryd.prog o a w K Q else E := by
  have hw : Region.wanted o (yielded ops a.tmps) = true := by simp [Region.wanted, hgd]
  have hr := hrun.out
  rw [if_pos hw]
  unfold Oper.wp
  simp [execOp, ho, hty, resolve, invoke, builtin, hs, hx, hr, Result.andThen]
  exact hK
/-- What a function of the specification is given. -/
def Inr (w : World) (v : Value) (q : Rat) : Prop :=
  ∃ neg A n c A' m c' ln ld, v = .agg #[.bool neg, .slice A n c, .slice A' m c'] ∧ Num w ln A n c ∧ Num w ld A' m c' ∧ n ≤ 1000000 ∧ m ≤ 1000000 ∧ fq neg ln ld = q
theorem Inr.agg {w : World} {v : Value} {q : Rat} (h : Inr w v q) : ∃ nb A n c B m e, v = .agg #[.bool nb, .slice A n c, .slice B m e] := by
  obtain ⟨neg, A, n, c, A', m, c', ln, ld, e, _⟩ := h
  exact ⟨_, _, _, _, _, _, _, e⟩
theorem Inr.below {w w' : World} {v : Value} {q : Rat} (h : Inr w v q) (hb : Below w.heap.size w w') : Inr w' v q := by
  obtain ⟨neg, A, n, c, A', m, c', ln, ld, e, h1, h2, h3⟩ := h
  exact ⟨neg, A, n, c, A', m, c', ln, ld, e, h1.below hb, h2.below hb, h3⟩
end Go.Proofs.YtdlmhgijpgnilaaDoor

namespace Go.Proofs.YtdlmhgijpgnilaaDoor
open Go.RowKit

set_option maxHeartbeats 1000000 in
theorem r_same (A A' : Option Addr) (n c m c' : Nat) (l r : List Nat) (w : World) (V : Bool) (hx : Num w l A n c) (hy : Num w r A' m c') (hn : n ≤ 1073741824) (hm : m ≤ 1073741824) (H : Hid (decide (l = r) = V)) :
    Calls Tryd.prog 26 #[.slice A n c, .slice A' m c'] w (RetQ w (.bool V)) := by
  by_cases hnm : n = m
  · subst hnm
    have h1 : ((n : Int) != n) = false := by simp
    go_enter Tryd.func26, Tryd.ntmps26
    go_wp2
    go_loopw [5] (fun i wr => ∃ k q : Nat, k ≤ n ∧ i = .int .i64 (k : Int) ∧ wr = w.drewN q ∧ Hid (∀ j, j < k → l.getD j 0 = r.getD j 0)) (fun i _ => (n - intOf i).toNat)
    case atStart => exact ⟨0, 0, Nat.zero_le _, rfl, rfl, show Hid _ from fun j h1 => by omega⟩
    case round =>
      obtain ⟨k, q, hk, rfl, rfl, HE⟩ := hrel
      rcases Nat.lt_or_ge k n with hkn | hkn
      · obtain ⟨b, o, x, rfl, _, hx', _, hcx⟩ := hx.at_ hkn
        obtain ⟨b', o', y, rfl, _, hy', _, hcy⟩ := hy.at_ hkn
        have hkn2 : (k : Int) < (n : Int) := by omega
        have HX := Lib.hid hx'; have HY := Lib.hid hy'
        have LX := Lib.hid hx; have LY := Lib.hid hy
        clear hx' hy' hx hy
        by_cases hxy : x = y
        · have hne : ((x : Int) != y) = false := by simp; omega
          have hne2 : ((y : Int) != y) = false := by simp
          subst hxy
          go_wp2_with fail
          go_quiet (fail)
          go_wp2_with fail
          go_roundw
          case rel => exact ⟨k + 1, _, by omega, congrArg (Value.int _) (by omega), rfl, show Hid _ from fun i hi1 => by
            rcases Nat.lt_or_eq_of_le (Nat.le_of_lt_succ hi1) with hi | hi
            · exact HE.out i hi
            · subst hi; rw [HX.out, HY.out]⟩
          case measure => simp [intOf]; omega
        · have hne : ((x : Int) != y) = true := by simp; omega
          go_wp2_with fail
          go_quiet (fail)
          go_wp2_with fail
          go_ret
          refine ⟨ret_bool ?_, draws2 ..⟩
          rw [← H.out]
          exact (decide_eq_false (fun h => hxy (by rw [← HX.out, ← HY.out, h]))).symm
      · have hlt : ¬ (k : Int) < (n : Int) := by omega
        go_wp2_with fail
        go_ret
        refine ⟨ret_bool ?_, q, rfl⟩
        rw [← H.out]
        exact (decide_eq_true (eq_of_getD (hx.len.symm.trans hy.len) (fun j hj => HE.out j (by have := hx.len; omega)))).symm
  · have h1 : ((n : Int) != m) = true := by simp; omega
    go_enter Tryd.func26, Tryd.ntmps26
    go_wp2
    go_ret
    refine ⟨ret_bool ?_, 0, rfl⟩
    rw [← H.out]
    exact (decide_eq_false (fun h => hnm (by rw [hx.len, hy.len, h]))).symm

set_option maxRecDepth 20000 in
set_option maxHeartbeats 2000000 in
/-- Same, of whatever fields. -/
theorem r_Same_any (neg neg' : Bool) (A A' D D' : Option Addr) (n c m e n' c' m' e' : Nat) (ln ld ln' ld' : List Nat) (w : World) (V : Bool) (hx : Num w ln A n c) (hy : Num w ld A' m e) (hx' : Num w ln' D n' c') (hy' : Num w ld' D' m' e') (h1 : n ≤ 100000000) (h2 : m ≤ 100000000) (h3 : n' ≤ 100000000) (h4 : m' ≤ 100000000) (H : Hid (decide (neg = neg' ∧ ln = ln' ∧ ld = ld') = V)) :
    Calls Tryd.prog 14 #[.agg #[.bool neg, .slice A n c, .slice A' m e], .agg #[.bool neg', .slice D n' c', .slice D' m' e']] w (RetV w (.bool V)) := by
  obtain ⟨hbA, hrx, hry⟩ := blocks2 w (.bool neg) (.slice A n c) (.slice A' m e) (.bool neg') (.slice D n' c') (.slice D' m' e')
  have gx := hx.below hbA
  have gy := hy.below hbA
  have gx' := hx'.below hbA
  have gy' := hy'.below hbA
  by_cases hn : neg = neg'
  · subst hn
    by_cases hl : ln = ln'
    · have HL : Hid (decide (ln = ln') = true) := decide_eq_true hl
      have HV : Hid (decide (ld = ld') = V) := by show _ = _; rw [← H.out]; simp [hl]
      clear H hl
      cases neg
      all_goals
        go_enter Tryd.func14, Tryd.ntmps14
        go_wp2_with fail
        refine (r_same _ _ _ _ _ _ ln ln' _ true gx gx' (by omega) (by omega) HL).mono ?_
        rintro e1 w' ⟨rfl, q, rfl⟩
        obtain ⟨x0, x1, x2⟩ := (hrx.drewN q).cells
        obtain ⟨y0, y1, y2⟩ := (hry.drewN q).cells
        go_wp2_with fail
        refine (r_same _ _ _ _ _ _ ld ld' _ V (gy.drewN q) (gy'.drewN q) (by omega) (by omega) HV).mono ?_
        rintro e1 w' ⟨rfl, q', rfl⟩
        go_wp2_with fail
        go_ret
        exact ⟨rfl, below_drewN hbA _⟩
    · have HL : Hid (decide (ln = ln') = false) := decide_eq_false hl
      have HV : Hid (V = false) := by show _ = _; rw [← H.out]; simp [hl]
      clear H hl
      cases neg
      all_goals
        go_enter Tryd.func14, Tryd.ntmps14
        go_wp2_with fail
        refine (r_same _ _ _ _ _ _ ln ln' _ false gx gx' (by omega) (by omega) HL).mono ?_
        rintro e1 w' ⟨rfl, q, rfl⟩
        go_wp2_with fail
        go_ret
        rw [HV.out]
        exact ⟨rfl, below_drewN hbA q⟩
  · have HV : Hid (V = false) := by show _ = _; rw [← H.out]; simp [hn]
    have hbb : (neg == neg') = false := beq_eq_false_iff_ne.2 hn
    clear H hn
    cases neg <;> cases neg'
    all_goals first | (simp at hbb; done) | skip
    all_goals
      go_enter Tryd.func14, Tryd.ntmps14
      go_wp2_with fail
      go_ret
      rw [HV.out]
      exact ⟨rfl, hbA⟩
theorem dl_inj_s {a b : Nat} (ha : a ≠ 0) (hb : b ≠ 0) (h : dl a = dl b) : a = b := by
  unfold dl at h
  by_cases h1 : a = 1
  · rw [if_pos h1] at h
    by_cases h2 : b = 1
    · omega
    · rw [if_neg h2] at h
      exact absurd (limbs_nil.1 h.symm) hb
  · rw [if_neg h1] at h
    by_cases h2 : b = 1
    · rw [if_pos h2] at h
      exact absurd (limbs_nil.1 h) ha
    · rw [if_neg h2] at h
      exact limbs_inj h
theorem r_Same (v v' : Value) (x y : Rat) (w : World) (h : RatQ w v x) (h' : RatQ w v' y) (sx : Sz x 100000000) (sy : Sz y 100000000) :
    Calls Tryd.prog 14 #[v, v'] w (RetV w (.bool (decide (x = y)))) := by
  obtain ⟨A, n, c, A', m, e, rfl, h1, h2⟩ := h
  obtain ⟨D, n', c', D', m', e', rfl, h3, h4⟩ := h'
  refine r_Same_any _ _ _ _ _ _ _ _ _ _ _ _ _ _ _ _ _ _ w _ h1 h2 h3 h4 (by rw [h1.len]; exact sx.1) (by rw [h2.len]; exact Nat.le_trans (dl_length _) sx.2) (by rw [h3.len]; exact sy.1) (by rw [h4.len]; exact Nat.le_trans (dl_length _) sy.2) ?_
  show _ = _
  congr 1
  refine propext ⟨fun ⟨a1, a2, a3⟩ => ?_, fun h => by rw [h]; exact ⟨rfl, rfl, rfl⟩⟩
  have b2 := limbs_inj a2
  have b3 := dl_inj_s x.den_nz y.den_nz a3
  have b1 : x.num = y.num := by
    have : (x.num < 0) ↔ (y.num < 0) := by simpa using a1
    omega
  exact Rat.ext b1 b3

end Go.Proofs.YtdlmhgijpgnilaaDoor
