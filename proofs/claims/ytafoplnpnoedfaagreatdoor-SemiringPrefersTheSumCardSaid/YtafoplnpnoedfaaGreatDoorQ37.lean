/- made.Weight at Viterbi; the specification's Equal at two equal numbers. -/
import Derived.Test.YtafoplnpnoedfaaGreatDoorQ28
import Derived.Test.YtafoplnpnoedfaaGreatDoorQ35
import Derived.Test.YtafoplnpnoedfaaGreatDoorQ36
set_option linter.unusedVariables false
set_option linter.unusedSimpArgs false
namespace Go.Proofs.YtafoplnpnoedfaaGreatDoor
open Go.RowKit

theorem sixth_cmp : ∀ k : Nat, k ≤ 6 → cmpQ (qv false k 6) 1 ≤ 0 ∧ 0 ≤ (qv false k 6).num ∧ (qv false k 6).num.natAbs ≤ 6 ∧ (qv false k 6).den ≤ 6
  | 0, _ => by decide +kernel
  | 1, _ => by decide +kernel
  | 2, _ => by decide +kernel
  | 3, _ => by decide +kernel
  | 4, _ => by decide +kernel
  | 5, _ => by decide +kernel
  | 6, _ => by decide +kernel
  | k + 7, h => by omega
theorem sixth_sz (k L : Nat) (h : k ≤ 6) (hL : 1 ≤ L) : Sz (qv false k 6) L := by
  obtain ⟨_, _, h1, h2⟩ := sixth_cmp k h
  exact ⟨Nat.le_trans (small_len' (by omega)) hL, Nat.le_trans (small_len' (by omega)) hL⟩
set_option maxRecDepth 20000 in
set_option maxHeartbeats 2000000 in
theorem Weight_chance (v : Int) (w : World) (h1 : -9223372036854775808 ≤ v) (h2 : v ≤ 9223372036854775807) : Calls Tryz.prog 4 #[.agg #[.int .i64 3, .slice none 0 0], .int .i64 v] w (fun e0 w' => ∃ (k : Nat) (A B : Option Addr) (n c m e : Nat), k ≤ 6 ∧ e0 = .returned (aw (.bool false) (.slice A n c) (.slice B m e) 0 false) ∧ RatQ w' (.agg #[.bool false, .slice A n c, .slice B m e]) (qv false k 6) ∧ Below w.heap.size w w') := by
  obtain ⟨hb0, c1, c2⟩ := blk2 w [.int .i64 3, .slice none 0 0] [.bool false, .slice none 0 0, .slice none 0 0, .int .i64 0, .bool false, .int .u64 0, .slice none 0 0, .slice none 0 0] 24 32
  go_enter Tryz.func4, Tryz.ntmps4
  go_wp2_with fail
  generalize ((w.alloc (.cells #[.int .i64 3, .slice none 0 0] 24)).alloc (W8t 0 false)) = W0 at *
  refine (Mod_any v 7 _ (by omega) (by omega) h1 h2).mono ?_
  rintro e0 w1 ⟨r, rfl, hr0, hr1, rfl⟩
  obtain ⟨k, rfl⟩ : ∃ k : Nat, r = k := ⟨r.toNat, by omega⟩
  have hk : k ≤ 6 := by omega
  have hq : qv (decide ((k : Int) < 0) != decide ((6 : Int) < 0)) (k : Int).natAbs (6 : Int).natAbs = qv false k 6 := by
    rw [decide_eq_false (by omega), decide_eq_false (by omega), Int.natAbs_natCast]; rfl
  have HQ := Lib.hid hq
  clear hq
  go_wp2_with fail
  refine (r_Of (k : Int) 6 _ (by decide) (qv false k 6) HQ.out (by omega) (by omega) (by decide) (by decide)).mono ?_
  rintro e0 w2 ⟨v2, rfl, h9, hb1⟩
  obtain ⟨nb, A, n, c, B, m, e, rfl⟩ := h9.agg
  have hnb : nb = false := by rw [h9.parts.1]; exact decide_eq_false (by have := (sixth_cmp k hk).2.1; omega)
  subst hnb
  have d2 := c2.below hb1 c2.lt
  replace hb0 := hb0.trans (hb1.mono hb0.size)
  obtain ⟨a0, a1, a2, a3, a4, a5, a6, a7⟩ := d2.c8
  obtain ⟨f0, f1, f2, f3, f4, f5, f6, f7⟩ := d2.f8
  go_wp2_with fail
  refine ret_cs (l := [.bool false, .slice A n c, .slice B m e, .int .i64 0, .bool false, .int .u64 0, .slice none 0 0, .slice none 0 0]) Tryz.results4 Tryz.underlying32 (by kernel_rfl) rfl (cs_own8 d2 rfl _ _ _ _ _ _ _ _) rfl ?_
  exact ⟨k, A, B, n, c, m, e, hk, rfl, h9.s8 d2 (by simp) _ _ _ _ _ _ _ _, below_s8 hb0 (by omega) _ _ _ _ _ _ _ _⟩

set_option maxRecDepth 20000 in
set_option maxHeartbeats 2000000 in
theorem r3_sameQ (nb nb1 : Bool) (A B A1 B1 : Option Addr) (n c m e n1 c1 m1 e1 : Nat) (x y : Rat) (w : World) (hx : RatQ w (.agg #[.bool nb, .slice A n c, .slice B m e]) x) (hy : RatQ w (.agg #[.bool nb1, .slice A1 n1 c1, .slice B1 m1 e1]) y) (sx : Sz x 100000) (hxy : x = y) : Calls Tryz.prog 8 #[.agg #[.bool nb, .slice A n c, .slice B m e, .int .i64 0, .bool false, .int .u64 0, .slice none 0 0, .slice none 0 0], .agg #[.bool nb1, .slice A1 n1 c1, .slice B1 m1 e1, .int .i64 0, .bool false, .int .u64 0, .slice none 0 0, .slice none 0 0]] w (RetV w (.bool true)) := by
  have HXY := Lib.hid hxy
  clear hxy
  obtain ⟨hb0, k1, k2⟩ := blk2 w [.bool nb, .slice A n c, .slice B m e, .int .i64 0, .bool false, .int .u64 0, .slice none 0 0, .slice none 0 0] [.bool nb1, .slice A1 n1 c1, .slice B1 m1 e1, .int .i64 0, .bool false, .int .u64 0, .slice none 0 0, .slice none 0 0] 32 32
  replace hx := hx.below hb0
  replace hy := hy.below hb0
  go_enter Tryz.func8, Tryz.ntmps8
  go_wp2_with fail
  generalize ((w.alloc (.cells #[.bool nb, .slice A n c, .slice B m e, .int .i64 0, .bool false, .int .u64 0, .slice none 0 0, .slice none 0 0] 32)).alloc (.cells #[.bool nb1, .slice A1 n1 c1, .slice B1 m1 e1, .int .i64 0, .bool false, .int .u64 0, .slice none 0 0, .slice none 0 0] 32)) = W0 at *
  refine (r_Same_true _ _ x y _ 100000 hx hy sx (by decide) HXY.out).mono ?_
  rintro e0 w1 ⟨rfl, hb1⟩
  replace hb0 := hb0.trans (hb1.mono hb0.size)
  replace k1 := k1.below hb1 k1.lt
  replace k2 := k2.below hb1 k2.lt
  clear hb1
  obtain ⟨a0, a1, a2, a3, a4, a5, a6, a7⟩ := k1.c8
  obtain ⟨b0, b1, b2, b3, b4, b5, b6, b7⟩ := k2.c8
  go_wp2_with fail
  refine (r2_same0 _).mono ?_
  rintro e0 w2 ⟨rfl, hb1⟩
  clear a0 a1 a2 a3 a4 a5 a6 a7 b0 b1 b2 b3 b4 b5 b6 b7
  replace hb0 := hb0.trans (hb1.mono hb0.size)
  replace k1 := k1.below hb1 k1.lt
  replace k2 := k2.below hb1 k2.lt
  clear hb1
  obtain ⟨a0, a1, a2, a3, a4, a5, a6, a7⟩ := k1.c8
  obtain ⟨b0, b1, b2, b3, b4, b5, b6, b7⟩ := k2.c8
  go_wp2_with fail
  refine wp_loop_rounds 1 ?_
  rw [rounds_succ]
  go_wp2_with fail
  go_ret
  exact ⟨rfl, hb0⟩
end Go.Proofs.YtafoplnpnoedfaaGreatDoor

namespace Go.Proofs.YtafoplnpnoedfaaGreatDoor
open Go.RowKit

/-- The value v is the weight z of the kind k (2: a cost, 3: a chance). -/
def WV (k : Int) (L : Nat) (w : World) (v : Value) (z : Int × Bool × Rat) : Prop :=
  (k = 2 ∧ v = tw z.1 z.2.1 ∧ Cost z.1 z.2.1) ∨
  (k = 3 ∧ (∃ A n c B m e, v = aw (.bool false) (.slice A n c) (.slice B m e) 0 false ∧ RatQ w (.agg #[.bool false, .slice A n c, .slice B m e]) z.2.2) ∧ Sz z.2.2 L ∧ cmpQ z.2.2 1 ≤ 0 ∧ 0 ≤ z.2.2.num)
theorem WV.below {k : Int} {L : Nat} {w w' : World} {v : Value} {z : Int × Bool × Rat} (h : WV k L w v z) (hb : Below w.heap.size w w') : WV k L w' v z := by
  rcases h with h | ⟨h1, ⟨A, n, c, B, m, e, h2, h3⟩, h4⟩
  · exact .inl h
  · exact .inr ⟨h1, ⟨A, n, c, B, m, e, h2, h3.below hb⟩, h4⟩
theorem WV.agg {k : Int} {L : Nat} {w : World} {v : Value} {z : Int × Bool × Rat} (h : WV k L w v z) : ∃ x0 x1 x2 x3 x4 x5 x6 x7, v = .agg #[x0, x1, x2, x3, x4, x5, x6, x7] := by
  rcases h with ⟨_, h, _⟩ | ⟨_, ⟨A, n, c, B, m, e, h2, _⟩, _⟩
  · exact ⟨_, _, _, _, _, _, _, _, h⟩
  · exact ⟨_, _, _, _, _, _, _, _, h2⟩
/-- Whether a weight is better than another. -/
def bt (k : Int) (z z' : Int × Bool × Rat) : Bool := if k = 2 then (!z.2.1 && (z'.2.1 || decide (z.1 < z'.1))) else decide (0 < cmpQ z.2.2 z'.2.2)
def pl (k : Int) (z z' : Int × Bool × Rat) : Int × Bool × Rat := if bt k z' z = true then z' else z
def tm (k : Int) (z z' : Int × Bool × Rat) : Int × Bool × Rat := if k = 2 then ((mulC z.1 z.2.1 z'.1 z'.2.1).1, (mulC z.1 z.2.1 z'.1 z'.2.1).2, 0) else (0, false, z.2.2 * z'.2.2)
theorem kd : (3 : Int) ≠ 2 := by decide
theorem bt_two (z z' : Int × Bool × Rat) : bt 2 z z' = (!z.2.1 && (z'.2.1 || decide (z.1 < z'.1))) := by unfold bt; rw [if_pos rfl]
theorem bt_three (z z' : Int × Bool × Rat) : bt 3 z z' = decide (0 < cmpQ z.2.2 z'.2.2) := by unfold bt; rw [if_neg kd]
/-- A better factor makes a product that is not worse; none of two is better than the other both ways. -/
theorem bt_not {k : Int} (hk : k = 2 ∨ k = 3) {z z' : Int × Bool × Rat} (h : bt k z z' = true) : bt k z' z = false := by
  rcases hk with rfl | rfl
  · rw [bt_two] at h ⊢
    obtain ⟨c, i, q⟩ := z
    obtain ⟨d, j, r⟩ := z'
    cases i <;> cases j <;> simp at h ⊢
    omega
  · rw [bt_three] at h ⊢
    have := cmpQ_swap z.2.2 z'.2.2
    have := of_decide_eq_true h
    exact decide_eq_false (by omega)
theorem mulC_parts (c d : Int) (i j : Bool) : mulC c i d j = if (i || (j || decide (1099511627776 < c + d))) = true then (0, true) else (c + d, false) := rfl
theorem bt_times {k : Int} {w1 w2 w3 : World} {L1 L2 L3 : Nat} {v1 v2 v3 : Value} {x y z : Int × Bool × Rat} (h1 : WV k L1 w1 v1 x) (h2 : WV k L2 w2 v2 y) (h3 : WV k L3 w3 v3 z) (h : bt k x y = true) : bt k (tm k y z) (tm k x z) = false := by
  rcases h1 with ⟨rfl, _, hx⟩ | ⟨rfl, _, _, _, hx⟩
  · rw [bt_two] at h ⊢
    unfold tm
    rw [if_pos rfl, if_pos rfl, mulC_parts, mulC_parts]
    obtain ⟨c, i, q⟩ := x
    obtain ⟨d, j, r⟩ := y
    obtain ⟨e, l, s⟩ := z
    simp only at h ⊢
    cases i
    · cases j
      · simp at h
        cases l
        · by_cases g1 : 1099511627776 < d + e
          · simp [g1]
          · have g2 : ¬ 1099511627776 < c + e := by omega
            simp [g1, g2]; omega
        · simp
      · simp
    · simp at h
  · rw [bt_three] at h ⊢
    unfold tm
    rw [if_neg kd, if_neg kd]
    simp only
    rw [cmpQ_mul, cmpQ_swap]
    have h0 := of_decide_eq_true h
    have hs : 0 ≤ z.2.2.num.sign := by
      rcases h3 with ⟨h, _⟩ | ⟨_, _, _, _, hz⟩
      · exact absurd h kd
      · rcases Int.lt_or_eq_of_le hz with h | h
        · rw [Int.sign_eq_one_of_pos h]; decide
        · rw [← h]; decide
    refine decide_eq_false ?_
    have := Int.mul_nonneg (Int.le_of_lt h0) hs
    rw [Int.neg_mul]; omega

theorem Better_w {k : Int} {L L' : Nat} {v v' : Value} {z z' : Int × Bool × Rat} (w : World) (hT : Tab w) (h : WV k L w v z) (h' : WV k L' w v' z') (hL : L ≤ 100000) (hL' : L' ≤ 100000) (V : Bool) (H : Hid (bt k z z' = V)) :
    Calls Tryz.prog 6 #[.agg #[.int .i64 k, .slice none 0 0], v, v'] w (RetV w (.bool V)) := by
  rcases h with ⟨rfl, rfl, h1⟩ | ⟨rfl, ⟨A, n, c, B, m, e, rfl, h2⟩, h3, h4, h5⟩
  · rcases h' with ⟨_, rfl, h1'⟩ | ⟨e, _⟩
    · exact Better_cost z.1 z'.1 z.2.1 z'.2.1 V w h1 h1' (Lib.hid ((bt_two z z').symm.trans H.out))
    · exact absurd e.symm kd
  · rcases h' with ⟨e, _⟩ | ⟨_, ⟨A', n', c', B', m', e', rfl, h2'⟩, h3', h4', h5'⟩
    · exact absurd e kd
    · have hV : V = decide (0 < cmpQ z.2.2 z'.2.2) := by rw [← H.out, bt_three]
      subst hV
      exact Better_chance A B A' B' n c m e n' c' m' e' z.2.2 z'.2.2 _ _ _ w hT h2 h2' (h3.mono hL) (h3'.mono hL') (Lib.hid rfl) h4 (Lib.hid rfl) h4' (Lib.hid rfl)
theorem Plus_w {k : Int} {L : Nat} {v v' : Value} {z z' : Int × Bool × Rat} (w : World) (hT : Tab w) (h : WV k L w v z) (h' : WV k L w v' z') (hL : L ≤ 100000) (r : Int × Bool × Rat) (H : Hid (pl k z z' = r)) :
    Calls Tryz.prog 5 #[.agg #[.int .i64 k, .slice none 0 0], v, v'] w (fun e0 w' => ∃ u, e0 = .returned u ∧ WV k L w' u r ∧ Below w.heap.size w w') := by
  have hr := H.out
  subst hr
  unfold pl
  rcases h with ⟨rfl, rfl, h1⟩ | ⟨rfl, ⟨A, n, c, B, m, e, rfl, h2⟩, h3, h4, h5⟩
  · rcases h' with ⟨_, rfl, h1'⟩ | ⟨e, _⟩
    · rw [bt_two]
      cases hb : (!z'.2.1 && (z.2.1 || decide (z'.1 < z.1)))
      · rw [if_neg (by decide)]
        exact (Plus_cost_l z.1 z'.1 z.2.1 z'.2.1 w h1 h1' (Lib.hid hb)).mono fun _ _ hh => ⟨_, hh.1, .inl ⟨rfl, rfl, h1⟩, hh.2⟩
      · rw [if_pos rfl]
        exact (Plus_cost_r z.1 z'.1 z.2.1 z'.2.1 w h1 h1' (Lib.hid hb)).mono fun _ _ hh => ⟨_, hh.1, .inl ⟨rfl, rfl, h1'⟩, hh.2⟩
    · exact absurd e.symm kd
  · rcases h' with ⟨e, _⟩ | ⟨_, ⟨A', n', c', B', m', e', rfl, h2'⟩, h3', h4', h5'⟩
    · exact absurd e kd
    · rw [bt_three]
      cases hb : decide (0 < cmpQ z'.2.2 z.2.2)
      · rw [if_neg (by decide)]
        exact (Plus_chance_l A B A' B' n c m e n' c' m' e' z.2.2 z'.2.2 _ _ _ (Lib.hid rfl) (Lib.hid hb) w hT h2 h2' (h3.mono hL) (h3'.mono hL) (Lib.hid rfl) h4 (Lib.hid rfl) h4').mono fun _ _ ⟨A2, n2, c2, B2, m2, e2, he, hq, hbl⟩ => ⟨_, he, .inr ⟨rfl, ⟨A2, n2, c2, B2, m2, e2, rfl, hq⟩, h3, h4, h5⟩, hbl⟩
      · rw [if_pos rfl]
        exact (Plus_chance_r A B A' B' n c m e n' c' m' e' z.2.2 z'.2.2 _ _ _ (Lib.hid rfl) (Lib.hid hb) w hT h2 h2' (h3.mono hL) (h3'.mono hL) (Lib.hid rfl) h4 (Lib.hid rfl) h4').mono fun _ _ ⟨A2, n2, c2, B2, m2, e2, he, hq, hbl⟩ => ⟨_, he, .inr ⟨rfl, ⟨A2, n2, c2, B2, m2, e2, rfl, hq⟩, h3', h4', h5'⟩, hbl⟩
theorem cmpQ_lz (x y : Rat) : cmpQ x y ≤ 0 ↔ x ≤ y := by
  unfold cmpQ
  by_cases h1 : x < y
  · rw [if_pos h1]; constructor <;> intro h <;> first | grind | decide
  · by_cases h2 : y < x
    · rw [if_neg h1, if_pos h2]; constructor <;> intro h <;> grind
    · rw [if_neg h1, if_neg h2]; constructor <;> intro h <;> grind
theorem mul_le_one {x y : Rat} (h1 : cmpQ x 1 ≤ 0) (h2 : 0 ≤ y.num) (h3 : cmpQ y 1 ≤ 0) : cmpQ (x * y) 1 ≤ 0 := by
  have e : cmpQ (x * y) (1 * y) ≤ 0 := by
    rw [cmpQ_mul]
    have hs : 0 ≤ y.num.sign := by
      rcases Int.lt_or_eq_of_le h2 with h | h
      · rw [Int.sign_eq_one_of_pos h]; decide
      · rw [← h]; decide
    exact Int.mul_nonpos_of_nonpos_of_nonneg h1 hs
  rw [cmpQ_lz] at e h3 ⊢
  rw [Rat.one_mul] at e
  exact Rat.le_trans e h3
theorem mul_num {x y : Rat} (h1 : 0 ≤ x.num) (h2 : 0 ≤ y.num) : 0 ≤ (x * y).num := by
  rw [Rat.num_nonneg] at h1 h2 ⊢
  exact Rat.mul_nonneg h1 h2
theorem Times_w {k : Int} {L L' : Nat} {v v' : Value} {z z' : Int × Bool × Rat} (w : World) (hT : Tab w) (h : WV k L w v z) (h' : WV k L' w v' z') (hL : L ≤ 100000) (hL' : L' ≤ 100000) (r : Int × Bool × Rat) (H : Hid (tm k z z' = r)) :
    Calls Tryz.prog 9 #[.agg #[.int .i64 k, .slice none 0 0], v, v'] w (fun e0 w' => ∃ u, e0 = .returned u ∧ WV k (L + L') w' u r ∧ Below w.heap.size w w') := by
  have hr := H.out
  subst hr
  unfold tm
  rcases h with ⟨rfl, rfl, h1⟩ | ⟨rfl, ⟨A, n, c, B, m, e, rfl, h2⟩, h3, h4, h5⟩
  · rcases h' with ⟨_, rfl, h1'⟩ | ⟨e, _⟩
    · rw [if_pos rfl]
      exact (Times_v z.1 z'.1 _ z.2.1 z'.2.1 _ w h1 h1' (Lib.hid rfl)).mono fun _ _ hh => ⟨_, hh.1, .inl ⟨rfl, rfl, mulC_cost h1 h1' rfl⟩, hh.2⟩
    · exact absurd e.symm kd
  · rcases h' with ⟨e, _⟩ | ⟨_, ⟨A', n', c', B', m', e', rfl, h2'⟩, h3', h4', h5'⟩
    · exact absurd e kd
    · rw [if_neg kd]
      refine (Times_chance A B A' B' n c m e n' c' m' e' z.2.2 z'.2.2 _ _ _ (Lib.hid rfl) w hT h2 h2' (h3.mono hL) (h3'.mono hL') (Lib.hid rfl) h4 (Lib.hid rfl) h4').mono fun _ _ ⟨nr, A2, n2, c2, B2, m2, e2, he, hq, hbl⟩ => ?_
      have hn := mul_num h5 h5'
      have hnr : nr = false := by rw [hq.parts.1]; exact decide_eq_false (by omega)
      subst hnr
      exact ⟨_, he, .inr ⟨rfl, ⟨A2, n2, c2, B2, m2, e2, rfl, hq⟩, sz_mul h3 h3' (Nat.le_refl _), mul_le_one h4 h5' h4', hn⟩, hbl⟩
theorem Equal_w {k : Int} {L L' : Nat} {v v' : Value} {z : Int × Bool × Rat} (w : World) (h : WV k L w v z) (h' : WV k L' w v' z) (hL : L ≤ 100000) :
    Calls Tryz.prog 8 #[v, v'] w (RetV w (.bool true)) := by
  rcases h with ⟨rfl, rfl, h1⟩ | ⟨rfl, ⟨A, n, c, B, m, e, rfl, h2⟩, h3, h4, h5⟩
  · rcases h' with ⟨_, rfl, h1'⟩ | ⟨e, _⟩
    · exact r3_same z.1 z.2.1 w
    · exact absurd e.symm kd
  · rcases h' with ⟨e, _⟩ | ⟨_, ⟨A', n', c', B', m', e', rfl, h2'⟩, h3', h4', h5'⟩
    · exact absurd e kd
    · exact r3_sameQ false false A B A' B' n c m e n' c' m' e' z.2.2 z.2.2 w h2 h2' (h3.mono hL) rfl
theorem Weight_w {k : Int} (hk : k = 2 ∨ k = 3) (v : Int) (w : World) (h1 : -9223372036854775808 ≤ v) (h2 : v ≤ 9223372036854775807) :
    Calls Tryz.prog 4 #[.agg #[.int .i64 k, .slice none 0 0], .int .i64 v] w (fun e0 w' => ∃ u z, e0 = .returned u ∧ WV k 1 w' u z ∧ Below w.heap.size w w') := by
  rcases hk with rfl | rfl
  · exact (Weight_cost v w h1 h2).mono fun _ _ ⟨c, i, he, hc, hb⟩ => ⟨_, (c, i, 0), he, .inl ⟨rfl, rfl, hc⟩, hb⟩
  · exact (Weight_chance v w h1 h2).mono fun _ _ ⟨k, A, B, n, c, m, e, hk, he, hq, hb⟩ => ⟨_, (0, false, qv false k 6), he, .inr ⟨rfl, ⟨A, n, c, B, m, e, rfl, hq⟩, sixth_sz k 1 hk (Nat.le_refl _), (sixth_cmp k hk).1, (sixth_cmp k hk).2.1⟩, hb⟩
end Go.Proofs.YtafoplnpnoedfaaGreatDoor
