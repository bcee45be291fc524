/- The specification's over, absolute, Make, Of, Valid. -/
import Derived.Test.YtohbelnfjomcdaaGreatDoorQ41
import Derived.Test.YtohbelnfjomcdaaGreatDoorQ28
set_option linter.unusedVariables false
set_option linter.unusedSimpArgs false
namespace Go.Proofs.YtohbelnfjomcdaaGreatDoor
open Go.RowKit

theorem gcd_len {X Y n n' : Nat} (hn : n = (limbs X).length) (hn' : n' = (limbs Y).length) : (limbs (Nat.gcd X Y)).length ≤ max n n' := by
  rcases Nat.eq_zero_or_pos X with h | h
  · rw [h, Nat.gcd_zero_left]; omega
  · have := length_mono (Nat.le_of_dvd h (Nat.gcd_dvd_left X Y))
    omega

set_option maxRecDepth 20000 in
set_option maxHeartbeats 1000000 in
theorem r_over (neg : Bool) (A A' : Option Addr) (n c m c' a d : Nat) (w : World) (hx : Num w (limbs a) A n c) (hy : Num w (limbs d) A' m c') (hn : n ≤ 1000000) (hm : m ≤ 1000000) (hd : d ≠ 0) :
    Calls Tryz.prog 79 #[.bool neg, .slice A n c, .slice A' m c'] w (RetFrac w neg (a / Nat.gcd a d) (d / Nat.gcd a d)) := by
  have hbA : Below w.heap.size w (w.alloc (.cells #[.bool false, .slice none 0 0, .slice none 0 0] 27)) := (Below.refl _ _).alloc (Nat.le_refl _) _
  have hrc := Rc.new w (.bool false) (.slice none 0 0) (.slice none 0 0)
  by_cases h0 : n = 0
  · have ha : a = 0 := limbs_length_zero.1 (by rw [← hx.len]; exact h0)
    subst h0
    have HA := Lib.hid ha
    clear ha
    go_enter Tryz.func79, Tryz.ntmps79
    go_wp2_with fail
    refine ret_rc Tryz.results79 rfl hrc rfl ?_
    rw [HA.out]
    simp only [Nat.zero_div]
    exact ⟨_, rfl, ⟨none, 0, 0, none, 0, 0, by simp, by rw [limbs_zero]; exact Num.nil _ _ _, by rw [if_pos rfl]; exact Num.nil _ _ _⟩, hbA⟩
  · have ha : a ≠ 0 := fun h => h0 (by rw [hx.len, h, limbs_zero]; rfl)
    have hn0 : ((n : Int) == 0) = false := by simp; omega
    have HA := Lib.hid ha
    have HD := Lib.hid hd
    have HG : Hid (Nat.gcd a d ≠ 0) := fun h => ha (Nat.eq_zero_of_gcd_eq_zero_left h)
    have hgl := gcd_len hx.len hy.len
    have HQ : Hid (a / Nat.gcd a d ≠ 0) := by
      have := Nat.div_pos (Nat.le_of_dvd (Nat.pos_of_ne_zero ha) (Nat.gcd_dvd_left a d)) (Nat.pos_of_ne_zero HG.out)
      show _ ≠ _
      omega
    clear ha hd h0
    go_enter Tryz.func79, Tryz.ntmps79
    go_wp2_with fail
    refine (r_divisor _ _ _ _ _ _ a d _ (hx.below hbA) (hy.below hbA) hn hm).mono ?_
    rintro e w1 ⟨A1, n1, c1, rfl, h1, hb1⟩
    have hn1 : n1 ≤ 1000000 := by rw [h1.len]; omega
    have hb01 := hbA.trans (hb1.mono hbA.size)
    go_wp2_with fail
    refine (r_divide _ _ _ _ _ _ a (Nat.gcd a d) _ (hx.below hb01) h1 hn hn1 HG).mono ?_
    rintro e w2 ⟨A2, n2, c2, A3, n3, c3, rfl, h2, h3, hb2⟩
    have hb02 := hb01.trans (hb2.mono hb01.size)
    go_wp2_with fail
    refine (r_divide _ _ _ _ _ _ d (Nat.gcd a d) _ (hy.below hb02) (h1.below hb2) hm hn1 HG).mono ?_
    rintro e w4 ⟨A4, n4, c4, A5, n5, c5, rfl, h4, h5, hb4⟩
    have hb04 := hb02.trans (hb4.mono hb02.size)
    have hn4 : n4 ≤ 1000000 := by rw [h4.len]; have := length_mono (Nat.div_le_self d (Nat.gcd a d)); have := hy.len; omega
    have h2' := h2.num.below hb4
    have hrc4 := hrc.below ((hb1.trans (hb2.mono hb1.size)).trans (hb4.mono (by have := hb1.size; have := hb2.size; omega))) hrc.lt
    obtain ⟨k0, k1, k2⟩ := hrc4.cells
    obtain ⟨f0, f1, f2⟩ := hrc4.frozen
    have hne2 := h2'.ne_rc hrc4
    by_cases hone : d / Nat.gcd a d = 1
    · have HO : Hid (decide (limbs (d / Nat.gcd a d) = [1]) = true) := decide_eq_true (limbs_eq_one.2 hone)
      have HD1 := Lib.hid hone
      clear hone
      go_wp2_with fail
      refine (r_one _ _ _ _ _ true h4.num (by omega) HO).mono ?_
      rintro e w' ⟨rfl, rfl⟩
      go_wp2_with fail
      refine ret_rc Tryz.results79 rfl (hrc4.set _ _ _) rfl ?_
      refine ⟨_, rfl, ⟨A2, n2, c2, none, 0, 0, by rw [decide_eq_true HQ.out, Bool.and_true], h2'.set3 hne2 _ _ _, ?_⟩, below_set3 hb04 (Nat.le_refl _) _ _ _⟩
      rw [if_neg HQ.out, HD1.out]
      exact Num.nil _ _ _
    · have HO : Hid (decide (limbs (d / Nat.gcd a d) = [1]) = false) := decide_eq_false (fun h => hone (limbs_eq_one.1 h))
      have HD1 := Lib.hid hone
      clear hone
      have hne4 := h4.num.ne_rc hrc4
      go_wp2_with fail
      refine (r_one _ _ _ _ _ false h4.num (by omega) HO).mono ?_
      rintro e w' ⟨rfl, rfl⟩
      go_wp2_with fail
      refine ret_rc Tryz.results79 rfl (hrc4.set _ _ _) rfl ?_
      refine ⟨_, rfl, ⟨A2, n2, c2, A4, n4, c4, by rw [decide_eq_true HQ.out, Bool.and_true], h2'.set3 hne2 _ _ _, ?_⟩, below_set3 hb04 (Nat.le_refl _) _ _ _⟩
      rw [if_neg HQ.out, dl_ne HD1.out]
      exact h4.num.set3 hne4 _ _ _

set_option maxHeartbeats 400000 in
theorem r_absolute (a : Int) (m : Nat) (w : World) (H : Hid (a.natAbs = m ∧ -9223372036854775808 ≤ a ∧ a < 9223372036854775808)) :
    Calls Tryz.prog 88 #[.int .i64 a] w fun e w' => e = .returned (.int .u64 (m : Int)) ∧ w = w' := by
  obtain ⟨hm, h1, h2⟩ := H.out
  by_cases h : a < 0
  · have e1 : IntKind.i64.wrap (a + 1) = a + 1 := IntWalk.i64_in _ (by omega)
    have e2 : IntKind.i64.wrap (-(a + 1)) = -(a + 1) := IntWalk.i64_in _ (by omega)
    have e3 : IntKind.u64.wrap (-(a + 1)) = -(a + 1) := IntWalk.u64_in _ (by omega)
    have e4 : IntKind.u64.wrap (-(a + 1) + 1) = -(a + 1) + 1 := IntWalk.u64_in _ (by omega)
    have e5 : -(a + 1) + 1 = (m : Int) := by omega
    have e6 : IntKind.u64.wrap (m : Int) = (m : Int) := IntWalk.u64_in _ (by omega)
    clear hm h1 h2 H
    go_enter Tryz.func88, Tryz.ntmps88
    go_wp2
    go_ret
    first | exact ⟨rfl, rfl⟩ | exact ⟨ret_int (by omega), rfl⟩
  · have e3 : IntKind.u64.wrap a = a := IntWalk.u64_in _ (by omega)
    have e5 : a = (m : Int) := by omega
    have e6 : IntKind.u64.wrap (m : Int) = (m : Int) := IntWalk.u64_in _ (by omega)
    clear hm h1 h2 H
    go_enter Tryz.func88, Tryz.ntmps88
    go_wp2
    go_ret
    first | exact ⟨rfl, rfl⟩ | exact ⟨ret_int (by omega), rfl⟩

set_option maxRecDepth 20000 in
set_option maxHeartbeats 1000000 in
theorem r_Make (a b : Int) (w : World) (hb : b ≠ 0) (r : Rat) (hr : qv (decide (a < 0) != decide (b < 0)) a.natAbs b.natAbs = r) (h1 : -9223372036854775808 ≤ a) (h2 : a < 9223372036854775808) (h3 : -9223372036854775808 ≤ b) (h4 : b < 9223372036854775808) :
    Calls Tryz.prog 67 #[.int .i64 a, .int .i64 b] w (RetRatE w r 0) := by
  have hb0 : (b == 0) = false := by simp [hb]
  obtain ⟨m, hm⟩ : ∃ m, a.natAbs = m := ⟨_, rfl⟩
  obtain ⟨k, hk⟩ : ∃ k, b.natAbs = k := ⟨_, rfl⟩
  obtain ⟨s, hs⟩ : ∃ s, (!(decide (a < 0) == decide (b < 0))) = s := ⟨_, rfl⟩
  have HM := Lib.hid (And.intro hm (And.intro h1 h2))
  have HK := Lib.hid (And.intro hk (And.intro h3 h4))
  have hk0 : k ≠ 0 := by omega
  have hkl : k < 18446744073709551616 := by omega
  have hml : m < 18446744073709551616 := by omega
  have hr' : qv s m k = r := by rw [← hr, hm, hk, ← hs]; rfl
  obtain ⟨j1, j2, j3⟩ := qv_reduce s (a := m) hk0
  rw [hr'] at j1
  have HJ := Lib.hid (And.intro j1 (And.intro j2 j3))
  have HK0 := Lib.hid hk0
  have HL := Lib.hid (And.intro hml hkl)
  have hlm := limbs_length_le (n := m) (k := 2) (by unfold P; omega)
  have hlk := limbs_length_le (n := k) (k := 2) (by unfold P; omega)
  clear hm hk hk0 hkl hml hr hr' j1 j2 j3 h1 h2 h3 h4 hb
  have hbA : Below w.heap.size w (w.alloc R0) := (Below.refl _ _).alloc (Nat.le_refl _) _
  have hrr := Rc.new w (.bool false) (.slice none 0 0) (.slice none 0 0)
  go_enter Tryz.func67, Tryz.ntmps67
  go_wp2_with fail
  refine (r_absolute a m _ HM).mono ?_
  rintro e w' ⟨rfl, rfl⟩
  go_wp2_with fail
  refine (r_natural m _ HL.out.1).mono ?_
  rintro e w1 ⟨A1, n1, c1, rfl, g1, hb1⟩
  go_wp2_with fail
  refine (r_absolute b k _ HK).mono ?_
  rintro e w' ⟨rfl, rfl⟩
  go_wp2_with fail
  refine (r_natural k _ HL.out.2).mono ?_
  rintro e w2 ⟨A2, n2, c2, rfl, g2, hb2⟩
  have hb12 := hb1.trans (hb2.mono hb1.size)
  go_wp2_with fail
  refine (r_over s _ _ _ _ _ _ m k _ (g1.num.below hb2) g2.num (by have := g1.len; omega) (by have := g2.len; omega) HK0.out).mono ?_
  rintro e w3 hr
  obtain ⟨v3, rfl, h3, hb3⟩ := RetFrac.rat HJ.out.2.1 HJ.out.2.2 HJ.out.1 hr
  have hb13 := hb12.trans (hb3.mono hb12.size)
  have hrr3 := hrr.below hb13 hrr.lt
  obtain ⟨nb, A, n, c, B, m', e, rfl⟩ := h3.agg
  obtain ⟨r0, r1, r2⟩ := hrr3.cells
  obtain ⟨f0, f1, f2⟩ := hrr3.frozen
  go_wp2_with fail
  refine ret_rc_tmp Tryz.results67 rfl rfl (hrr3.set _ _ _) rfl ?_
  exact ⟨_, rfl, h3.set3 hrr3 _ _ _, below_set3 (hbA.trans (hb13.mono hbA.size)) (by omega) _ _ _⟩
set_option maxRecDepth 20000 in
set_option maxHeartbeats 1000000 in
theorem r_Make_zero (a : Int) (w : World) :
    Calls Tryz.prog 67 #[.int .i64 a, .int .i64 0] w (RetRatE w 0 11) := by
  have hbA : Below w.heap.size w (w.alloc R0) := (Below.refl _ _).alloc (Nat.le_refl _) _
  have hrr := Rc.new w (.bool false) (.slice none 0 0) (.slice none 0 0)
  go_enter Tryz.func67, Tryz.ntmps67
  go_wp2_with fail
  refine ret_rc_tmp Tryz.results67 rfl rfl hrr rfl ?_
  exact ⟨_, rfl, ratq_zero _, hbA⟩
set_option maxRecDepth 20000 in
set_option maxHeartbeats 1000000 in
theorem r_Of (a b : Int) (w : World) (hb : b ≠ 0) (r : Rat) (hr : qv (decide (a < 0) != decide (b < 0)) a.natAbs b.natAbs = r) (h1 : -9223372036854775808 ≤ a) (h2 : a < 9223372036854775808) (h3 : -9223372036854775808 ≤ b) (h4 : b < 9223372036854775808) :
    Calls Tryz.prog 39 #[.int .i64 a, .int .i64 b] w (RetRat w r) := by
  have hbA : Below w.heap.size w (w.alloc R0) := (Below.refl _ _).alloc (Nat.le_refl _) _
  have hrr := Rc.new w (.bool false) (.slice none 0 0) (.slice none 0 0)
  go_enter Tryz.func39, Tryz.ntmps39
  go_wp2_with fail
  refine (r_Make a b _ hb r hr h1 h2 h3 h4).mono ?_
  rintro e w1 ⟨v1, rfl, g1, hb1⟩
  have hrr1 := hrr.below hb1 hrr.lt
  obtain ⟨nb, A, n, c, B, m', e, rfl⟩ := g1.agg
  have hwl := hrr1.lt
  have hrr2 := (hrr1.set (.bool nb) (.slice A n c) (.slice B m' e)).alloc (R1 (.bool nb) (.slice A n c) (.slice B m' e))
  have g2 := g1.set3 hrr1 (.bool nb) (.slice A n c) (.slice B m' e)
  have g3 := g2.below ((Below.refl _ _).alloc (Nat.le_refl _) (R1 (.bool nb) (.slice A n c) (.slice B m' e)))
  have hb2 := (below_set3 (hbA.trans (hb1.mono hbA.size)) (Nat.le_refl w.heap.size) (.bool nb) (.slice A n c) (.slice B m' e)).alloc (by simp; omega) (R1 (.bool nb) (.slice A n c) (.slice B m' e))
  obtain ⟨r0, r1, r2⟩ := hrr1.cells
  obtain ⟨f0, f1, f2⟩ := hrr1.frozen
  clear hr h1 h2 h3 h4 hb
  go_wp2_with fail
  refine ret_rc Tryz.results39 rfl hrr2 rfl ?_
  exact ⟨_, rfl, g3, hb2⟩
end Go.Proofs.YtohbelnfjomcdaaGreatDoor
