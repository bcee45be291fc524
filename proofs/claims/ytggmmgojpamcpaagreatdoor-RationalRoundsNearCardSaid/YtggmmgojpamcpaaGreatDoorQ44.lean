/- The law RationalValues. -/
import Derived.Test.YtggmmgojpamcpaaGreatDoorQ39
import Derived.Test.YtggmmgojpamcpaaGreatDoorQ43
import Derived.Test.YtggmmgojpamcpaaGreatDoorQ16
import Derived.Test.YtggmmgojpamcpaaGreatDoorQ31
set_option linter.unusedVariables false
set_option linter.unusedSimpArgs false
namespace Go.Proofs.YtggmmgojpamcpaaGreatDoor
open Go.RowKit

theorem abs_qv (q : Rat) : qv false q.num.natAbs q.den = q.abs := by
  have h := qv_self q.abs
  rw [abs_num, abs_den, Int.natAbs_natCast, decide_eq_false (by omega)] at h
  exact h
theorem cmpQ_sub (x y : Rat) : (x - y).num.sign = cmpQ x y := by
  unfold cmpQ
  by_cases h1 : x < y
  · rw [if_pos h1]
    have h : x - y < 0 := by grind
    exact Int.sign_eq_neg_one_of_neg (by have := (Rat.lt_iff (x - y) 0).1 h; simpa using this)
  · rw [if_neg h1]
    by_cases h2 : y < x
    · rw [if_pos h2]
      have h : 0 < x - y := by grind
      exact Int.sign_eq_one_of_pos (by have := (Rat.lt_iff 0 (x - y)).1 h; simpa using this)
    · rw [if_neg h2]
      have h : x - y = 0 := by grind
      rw [h]; rfl
theorem valid_p (v : Value) (neg : Bool) (ln ld : List Nat) (w : World) (V : Bool) (hT : Tab w) (h : Fld w v neg ln ld) (hl : lgt ln ld = true) (H : Hid (vld neg ln ld = V)) : Calls Tryz.prog 17 #[v] w (RetV w (.bool V)) := by
  obtain ⟨A, n, c, A', m, c', rfl, h1, h2⟩ := h.out
  unfold lgt at hl
  simp only [Bool.and_eq_true, decide_eq_true_eq] at hl
  exact valid_any neg A A' n c m c' ln ld w V hT h1 h2 (by rw [h1.len]; omega) (by rw [h2.len]; omega) H
theorem r_Sign_v (v : Value) (q : Rat) (s : Int) (w : World) (h : Inr w v q) (H : Hid (q.num.sign = s)) : Calls Tryz.prog 23 #[v] w (RetV w (.int .i64 s)) := by
  rw [← H.out]; exact r_Sign v q w h
theorem r_Compare_v (v v' : Value) (x y : Rat) (s : Int) (w : World) (h : Inr w v x) (h' : Inr w v' y) (sx : Sz x 400000) (sy : Sz y 400000) (H : Hid ((x - y).num.sign = s)) : Calls Tryz.prog 21 #[v, v'] w (RetV w (.int .i64 s)) := by
  rw [← H.out]; exact r_Compare v v' x y w h h' sx sy
theorem int_limbs {a : Int} (h1 : -9223372036854775808 ≤ a) (h2 : a < 9223372036854775808) : (limbs a.natAbs).length ≤ 64 := by
  refine Nat.le_trans (limbs_length_le (k := 2) ?_) (by decide)
  rw [P_two]; omega
theorem makes (a b : Int) (h1 : -9223372036854775808 ≤ a) (h2 : a < 9223372036854775808) (h3 : -9223372036854775808 ≤ b) (h4 : b < 9223372036854775808) :
    ∃ (r : Rat) (E : Int), Sz r 64 ∧ (∀ w, Tab w → Calls Tryz.prog 13 #[.int .i64 a, .int .i64 b] w (RetRatE w r E)) ∧ (∀ w, Calls Tryz.prog 14 #[.int .i64 a, .int .i64 b] w (RetRatE w r E)) := by
  by_cases hb : b = 0
  · subst hb
    exact ⟨0, 11, sz_zero 64 (by decide), fun w _ => Make_zero a w, fun w => r_Make_zero a w⟩
  · refine ⟨_, 0, ?_, fun w hT => Make_any a b w hT hb _ rfl h1 h2 h3 h4, fun w => r_Make a b w hb _ rfl h1 h2 h3 h4⟩
    unfold qv
    exact sz_le (by omega) (by rw [sgn_abs]; exact int_limbs h1 h2) (int_limbs h3 h4)

set_option maxRecDepth 20000 in
set_option maxHeartbeats 8000000 in
theorem values_law (v1 v2 : Value) (nx ny : Bool) (a1 d1 a2 d2 : List Nat) (num den : Int) (w : World) (hT : Txt w) (h1 : Fld w v1 nx a1 d1) (h2 : Fld w v2 ny a2 d2) (hn1 : -9223372036854775808 ≤ num) (hn2 : num < 9223372036854775808) (hd1 : -9223372036854775808 ≤ den) (hd2 : den < 9223372036854775808) :
    Calls Tryz.prog 3 #[v1, v2, .int .i64 num, .int .i64 den] w (Yes w) := by
  obtain ⟨r, E, sr, hmk, hmr⟩ := makes num den hn1 hn2 hd1 hd2
  have HMK := Lib.hid hmk
  have HMR := Lib.hid hmr
  clear hmk hmr hn1 hn2 hd1 hd2
  obtain ⟨X1, x1, y1, Z1, z1, t1, rfl⟩ := h1.agg
  obtain ⟨X2, x2, y2, Z2, z2, t2, rfl⟩ := h2.agg
  obtain ⟨hb0, r1, r2⟩ := blocks2 w (.bool nx) (.slice X1 x1 y1) (.slice Z1 z1 t1) (.bool ny) (.slice X2 x2 y2) (.slice Z2 z2 t2)
  have g1 := h1.below hb0
  have g2 := h2.below hb0
  obtain ⟨V1, hV1⟩ : ∃ V, lgt a1 d1 = V := ⟨_, rfl⟩
  obtain ⟨V2, hV2⟩ : ∃ V, lgt a2 d2 = V := ⟨_, rfl⟩
  have HV1 := Lib.hid hV1
  have HV2 := Lib.hid hV2
  clear hV1 hV2 h1 h2
  go_enter Tryz.func3, Tryz.ntmps3
  go_wp2_with fail
  generalize ((w.alloc (R1 (.bool nx) (.slice X1 x1 y1) (.slice Z1 z1 t1))).alloc (R1 (.bool ny) (.slice X2 x2 y2) (.slice Z2 z2 t2))) = W0 at *
  refine (light_f _ nx a1 d1 _ V1 g1 HV1).mono ?_
  rintro e w1 ⟨rfl, hb1⟩
  replace hb0 := hb0.trans (hb1.mono hb0.size)
  replace r1 := r1.below hb1 r1.lt
  replace r2 := r2.below hb1 r2.lt
  replace g1 := g1.below hb1
  replace g2 := g2.below hb1
  clear hb1
  obtain ⟨cx0, cx1, cx2⟩ := r1.cells
  obtain ⟨cy0, cy1, cy2⟩ := r2.cells
  cases V1
  · go_wp2_with fail
    refine (awake_any _ (hT.below hb0)).mono ?_
    rintro e w2 ⟨rfl, hb2⟩
    go_wp2_with fail
    go_ret
    exact ⟨rfl, hb0.trans (hb2.mono hb0.size)⟩
  go_wp2_with fail
  refine (light_f _ ny a2 d2 _ V2 g2 HV2).mono ?_
  rintro e w2 ⟨rfl, hb1⟩
  replace hb0 := hb0.trans (hb1.mono hb0.size)
  replace r1 := r1.below hb1 r1.lt
  replace r2 := r2.below hb1 r2.lt
  replace g1 := g1.below hb1
  replace g2 := g2.below hb1
  clear hb1 cx0 cx1 cx2 cy0 cy1 cy2
  obtain ⟨cx0, cx1, cx2⟩ := r1.cells
  obtain ⟨cy0, cy1, cy2⟩ := r2.cells
  cases V2
  · go_wp2_with fail
    refine (awake_any _ (hT.below hb0)).mono ?_
    rintro e w2 ⟨rfl, hb2⟩
    go_wp2_with fail
    go_ret
    exact ⟨rfl, hb0.trans (hb2.mono hb0.size)⟩
  obtain ⟨x, _, ix, jx, sx⟩ := fld_in g1 HV1.out
  obtain ⟨y, _, iy, jy, sy⟩ := fld_in g2 HV2.out
  replace hT := hT.below hb0
  obtain ⟨VX, hvx⟩ : ∃ V, vld nx a1 d1 = V := ⟨_, rfl⟩
  obtain ⟨cv, hcv⟩ : ∃ c, cmpQ x y = c := ⟨_, rfl⟩
  obtain ⟨sg, hsg⟩ : ∃ c, x.num.sign = c := ⟨_, rfl⟩
  obtain ⟨WV, hwv⟩ : ∃ c, wholeOf x = c := ⟨_, rfl⟩
  obtain ⟨WO, hwo⟩ : ∃ c, wholeOk x = c := ⟨_, rfl⟩
  have HVX := Lib.hid hvx
  have HC := Lib.hid hcv
  have HC2 := Lib.hid ((cmpQ_sub x y).trans hcv)
  have HSG := Lib.hid hsg
  have HWH := Lib.hid (And.intro hwv hwo)
  clear hvx hcv hsg hwv hwo g2 HV2
  go_wp2_with fail
  have kgx := r1.lt
  have kgy := r2.lt
  clear cx0 cx1 cx2 cy0 cy1 cy2
  refine (HMK.out _ hT.tab).mono ?_
  rintro e w3 ⟨v3, rfl, h3, hb3⟩
  obtain ⟨na, A, n, c, B, m, ce, rfl⟩ := h3.agg
  go_upto_region 4 with (fail)
  have hbo : Below w3.heap.size w3 (w3.alloc (R1 (.bool na) (.slice A n c) (.slice B m ce))) := (Below.refl _ _).alloc (Nat.le_refl _) _
  have ra := Rc.new w3 (.bool na) (.slice A n c) (.slice B m ce)
  have hc3 := hb3.trans (hbo.mono hb3.size)
  have ha := h3.below hbo
  have kga := ra.lt
  clear h3
  generalize w3.heap.size = ga at *
  generalize w3.alloc (R1 (.bool na) (.slice A n c) (.slice B m ce)) = W4 at *
  go_wp2_with fail
  refine (HMR.out _).mono ?_
  rintro e w5 ⟨v5, rfl, h5, hb5⟩
  obtain ⟨nb, A', n', c', B', m', ce', rfl⟩ := h5.agg
  go_upto_region 5 with (fail)
  have hbo2 : Below w5.heap.size w5 (w5.alloc (R1 (.bool nb) (.slice A' n' c') (.slice B' m' ce'))) := (Below.refl _ _).alloc (Nat.le_refl _) _
  have rb := Rc.new w5 (.bool nb) (.slice A' n' c') (.slice B' m' ce')
  have hc5 := hb5.trans (hbo2.mono hb5.size)
  have hqb := h5.below hbo2
  have hqa := ha.below hc5
  have ra5 := ra.below hc5 kga
  have hc6 := hc3.trans (hc5.mono hc3.size)
  have r16 := r1.below hc6 kgx
  have r26 := r2.below hc6 kgy
  have ix6 := ix.below hc6
  have jx6 := jx.below hc6
  have iy6 := iy.below hc6
  have jy6 := jy.below hc6
  have gx6 := g1.below hc6
  have T6 := hT.below hc6
  have hb6 := hb0.trans (hc6.mono hb0.size)
  clear h5 ha ra r1 r2 ix jx iy jy g1 hT hb0 hb3 hb5 hbo hbo2 hc3 hc5 hc6 HMK HMR kgx kgy kga
  generalize w5.heap.size = gb at *
  generalize w5.alloc (R1 (.bool nb) (.slice A' n' c') (.slice B' m' ce')) = W6 at *
  have kgx := r16.lt
  have kgy := r26.lt
  have kga := ra5.lt
  have kgb := rb.lt
  obtain ⟨cx0, cx1, cx2⟩ := r16.cells
  go_wp2_with fail
  refine (Whole_any _ x 6 WV WO _ T6.tab ix6 HWH).mono ?_
  rintro e w7 ⟨rfl, hb7⟩
  clear cx0 cx1 cx2
  obtain ⟨cx0, cx1, cx2⟩ := (r16.below hb7 kgx).cells
  go_wp2_with fail
  refine (r_Whole _ x WV WO _ (jx6.below hb7) HWH).mono ?_
  rintro e w8 ⟨rfl, hb8⟩
  clear cx0 cx1 cx2
  have hc8 := (hb7.trans (hb8.mono hb7.size)).drew
  have rr1 := (r16.below (hb7.trans (hb8.mono hb7.size)) kgx).drewN 1
  have rr2 := (r26.below (hb7.trans (hb8.mono hb7.size)) kgy).drewN 1
  have rra := (ra5.below (hb7.trans (hb8.mono hb7.size)) kga).drewN 1
  have rrb := (rb.below (hb7.trans (hb8.mono hb7.size)) kgb).drewN 1
  have qa := hqa.below hc8
  have qb := hqb.below hc8
  have TT := T6.below hc8
  have hbb := hb6.trans (hc8.mono hb6.size)
  have gx := gx6.below hc8
  replace ix6 := (ix6.below hc8).mono (M := 64) (by decide)
  replace iy6 := (iy6.below hc8).mono (M := 64) (by decide)
  replace jx6 := jx6.below hc8
  replace jy6 := jy6.below hc8
  clear r16 r26 ra5 rb hqa hqb T6 hb6 gx6 hb7 hb8 kgx kgy kga kgb hc8
  have tx : Sz x 64 := sx.mono (by decide)
  have ty : Sz y 64 := sy.mono (by decide)
  have sN : Sz (-x) 64 := sz_neg tx
  have sA : Sz x.abs 64 := by unfold Sz; rw [abs_num, abs_den, Int.natAbs_natCast]; exact tx
  have kgx := rr1.lt
  have kgy := rr2.lt
  have kga := rra.lt
  have kgb := rrb.lt
  have hs := And.intro rr1.cells (And.intro rr2.cells (And.intro rra.cells rrb.cells))
  have hc0 := Below.refl w8.drew.heap.size w8.drew
  go_wp2_with fail
  go_region_held3 (fun w' => (w'.cell? ⟨w.heap.size, 0, none⟩ = some (.bool nx) ∧ w'.cell? ⟨w.heap.size, 1, none⟩ = some (.slice X1 x1 y1) ∧ w'.cell? ⟨w.heap.size, 2, none⟩ = some (.slice Z1 z1 t1)) ∧ (w'.cell? ⟨w.heap.size + 1, 0, none⟩ = some (.bool ny) ∧ w'.cell? ⟨w.heap.size + 1, 1, none⟩ = some (.slice X2 x2 y2) ∧ w'.cell? ⟨w.heap.size + 1, 2, none⟩ = some (.slice Z2 z2 t2)) ∧ (w'.cell? ⟨ga, 0, none⟩ = some (.bool na) ∧ w'.cell? ⟨ga, 1, none⟩ = some (.slice A n c) ∧ w'.cell? ⟨ga, 2, none⟩ = some (.slice B m ce)) ∧ (w'.cell? ⟨gb, 0, none⟩ = some (.bool nb) ∧ w'.cell? ⟨gb, 1, none⟩ = some (.slice A' n' c') ∧ w'.cell? ⟨gb, 2, none⟩ = some (.slice B' m' ce')))
    (exact hs)
    (first
        | (have _g := hc13; go_at_call 19; refine (r_Same_true _ _ (x.abs) (x.abs) _ 64 h12 h13 sA (by decide) (rfl)).mono ?_; rintro e w34 ⟨rfl, hb34⟩; have hc14 := hc13.trans (hb34.mono hc13.size); have hs := And.intro (rr1.below hc14 kgx).cells (And.intro (rr2.below hc14 kgy).cells (And.intro (rra.below hc14 kga).cells ((rrb.below hc14 kgb).cells))))
        | (have _g := hc12; go_at_call 27; refine (r_Abs _ (x) _ (jx6.below hc12)).mono ?_; rintro e w33 ⟨v13, rfl, h13, hb33⟩; have hc13 := hc12.trans (hb33.mono hc12.size); have hs := And.intro (rr1.below hc13 kgx).cells (And.intro (rr2.below hc13 kgy).cells (And.intro (rra.below hc13 kga).cells ((rrb.below hc13 kgb).cells))); have h12 := h12.below hb33)
        | (have _g := hc11; go_at_call 26; refine (Abs_any _ (x) (x.abs) 64 _ (TT.tab.below hc11) (ix6.below hc11) (tx.mono (by decide)) (abs_qv x)).mono ?_; rintro e w32 ⟨v12, rfl, h12, hb32⟩; have hc12 := hc11.trans (hb32.mono hc11.size); have hs := And.intro (rr1.below hc12 kgx).cells (And.intro (rr2.below hc12 kgy).cells (And.intro (rra.below hc12 kga).cells ((rrb.below hc12 kgb).cells))))
        | (have _g := hc10; go_at_call 19; refine (r_Same_true _ _ (-x) (-x) _ 64 h9 h10 sN (by decide) (rfl)).mono ?_; rintro e w31 ⟨rfl, hb31⟩; have hc11 := hc10.trans (hb31.mono hc10.size); have hs := And.intro (rr1.below hc11 kgx).cells (And.intro (rr2.below hc11 kgy).cells (And.intro (rra.below hc11 kga).cells ((rrb.below hc11 kgb).cells))))
        | (have _g := hc9; go_at_call 25; refine (r_Neg _ (x) _ (jx6.below hc9)).mono ?_; rintro e w30 ⟨v10, rfl, h10, hb30⟩; have hc10 := hc9.trans (hb30.mono hc9.size); have hs := And.intro (rr1.below hc10 kgx).cells (And.intro (rr2.below hc10 kgy).cells (And.intro (rra.below hc10 kga).cells ((rrb.below hc10 kgb).cells))); have h9 := h9.below hb30)
        | (have _g := hc8; go_at_call 24; refine (Neg_any _ (x) 64 _ (TT.tab.below hc8) (ix6.below hc8) (tx.mono (by decide))).mono ?_; rintro e w29 ⟨v9, rfl, h9, hb29⟩; have hc9 := hc8.trans (hb29.mono hc8.size); have hs := And.intro (rr1.below hc9 kgx).cells (And.intro (rr2.below hc9 kgy).cells (And.intro (rra.below hc9 kga).cells ((rrb.below hc9 kgb).cells))))
        | (have _g := hc7; go_at_call 23; refine (r_Sign_v _ (x) sg _ (jx6.below hc7) HSG).mono ?_; rintro e w28 ⟨rfl, hb28⟩; have hc8 := hc7.trans (hb28.mono hc7.size); have hs := And.intro (rr1.below hc8 kgx).cells (And.intro (rr2.below hc8 kgy).cells (And.intro (rra.below hc8 kga).cells ((rrb.below hc8 kgb).cells))))
        | (have _g := hc6; go_at_call 22; refine (Sign_v _ (x) 64 sg _ (TT.tab.below hc6) (ix6.below hc6) HSG).mono ?_; rintro e w27 ⟨rfl, hb27⟩; have hc7 := hc6.trans (hb27.mono hc6.size); have hs := And.intro (rr1.below hc7 kgx).cells (And.intro (rr2.below hc7 kgy).cells (And.intro (rra.below hc7 kga).cells ((rrb.below hc7 kgb).cells))))
        | (have _g := hc5; go_at_call 21; refine (r_Compare_v _ _ (x) (y) cv _ (jx6.below hc5) (jy6.below hc5) (tx.mono (by decide)) (ty.mono (by decide)) HC2).mono ?_; rintro e w26 ⟨rfl, hb26⟩; have hc6 := hc5.trans (hb26.mono hc5.size); have hs := And.intro (rr1.below hc6 kgx).cells (And.intro (rr2.below hc6 kgy).cells (And.intro (rra.below hc6 kga).cells ((rrb.below hc6 kgb).cells))))
        | (have _g := hc4; go_at_call 20; refine (Compare_any _ _ (x) (y) 64 cv _ (TT.tab.below hc4) (ix6.below hc4) (iy6.below hc4) (tx.mono (by decide)) (ty.mono (by decide)) HC).mono ?_; rintro e w25 ⟨rfl, hb25⟩; have hc5 := hc4.trans (hb25.mono hc4.size); have hs := And.intro (rr1.below hc5 kgx).cells (And.intro (rr2.below hc5 kgy).cells (And.intro (rra.below hc5 kga).cells ((rrb.below hc5 kgb).cells))))
        | (have _g := hc3; go_at_call 19; refine (r_Same_true _ _ (r) ((r)) _ 64 (qa.below hc3) (qb.below hc3) sr (by decide) (rfl)).mono ?_; rintro e w24 ⟨rfl, hb24⟩; have hc4 := hc3.trans (hb24.mono hc3.size); have hs := And.intro (rr1.below hc4 kgx).cells (And.intro (rr2.below hc4 kgy).cells (And.intro (rra.below hc4 kga).cells ((rrb.below hc4 kgb).cells))))
        | (have _g := hc2; go_at_call 18; refine (valid_f _ nx a1 d1 _ VX (gx.below hc2) HV1.out HVX).mono ?_; rintro e w23 ⟨rfl, hb23⟩; have hc3 := hc2.trans (hb23.mono hc2.size); have hs := And.intro (rr1.below hc3 kgx).cells (And.intro (rr2.below hc3 kgy).cells (And.intro (rra.below hc3 kga).cells ((rrb.below hc3 kgb).cells))))
        | (have _g := hc1; go_at_call 17; refine (valid_p _ nx a1 d1 _ VX (TT.tab.below hc1) (gx.below hc1) HV1.out HVX).mono ?_; rintro e w22 ⟨rfl, hb22⟩; have hc2 := hc1.trans (hb22.mono hc1.size); have hs := And.intro (rr1.below hc2 kgx).cells (And.intro (rr2.below hc2 kgy).cells (And.intro (rra.below hc2 kga).cells ((rrb.below hc2 kgb).cells))))
        | (go_at_call 12; refine (awake_any _ (TT.below hc0)).mono ?_; rintro e w21 ⟨rfl, hb21⟩; have hc1 := hc0.trans (hb21.mono hc0.size); have hs := And.intro (rr1.below hc1 kgx).cells (And.intro (rr2.below hc1 kgy).cells (And.intro (rra.below hc1 kga).cells ((rrb.below hc1 kgb).cells)))))
  go_wp2_with fail
  go_ret
  exact ⟨rfl, hbb.trans (hc14.mono hbb.size)⟩
end Go.Proofs.YtggmmgojpamcpaaGreatDoor
