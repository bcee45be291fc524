/- texts -/
import Derived.Test.YtifeekomegoijaaGreatDoorQ46
import Derived.Test.YtifeekomegoijaaGreatDoorQ45
set_option linter.unusedVariables false
set_option linter.unusedSimpArgs false
namespace Go.Proofs.YtifeekomegoijaaGreatDoor
open Go.RowKit

theorem RB.keepC {w : World} {g g' : Nat} {q : Rat} (h : RB w g q) {t : TypeId} (hc : Cs w g' [.bool false, .slice none 0 0, .slice none 0 0] t) (hne : g ≠ g') (us : List Value) : RB (setL w g' 0 us) g q := by
 obtain ⟨nb, A, n, c, B, m, e, h1, h2⟩ := h
 exact ⟨nb, A, n, c, B, m, e, h1.farL hne us 0, h2.setL hc (by simp) _⟩
theorem c9_of {w : World} {g : Nat} {z0 z1 z2 z3 z4 z5 z6 z7 z8 : Value} {t : TypeId} (h : Cs w g [z0, z1, z2, z3, z4, z5, z6, z7, z8] t) :
  w.cell? ⟨g, 0, none⟩ = some z0 ∧ w.cell? ⟨g, 1, none⟩ = some z1 ∧ w.cell? ⟨g, 2, none⟩ = some z2 ∧ w.cell? ⟨g, 3, none⟩ = some z3 ∧ w.cell? ⟨g, 4, none⟩ = some z4 ∧ w.cell? ⟨g, 5, none⟩ = some z5 ∧ w.cell? ⟨g, 6, none⟩ = some z6 ∧ w.cell? ⟨g, 7, none⟩ = some z7 ∧ w.cell? ⟨g, 8, none⟩ = some z8 :=
 ⟨h.cell rfl, h.cell rfl, h.cell rfl, h.cell rfl, h.cell rfl, h.cell rfl, h.cell rfl, h.cell rfl, h.cell rfl⟩
def ar3 (x y z : Rat) : Nat → Rat
 | 0 => x
 | 1 => y
 | _ => z
theorem sz_ar3 {x y z : Rat} {L : Nat} (hx : Sz x L) (hy : Sz y L) (hz : Sz z L) : ∀ i, Sz (ar3 x y z i) L
 | 0 => hx
 | 1 => hy
 | _ + 2 => hz
theorem sz_evalC {c : Co} (hc : Low c) {x y z : Rat} {L : Nat} (h : SzL (listOf c) L) (hx : Sz x 1) (hy : Sz y 1) (hz : Sz z 1) : Sz (evalC c x y z) (1 + 56 * (L + 24 + 1)) := by
 have h1 := sz_evTo (vp_listOf c) h (sz_ar3 hx hy hz) (Nat.le_refl _) _ (Nat.le_refl _)
 rw [evTo_all, evalL_eq (vp_listOf c), co_of_listOf hc] at h1
 have h2 := vp_length (vp_listOf c)
 exact h1.mono (Nat.add_le_add_left (Nat.mul_le_mul_right _ h2) 1)
theorem Eval_x (v : Value) (c : Co) (L : Nat) (x y z : Rat) (a0 a1 a2 a3 a4 a5 a6 a7 a8 : Value) (w : World) (hT : TxF w) (h : PX w v c L) (hx : RatQ w (.agg #[a0, a1, a2]) x) (hy : RatQ w (.agg #[a3, a4, a5]) y) (hz : RatQ w (.agg #[a6, a7, a8]) z) (sx : Sz x 1) (sy : Sz y 1) (sz : Sz z 1) (hL : L ≤ 9000) :
  Calls Tryz.prog 30 #[v, .agg #[a0, a1, a2, a3, a4, a5, a6, a7, a8]] w (RetRat w (evalC c x y z)) := by
 have := Eval_p v (fun i => [a0, a1, a2, a3, a4, a5, a6, a7, a8].getD i undef) (ar3 x y z) (listOf c) L 1 (L + 24) w hT.tab (h.pi (Nat.le_refl _) (by omega)) (fun i hi => match i, hi with
  | 0, _ => hx.inp sx (by omega)
  | 1, _ => hy.inp sy (by omega)
  | 2, _ => hz.inp sz (by omega)) (sz_ar3 sx sy sz) (by omega) (by omega)
 rw [evalL_eq (vp_listOf c), co_of_listOf h.low] at this
 exact this
theorem deg_of_ne {c : Co} (hc : Low c) {a : Ex} (h : c a ≠ 0) : deg a ≤ degL (listOf c) := by
 have h5 : deg a ≤ 5 := Decidable.byContradiction (fun hn => h (hc a hn))
 exact deg_le_degL (m := (a, c a)) (mem_listOf.2 ⟨h5, h, rfl⟩)
set_option maxRecDepth 40000 in
set_option maxHeartbeats 16000000 in
theorem evaluates_law (A1 A2 : Option Addr) (n1 c1 n2 c2 : Nat) (l1 l2 : List Int) (k1 k2 k3 : Int) (w : World) (hT : TxF w) (h1 : Ints w l1 A1 n1 c1) (h2 : Ints w l2 A2 n2 c2)
  (r1 : ∀ x ∈ l1, -9223372036854775808 ≤ x ∧ x ≤ 9223372036854775807) (r2 : ∀ x ∈ l2, -9223372036854775808 ≤ x ∧ x ≤ 9223372036854775807) (q1 : -9223372036854775808 ≤ k1 ∧ k1 ≤ 9223372036854775807) (q2 : -9223372036854775808 ≤ k2 ∧ k2 ≤ 9223372036854775807) (q3 : -9223372036854775808 ≤ k3 ∧ k3 ≤ 9223372036854775807) :
  Calls Tryz.prog 9 #[.slice A1 n1 c1, .slice A2 n2 c2, .int .i64 k1, .int .i64 k2, .int .i64 k3] w (RetV w (.bool true)) := by
 have HT := Lib.hid hT
 have I1 := Lib.hid h1
 have I2 := Lib.hid h2
 have HR1 := Lib.hid r1
 have HR2 := Lib.hid r2
 have N1 := Lib.hid (fun W => Number_any k1 W q1.1 q1.2)
 have N2 := Lib.hid (fun W => Number_any k2 W q2.1 q2.2)
 have N3 := Lib.hid (fun W => Number_any k3 W q3.1 q3.2)
 clear hT h1 h2 r1 r2 q1 q2 q3
 go_enter Tryz.func9, Tryz.ntmps9
 go_wp2_with fail
 refine (poly_any A1 n1 c1 l1 w I1.out HR1.out).mono ?_
 rintro e1 w1 hret
 obtain ⟨p, cp, rfl, hp, hb⟩ := hret.px
 have P1 := Lib.hid hp
 have B1 := Lib.hid hb
 clear hp hb hret
 go_wp2_with fail
 refine (poly_any A2 n2 c2 l2 w1 (I2.out.below B1.out) HR2.out).mono ?_
 rintro e2 w2 hret
 obtain ⟨q, cq, rfl, hp, hb⟩ := hret.px
 have Q2 := Lib.hid hp
 have B2 := Lib.hid (B1.out.trans (hb.mono B1.out.size))
 have P2 := Lib.hid (P1.out.below hb)
 clear hp hb hret I1 I2 HR1 HR2 P1
 go_wp2_with fail
 refine (N1.out w2).mono ?_
 rintro e3 w3 ⟨v3, x, rfl, hx3, sx, hb3⟩
 obtain ⟨xb, xA, xn, xc, xB, xm, xd, rfl⟩ := hx3.agg
 have HSX := Lib.hid sx
 go_wp2_with fail
 refine (N2.out w3).mono ?_
 rintro e4 w4 ⟨v4, y, rfl, hy4, sy, hb4⟩
 obtain ⟨yb, yA, yn, yc, yB, ym, yd, rfl⟩ := hy4.agg
 have HSY := Lib.hid sy
 go_wp2_with fail
 refine (N3.out w4).mono ?_
 rintro e5 w5 ⟨v5, z, rfl, hz5, sz, hb5⟩
 obtain ⟨zb, zA, zn, zc, zB, zm, zd, rfl⟩ := hz5.agg
 have HSZ := Lib.hid sz
 obtain ⟨hbN, cN⟩ := blk1 w5 [.bool xb, .slice xA xn xc, .slice xB xm xd, .bool yb, .slice yA yn yc, .slice yB ym yd, .bool zb, .slice zA zn zc, .slice zB zm zd] 35
 have hb35 := hb3.trans ((hb4.trans (hb5.mono hb4.size)).mono hb3.size)
 have hb2N := hb35.trans (hbN.mono hb35.size)
 have HB0 := Lib.hid (B2.out.trans (hb2N.mono B2.out.size))
 have P0 := Lib.hid (P2.out.below hb2N)
 have Q0 := Lib.hid (Q2.out.below hb2N)
 have HC0 := Lib.hid cN
 have HX0 := Lib.hid (((hx3.below hb4).below hb5).below hbN)
 have HY0 := Lib.hid ((hy4.below hb5).below hbN)
 have HZ0 := Lib.hid (hz5.below hbN)
 have zc0 := cN.frozen
 clear hx3 hy4 hz5 hb3 hb4 hb5 hbN cN hb35 hb2N P2 Q2 B1 B2 sx sy sz N1 N2 N3 zc0
 have HSV := Lib.hid (sz_evalC P0.out.low P0.out.sz HSX.out HSY.out HSZ.out)
 have HSU := Lib.hid (sz_evalC Q0.out.low Q0.out.sz HSX.out HSY.out HSZ.out)
 have HSE : Hid (Sz (evalC (addC cp cq) x y z) 400000) := Lib.hid (by rw [evalC_add]; exact sz_add HSV.out HSU.out (by omega))
 have HSM : Hid (Sz (evalC (mulC cp cq) x y z) 400000) := Lib.hid ((sz_evalC (low_mul _ _) ((by
  have h9 := szL_mul (vp_listOf cp) (vp_listOf cq) Q0.out.sz P0.out.sz
  rw [co_of_listOf P0.out.low, co_of_listOf Q0.out.low] at h9
  have h8 := Nat.mul_le_mul_right (9 + 9 + 1) (vp_length (vp_listOf cp))
  exact h9.mono (show _ ≤ 1065 by omega)) : SzL (listOf (mulC cp cq)) 1065) HSX.out HSY.out HSZ.out).mono (by omega))
 go_wp2_with fail
 obtain ⟨WN, hWN⟩ : ∃ WN, w5.alloc (.cells #[.bool xb, .slice xA xn xc, .slice xB xm xd, .bool yb, .slice yA yn yc, .slice yB ym yd, .bool zb, .slice zA zn zc, .slice zB zm zd] 35) = WN := ⟨_, rfl⟩
 rw [hWN] at HB0 P0 Q0 HC0 HX0 HY0 HZ0 ⊢
 clear hWN
 have P := Lib.hid (P0.out.below (Below.refl _ _).drew)
 have Q := Lib.hid (Q0.out.below (Below.refl _ _).drew)
 have HA := Lib.hid HC0.out.drew
 have HAL := Lib.hid HA.out.lt
 have HX := Lib.hid (HX0.out.below (Below.refl _ _).drew)
 have HY := Lib.hid (HY0.out.below (Below.refl _ _).drew)
 have HZ := Lib.hid (HZ0.out.below (Below.refl _ _).drew)
 have HB := Lib.hid HB0.out.drew
 go_upto_region 3 with (fail)
 refine wp_region6 8 [27, 28, 29, 30, 31, 32, 14, 15] [.val (p), .val (.agg #[.bool xb, .slice xA xn xc, .slice xB xm xd, .bool yb, .slice yA yn yc, .slice yB ym yd, .bool zb, .slice zA zn zc, .slice zB zm zd]), .st (fun w a => RatQ w a (evalC cp x y z)), .val (q), .val (.agg #[.bool xb, .slice xA xn xc, .slice xB xm xd, .bool yb, .slice yA yn yc, .slice yB ym yd, .bool zb, .slice zA zn zc, .slice zB zm zd]), .st (fun w a => RatQ w a (evalC cq x y z)), .blk (WN.drew.heap.size) [.bool false, .slice none 0 0, .slice none 0 0] 25, .blk (WN.drew.heap.size) [.bool false, .slice none 0 0, .slice none 0 0] 25] (by kernel_rfl) (by kernel_rfl) (by kernel_rfl) (by kernel_rfl) ?stepa 2 (by kernel_rfl) _ rfl ?fina
 case stepa =>
  intro i hi oi ho f wx hB hdep K hK
  simp only [frontAct, List.foldl_cons, List.foldl_nil, List.setIfInBounds_toArray, List.set_cons_succ, List.set_cons_zero] at hK ⊢
  obtain ⟨x0, x1, x2, x3, x4, x5, x6, x7, x8⟩ := c9_of (HA.out.below hB HAL.out)
  obtain rfl | rfl | rfl | rfl | rfl | rfl | rfl | rfl : i = 0 ∨ i = 1 ∨ i = 2 ∨ i = 3 ∨ i = 4 ∨ i = 5 ∨ i = 6 ∨ i = 7 := by omega
  all_goals
   obtain rfl := Option.some.inj ho
   simp only [Act.put, List.setIfInBounds_toArray, List.set_cons_succ, List.set_cons_zero] at hK
  rotate_left
  rotate_left
  ·have e27 := dv6 (hdep ⟨0, .data⟩ (by simp) rfl) rfl
   have e28 := dv6 (hdep ⟨1, .data⟩ (by simp) rfl) rfl
   simp only [List.getD_cons_succ, List.getD_cons_zero] at e27 e28
   generalize f 27 = f27 at *; subst e27
   generalize f 28 = f28 at *; subst e28
   go_simp
   refine (Eval_x _ _ 9 x y z _ _ _ _ _ _ _ _ _ wx (HT.out.below (HB.out.trans (hB.mono HB.out.size))) (P.out.below hB) (HX.out.below hB) (HY.out.below hB) (HZ.out.below hB) HSX.out HSY.out HSZ.out (by omega)).mono ?_
   rintro e0 w' ⟨val, rfl, hr, hb⟩
   exact hK val w' (gs6 rfl (fun w2 h2 => hr.below h2)) hb (hB.trans (hb.mono hB.size)) (nb6 rfl rfl)
  rotate_left
  rotate_left
  ·have e30 := dv6 (hdep ⟨3, .data⟩ (by simp) rfl) rfl
   have e31 := dv6 (hdep ⟨4, .data⟩ (by simp) rfl) rfl
   simp only [List.getD_cons_succ, List.getD_cons_zero] at e30 e31
   generalize f 30 = f30 at *; subst e30
   generalize f 31 = f31 at *; subst e31
   go_simp
   refine (Eval_x _ _ 9 x y z _ _ _ _ _ _ _ _ _ wx (HT.out.below (HB.out.trans (hB.mono HB.out.size))) (Q.out.below hB) (HX.out.below hB) (HY.out.below hB) (HZ.out.below hB) HSX.out HSY.out HSZ.out (by omega)).mono ?_
   rintro e0 w' ⟨val, rfl, hr, hb⟩
   exact hK val w' (gs6 rfl (fun w2 h2 => hr.below h2)) hb (hB.trans (hb.mono hB.size)) (nb6 rfl rfl)
  ·have hbl := blk1 wx [.bool false, .slice none 0 0, .slice none 0 0] 25
   go_simp
   exact hK _ _ (gb6 rfl hB.size hbl.2) hbl.1 (hB.trans (hbl.1.mono hB.size)) (fun _ => ⟨_, rfl, Nat.le_refl _⟩)
  ·have hbl := blk1 wx [.bool false, .slice none 0 0, .slice none 0 0] 25
   go_simp
   exact hK _ _ (gb6 rfl hB.size hbl.2) hbl.1 (hB.trans (hbl.1.mono hB.size)) (fun _ => ⟨_, rfl, Nat.le_refl _⟩)
  all_goals go_simp
  all_goals exact hK _ wx (gv6 rfl) (Below.refl _ _) hB (nb6 rfl rfl)
 case fina =>
  intro f wx hB hG hne
  have e29 : RatQ wx (f 29) (evalC cp x y z) := ds6 (hG 2 (by decide)) rfl
  have e32 : RatQ wx (f 32) (evalC cq x y z) := ds6 (hG 5 (by decide)) rfl
  obtain ⟨g, e14, hgl, cs⟩ := db6 (a := f 14) (hG 6 (by decide)) rfl
  obtain ⟨h, e15, hhl, cs'⟩ := db6 (a := f 15) (hG 7 (by decide)) rfl
  have hgh : g ≠ h := by
   intro e
   exact hne 6 7 (by decide) (by decide) rfl rfl (by decide) (by show f 14 = f 15; rw [e14, e15, e])
  clear hG hne
  simp only [frontAct, List.foldl_cons, List.foldl_nil, List.setIfInBounds_toArray, List.set_cons_succ, List.set_cons_zero]
  generalize f 29 = f29 at *
  generalize f 32 = f32 at *
  generalize f 14 = f14 at *; subst e14
  generalize f 15 = f15 at *; subst e15
  obtain ⟨vb, vA, vn, vc, vB, vm, vd, rfl⟩ := e29.agg
  obtain ⟨ub, uA, un, uc, uB, um, ud, rfl⟩ := e32.agg
  have k1 : RB (setL wx g 0 [.bool vb, .slice vA vn vc, .slice vB vm vd]) g (evalC cp x y z) := ⟨vb, vA, vn, vc, vB, vm, vd, cs.setL _ rfl, e29.setL cs (by simp) _⟩
  have k2 : Cs (setL wx g 0 [.bool vb, .slice vA vn vc, .slice vB vm vd]) h [.bool false, .slice none 0 0, .slice none 0 0] 25 := cs'.farL (fun e => hgh e.symm) _ 0
  have k3 := e32.setL (k := 0) cs (by simp) [.bool vb, .slice vA vn vc, .slice vB vm vd]
  have HR1 : Hid (RB (setL (setL wx g 0 [.bool vb, .slice vA vn vc, .slice vB vm vd]) h 0 [.bool ub, .slice uA un uc, .slice uB um ud]) g (evalC cp x y z)) := Lib.hid (k1.keepC k2 hgh _)
  have HR2 : Hid (RB (setL (setL wx g 0 [.bool vb, .slice vA vn vc, .slice vB vm vd]) h 0 [.bool ub, .slice uA un uc, .slice uB um ud]) h (evalC cq x y z)) := Lib.hid ⟨ub, uA, un, uc, uB, um, ud, k2.setL _ rfl, k3.setL k2 (by simp) _⟩
  have HBN : Hid (Below WN.heap.size WN (setL (setL wx g 0 [.bool vb, .slice vA vn vc, .slice vB vm vd]) h 0 [.bool ub, .slice uA un uc, .slice uB um ud])) := Lib.hid (below_of_drew (below_setL hhl _ 0 (below_setL hgl _ 0 hB)))
  have f0 := cs.frozen 0
  have f1 := cs.frozen 1
  have f2 := cs.frozen 2
  obtain ⟨r0, r1, r2⟩ := cs.c3
  have k2' : Cs (((wx.setCell ⟨g, 0, none⟩ (.bool vb)).setCell ⟨g, 1, none⟩ (.slice vA vn vc)).setCell ⟨g, 2, none⟩ (.slice vB vm vd)) h [.bool false, .slice none 0 0, .slice none 0 0] 25 := k2
  have g0 := k2'.frozen 0
  have g1 := k2'.frozen 1
  have g2 := k2'.frozen 2
  obtain ⟨s0, s1, s2⟩ := k2'.c3
  have n1 := hgh
  clear e29 e32 cs cs' k1 k2 k2' k3 hB hgh hgl hhl
  refine wpAny_ready (rs := [8]) (by kernel_rfl) (by simp) ?_
  refine AllReady.cons rfl (fun K hK => ?_) AllReady.nil
  have HQ := Lib.hid hK
  clear hK
  go_simp
  refine HQ.out _ _ ?_
  clear HQ K
  refine wpAny_ready (rs := [9]) (by kernel_rfl) (by simp) ?_
  refine AllReady.cons rfl (fun K hK => ?_) AllReady.nil
  have HQ := Lib.hid hK
  clear hK
  go_simp
  refine HQ.out _ _ ?_
  clear HQ K
  refine wpAny_done (by kernel_rfl) ?_ _
  obtain ⟨W5, hW5⟩ : ∃ W5, setL (setL wx g 0 [.bool vb, .slice vA vn vc, .slice vB vm vd]) h 0 [.bool ub, .slice uA un uc, .slice uB um ud] = W5 := ⟨_, rfl⟩
  rw [hW5] at HR1 HR2 HBN
  have hW6 : (((((wx.setCell ⟨g, 0, none⟩ (.bool vb)).setCell ⟨g, 1, none⟩ (.slice vA vn vc)).setCell ⟨g, 2, none⟩ (.slice vB vm vd)).setCell ⟨h, 0, none⟩ (.bool ub)).setCell ⟨h, 1, none⟩ (.slice uA un uc)).setCell ⟨h, 2, none⟩ (.slice uB um ud) = W5 := hW5
  rw [hW6]
  clear hW5 hW6 f0 f1 f2 r0 r1 r2 g0 g1 g2 s0 s1 s2 HA HAL HX HY HZ
  have HB5 := Lib.hid (HB0.out.trans (HBN.out.mono HB0.out.size))
  have P5 := Lib.hid (P0.out.below HBN.out)
  have Q5 := Lib.hid (Q0.out.below HBN.out)
  have HC5 := Lib.hid (HC0.out.below HBN.out HC0.out.lt)
  have HX5 := Lib.hid (HX0.out.below HBN.out)
  have HY5 := Lib.hid (HY0.out.below HBN.out)
  have HZ5 := Lib.hid (HZ0.out.below HBN.out)
  clear P0 Q0 HC0 HX0 HY0 HZ0 HB0 HBN P Q HB
  obtain ⟨vb, vA, vn, vc, vB, vm, vd, hv1, hv2⟩ := HR1.out
  obtain ⟨ub, uA, un, uc, uB, um, ud, hu1, hu2⟩ := HR2.out
  have HV1 := Lib.hid hv1
  have HV2 := Lib.hid hv2
  have HU1 := Lib.hid hu1
  have HU2 := Lib.hid hu2
  clear hv1 hv2 hu1 hu2 HR1 HR2
  have P := Lib.hid (P5.out.below (Below.refl _ _).drew)
  have Q := Lib.hid (Q5.out.below (Below.refl _ _).drew)
  have HA := Lib.hid HC5.out.drew
  have HAL := Lib.hid HA.out.lt
  have HX := Lib.hid (HX5.out.below (Below.refl _ _).drew)
  have HY := Lib.hid (HY5.out.below (Below.refl _ _).drew)
  have HZ := Lib.hid (HZ5.out.below (Below.refl _ _).drew)
  have HV := Lib.hid HV1.out.drew
  have HVL := Lib.hid HV.out.lt
  have HVQ := Lib.hid (HV2.out.below (Below.refl _ _).drew)
  have HU := Lib.hid HU1.out.drew
  have HUL := Lib.hid HU.out.lt
  have HUQ := Lib.hid (HU2.out.below (Below.refl _ _).drew)
  have HB := Lib.hid HB5.out.drew
  go_upto_region 4 with (fail)
  refine wp_region6 9 [33, 34, 35, 36, 37, 38, 39, 40, 41] [.val (p), .val (q), .st (fun w a => PX w a (addC cp cq) 21), .val (.agg #[.bool xb, .slice xA xn xc, .slice xB xm xd, .bool yb, .slice yA yn yc, .slice yB ym yd, .bool zb, .slice zA zn zc, .slice zB zm zd]), .st (fun w a => RatQ w a (evalC (addC cp cq) x y z)), .val (.agg #[.bool vb, .slice vA vn vc, .slice vB vm vd]), .val (.agg #[.bool ub, .slice uA un uc, .slice uB um ud]), .st (fun w a => RatQ w a (evalC cp x y z + evalC cq x y z)), .val (.bool true)] (by kernel_rfl) (by kernel_rfl) (by kernel_rfl) (by kernel_rfl) ?stepb 1 (by kernel_rfl) _ rfl ?finb
  case stepb =>
   intro i hi oi ho f wx hB hdep K hK
   simp only [frontAct, List.foldl_cons, List.foldl_nil, List.setIfInBounds_toArray, List.set_cons_succ, List.set_cons_zero] at hK ⊢
   obtain ⟨x0, x1, x2, x3, x4, x5, x6, x7, x8⟩ := c9_of (HA.out.below hB HAL.out)
   obtain ⟨v0, v1, v2⟩ := (HV.out.below hB HVL.out).c3
   obtain ⟨u0, u1, u2⟩ := (HU.out.below hB HUL.out).c3
   obtain rfl | rfl | rfl | rfl | rfl | rfl | rfl | rfl | rfl : i = 0 ∨ i = 1 ∨ i = 2 ∨ i = 3 ∨ i = 4 ∨ i = 5 ∨ i = 6 ∨ i = 7 ∨ i = 8 := by omega
   all_goals
    obtain rfl := Option.some.inj ho
    simp only [Act.put, List.setIfInBounds_toArray, List.set_cons_succ, List.set_cons_zero] at hK
   rotate_left
   rotate_left
   ·have e33 := dv6 (hdep ⟨0, .data⟩ (by simp) rfl) rfl
    have e34 := dv6 (hdep ⟨1, .data⟩ (by simp) rfl) rfl
    simp only [List.getD_cons_succ, List.getD_cons_zero] at e33 e34
    generalize f 33 = f33 at *; subst e33
    generalize f 34 = f34 at *; subst e34
    go_simp
    refine (Add_x _ _ cp cq 9 9 wx (HT.out.below (HB.out.trans (hB.mono HB.out.size))) (P.out.below hB) (Q.out.below hB) (by omega) (by omega)).mono ?_
    rintro e0 w' ⟨val, rfl, hr, hb⟩
    exact hK val w' (gs6 rfl (fun w2 h2 => hr.below h2)) hb (hB.trans (hb.mono hB.size)) (nb6 rfl rfl)
   rotate_left
   ·have e35 := ds6 (hdep ⟨2, .data⟩ (by simp) rfl) rfl
    have e36 := dv6 (hdep ⟨3, .data⟩ (by simp) rfl) rfl
    simp only [List.getD_cons_succ, List.getD_cons_zero] at e35 e36
    replace e35 := (show PX wx (f 35) (addC cp cq) 21 from e35)
    generalize f 35 = f35 at *
    generalize f 36 = f36 at *; subst e36
    go_simp
    refine (Eval_x _ _ 21 x y z _ _ _ _ _ _ _ _ _ wx (HT.out.below (HB.out.trans (hB.mono HB.out.size))) e35 (HX.out.below hB) (HY.out.below hB) (HZ.out.below hB) HSX.out HSY.out HSZ.out (by omega)).mono ?_
    rintro e0 w' ⟨val, rfl, hr, hb⟩
    exact hK val w' (gs6 rfl (fun w2 h2 => hr.below h2)) hb (hB.trans (hb.mono hB.size)) (nb6 rfl rfl)
   rotate_left
   rotate_left
   ·have e38 := dv6 (hdep ⟨5, .data⟩ (by simp) rfl) rfl
    have e39 := dv6 (hdep ⟨6, .data⟩ (by simp) rfl) rfl
    simp only [List.getD_cons_succ, List.getD_cons_zero] at e38 e39
    generalize f 38 = f38 at *; subst e38
    generalize f 39 = f39 at *; subst e39
    go_simp
    refine (r_Add _ _ _ _ wx ((HVQ.out.below hB).inr HSV.out (by omega)) ((HUQ.out.below hB).inr HSU.out (by omega)) (HSV.out.mono (by omega)) (HSU.out.mono (by omega))).mono ?_
    rintro e0 w' ⟨val, rfl, hr, hb⟩
    exact hK val w' (gs6 rfl (fun w2 h2 => hr.below h2)) hb (hB.trans (hb.mono hB.size)) (nb6 rfl rfl)
   ·have e37 := ds6 (hdep ⟨4, .data⟩ (by simp) rfl) rfl
    have e40 := ds6 (hdep ⟨7, .data⟩ (by simp) rfl) rfl
    replace e37 := (show RatQ wx (f 37) (evalC (addC cp cq) x y z) from e37)
    generalize f 37 = f37 at *
    replace e40 := (show RatQ wx (f 40) (evalC cp x y z + evalC cq x y z) from e40)
    generalize f 40 = f40 at *
    go_simp
    refine (r_Same_true _ _ _ _ wx 400000 e37 e40 HSE.out (by omega) (evalC_add _ _ _ _ _)).mono ?_
    rintro e0 w' ⟨rfl, hb⟩
    exact hK (.bool true) w' (gv6 rfl) hb (hB.trans (hb.mono hB.size)) (nb6 rfl rfl)
   all_goals go_simp
   all_goals exact hK _ wx (gv6 rfl) (Below.refl _ _) hB (nb6 rfl rfl)
  case finb =>
   intro f wx hB hG hne
   have e41 := dv6 (a := f 41) (hG 8 (by decide)) rfl
   clear hG hne
   simp only [frontAct, List.foldl_cons, List.foldl_nil, List.setIfInBounds_toArray, List.set_cons_succ, List.set_cons_zero]
   generalize f 41 = f41 at *; subst e41
   have HBN := Lib.hid (below_of_drew hB)
   clear hB
   refine wpAny_ready (rs := [9]) (by kernel_rfl) (by simp) ?_
   refine AllReady.cons rfl (fun K hK => ?_) AllReady.nil
   have HQ := Lib.hid hK
   clear hK
   go_simp
   refine HQ.out _ _ ?_
   clear HQ K
   refine wpAny_done (by kernel_rfl) ?_ _
   have HB6 := Lib.hid (HB5.out.trans (HBN.out.mono HB5.out.size))
   have P6 := Lib.hid (P5.out.below HBN.out)
   have Q6 := Lib.hid (Q5.out.below HBN.out)
   have HC6 := Lib.hid (HC5.out.below HBN.out HC5.out.lt)
   have HX6 := Lib.hid (HX5.out.below HBN.out)
   have HY6 := Lib.hid (HY5.out.below HBN.out)
   have HZ6 := Lib.hid (HZ5.out.below HBN.out)
   have HV6 := Lib.hid (HV1.out.below HBN.out HV1.out.lt)
   have HVQ6 := Lib.hid (HV2.out.below HBN.out)
   have HU6 := Lib.hid (HU1.out.below HBN.out HU1.out.lt)
   have HUQ6 := Lib.hid (HU2.out.below HBN.out)
   clear P Q HA HAL HX HY HZ HV HVL HVQ HU HUL HUQ HB P5 Q5 HC5 HX5 HY5 HZ5 HV1 HV2 HU1 HU2 HB5 HBN
   go_wp2_with fail
   refine (degree_any p (listOf cp) _ P6.out.pol (vp_listOf _) _ (Lib.hid rfl)).mono ?_
   rintro e7 w7 ⟨rfl, hb7⟩
   go_wp2_with fail
   refine (degree_any q (listOf cq) _ (Q6.out.below hb7).pol (vp_listOf _) _ (Lib.hid rfl)).mono ?_
   rintro e8 w8 ⟨rfl, hb8⟩
   have hb68 := hb7.trans (hb8.mono hb7.size)
   have hd1 := degTo_le (vp_listOf cp) (listOf cp).length
   have hd2 := degTo_le (vp_listOf cq) (listOf cq).length
   have hd1 : degL (listOf cp) ≤ 5 := hd1
   have hd2 : degL (listOf cq) ≤ 5 := hd2
   obtain ⟨D1, hD1⟩ : ∃ D1, degL (listOf cp) = D1 := ⟨_, rfl⟩
   obtain ⟨D2, hD2⟩ : ∃ D2, degL (listOf cq) = D2 := ⟨_, rfl⟩
   rw [hD1] at hd1 ⊢
   rw [hD2] at hd2 ⊢
   have hwd : IntKind.i64.wrap ((D1 : Int) + (D2 : Int)) = (D1 : Int) + (D2 : Int) := IntWalk.i64_in _ (by omega)
   have HB8 := Lib.hid (HB6.out.trans (hb68.mono HB6.out.size))
   have P8 := Lib.hid (P6.out.below hb68)
   have Q8 := Lib.hid (Q6.out.below hb68)
   have HC8 := Lib.hid (HC6.out.below hb68 HC6.out.lt)
   have HX8 := Lib.hid (HX6.out.below hb68)
   have HY8 := Lib.hid (HY6.out.below hb68)
   have HZ8 := Lib.hid (HZ6.out.below hb68)
   have HV8 := Lib.hid (HV6.out.below hb68 HV6.out.lt)
   have HVQ8 := Lib.hid (HVQ6.out.below hb68)
   have HU8 := Lib.hid (HU6.out.below hb68 HU6.out.lt)
   have HUQ8 := Lib.hid (HUQ6.out.below hb68)
   have HDD1 := Lib.hid hD1
   have HDD2 := Lib.hid hD2
   clear hb7 hb8 hb68 P6 Q6 HC6 HX6 HY6 HZ6 HV6 HVQ6 HU6 HUQ6 hD1 hD2
   by_cases hdd : (5 : Int) < (D1 : Int) + (D2 : Int)
   ·go_wp2_with fail
    refine (awake2_any w8 (HT.out.below HB8.out)).mono ?_
    rintro e9 w9 ⟨rfl, hb9⟩
    have HB9 := Lib.hid (HB8.out.trans (hb9.mono HB8.out.size))
    clear hb9
    go_wp2_with fail
    go_ret
    exact ⟨rfl, HB9.out⟩
   ·have HEM : Hid (evalC (mulC cp cq) x y z = evalC cp x y z * evalC cq x y z) := Lib.hid (evalC_mul _ _ _ _ _ (fun a b ha hb => by
     have h1 := deg_of_ne P8.out.low ha
     have h2 := deg_of_ne Q8.out.low hb
     rw [HDD1.out] at h1
     rw [HDD2.out] at h2
     omega))
    have P := Lib.hid (P8.out.below (Below.refl _ _).drew)
    have Q := Lib.hid (Q8.out.below (Below.refl _ _).drew)
    have HA := Lib.hid HC8.out.drew
    have HAL := Lib.hid HA.out.lt
    have HX := Lib.hid (HX8.out.below (Below.refl _ _).drew)
    have HY := Lib.hid (HY8.out.below (Below.refl _ _).drew)
    have HZ := Lib.hid (HZ8.out.below (Below.refl _ _).drew)
    have HV := Lib.hid HV8.out.drew
    have HVL := Lib.hid HV.out.lt
    have HVQ := Lib.hid (HVQ8.out.below (Below.refl _ _).drew)
    have HU := Lib.hid HU8.out.drew
    have HUL := Lib.hid HU.out.lt
    have HUQ := Lib.hid (HUQ8.out.below (Below.refl _ _).drew)
    have HB := Lib.hid HB8.out.drew
    go_upto_region 8 with (fail)
    refine wp_region6 12 [50, 51, 52, 53, 54, 55, 56, 57, 58, 59, 60, 61] [.val (.bool true), .val (.bool true), .val (p), .val (q), .st (fun w a => PX w a (mulC cp cq) 1065), .val (.agg #[.bool xb, .slice xA xn xc, .slice xB xm xd, .bool yb, .slice yA yn yc, .slice yB ym yd, .bool zb, .slice zA zn zc, .slice zB zm zd]), .st (fun w a => RatQ w a (evalC (mulC cp cq) x y z)), .val (.agg #[.bool vb, .slice vA vn vc, .slice vB vm vd]), .val (.agg #[.bool ub, .slice uA un uc, .slice uB um ud]), .st (fun w a => RatQ w a (evalC cp x y z * evalC cq x y z)), .val (.bool true), .val (.bool true)] (by kernel_rfl) (by kernel_rfl) (by kernel_rfl) (by kernel_rfl) ?stepc 1 (by kernel_rfl) _ rfl ?finc
    case stepc =>
     intro i hi oi ho f wx hB hdep K hK
     simp only [frontAct, List.foldl_cons, List.foldl_nil, List.setIfInBounds_toArray, List.set_cons_succ, List.set_cons_zero] at hK ⊢
     obtain ⟨x0, x1, x2, x3, x4, x5, x6, x7, x8⟩ := c9_of (HA.out.below hB HAL.out)
     obtain ⟨v0, v1, v2⟩ := (HV.out.below hB HVL.out).c3
     obtain ⟨u0, u1, u2⟩ := (HU.out.below hB HUL.out).c3
     obtain rfl | rfl | rfl | rfl | rfl | rfl | rfl | rfl | rfl | rfl | rfl | rfl : i = 0 ∨ i = 1 ∨ i = 2 ∨ i = 3 ∨ i = 4 ∨ i = 5 ∨ i = 6 ∨ i = 7 ∨ i = 8 ∨ i = 9 ∨ i = 10 ∨ i = 11 := by omega
     all_goals
      obtain rfl := Option.some.inj ho
      simp only [Act.put, List.setIfInBounds_toArray, List.set_cons_succ, List.set_cons_zero] at hK
     ·go_simp
      refine (awake2_any wx (HT.out.below (HB.out.trans (hB.mono HB.out.size)))).mono ?_
      rintro e0 w' ⟨rfl, hb⟩
      exact hK (.bool true) w' (gv6 rfl) hb (hB.trans (hb.mono hB.size)) (nb6 rfl rfl)
     have e50 := dv6 (hdep ⟨0, .data⟩ (by simp) rfl) rfl
     simp only [List.getD_cons_succ, List.getD_cons_zero] at e50
     generalize f 50 = f50 at *; subst e50
     rotate_left
     have e51 := dv6 (hdep ⟨1, .guard⟩ (by simp) rfl) rfl
     simp only [List.getD_cons_succ, List.getD_cons_zero] at e51
     generalize f 51 = f51 at *; subst e51
     rotate_left
     have e51 := dv6 (hdep ⟨1, .guard⟩ (by simp) rfl) rfl
     simp only [List.getD_cons_succ, List.getD_cons_zero] at e51
     generalize f 51 = f51 at *; subst e51
     rotate_left
     ·have e51 := dv6 (hdep ⟨1, .guard⟩ (by simp) rfl) rfl
      have e52 := dv6 (hdep ⟨2, .data⟩ (by simp) rfl) rfl
      have e53 := dv6 (hdep ⟨3, .data⟩ (by simp) rfl) rfl
      simp only [List.getD_cons_succ, List.getD_cons_zero] at e51 e52 e53
      generalize f 51 = f51 at *; subst e51
      generalize f 52 = f52 at *; subst e52
      generalize f 53 = f53 at *; subst e53
      go_simp
      refine (Mul_x _ _ cp cq 9 9 wx (HT.out.below (HB.out.trans (hB.mono HB.out.size))) (P.out.below hB) (Q.out.below hB) (by omega)).mono ?_
      rintro e0 w' ⟨val, rfl, hr, hb⟩
      exact hK val w' (gs6 rfl (fun w2 h2 => hr.below h2)) hb (hB.trans (hb.mono hB.size)) (nb6 rfl rfl)
     have e51 := dv6 (hdep ⟨1, .guard⟩ (by simp) rfl) rfl
     simp only [List.getD_cons_succ, List.getD_cons_zero] at e51
     generalize f 51 = f51 at *; subst e51
     rotate_left
     ·have e51 := dv6 (hdep ⟨1, .guard⟩ (by simp) rfl) rfl
      have e54 := ds6 (hdep ⟨4, .data⟩ (by simp) rfl) rfl
      have e55 := dv6 (hdep ⟨5, .data⟩ (by simp) rfl) rfl
      simp only [List.getD_cons_succ, List.getD_cons_zero] at e51 e54 e55
      generalize f 51 = f51 at *; subst e51
      replace e54 := (show PX wx (f 54) (mulC cp cq) 1065 from e54)
      generalize f 54 = f54 at *
      generalize f 55 = f55 at *; subst e55
      go_simp
      refine (Eval_x _ _ 1065 x y z _ _ _ _ _ _ _ _ _ wx (HT.out.below (HB.out.trans (hB.mono HB.out.size))) e54 (HX.out.below hB) (HY.out.below hB) (HZ.out.below hB) HSX.out HSY.out HSZ.out (by omega)).mono ?_
      rintro e0 w' ⟨val, rfl, hr, hb⟩
      exact hK val w' (gs6 rfl (fun w2 h2 => hr.below h2)) hb (hB.trans (hb.mono hB.size)) (nb6 rfl rfl)
     have e51 := dv6 (hdep ⟨1, .guard⟩ (by simp) rfl) rfl
     simp only [List.getD_cons_succ, List.getD_cons_zero] at e51
     generalize f 51 = f51 at *; subst e51
     rotate_left
     have e51 := dv6 (hdep ⟨1, .guard⟩ (by simp) rfl) rfl
     simp only [List.getD_cons_succ, List.getD_cons_zero] at e51
     generalize f 51 = f51 at *; subst e51
     rotate_left
     ·have e51 := dv6 (hdep ⟨1, .guard⟩ (by simp) rfl) rfl
      have e57 := dv6 (hdep ⟨7, .data⟩ (by simp) rfl) rfl
      have e58 := dv6 (hdep ⟨8, .data⟩ (by simp) rfl) rfl
      simp only [List.getD_cons_succ, List.getD_cons_zero] at e51 e57 e58
      generalize f 51 = f51 at *; subst e51
      generalize f 57 = f57 at *; subst e57
      generalize f 58 = f58 at *; subst e58
      go_simp
      refine (r_Mul _ _ _ _ wx ((HVQ.out.below hB).inr HSV.out (by omega)) ((HUQ.out.below hB).inr HSU.out (by omega)) (HSV.out.mono (by omega)) (HSU.out.mono (by omega))).mono ?_
      rintro e0 w' ⟨val, rfl, hr, hb⟩
      exact hK val w' (gs6 rfl (fun w2 h2 => hr.below h2)) hb (hB.trans (hb.mono hB.size)) (nb6 rfl rfl)
     ·have e51 := dv6 (hdep ⟨1, .guard⟩ (by simp) rfl) rfl
      have e56 := ds6 (hdep ⟨6, .data⟩ (by simp) rfl) rfl
      have e59 := ds6 (hdep ⟨9, .data⟩ (by simp) rfl) rfl
      simp only [List.getD_cons_succ, List.getD_cons_zero] at e51 e56 e59
      generalize f 51 = f51 at *; subst e51
      replace e56 := (show RatQ wx (f 56) (evalC (mulC cp cq) x y z) from e56)
      generalize f 56 = f56 at *
      replace e59 := (show RatQ wx (f 59) (evalC cp x y z * evalC cq x y z) from e59)
      generalize f 59 = f59 at *
      go_simp
      refine (r_Same_true _ _ _ _ wx 400000 e56 e59 HSM.out (by omega) HEM.out).mono ?_
      rintro e0 w' ⟨rfl, hb⟩
      exact hK (.bool true) w' (gv6 rfl) hb (hB.trans (hb.mono hB.size)) (nb6 rfl rfl)
     have e51 := dv6 (hdep ⟨1, .data⟩ (by simp) rfl) rfl
     have e60 := dv6 (hdep ⟨10, .data⟩ (by simp) rfl) rfl
     simp only [List.getD_cons_succ, List.getD_cons_zero] at e51 e60
     generalize f 51 = f51 at *; subst e51
     generalize f 60 = f60 at *; subst e60
     rotate_left
     all_goals go_simp
     all_goals exact hK _ wx (gv6 rfl) (Below.refl _ _) hB (nb6 rfl rfl)
    case finc =>
     intro f wx hB hG hne
     have e61 := dv6 (a := f 61) (hG 11 (by decide)) rfl
     clear hG hne
     simp only [frontAct, List.foldl_cons, List.foldl_nil, List.setIfInBounds_toArray, List.set_cons_succ, List.set_cons_zero]
     generalize f 61 = f61 at *; subst e61
     have HEND := Lib.hid (HB.out.trans (hB.mono HB.out.size))
     clear hB
     refine wpAny_ready (rs := [12]) (by kernel_rfl) (by simp) ?_
     refine AllReady.cons rfl (fun K hK => ?_) AllReady.nil
     have HQ := Lib.hid hK
     clear hK
     go_simp
     refine HQ.out _ _ ?_
     clear HQ K
     refine wpAny_done (by kernel_rfl) ?_ _
     go_wp2_with fail
     go_ret
     exact ⟨rfl, HEND.out⟩
end Go.Proofs.YtifeekomegoijaaGreatDoor
