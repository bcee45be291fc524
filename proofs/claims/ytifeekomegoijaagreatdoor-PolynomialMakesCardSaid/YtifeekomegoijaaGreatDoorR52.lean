/- texts -/
import Derived.Test.YtifeekomegoijaaGreatDoorR49
set_option linter.unusedVariables false
set_option linter.unusedSimpArgs false
namespace Go.Proofs.YtifeekomegoijaaGreatDoor
open Go.RowKit

set_option maxRecDepth 40000 in
set_option maxHeartbeats 16000000 in
theorem makes2_law (A1 : Option Addr) (n1 c1 : Nat) (l1 : List FldM) (v2 : Value) (cb : Bool) (aq bq : List Nat) (i : Int) (xz0 xz1 xz2 yz0 yz1 yz2 zz0 zz1 zz2 : Value) (xb : Bool) (ax bx : List Nat) (yb : Bool) (ay by_ : List Nat) (zb : Bool) (az bz : List Nat) (w : World) (hT : TxF w)
  (h1 : PRaw w A1 n1 c1 l1) (h2 : Fld w v2 cb aq bq) (hi1 : -9223372036854775808 ≤ i) (hi2 : i ≤ 9223372036854775807) (hx : Fld w (.agg #[xz0, xz1, xz2]) xb ax bx) (hy : Fld w (.agg #[yz0, yz1, yz2]) yb ay by_) (hz : Fld w (.agg #[zz0, zz1, zz2]) zb az bz) :
  Calls Tryz.prog 4 #[.slice A1 n1 c1, v2, .int .i64 i, .agg #[xz0, xz1, xz2, yz0, yz1, yz2, zz0, zz1, zz2]] w (RetV w (.bool true)) := by
 obtain ⟨cA, cn, cc, cB, cm, cd, rfl⟩ := h2.agg
 obtain ⟨hbN, cN⟩ := blk1 w [.bool cb, .slice cA cn cc, .slice cB cm cd] 25
 obtain ⟨hbM, cM⟩ := blk1 (w.alloc (.cells #[.bool cb, .slice cA cn cc, .slice cB cm cd] 25)) [xz0, xz1, xz2, yz0, yz1, yz2, zz0, zz1, zz2] 35
 have hbNM := hbN.trans (hbM.mono hbN.size)
 have HT := Lib.hid hT
 have HB0 := Lib.hid hbNM
 have H1 := Lib.hid (h1.below hbNM)
 have H2 := Lib.hid (h2.below hbNM)
 have HX := Lib.hid (hx.below hbNM)
 have HY := Lib.hid (hy.below hbNM)
 have HZ := Lib.hid (hz.below hbNM)
 have HC0 := Lib.hid (cN.below hbM cN.lt)
 have HA0 := Lib.hid cM
 obtain ⟨V1, hV1⟩ : ∃ V, lightL l1 = V := ⟨_, rfl⟩
 obtain ⟨V2, hV2⟩ : ∃ V, lgt2q aq bq = V := ⟨_, rfl⟩
 obtain ⟨V3, hV3⟩ : ∃ V, lgt2q ax bx = V := ⟨_, rfl⟩
 obtain ⟨V4, hV4⟩ : ∃ V, lgt2q ay by_ = V := ⟨_, rfl⟩
 obtain ⟨V5, hV5⟩ : ∃ V, lgt2q az bz = V := ⟨_, rfl⟩
 have HV1 := Lib.hid hV1
 have HV2 := Lib.hid hV2
 have HV3 := Lib.hid hV3
 have HV4 := Lib.hid hV4
 have HV5 := Lib.hid hV5
 clear hT h1 h2 hx hy hz hV1 hV2 hV3 hV4 hV5 hbN cN hbM cM hbNM
 go_enter Tryz.func4, Tryz.ntmps4
 go_wp2_with fail
 obtain ⟨W0, hW0⟩ : ∃ W0, (w.alloc (.cells #[.bool cb, .slice cA cn cc, .slice cB cm cd] 25)).alloc (.cells #[xz0, xz1, xz2, yz0, yz1, yz2, zz0, zz1, zz2] 35) = W0 := ⟨_, rfl⟩
 obtain ⟨gA, hgA⟩ : ∃ gA, (w.alloc (.cells #[.bool cb, .slice cA cn cc, .slice cB cm cd] 25)).heap.size = gA := ⟨_, rfl⟩
 have hgA2 : w.heap.size + 1 = gA := by rw [← hgA]; simp
 rw [hW0] at HB0 H1 H2 HX HY HZ HC0 HA0 ⊢
 rw [hgA] at HA0
 try rw [hgA2]
 clear hW0 hgA hgA2
 refine (light2_any A1 n1 c1 l1 W0 H1.out V1 HV1).mono ?_
 rintro e1 w1 ⟨rfl, hb1⟩
 have HB1 := Lib.hid (HB0.out.trans (hb1.mono HB0.out.size))
 have K1 := Lib.hid hb1
 clear hb1
 cases V1
 ·go_wp2_with fail
  refine (awake2_any w1 (HT.out.below HB1.out)).mono ?_
  rintro e9 w9 ⟨rfl, hb9⟩
  have HB9 := Lib.hid (HB1.out.trans (hb9.mono HB1.out.size))
  clear hb9
  go_wp2_with fail
  go_ret
  exact ⟨rfl, HB9.out⟩
 obtain ⟨y0, y1, y2⟩ := (HC0.out.below K1.out HC0.out.lt).c3
 obtain ⟨a0, a1, a2, a3, a4, a5, a6, a7, a8⟩ := c9_of (HA0.out.below K1.out HA0.out.lt)
 go_wp2_with fail
 clear y0 y1 y2 a0 a1 a2 a3 a4 a5 a6 a7 a8
 refine (light2q _ cb aq bq w1 (H2.out.below K1.out) V2 HV2).mono ?_
 rintro e2 w2 ⟨rfl, hb⟩
 have HB2 := Lib.hid (HB1.out.trans (hb.mono HB1.out.size))
 have K2 := Lib.hid (K1.out.trans (hb.mono K1.out.size))
 clear hb
 cases V2
 ·go_wp2_with fail
  refine (awake2_any w2 (HT.out.below HB2.out)).mono ?_
  rintro e9 w9 ⟨rfl, hb9⟩
  have HB9 := Lib.hid (HB2.out.trans (hb9.mono HB2.out.size))
  clear hb9
  go_wp2_with fail
  go_ret
  exact ⟨rfl, HB9.out⟩
 obtain ⟨y0, y1, y2⟩ := (HC0.out.below K2.out HC0.out.lt).c3
 obtain ⟨a0, a1, a2, a3, a4, a5, a6, a7, a8⟩ := c9_of (HA0.out.below K2.out HA0.out.lt)
 go_wp2_with fail
 clear y0 y1 y2 a0 a1 a2 a3 a4 a5 a6 a7 a8
 refine (light2q _ xb ax bx w2 (HX.out.below K2.out) V3 HV3).mono ?_
 rintro e3 w3 ⟨rfl, hb⟩
 have HB3 := Lib.hid (HB2.out.trans (hb.mono HB2.out.size))
 have K3 := Lib.hid (K2.out.trans (hb.mono K2.out.size))
 clear hb
 cases V3
 ·go_wp2_with fail
  refine (awake2_any w3 (HT.out.below HB3.out)).mono ?_
  rintro e9 w9 ⟨rfl, hb9⟩
  have HB9 := Lib.hid (HB3.out.trans (hb9.mono HB3.out.size))
  clear hb9
  go_wp2_with fail
  go_ret
  exact ⟨rfl, HB9.out⟩
 obtain ⟨y0, y1, y2⟩ := (HC0.out.below K3.out HC0.out.lt).c3
 obtain ⟨a0, a1, a2, a3, a4, a5, a6, a7, a8⟩ := c9_of (HA0.out.below K3.out HA0.out.lt)
 go_wp2_with fail
 clear y0 y1 y2 a0 a1 a2 a3 a4 a5 a6 a7 a8
 refine (light2q _ yb ay by_ w3 (HY.out.below K3.out) V4 HV4).mono ?_
 rintro e4 w4 ⟨rfl, hb⟩
 have HB4 := Lib.hid (HB3.out.trans (hb.mono HB3.out.size))
 have K4 := Lib.hid (K3.out.trans (hb.mono K3.out.size))
 clear hb
 cases V4
 ·go_wp2_with fail
  refine (awake2_any w4 (HT.out.below HB4.out)).mono ?_
  rintro e9 w9 ⟨rfl, hb9⟩
  have HB9 := Lib.hid (HB4.out.trans (hb9.mono HB4.out.size))
  clear hb9
  go_wp2_with fail
  go_ret
  exact ⟨rfl, HB9.out⟩
 obtain ⟨y0, y1, y2⟩ := (HC0.out.below K4.out HC0.out.lt).c3
 obtain ⟨a0, a1, a2, a3, a4, a5, a6, a7, a8⟩ := c9_of (HA0.out.below K4.out HA0.out.lt)
 go_wp2_with fail
 clear y0 y1 y2 a0 a1 a2 a3 a4 a5 a6 a7 a8
 refine (light2q _ zb az bz w4 (HZ.out.below K4.out) V5 HV5).mono ?_
 rintro e5 w5 ⟨rfl, hb⟩
 have HB5 := Lib.hid (HB4.out.trans (hb.mono HB4.out.size))
 have K5 := Lib.hid (K4.out.trans (hb.mono K4.out.size))
 clear hb
 cases V5
 ·go_wp2_with fail
  refine (awake2_any w5 (HT.out.below HB5.out)).mono ?_
  rintro e9 w9 ⟨rfl, hb9⟩
  have HB9 := Lib.hid (HB5.out.trans (hb9.mono HB5.out.size))
  clear hb9
  go_wp2_with fail
  go_ret
  exact ⟨rfl, HB9.out⟩
 have HC := Lib.hid ((HC0.out.below K5.out HC0.out.lt).drew)
 have HCL := Lib.hid HC.out.lt
 have HA := Lib.hid ((HA0.out.below K5.out HA0.out.lt).drew)
 have HAL := Lib.hid HA.out.lt
 have J := Lib.hid (K5.out.drew)
 have HB := Lib.hid HB5.out.drew
 have G1 := Lib.hid ((H1.out.below J.out).gp HV1.out)
 have GX := Lib.hid (gq_of (H2.out.below J.out) HV2.out)
 have GA := Lib.hid (gq_of (HX.out.below J.out) HV3.out)
 have GB := Lib.hid (gq_of (HY.out.below J.out) HV4.out)
 have GC := Lib.hid (gq_of (HZ.out.below J.out) HV5.out)
 obtain ⟨p, hp⟩ : ∃ p, polL l1 = p := ⟨_, rfl⟩
 obtain ⟨q, hq⟩ : ∃ q, fq cb aq bq = q := ⟨_, rfl⟩
 obtain ⟨x, hx⟩ : ∃ x, fq xb ax bx = x := ⟨_, rfl⟩
 obtain ⟨y, hy⟩ : ∃ y, fq yb ay by_ = y := ⟨_, rfl⟩
 obtain ⟨z, hz⟩ : ∃ z, fq zb az bz = z := ⟨_, rfl⟩
 rw [hp] at G1
 rw [hq] at GX
 rw [hx] at GA
 rw [hy] at GB
 rw [hz] at GC
 have HSE := Lib.hid (sz_evalG G1.out.pi.vp G1.out.pi.szl GA.out.sz GB.out.sz GC.out.sz)
 obtain ⟨v1, hv1⟩ : ∃ v1, Value.slice A1 n1 c1 = v1 := ⟨_, rfl⟩
 rw [hv1] at G1 ⊢
 clear hp hq hx hy hz hv1 J K1 K2 K3 K4 K5 H1 H2 HX HY HZ HV1 HV2 HV3 HV4 HV5 HB0 HB1 HB2 HB3 HB4 HC0 HA0
 go_upto_region 3 with (fail)
 refine wp_region6 24 (36 :: 37 :: 38 :: 39 :: 40 :: 41 :: 42 :: 43 :: 44 :: 45 :: 46 :: 47 :: 48 :: 49 :: 50 :: 51 :: 52 :: 53 :: 54 :: 55 :: 56 :: 57 :: 58 :: 59 :: []) (Sq.val (.bool true) :: Sq.val (.bool true) :: Sq.val (.agg #[.bool cb, .slice cA cn cc, .slice cB cm cd]) :: Sq.st (fun w a => PS w a (listOf (constC q))) :: Sq.val (.agg #[.bool cb, .slice cA cn cc, .slice cB cm cd]) :: Sq.st (fun w a => PS w a (listOf (constC q))) :: Sq.val (.bool true) :: Sq.val (.bool true) :: Sq.val (.bool true) :: Sq.val (.int .i64 i) :: Sq.st (fun w a => PS w a (parL i)) :: Sq.val (.int .i64 i) :: Sq.st (fun w a => PS w a (parL i)) :: Sq.val (.bool true) :: Sq.val (.bool true) :: Sq.val (.bool true) :: Sq.val (v1) :: Sq.val (.agg #[xz0, xz1, xz2, yz0, yz1, yz2, zz0, zz1, zz2]) :: Sq.st (fun w a => RatQ w a (evalL p x y z)) :: Sq.val (v1) :: Sq.val (.agg #[xz0, xz1, xz2, yz0, yz1, yz2, zz0, zz1, zz2]) :: Sq.st (fun w a => RatQ w a (evalL p x y z)) :: Sq.val (.bool true) :: Sq.val (.bool true) :: []) (by kernel_rfl) (by kernel_rfl) (by kernel_rfl) (by kernel_rfl) ?stepa 1 (by kernel_rfl) _ rfl ?fina
 case stepa =>
  intro i hi oi ho f wx hB hdep K hK
  simp only [frontAct, List.foldl_cons, List.foldl_nil, List.setIfInBounds_toArray, List.set_cons_succ, List.set_cons_zero] at hK ⊢
  obtain ⟨x0, x1, x2⟩ := (HC.out.below hB HCL.out).c3
  obtain ⟨a0, a1, a2, a3, a4, a5, a6, a7, a8⟩ := c9_of (HA.out.below hB HAL.out)
  rcases Nat.lt_or_eq_of_le (Nat.le_of_lt_succ hi) with hi | rfl
  rcases Nat.lt_or_eq_of_le (Nat.le_of_lt_succ hi) with hi | rfl
  rcases Nat.lt_or_eq_of_le (Nat.le_of_lt_succ hi) with hi | rfl
  rcases Nat.lt_or_eq_of_le (Nat.le_of_lt_succ hi) with hi | rfl
  rcases Nat.lt_or_eq_of_le (Nat.le_of_lt_succ hi) with hi | rfl
  rcases Nat.lt_or_eq_of_le (Nat.le_of_lt_succ hi) with hi | rfl
  rcases Nat.lt_or_eq_of_le (Nat.le_of_lt_succ hi) with hi | rfl
  rcases Nat.lt_or_eq_of_le (Nat.le_of_lt_succ hi) with hi | rfl
  rcases Nat.lt_or_eq_of_le (Nat.le_of_lt_succ hi) with hi | rfl
  rcases Nat.lt_or_eq_of_le (Nat.le_of_lt_succ hi) with hi | rfl
  rcases Nat.lt_or_eq_of_le (Nat.le_of_lt_succ hi) with hi | rfl
  rcases Nat.lt_or_eq_of_le (Nat.le_of_lt_succ hi) with hi | rfl
  rcases Nat.lt_or_eq_of_le (Nat.le_of_lt_succ hi) with hi | rfl
  rcases Nat.lt_or_eq_of_le (Nat.le_of_lt_succ hi) with hi | rfl
  rcases Nat.lt_or_eq_of_le (Nat.le_of_lt_succ hi) with hi | rfl
  rcases Nat.lt_or_eq_of_le (Nat.le_of_lt_succ hi) with hi | rfl
  rcases Nat.lt_or_eq_of_le (Nat.le_of_lt_succ hi) with hi | rfl
  rcases Nat.lt_or_eq_of_le (Nat.le_of_lt_succ hi) with hi | rfl
  rcases Nat.lt_or_eq_of_le (Nat.le_of_lt_succ hi) with hi | rfl
  rcases Nat.lt_or_eq_of_le (Nat.le_of_lt_succ hi) with hi | rfl
  rcases Nat.lt_or_eq_of_le (Nat.le_of_lt_succ hi) with hi | rfl
  rcases Nat.lt_or_eq_of_le (Nat.le_of_lt_succ hi) with hi | rfl
  rcases Nat.lt_or_eq_of_le (Nat.le_of_lt_succ hi) with hi | rfl
  rcases Nat.lt_or_eq_of_le (Nat.le_of_lt_succ hi) with hi | rfl
  exact absurd hi (Nat.not_lt_zero _)
  all_goals
   obtain rfl := Option.some.inj ho
   clear ho
   simp only [Act.put, List.setIfInBounds_toArray, List.set_cons_succ, List.set_cons_zero] at hK
  ·go_simp
   refine (awake2_any wx (HT.out.below (HB.out.trans (hB.mono HB.out.size)))).mono ?_
   rintro e0 w' ⟨rfl, hb⟩
   exact hK (.bool true) w' (gv6 rfl) hb (hB.trans (hb.mono hB.size)) (nb6 rfl rfl)
  have e36 := dv6 (hdep ⟨0, .data⟩ (by simp) rfl) rfl
  simp only [List.getD_cons_succ, List.getD_cons_zero] at e36
  generalize f 36 = f36 at *; subst e36
  rotate_left
  have e37 := dv6 (hdep ⟨1, .guard⟩ (by simp) rfl) rfl
  simp only [List.getD_cons_succ, List.getD_cons_zero] at e37
  generalize f 37 = f37 at *; subst e37
  rotate_left
  ·have e37 := dv6 (hdep ⟨1, .guard⟩ (by simp) rfl) rfl
   have e38 := dv6 (hdep ⟨2, .data⟩ (by simp) rfl) rfl
   simp only [List.getD_cons_succ, List.getD_cons_zero] at e37 e38
   generalize f 37 = f37 at *; subst e37
   generalize f 38 = f38 at *; subst e38
   go_simp
   refine (Constant_g _ q wx (HT.out.below (HB.out.trans (hB.mono HB.out.size))) (GX.out.below hB)).mono ?_
   rintro e0 w' ⟨val, rfl, hr, hb⟩
   exact hK val w' (gs6 rfl (fun w2 h2 => hr.below h2)) hb (hB.trans (hb.mono hB.size)) (nb6 rfl rfl)
  have e37 := dv6 (hdep ⟨1, .guard⟩ (by simp) rfl) rfl
  simp only [List.getD_cons_succ, List.getD_cons_zero] at e37
  generalize f 37 = f37 at *; subst e37
  rotate_left
  ·have e37 := dv6 (hdep ⟨1, .guard⟩ (by simp) rfl) rfl
   have e40 := dv6 (hdep ⟨4, .data⟩ (by simp) rfl) rfl
   simp only [List.getD_cons_succ, List.getD_cons_zero] at e37 e40
   generalize f 37 = f37 at *; subst e37
   generalize f 40 = f40 at *; subst e40
   go_simp
   refine (Constant_gr _ q wx (GX.out.below hB)).mono ?_
   rintro e0 w' ⟨val, rfl, hr, hb⟩
   exact hK val w' (gs6 rfl (fun w2 h2 => hr.below h2)) hb (hB.trans (hb.mono hB.size)) (nb6 rfl rfl)
  ·have e37 := dv6 (hdep ⟨1, .guard⟩ (by simp) rfl) rfl
   have e39 := ds6 (hdep ⟨3, .data⟩ (by simp) rfl) rfl
   have e41 := ds6 (hdep ⟨5, .data⟩ (by simp) rfl) rfl
   simp only [List.getD_cons_succ, List.getD_cons_zero] at e37 e39 e41
   generalize f 37 = f37 at *; subst e37
   replace e39 := (show PS wx (f 39) (listOf (constC q)) from e39)
   generalize f 39 = f39 at *
   replace e41 := (show PS wx (f 41) (listOf (constC q)) from e41)
   generalize f 41 = f41 at *
   go_simp
   refine (Same_g _ _ _ wx e39 e41).mono ?_
   rintro e0 w' ⟨rfl, hb⟩
   exact hK (.bool true) w' (gv6 rfl) hb (hB.trans (hb.mono hB.size)) (nb6 rfl rfl)
  have e37 := dv6 (hdep ⟨1, .data⟩ (by simp) rfl) rfl
  have e42 := dv6 (hdep ⟨6, .data⟩ (by simp) rfl) rfl
  simp only [List.getD_cons_succ, List.getD_cons_zero] at e37 e42
  generalize f 37 = f37 at *; subst e37
  generalize f 42 = f42 at *; subst e42
  rotate_left
  have e43 := dv6 (hdep ⟨7, .data⟩ (by simp) rfl) rfl
  simp only [List.getD_cons_succ, List.getD_cons_zero] at e43
  generalize f 43 = f43 at *; subst e43
  rotate_left
  have e44 := dv6 (hdep ⟨8, .guard⟩ (by simp) rfl) rfl
  simp only [List.getD_cons_succ, List.getD_cons_zero] at e44
  generalize f 44 = f44 at *; subst e44
  rotate_left
  ·have e44 := dv6 (hdep ⟨8, .guard⟩ (by simp) rfl) rfl
   have e45 := dv6 (hdep ⟨9, .data⟩ (by simp) rfl) rfl
   simp only [List.getD_cons_succ, List.getD_cons_zero] at e44 e45
   generalize f 44 = f44 at *; subst e44
   generalize f 45 = f45 at *; subst e45
   go_simp
   refine (Parameter_g i wx).mono ?_
   rintro e0 w' ⟨val, rfl, hr, hb⟩
   exact hK val w' (gs6 rfl (fun w2 h2 => hr.below h2)) hb (hB.trans (hb.mono hB.size)) (nb6 rfl rfl)
  have e44 := dv6 (hdep ⟨8, .guard⟩ (by simp) rfl) rfl
  simp only [List.getD_cons_succ, List.getD_cons_zero] at e44
  generalize f 44 = f44 at *; subst e44
  rotate_left
  ·have e44 := dv6 (hdep ⟨8, .guard⟩ (by simp) rfl) rfl
   have e47 := dv6 (hdep ⟨11, .data⟩ (by simp) rfl) rfl
   simp only [List.getD_cons_succ, List.getD_cons_zero] at e44 e47
   generalize f 44 = f44 at *; subst e44
   generalize f 47 = f47 at *; subst e47
   go_simp
   refine (Parameter_gr i wx).mono ?_
   rintro e0 w' ⟨val, rfl, hr, hb⟩
   exact hK val w' (gs6 rfl (fun w2 h2 => hr.below h2)) hb (hB.trans (hb.mono hB.size)) (nb6 rfl rfl)
  ·have e44 := dv6 (hdep ⟨8, .guard⟩ (by simp) rfl) rfl
   have e46 := ds6 (hdep ⟨10, .data⟩ (by simp) rfl) rfl
   have e48 := ds6 (hdep ⟨12, .data⟩ (by simp) rfl) rfl
   simp only [List.getD_cons_succ, List.getD_cons_zero] at e44 e46 e48
   generalize f 44 = f44 at *; subst e44
   replace e46 := (show PS wx (f 46) (parL i) from e46)
   generalize f 46 = f46 at *
   replace e48 := (show PS wx (f 48) (parL i) from e48)
   generalize f 48 = f48 at *
   go_simp
   refine (Same_g _ _ _ wx e46 e48).mono ?_
   rintro e0 w' ⟨rfl, hb⟩
   exact hK (.bool true) w' (gv6 rfl) hb (hB.trans (hb.mono hB.size)) (nb6 rfl rfl)
  have e44 := dv6 (hdep ⟨8, .data⟩ (by simp) rfl) rfl
  have e49 := dv6 (hdep ⟨13, .data⟩ (by simp) rfl) rfl
  simp only [List.getD_cons_succ, List.getD_cons_zero] at e44 e49
  generalize f 44 = f44 at *; subst e44
  generalize f 49 = f49 at *; subst e49
  rotate_left
  have e50 := dv6 (hdep ⟨14, .data⟩ (by simp) rfl) rfl
  simp only [List.getD_cons_succ, List.getD_cons_zero] at e50
  generalize f 50 = f50 at *; subst e50
  rotate_left
  have e51 := dv6 (hdep ⟨15, .guard⟩ (by simp) rfl) rfl
  simp only [List.getD_cons_succ, List.getD_cons_zero] at e51
  generalize f 51 = f51 at *; subst e51
  rotate_left
  have e51 := dv6 (hdep ⟨15, .guard⟩ (by simp) rfl) rfl
  simp only [List.getD_cons_succ, List.getD_cons_zero] at e51
  generalize f 51 = f51 at *; subst e51
  rotate_left
  ·have e51 := dv6 (hdep ⟨15, .guard⟩ (by simp) rfl) rfl
   have e52 := dv6 (hdep ⟨16, .data⟩ (by simp) rfl) rfl
   have e53 := dv6 (hdep ⟨17, .data⟩ (by simp) rfl) rfl
   simp only [List.getD_cons_succ, List.getD_cons_zero] at e51 e52 e53
   generalize f 51 = f51 at *; subst e51
   generalize f 52 = f52 at *; subst e52
   generalize f 53 = f53 at *; subst e53
   go_simp
   refine (Eval_g _ _ _ _ _ _ _ _ _ _ x y z p wx (HT.out.below (HB.out.trans (hB.mono HB.out.size))) (G1.out.below hB) (GA.out.below hB) (GB.out.below hB) (GC.out.below hB)).mono ?_
   rintro e0 w' ⟨val, rfl, hr, hb⟩
   exact hK val w' (gs6 rfl (fun w2 h2 => hr.below h2)) hb (hB.trans (hb.mono hB.size)) (nb6 rfl rfl)
  have e51 := dv6 (hdep ⟨15, .guard⟩ (by simp) rfl) rfl
  simp only [List.getD_cons_succ, List.getD_cons_zero] at e51
  generalize f 51 = f51 at *; subst e51
  rotate_left
  have e51 := dv6 (hdep ⟨15, .guard⟩ (by simp) rfl) rfl
  simp only [List.getD_cons_succ, List.getD_cons_zero] at e51
  generalize f 51 = f51 at *; subst e51
  rotate_left
  ·have e51 := dv6 (hdep ⟨15, .guard⟩ (by simp) rfl) rfl
   have e55 := dv6 (hdep ⟨19, .data⟩ (by simp) rfl) rfl
   have e56 := dv6 (hdep ⟨20, .data⟩ (by simp) rfl) rfl
   simp only [List.getD_cons_succ, List.getD_cons_zero] at e51 e55 e56
   generalize f 51 = f51 at *; subst e51
   generalize f 55 = f55 at *; subst e55
   generalize f 56 = f56 at *; subst e56
   go_simp
   refine (Eval_gr _ _ _ _ _ _ _ _ _ _ x y z p wx (G1.out.below hB) (GA.out.below hB) (GB.out.below hB) (GC.out.below hB)).mono ?_
   rintro e0 w' ⟨val, rfl, hr, hb⟩
   exact hK val w' (gs6 rfl (fun w2 h2 => hr.below h2)) hb (hB.trans (hb.mono hB.size)) (nb6 rfl rfl)
  ·have e51 := dv6 (hdep ⟨15, .guard⟩ (by simp) rfl) rfl
   have e54 := ds6 (hdep ⟨18, .data⟩ (by simp) rfl) rfl
   have e57 := ds6 (hdep ⟨21, .data⟩ (by simp) rfl) rfl
   simp only [List.getD_cons_succ, List.getD_cons_zero] at e51 e54 e57
   generalize f 51 = f51 at *; subst e51
   replace e54 := (show RatQ wx (f 54) (evalL p x y z) from e54)
   generalize f 54 = f54 at *
   replace e57 := (show RatQ wx (f 57) (evalL p x y z) from e57)
   generalize f 57 = f57 at *
   go_simp
   refine (r_Same_true _ _ (evalL p x y z) (evalL p x y z) wx 5000 e54 e57 HSE.out (by omega) rfl).mono ?_
   rintro e0 w' ⟨rfl, hb⟩
   exact hK (.bool true) w' (gv6 rfl) hb (hB.trans (hb.mono hB.size)) (nb6 rfl rfl)
  have e51 := dv6 (hdep ⟨15, .data⟩ (by simp) rfl) rfl
  have e58 := dv6 (hdep ⟨22, .data⟩ (by simp) rfl) rfl
  simp only [List.getD_cons_succ, List.getD_cons_zero] at e51 e58
  generalize f 51 = f51 at *; subst e51
  generalize f 58 = f58 at *; subst e58
  rotate_left
  all_goals go_simp
  all_goals exact hK _ wx (gv6 rfl) (Below.refl _ _) hB (nb6 rfl rfl)
 case fina =>
  intro f wx hB hG hne
  have eL := dv6 (a := f 59) (hG 23 (by decide)) rfl
  clear hG hne
  simp only [frontAct, List.foldl_cons, List.foldl_nil, List.setIfInBounds_toArray, List.set_cons_succ, List.set_cons_zero]
  generalize f 59 = fL at *; subst eL
  have HEND := Lib.hid (HB.out.trans (hB.mono HB.out.size))
  clear hB
  refine wpAny_ready (rs := [24]) (by kernel_rfl) (by simp) ?_
  refine AllReady.cons rfl (fun K hK => ?_) AllReady.nil
  have HQ := Lib.hid hK
  clear hK
  go_simp
  refine HQ.out _ _ ?_
  clear HQ K
  refine wpAny_done (by kernel_rfl) ?_ _
  go_wp2_with fail
  go_ret
  exact ⟨rfl, HEND.out⟩
end Go.Proofs.YtifeekomegoijaaGreatDoor
