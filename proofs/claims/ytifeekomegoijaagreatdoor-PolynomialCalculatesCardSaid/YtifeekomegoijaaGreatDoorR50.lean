/- texts -/
import Derived.Test.YtifeekomegoijaaGreatDoorR49
set_option linter.unusedVariables false
set_option linter.unusedSimpArgs false
namespace Go.Proofs.YtifeekomegoijaaGreatDoor
open Go.RowKit

set_option maxRecDepth 40000 in
set_option maxHeartbeats 16000000 in
theorem calculates2_law (A1 : Option Addr) (n1 c1 : Nat) (l1 : List FldM) (A2 : Option Addr) (n2 c2 : Nat) (l2 : List FldM) (v3 : Value) (cb : Bool) (a3 b3 : List Nat) (w : World) (hT : TxF w) (h1 : PRaw w A1 n1 c1 l1) (h2 : PRaw w A2 n2 c2 l2) (h3 : Fld w v3 cb a3 b3) :
  Calls Tryz.prog 3 #[.slice A1 n1 c1, .slice A2 n2 c2, v3] w (RetV w (.bool true)) := by
 obtain ⟨cA, cn, cc, cB, cm, cd, rfl⟩ := h3.agg
 obtain ⟨hbN, cN⟩ := blk1 w [.bool cb, .slice cA cn cc, .slice cB cm cd] 25
 have HT := Lib.hid hT
 have HB0 := Lib.hid hbN
 have H1 := Lib.hid (h1.below hbN)
 have H2 := Lib.hid (h2.below hbN)
 have H3 := Lib.hid (h3.below hbN)
 have HC0 := Lib.hid cN
 obtain ⟨V1, hV1⟩ : ∃ V, lightL l1 = V := ⟨_, rfl⟩
 obtain ⟨V2, hV2⟩ : ∃ V, lightL l2 = V := ⟨_, rfl⟩
 obtain ⟨V3, hV3⟩ : ∃ V, lgt2q a3 b3 = V := ⟨_, rfl⟩
 have HV1 := Lib.hid hV1
 have HV2 := Lib.hid hV2
 have HV3 := Lib.hid hV3
 clear hT h1 h2 h3 hV1 hV2 hV3 hbN cN
 go_enter Tryz.func3, Tryz.ntmps3
 go_wp2_with fail
 obtain ⟨W0, hW0⟩ : ∃ W0, w.alloc (.cells #[.bool cb, .slice cA cn cc, .slice cB cm cd] 25) = W0 := ⟨_, rfl⟩
 rw [hW0] at HB0 H1 H2 H3 HC0 ⊢
 clear hW0
 refine (light2_any A1 n1 c1 l1 W0 H1.out V1 HV1).mono ?_
 rintro e1 w1 ⟨rfl, hb1⟩
 have HB1 := Lib.hid (HB0.out.trans (hb1.mono HB0.out.size))
 have K1 := Lib.hid hb1
 clear hb1
 cases V1
 ·go_wp2_with fail
  refine (awake2_any w1 (HT.out.below HB1.out)).mono ?_
  rintro e9 w9 ⟨rfl, hb9⟩
  have HB9 := Lib.hid (HB1.out.trans (hb9.mono HB1.out.size))
  clear hb9
  go_wp2_with fail
  go_ret
  exact ⟨rfl, HB9.out⟩
 go_wp2_with fail
 refine (light2_any A2 n2 c2 l2 w1 (H2.out.below K1.out) V2 HV2).mono ?_
 rintro e2 w2 ⟨rfl, hb2⟩
 have HB2 := Lib.hid (HB1.out.trans (hb2.mono HB1.out.size))
 have K2 := Lib.hid (K1.out.trans (hb2.mono K1.out.size))
 clear hb2
 cases V2
 ·go_wp2_with fail
  refine (awake2_any w2 (HT.out.below HB2.out)).mono ?_
  rintro e9 w9 ⟨rfl, hb9⟩
  have HB9 := Lib.hid (HB2.out.trans (hb9.mono HB2.out.size))
  clear hb9
  go_wp2_with fail
  go_ret
  exact ⟨rfl, HB9.out⟩
 obtain ⟨y0, y1, y2⟩ := (HC0.out.below K2.out HC0.out.lt).c3
 go_wp2_with fail
 clear y0 y1 y2
 refine (light2q _ cb a3 b3 w2 (H3.out.below K2.out) V3 HV3).mono ?_
 rintro e3 w3 ⟨rfl, hb3⟩
 have HB3 := Lib.hid (HB2.out.trans (hb3.mono HB2.out.size))
 have K3 := Lib.hid (K2.out.trans (hb3.mono K2.out.size))
 clear hb3
 cases V3
 ·go_wp2_with fail
  refine (awake2_any w3 (HT.out.below HB3.out)).mono ?_
  rintro e9 w9 ⟨rfl, hb9⟩
  have HB9 := Lib.hid (HB3.out.trans (hb9.mono HB3.out.size))
  clear hb9
  go_wp2_with fail
  go_ret
  exact ⟨rfl, HB9.out⟩
 have HC := Lib.hid ((HC0.out.below K3.out HC0.out.lt).drew)
 have HCL := Lib.hid HC.out.lt
 have J := Lib.hid (K3.out.drew)
 have HB := Lib.hid HB3.out.drew
 have G1 := Lib.hid ((H1.out.below J.out).gp HV1.out)
 have G2 := Lib.hid ((H2.out.below J.out).gp HV2.out)
 have GX := Lib.hid (gq_of (H3.out.below J.out) HV3.out)
 have PI1 := Lib.hid ((H1.out.below J.out).pin HV1.out)
 have PR1 := Lib.hid ((H1.out.below J.out).pre HV1.out)
 obtain ⟨U, HU⟩ : ∃ U : Bool, Hid (U = true ↔ vraw (ratL l1)) := by
  classical
  exact ⟨decide (vraw (ratL l1)), Lib.hid (by simp)⟩
 obtain ⟨p, hp⟩ : ∃ p, polL l1 = p := ⟨_, rfl⟩
 obtain ⟨q, hq⟩ : ∃ q, polL l2 = q := ⟨_, rfl⟩
 obtain ⟨x, hx⟩ : ∃ x, fq cb a3 b3 = x := ⟨_, rfl⟩
 rw [hp] at G1
 rw [hq] at G2
 rw [hx] at GX
 have PI1P := Lib.hid G1.out.pi
 have PR1P := Lib.hid G1.out.pir
 have HSL := Lib.hid (sz_low G1.out.pi.vp G1.out.pi.szl)
 obtain ⟨v1, hv1⟩ : ∃ v1, Value.slice A1 n1 c1 = v1 := ⟨_, rfl⟩
 obtain ⟨v2, hv2⟩ : ∃ v2, Value.slice A2 n2 c2 = v2 := ⟨_, rfl⟩
 rw [hv1] at G1 PI1 PR1 PI1P PR1P ⊢
 rw [hv2] at G2 ⊢
 clear hp hq hx hv1 hv2 J K1 K2 K3 H1 H2 H3 HV1 HV2 HV3 HB0 HB1 HB2 HC0
 go_upto_region 3 with (fail)
 refine wp_region6 42 (21 :: 22 :: 23 :: 24 :: 25 :: 26 :: 27 :: 28 :: 29 :: 30 :: 31 :: 32 :: 33 :: 34 :: 35 :: 36 :: 37 :: 38 :: 39 :: 40 :: 41 :: 42 :: 43 :: 44 :: 45 :: 46 :: 47 :: 48 :: 49 :: 50 :: 51 :: 52 :: 53 :: 54 :: 55 :: 56 :: 57 :: 58 :: 59 :: 60 :: 61 :: 62 :: []) (Sq.val (.bool true) :: Sq.val (.bool true) :: Sq.val (v1) :: Sq.val (.bool U) :: Sq.val (v1) :: Sq.val (.bool U) :: Sq.val (.bool true) :: Sq.val (.bool true) :: Sq.val (.bool true) :: Sq.val (v1) :: Sq.val (v2) :: Sq.st (fun w a => PS w a (listOf (addC (co p) (co q)))) :: Sq.val (v1) :: Sq.val (v2) :: Sq.st (fun w a => PS w a (listOf (addC (co p) (co q)))) :: Sq.val (.bool true) :: Sq.val (.bool true) :: Sq.val (.bool true) :: Sq.val (v1) :: Sq.val (v2) :: Sq.st (fun w a => PS w a (listOf (mulC (co p) (co q)))) :: Sq.val (v1) :: Sq.val (v2) :: Sq.st (fun w a => PS w a (listOf (mulC (co p) (co q)))) :: Sq.val (.bool true) :: Sq.val (.bool true) :: Sq.val (.bool true) :: Sq.val (v1) :: Sq.val (.agg #[.bool cb, .slice cA cn cc, .slice cB cm cd]) :: Sq.st (fun w a => PS w a (listOf (mulC (co p) (constC x)))) :: Sq.val (v1) :: Sq.val (.agg #[.bool cb, .slice cA cn cc, .slice cB cm cd]) :: Sq.st (fun w a => PS w a (listOf (mulC (co p) (constC x)))) :: Sq.val (.bool true) :: Sq.val (.bool true) :: Sq.val (.bool true) :: Sq.val (v1) :: Sq.st (fun w a => RatQ w a (lowL p)) :: Sq.val (v1) :: Sq.st (fun w a => RatQ w a (lowL p)) :: Sq.val (.bool true) :: Sq.val (.bool true) :: []) (by kernel_rfl) (by kernel_rfl) (by kernel_rfl) (by kernel_rfl) ?stepa 1 (by kernel_rfl) _ rfl ?fina
 case stepa =>
  intro i hi oi ho f wx hB hdep K hK
  simp only [frontAct, List.foldl_cons, List.foldl_nil, List.setIfInBounds_toArray, List.set_cons_succ, List.set_cons_zero] at hK ⊢
  obtain ⟨x0, x1, x2⟩ := (HC.out.below hB HCL.out).c3
  rcases Nat.lt_or_eq_of_le (Nat.le_of_lt_succ hi) with hi | rfl
  rcases Nat.lt_or_eq_of_le (Nat.le_of_lt_succ hi) with hi | rfl
  rcases Nat.lt_or_eq_of_le (Nat.le_of_lt_succ hi) with hi | rfl
  rcases Nat.lt_or_eq_of_le (Nat.le_of_lt_succ hi) with hi | rfl
  rcases Nat.lt_or_eq_of_le (Nat.le_of_lt_succ hi) with hi | rfl
  rcases Nat.lt_or_eq_of_le (Nat.le_of_lt_succ hi) with hi | rfl
  rcases Nat.lt_or_eq_of_le (Nat.le_of_lt_succ hi) with hi | rfl
  rcases Nat.lt_or_eq_of_le (Nat.le_of_lt_succ hi) with hi | rfl
  rcases Nat.lt_or_eq_of_le (Nat.le_of_lt_succ hi) with hi | rfl
  rcases Nat.lt_or_eq_of_le (Nat.le_of_lt_succ hi) with hi | rfl
  rcases Nat.lt_or_eq_of_le (Nat.le_of_lt_succ hi) with hi | rfl
  rcases Nat.lt_or_eq_of_le (Nat.le_of_lt_succ hi) with hi | rfl
  rcases Nat.lt_or_eq_of_le (Nat.le_of_lt_succ hi) with hi | rfl
  rcases Nat.lt_or_eq_of_le (Nat.le_of_lt_succ hi) with hi | rfl
  rcases Nat.lt_or_eq_of_le (Nat.le_of_lt_succ hi) with hi | rfl
  rcases Nat.lt_or_eq_of_le (Nat.le_of_lt_succ hi) with hi | rfl
  rcases Nat.lt_or_eq_of_le (Nat.le_of_lt_succ hi) with hi | rfl
  rcases Nat.lt_or_eq_of_le (Nat.le_of_lt_succ hi) with hi | rfl
  rcases Nat.lt_or_eq_of_le (Nat.le_of_lt_succ hi) with hi | rfl
  rcases Nat.lt_or_eq_of_le (Nat.le_of_lt_succ hi) with hi | rfl
  rcases Nat.lt_or_eq_of_le (Nat.le_of_lt_succ hi) with hi | rfl
  rcases Nat.lt_or_eq_of_le (Nat.le_of_lt_succ hi) with hi | rfl
  rcases Nat.lt_or_eq_of_le (Nat.le_of_lt_succ hi) with hi | rfl
  rcases Nat.lt_or_eq_of_le (Nat.le_of_lt_succ hi) with hi | rfl
  rcases Nat.lt_or_eq_of_le (Nat.le_of_lt_succ hi) with hi | rfl
  rcases Nat.lt_or_eq_of_le (Nat.le_of_lt_succ hi) with hi | rfl
  rcases Nat.lt_or_eq_of_le (Nat.le_of_lt_succ hi) with hi | rfl
  rcases Nat.lt_or_eq_of_le (Nat.le_of_lt_succ hi) with hi | rfl
  rcases Nat.lt_or_eq_of_le (Nat.le_of_lt_succ hi) with hi | rfl
  rcases Nat.lt_or_eq_of_le (Nat.le_of_lt_succ hi) with hi | rfl
  rcases Nat.lt_or_eq_of_le (Nat.le_of_lt_succ hi) with hi | rfl
  rcases Nat.lt_or_eq_of_le (Nat.le_of_lt_succ hi) with hi | rfl
  rcases Nat.lt_or_eq_of_le (Nat.le_of_lt_succ hi) with hi | rfl
  rcases Nat.lt_or_eq_of_le (Nat.le_of_lt_succ hi) with hi | rfl
  rcases Nat.lt_or_eq_of_le (Nat.le_of_lt_succ hi) with hi | rfl
  rcases Nat.lt_or_eq_of_le (Nat.le_of_lt_succ hi) with hi | rfl
  rcases Nat.lt_or_eq_of_le (Nat.le_of_lt_succ hi) with hi | rfl
  rcases Nat.lt_or_eq_of_le (Nat.le_of_lt_succ hi) with hi | rfl
  rcases Nat.lt_or_eq_of_le (Nat.le_of_lt_succ hi) with hi | rfl
  rcases Nat.lt_or_eq_of_le (Nat.le_of_lt_succ hi) with hi | rfl
  rcases Nat.lt_or_eq_of_le (Nat.le_of_lt_succ hi) with hi | rfl
  rcases Nat.lt_or_eq_of_le (Nat.le_of_lt_succ hi) with hi | rfl
  exact absurd hi (Nat.not_lt_zero _)
  all_goals
   obtain rfl := Option.some.inj ho
   clear ho
   simp only [Act.put, List.setIfInBounds_toArray, List.set_cons_succ, List.set_cons_zero] at hK
  ·go_simp
   refine (awake2_any wx (HT.out.below (HB.out.trans (hB.mono HB.out.size)))).mono ?_
   rintro e0 w' ⟨rfl, hb⟩
   exact hK (.bool true) w' (gv6 rfl) hb (hB.trans (hb.mono hB.size)) (nb6 rfl rfl)
  have e21 := dv6 (hdep ⟨0, .data⟩ (by simp) rfl) rfl
  simp only [List.getD_cons_succ, List.getD_cons_zero] at e21
  generalize f 21 = f21 at *; subst e21
  rotate_left
  have e22 := dv6 (hdep ⟨1, .guard⟩ (by simp) rfl) rfl
  simp only [List.getD_cons_succ, List.getD_cons_zero] at e22
  generalize f 22 = f22 at *; subst e22
  rotate_left
  ·have e22 := dv6 (hdep ⟨1, .guard⟩ (by simp) rfl) rfl
   have e23 := dv6 (hdep ⟨2, .data⟩ (by simp) rfl) rfl
   simp only [List.getD_cons_succ, List.getD_cons_zero] at e22 e23
   generalize f 22 = f22 at *; subst e22
   generalize f 23 = f23 at *; subst e23
   go_simp
   refine (valid_p _ (ratL l1) 2 wx (HT.out.below (HB.out.trans (hB.mono HB.out.size))).tab (PI1.out.below hB) U HU).mono ?_
   rintro e0 w' ⟨rfl, hb⟩
   exact hK (.bool U) w' (gv6 rfl) hb (hB.trans (hb.mono hB.size)) (nb6 rfl rfl)
  have e22 := dv6 (hdep ⟨1, .guard⟩ (by simp) rfl) rfl
  simp only [List.getD_cons_succ, List.getD_cons_zero] at e22
  generalize f 22 = f22 at *; subst e22
  rotate_left
  ·have e22 := dv6 (hdep ⟨1, .guard⟩ (by simp) rfl) rfl
   have e25 := dv6 (hdep ⟨4, .data⟩ (by simp) rfl) rfl
   simp only [List.getD_cons_succ, List.getD_cons_zero] at e22 e25
   generalize f 22 = f22 at *; subst e22
   generalize f 25 = f25 at *; subst e25
   go_simp
   refine (r2_Valid _ (ratL l1) wx (PR1.out.below hB) U HU).mono ?_
   rintro e0 w' ⟨rfl, hb⟩
   exact hK (.bool U) w' (gv6 rfl) hb (hB.trans (hb.mono hB.size)) (nb6 rfl rfl)
  have e22 := dv6 (hdep ⟨1, .guard⟩ (by simp) rfl) rfl
  have e24 := dv6 (hdep ⟨3, .data⟩ (by simp) rfl) rfl
  have e26 := dv6 (hdep ⟨5, .data⟩ (by simp) rfl) rfl
  simp only [List.getD_cons_succ, List.getD_cons_zero] at e22 e24 e26
  generalize f 22 = f22 at *; subst e22
  generalize f 24 = f24 at *; subst e24
  generalize f 26 = f26 at *; subst e26
  have hUU : (U == U) = true := by simp
  rotate_left
  have e22 := dv6 (hdep ⟨1, .data⟩ (by simp) rfl) rfl
  have e27 := dv6 (hdep ⟨6, .data⟩ (by simp) rfl) rfl
  simp only [List.getD_cons_succ, List.getD_cons_zero] at e22 e27
  generalize f 22 = f22 at *; subst e22
  generalize f 27 = f27 at *; subst e27
  rotate_left
  have e28 := dv6 (hdep ⟨7, .data⟩ (by simp) rfl) rfl
  simp only [List.getD_cons_succ, List.getD_cons_zero] at e28
  generalize f 28 = f28 at *; subst e28
  rotate_left
  have e29 := dv6 (hdep ⟨8, .guard⟩ (by simp) rfl) rfl
  simp only [List.getD_cons_succ, List.getD_cons_zero] at e29
  generalize f 29 = f29 at *; subst e29
  rotate_left
  have e29 := dv6 (hdep ⟨8, .guard⟩ (by simp) rfl) rfl
  simp only [List.getD_cons_succ, List.getD_cons_zero] at e29
  generalize f 29 = f29 at *; subst e29
  rotate_left
  ·have e29 := dv6 (hdep ⟨8, .guard⟩ (by simp) rfl) rfl
   have e30 := dv6 (hdep ⟨9, .data⟩ (by simp) rfl) rfl
   have e31 := dv6 (hdep ⟨10, .data⟩ (by simp) rfl) rfl
   simp only [List.getD_cons_succ, List.getD_cons_zero] at e29 e30 e31
   generalize f 29 = f29 at *; subst e29
   generalize f 30 = f30 at *; subst e30
   generalize f 31 = f31 at *; subst e31
   go_simp
   refine (Add_g _ _ p q wx (HT.out.below (HB.out.trans (hB.mono HB.out.size))) (G1.out.below hB) (G2.out.below hB)).mono ?_
   rintro e0 w' ⟨val, rfl, hr, hb⟩
   exact hK val w' (gs6 rfl (fun w2 h2 => hr.below h2)) hb (hB.trans (hb.mono hB.size)) (nb6 rfl rfl)
  have e29 := dv6 (hdep ⟨8, .guard⟩ (by simp) rfl) rfl
  simp only [List.getD_cons_succ, List.getD_cons_zero] at e29
  generalize f 29 = f29 at *; subst e29
  rotate_left
  have e29 := dv6 (hdep ⟨8, .guard⟩ (by simp) rfl) rfl
  simp only [List.getD_cons_succ, List.getD_cons_zero] at e29
  generalize f 29 = f29 at *; subst e29
  rotate_left
  ·have e29 := dv6 (hdep ⟨8, .guard⟩ (by simp) rfl) rfl
   have e33 := dv6 (hdep ⟨12, .data⟩ (by simp) rfl) rfl
   have e34 := dv6 (hdep ⟨13, .data⟩ (by simp) rfl) rfl
   simp only [List.getD_cons_succ, List.getD_cons_zero] at e29 e33 e34
   generalize f 29 = f29 at *; subst e29
   generalize f 33 = f33 at *; subst e33
   generalize f 34 = f34 at *; subst e34
   go_simp
   refine (Add_gr _ _ p q wx (G1.out.below hB) (G2.out.below hB)).mono ?_
   rintro e0 w' ⟨val, rfl, hr, hb⟩
   exact hK val w' (gs6 rfl (fun w2 h2 => hr.below h2)) hb (hB.trans (hb.mono hB.size)) (nb6 rfl rfl)
  ·have e29 := dv6 (hdep ⟨8, .guard⟩ (by simp) rfl) rfl
   have e32 := ds6 (hdep ⟨11, .data⟩ (by simp) rfl) rfl
   have e35 := ds6 (hdep ⟨14, .data⟩ (by simp) rfl) rfl
   simp only [List.getD_cons_succ, List.getD_cons_zero] at e29 e32 e35
   generalize f 29 = f29 at *; subst e29
   replace e32 := (show PS wx (f 32) (listOf (addC (co p) (co q))) from e32)
   generalize f 32 = f32 at *
   replace e35 := (show PS wx (f 35) (listOf (addC (co p) (co q))) from e35)
   generalize f 35 = f35 at *
   go_simp
   refine (Same_g _ _ _ wx e32 e35).mono ?_
   rintro e0 w' ⟨rfl, hb⟩
   exact hK (.bool true) w' (gv6 rfl) hb (hB.trans (hb.mono hB.size)) (nb6 rfl rfl)
  have e29 := dv6 (hdep ⟨8, .data⟩ (by simp) rfl) rfl
  have e36 := dv6 (hdep ⟨15, .data⟩ (by simp) rfl) rfl
  simp only [List.getD_cons_succ, List.getD_cons_zero] at e29 e36
  generalize f 29 = f29 at *; subst e29
  generalize f 36 = f36 at *; subst e36
  rotate_left
  have e37 := dv6 (hdep ⟨16, .data⟩ (by simp) rfl) rfl
  simp only [List.getD_cons_succ, List.getD_cons_zero] at e37
  generalize f 37 = f37 at *; subst e37
  rotate_left
  have e38 := dv6 (hdep ⟨17, .guard⟩ (by simp) rfl) rfl
  simp only [List.getD_cons_succ, List.getD_cons_zero] at e38
  generalize f 38 = f38 at *; subst e38
  rotate_left
  have e38 := dv6 (hdep ⟨17, .guard⟩ (by simp) rfl) rfl
  simp only [List.getD_cons_succ, List.getD_cons_zero] at e38
  generalize f 38 = f38 at *; subst e38
  rotate_left
  ·have e38 := dv6 (hdep ⟨17, .guard⟩ (by simp) rfl) rfl
   have e39 := dv6 (hdep ⟨18, .data⟩ (by simp) rfl) rfl
   have e40 := dv6 (hdep ⟨19, .data⟩ (by simp) rfl) rfl
   simp only [List.getD_cons_succ, List.getD_cons_zero] at e38 e39 e40
   generalize f 38 = f38 at *; subst e38
   generalize f 39 = f39 at *; subst e39
   generalize f 40 = f40 at *; subst e40
   go_simp
   refine (Mul_g _ _ p q wx (HT.out.below (HB.out.trans (hB.mono HB.out.size))) (G1.out.below hB) (G2.out.below hB)).mono ?_
   rintro e0 w' ⟨val, rfl, hr, hb⟩
   exact hK val w' (gs6 rfl (fun w2 h2 => hr.below h2)) hb (hB.trans (hb.mono hB.size)) (nb6 rfl rfl)
  have e38 := dv6 (hdep ⟨17, .guard⟩ (by simp) rfl) rfl
  simp only [List.getD_cons_succ, List.getD_cons_zero] at e38
  generalize f 38 = f38 at *; subst e38
  rotate_left
  have e38 := dv6 (hdep ⟨17, .guard⟩ (by simp) rfl) rfl
  simp only [List.getD_cons_succ, List.getD_cons_zero] at e38
  generalize f 38 = f38 at *; subst e38
  rotate_left
  ·have e38 := dv6 (hdep ⟨17, .guard⟩ (by simp) rfl) rfl
   have e42 := dv6 (hdep ⟨21, .data⟩ (by simp) rfl) rfl
   have e43 := dv6 (hdep ⟨22, .data⟩ (by simp) rfl) rfl
   simp only [List.getD_cons_succ, List.getD_cons_zero] at e38 e42 e43
   generalize f 38 = f38 at *; subst e38
   generalize f 42 = f42 at *; subst e42
   generalize f 43 = f43 at *; subst e43
   go_simp
   refine (Mul_gr _ _ p q wx (G1.out.below hB) (G2.out.below hB)).mono ?_
   rintro e0 w' ⟨val, rfl, hr, hb⟩
   exact hK val w' (gs6 rfl (fun w2 h2 => hr.below h2)) hb (hB.trans (hb.mono hB.size)) (nb6 rfl rfl)
  ·have e38 := dv6 (hdep ⟨17, .guard⟩ (by simp) rfl) rfl
   have e41 := ds6 (hdep ⟨20, .data⟩ (by simp) rfl) rfl
   have e44 := ds6 (hdep ⟨23, .data⟩ (by simp) rfl) rfl
   simp only [List.getD_cons_succ, List.getD_cons_zero] at e38 e41 e44
   generalize f 38 = f38 at *; subst e38
   replace e41 := (show PS wx (f 41) (listOf (mulC (co p) (co q))) from e41)
   generalize f 41 = f41 at *
   replace e44 := (show PS wx (f 44) (listOf (mulC (co p) (co q))) from e44)
   generalize f 44 = f44 at *
   go_simp
   refine (Same_g _ _ _ wx e41 e44).mono ?_
   rintro e0 w' ⟨rfl, hb⟩
   exact hK (.bool true) w' (gv6 rfl) hb (hB.trans (hb.mono hB.size)) (nb6 rfl rfl)
  have e38 := dv6 (hdep ⟨17, .data⟩ (by simp) rfl) rfl
  have e45 := dv6 (hdep ⟨24, .data⟩ (by simp) rfl) rfl
  simp only [List.getD_cons_succ, List.getD_cons_zero] at e38 e45
  generalize f 38 = f38 at *; subst e38
  generalize f 45 = f45 at *; subst e45
  rotate_left
  have e46 := dv6 (hdep ⟨25, .data⟩ (by simp) rfl) rfl
  simp only [List.getD_cons_succ, List.getD_cons_zero] at e46
  generalize f 46 = f46 at *; subst e46
  rotate_left
  have e47 := dv6 (hdep ⟨26, .guard⟩ (by simp) rfl) rfl
  simp only [List.getD_cons_succ, List.getD_cons_zero] at e47
  generalize f 47 = f47 at *; subst e47
  rotate_left
  have e47 := dv6 (hdep ⟨26, .guard⟩ (by simp) rfl) rfl
  simp only [List.getD_cons_succ, List.getD_cons_zero] at e47
  generalize f 47 = f47 at *; subst e47
  rotate_left
  ·have e47 := dv6 (hdep ⟨26, .guard⟩ (by simp) rfl) rfl
   have e48 := dv6 (hdep ⟨27, .data⟩ (by simp) rfl) rfl
   have e49 := dv6 (hdep ⟨28, .data⟩ (by simp) rfl) rfl
   simp only [List.getD_cons_succ, List.getD_cons_zero] at e47 e48 e49
   generalize f 47 = f47 at *; subst e47
   generalize f 48 = f48 at *; subst e48
   generalize f 49 = f49 at *; subst e49
   go_simp
   refine (Scale_g _ _ p x wx (HT.out.below (HB.out.trans (hB.mono HB.out.size))) (G1.out.below hB) (GX.out.below hB)).mono ?_
   rintro e0 w' ⟨val, rfl, hr, hb⟩
   exact hK val w' (gs6 rfl (fun w2 h2 => hr.below h2)) hb (hB.trans (hb.mono hB.size)) (nb6 rfl rfl)
  have e47 := dv6 (hdep ⟨26, .guard⟩ (by simp) rfl) rfl
  simp only [List.getD_cons_succ, List.getD_cons_zero] at e47
  generalize f 47 = f47 at *; subst e47
  rotate_left
  have e47 := dv6 (hdep ⟨26, .guard⟩ (by simp) rfl) rfl
  simp only [List.getD_cons_succ, List.getD_cons_zero] at e47
  generalize f 47 = f47 at *; subst e47
  rotate_left
  ·have e47 := dv6 (hdep ⟨26, .guard⟩ (by simp) rfl) rfl
   have e51 := dv6 (hdep ⟨30, .data⟩ (by simp) rfl) rfl
   have e52 := dv6 (hdep ⟨31, .data⟩ (by simp) rfl) rfl
   simp only [List.getD_cons_succ, List.getD_cons_zero] at e47 e51 e52
   generalize f 47 = f47 at *; subst e47
   generalize f 51 = f51 at *; subst e51
   generalize f 52 = f52 at *; subst e52
   go_simp
   refine (Scale_gr _ _ p x wx (G1.out.below hB) (GX.out.below hB)).mono ?_
   rintro e0 w' ⟨val, rfl, hr, hb⟩
   exact hK val w' (gs6 rfl (fun w2 h2 => hr.below h2)) hb (hB.trans (hb.mono hB.size)) (nb6 rfl rfl)
  ·have e47 := dv6 (hdep ⟨26, .guard⟩ (by simp) rfl) rfl
   have e50 := ds6 (hdep ⟨29, .data⟩ (by simp) rfl) rfl
   have e53 := ds6 (hdep ⟨32, .data⟩ (by simp) rfl) rfl
   simp only [List.getD_cons_succ, List.getD_cons_zero] at e47 e50 e53
   generalize f 47 = f47 at *; subst e47
   replace e50 := (show PS wx (f 50) (listOf (mulC (co p) (constC x))) from e50)
   generalize f 50 = f50 at *
   replace e53 := (show PS wx (f 53) (listOf (mulC (co p) (constC x))) from e53)
   generalize f 53 = f53 at *
   go_simp
   refine (Same_g _ _ _ wx e50 e53).mono ?_
   rintro e0 w' ⟨rfl, hb⟩
   exact hK (.bool true) w' (gv6 rfl) hb (hB.trans (hb.mono hB.size)) (nb6 rfl rfl)
  have e47 := dv6 (hdep ⟨26, .data⟩ (by simp) rfl) rfl
  have e54 := dv6 (hdep ⟨33, .data⟩ (by simp) rfl) rfl
  simp only [List.getD_cons_succ, List.getD_cons_zero] at e47 e54
  generalize f 47 = f47 at *; subst e47
  generalize f 54 = f54 at *; subst e54
  rotate_left
  have e55 := dv6 (hdep ⟨34, .data⟩ (by simp) rfl) rfl
  simp only [List.getD_cons_succ, List.getD_cons_zero] at e55
  generalize f 55 = f55 at *; subst e55
  rotate_left
  have e56 := dv6 (hdep ⟨35, .guard⟩ (by simp) rfl) rfl
  simp only [List.getD_cons_succ, List.getD_cons_zero] at e56
  generalize f 56 = f56 at *; subst e56
  rotate_left
  ·have e56 := dv6 (hdep ⟨35, .guard⟩ (by simp) rfl) rfl
   have e57 := dv6 (hdep ⟨36, .data⟩ (by simp) rfl) rfl
   simp only [List.getD_cons_succ, List.getD_cons_zero] at e56 e57
   generalize f 56 = f56 at *; subst e56
   generalize f 57 = f57 at *; subst e57
   go_simp
   refine (Lowest_p _ p 2 wx (HT.out.below (HB.out.trans (hB.mono HB.out.size))).tab (PI1P.out.below hB) (by omega)).mono ?_
   rintro e0 w' ⟨val, rfl, hr, hb⟩
   exact hK val w' (gs6 rfl (fun w2 h2 => hr.below h2)) hb (hB.trans (hb.mono hB.size)) (nb6 rfl rfl)
  have e56 := dv6 (hdep ⟨35, .guard⟩ (by simp) rfl) rfl
  simp only [List.getD_cons_succ, List.getD_cons_zero] at e56
  generalize f 56 = f56 at *; subst e56
  rotate_left
  ·have e56 := dv6 (hdep ⟨35, .guard⟩ (by simp) rfl) rfl
   have e59 := dv6 (hdep ⟨38, .data⟩ (by simp) rfl) rfl
   simp only [List.getD_cons_succ, List.getD_cons_zero] at e56 e59
   generalize f 56 = f56 at *; subst e56
   generalize f 59 = f59 at *; subst e59
   go_simp
   refine (r2_Lowest _ p 2 wx (PR1P.out.below hB)).mono ?_
   rintro e0 w' ⟨val, rfl, hr, hb⟩
   exact hK val w' (gs6 rfl (fun w2 h2 => hr.below h2)) hb (hB.trans (hb.mono hB.size)) (nb6 rfl rfl)
  ·have e56 := dv6 (hdep ⟨35, .guard⟩ (by simp) rfl) rfl
   have e58 := ds6 (hdep ⟨37, .data⟩ (by simp) rfl) rfl
   have e60 := ds6 (hdep ⟨39, .data⟩ (by simp) rfl) rfl
   simp only [List.getD_cons_succ, List.getD_cons_zero] at e56 e58 e60
   generalize f 56 = f56 at *; subst e56
   replace e58 := (show RatQ wx (f 58) (lowL p) from e58)
   generalize f 58 = f58 at *
   replace e60 := (show RatQ wx (f 60) (lowL p) from e60)
   generalize f 60 = f60 at *
   go_simp
   refine (r_Same_true _ _ (lowL p) (lowL p) wx 3 e58 e60 HSL.out (by omega) rfl).mono ?_
   rintro e0 w' ⟨rfl, hb⟩
   exact hK (.bool true) w' (gv6 rfl) hb (hB.trans (hb.mono hB.size)) (nb6 rfl rfl)
  have e56 := dv6 (hdep ⟨35, .data⟩ (by simp) rfl) rfl
  have e61 := dv6 (hdep ⟨40, .data⟩ (by simp) rfl) rfl
  simp only [List.getD_cons_succ, List.getD_cons_zero] at e56 e61
  generalize f 56 = f56 at *; subst e56
  generalize f 61 = f61 at *; subst e61
  rotate_left
  all_goals go_simp
  all_goals exact hK _ wx (gv6 rfl) (Below.refl _ _) hB (nb6 rfl rfl)
 case fina =>
  intro f wx hB hG hne
  have eL := dv6 (a := f 62) (hG 41 (by decide)) rfl
  clear hG hne
  simp only [frontAct, List.foldl_cons, List.foldl_nil, List.setIfInBounds_toArray, List.set_cons_succ, List.set_cons_zero]
  generalize f 62 = fL at *; subst eL
  have HEND := Lib.hid (HB.out.trans (hB.mono HB.out.size))
  clear hB
  refine wpAny_ready (rs := [42]) (by kernel_rfl) (by simp) ?_
  refine AllReady.cons rfl (fun K hK => ?_) AllReady.nil
  have HQ := Lib.hid hK
  clear hK
  go_simp
  refine HQ.out _ _ ?_
  clear HQ K
  refine wpAny_done (by kernel_rfl) ?_ _
  go_wp2_with fail
  go_ret
  exact ⟨rfl, HEND.out⟩
end Go.Proofs.YtifeekomegoijaaGreatDoor
