/- awake, light, fair. -/
import Derived.Test.YtggmmgojpamcpaaGreatDoorQ17
import Derived.Test.YtggmmgojpamcpaaGreatDoorQ15
import Derived.Test.YtggmmgojpamcpaaGreatDoorQ22
import Derived.Test.YtggmmgojpamcpaaGreatDoorQ27
set_option linter.unusedVariables false
set_option linter.unusedSimpArgs false
namespace Go.Proofs.YtggmmgojpamcpaaGreatDoor
open Go.RowKit

theorem fmt_of {neg : Bool} {a d : Nat} (hd : d ≠ 0) (hg : Nat.gcd a d = 1) : fmtQ (qv neg a d) = (if (neg && decide (a ≠ 0)) = true then [45] else []) ++ Lib.decDigits a ++ (if d = 1 then [] else 47 :: Lib.decDigits d) := by
  unfold fmtQ
  rw [(qv_low hd hg).1, (qv_low hd hg).2, sgn_abs, ← sgn_neg]
  simp
theorem sz_qv {neg : Bool} {a d L : Nat} (hd : d ≠ 0) (hg : Nat.gcd a d = 1) (ha : (limbs a).length ≤ L) (hdl : (limbs d).length ≤ L) : Sz (qv neg a d) L := by
  unfold Sz
  rw [(qv_low hd hg).1, (qv_low hd hg).2, sgn_abs]
  exact ⟨ha, hdl⟩
theorem dec_dig {n : Nat} (h : n < 10) : Lib.decDigits n = [UInt8.ofNat (48 + n)] := by rw [Lib.decDigits, dif_pos h]
theorem small_len {n : Nat} (h : n < 4294967296) : (limbs n).length ≤ 1 := limbs_length_le (by unfold P; omega)

set_option maxRecDepth 20000 in
set_option maxHeartbeats 2000000 in
theorem awake_any (w : World) (hT : Txt w) : Calls Tryz.prog 12 #[] w (RetV w (.bool true)) := by
  have q1 : qv (decide ((6 : Int) < 0) != decide ((-4 : Int) < 0)) (6 : Int).natAbs (-4 : Int).natAbs = qv true 3 2 := qv_scale true (a := 3) (d := 2) (k := 2) (by decide)
  have p1 : parseQ (⟨#[52, 47, 54]⟩ : ByteArray).data.toList = some (qv false 2 3) := by
    have e : qv false 4 6 = qv false 2 3 := qv_scale false (a := 2) (d := 3) (k := 2) (by decide)
    rw [← e]
    have h0 : Lib.hasPrefix [52, 47, 54] [45] = false := by decide
    have h1 : Lib.cut [52, 47, 54] [47] = ([52], [54], true) := by decide
    have h2 : readDec [52] = some 4 := by decide
    have h3 : readDec [54] = some 6 := by decide
    show parseQ [52, 47, 54] = _
    unfold parseQ Lib.trimPrefix
    rw [h0]
    simp only [Bool.false_eq_true, if_false, h1, h2, h3, if_true]
    rfl
  have q2 : qv (decide ((5 : Int) < 0) != decide ((3 : Int) < 0)) (5 : Int).natAbs (3 : Int).natAbs = qv false 5 3 := rfl
  have d1 : down (qv false 5 3) 1 = qv false 3 2 := by
    rw [← qv_down (by decide) (by decide)]; rfl
  have u1 : up (qv false 5 3) 1 = qv false 2 1 := by
    rw [← qv_up (by decide) (by decide)]
    exact qv_scale false (a := 2) (d := 1) (k := 2) (by decide)
  have f1 : fmtQ (qv true 3 2) = [45, 51, 47, 50] := by rw [fmt_of (by decide) (by decide), dec_dig (by decide), dec_dig (by decide)]; rfl
  have f2 : fmtQ (qv false 2 3) = [50, 47, 51] := by rw [fmt_of (by decide) (by decide), dec_dig (by decide), dec_dig (by decide)]; rfl
  have f3 : fmtQ (qv false 3 2) = [51, 47, 50] := by rw [fmt_of (by decide) (by decide), dec_dig (by decide), dec_dig (by decide)]; rfl
  have f4 : fmtQ (qv false 2 1) = [50] := by rw [fmt_of (by decide) (by decide), dec_dig (by decide)]; rfl
  have F1 := Lib.hid f1
  have F2 := Lib.hid f2
  have F3 := Lib.hid f3
  have F4 := Lib.hid f4
  have Q1 := Lib.hid q1
  have P1 := Lib.hid p1
  have Q2 := Lib.hid q2
  have D1 := Lib.hid d1
  have U1 := Lib.hid u1
  have s1 : Sz (qv true 3 2) 1 := sz_qv (by decide) (by decide) (small_len (by decide)) (small_len (by decide))
  have s2 : Sz (qv false 2 3) 1 := sz_qv (by decide) (by decide) (small_len (by decide)) (small_len (by decide))
  have s3 : Sz (qv false 5 3) 1 := sz_qv (by decide) (by decide) (small_len (by decide)) (small_len (by decide))
  have s4 : Sz (qv false 3 2) 1 := sz_qv (by decide) (by decide) (small_len (by decide)) (small_len (by decide))
  have s5 : Sz (qv false 2 1) 1 := sz_qv (by decide) (by decide) (small_len (by decide)) (small_len (by decide))
  clear f1 f2 f3 f4 q1 p1 q2 d1 u1
  go_enter Tryz.func12, Tryz.ntmps12
  go_wp2_with fail
  refine (Make_any 6 (-4) w hT.tab (by decide) _ Q1.out (by decide) (by decide) (by decide) (by decide)).mono ?_
  rintro e w1 ⟨v1, rfl, h1, hb1⟩
  obtain ⟨nx, A, n, c, A', m, c', rfl⟩ := h1.agg
  have hbx : Below w1.heap.size w1 (w1.alloc (R1 (.bool nx) (.slice A n c) (.slice A' m c'))) := (Below.refl _ _).alloc (Nat.le_refl _) _
  have hrx := Rc.new w1 (.bool nx) (.slice A n c) (.slice A' m c')
  have hx1 := h1.below hbx
  have hb01 := hb1.trans (hbx.mono hb1.size)
  go_wp2_with fail
  refine (Parse_any _ _ (hT.below hb01) (by decide) _ P1.out).mono ?_
  rintro e w2 ⟨v2, rfl, h2, hb2⟩
  obtain ⟨ny, D, k, d, D', l, d', rfl⟩ := h2.agg
  have hbz : Below w2.heap.size w2 (w2.alloc (R1 (.bool ny) (.slice D k d) (.slice D' l d'))) := (Below.refl _ _).alloc (Nat.le_refl _) _
  have hry := Rc.new w2 (.bool ny) (.slice D k d) (.slice D' l d')
  have hrx3 := (hrx.below hb2 hrx.lt).alloc (R1 (.bool ny) (.slice D k d) (.slice D' l d'))
  have hb03 := (hb01.trans (hb2.mono hb01.size)).trans (hbz.mono (by have := hb01.size; have := hb2.size; omega))
  have hx3 := (hx1.below hb2).below hbz
  have hy3 : RatQ _ _ (qv false 2 3) := h2.below hbz
  obtain ⟨x0, x1, x2⟩ := hrx3.cells
  obtain ⟨y0, y1, y2⟩ := hry.cells
  go_wp2_with fail
  generalize w2.alloc (R1 (.bool ny) (.slice D k d) (.slice D' l d')) = W3 at *
  refine (Format_any _ _ 1 _ (hT.below hb03) (hx3.inp s1 (by decide)) (s1.mono (by decide))).mono ?_
  rw [F1.out]
  rintro e w4 ⟨rfl, hb4⟩
  have hy4 := hy3.below (hb4.mono (by omega))
  have hry4 := hry.below hb4 hry.lt
  obtain ⟨y0, y1, y2⟩ := hry4.cells
  have hb04 := hb03.trans (hb4.mono hb03.size)
  go_wp2_with fail
  refine (Format_any _ _ 1 _ (hT.below hb04) (hy4.inp s2 (by decide)) (s2.mono (by decide))).mono ?_
  rw [F2.out]
  rintro e w5 ⟨rfl, hb5⟩
  have hb05 := hb04.trans (hb5.mono hb04.size)
  go_wp2_with fail
  refine (r_Of 5 3 _ (by decide) _ Q2.out (by decide) (by decide) (by decide) (by decide)).mono ?_
  rintro e w6 ⟨v6, rfl, h6, hb6⟩
  have hb06 := hb05.trans (hb6.mono hb05.size)
  obtain ⟨n6, A6, m6, c6, B6, k6, d6, rfl⟩ := h6.agg
  go_wp2_with fail
  refine (Down_in _ _ _ 1 1 _ (hT.tab.below hb06) (h6.inp s3 (by decide)) (s3.mono (by decide)) (by decide) D1.out).mono ?_
  rintro e w7 ⟨v7, rfl, h7, hb7⟩
  have hb07 := hb06.trans (hb7.mono hb06.size)
  obtain ⟨n7, A7, m7, c7, B7, k7, d7, rfl⟩ := h7.agg
  go_wp2_with fail
  refine (Format_any _ _ 1 _ (hT.below hb07) (h7.inp s4 (by decide)) (s4.mono (by decide))).mono ?_
  rw [F3.out]
  rintro e w8 ⟨rfl, hb8⟩
  have hb08 := hb07.trans (hb8.mono hb07.size)
  go_wp2_with fail
  refine (r_Of 5 3 _ (by decide) _ Q2.out (by decide) (by decide) (by decide) (by decide)).mono ?_
  rintro e w9 ⟨v9, rfl, h9, hb9⟩
  have hb09 := hb08.trans (hb9.mono hb08.size)
  obtain ⟨n9, A9, m9, c9, B9, k9, d9, rfl⟩ := h9.agg
  go_wp2_with fail
  refine (Up_in _ _ _ 1 1 _ (hT.tab.below hb09) (h9.inp s3 (by decide)) (s3.mono (by decide)) (by decide) U1.out).mono ?_
  rintro e w10 ⟨v10, rfl, h10, hb10⟩
  have hb010 := hb09.trans (hb10.mono hb09.size)
  obtain ⟨n10, A10, m10, c10, B10, k10, d10, rfl⟩ := h10.agg
  go_wp2_with fail
  refine (Format_any _ _ 1 _ (hT.below hb010) (h10.inp s5 (by decide)) (s5.mono (by decide))).mono ?_
  rw [F4.out]
  rintro e w11 ⟨rfl, hb11⟩
  go_wp2_with fail
  go_ret
  exact ⟨rfl, hb010.trans (hb11.mono hb010.size)⟩

set_option maxRecDepth 20000 in
set_option maxHeartbeats 1000000 in
theorem light_any (neg : Bool) (A A' : Option Addr) (n c m c' : Nat) (w : World) (V : Bool) (H : Hid ((decide (n ≤ 6) && decide (m ≤ 6)) = V)) :
    Calls Tryz.prog 11 #[.agg #[.bool neg, .slice A n c, .slice A' m c']] w (RetV w (.bool V)) := by
  have hbA : Below w.heap.size w (w.alloc (R1 (.bool neg) (.slice A n c) (.slice A' m c'))) := (Below.refl _ _).alloc (Nat.le_refl _) _
  go_enter Tryz.func11, Tryz.ntmps11
  go_wp2_with fail
  refine (r_Light neg A A' n c m c' 6 _ V H).mono ?_
  rintro e w1 ⟨rfl, hb1⟩
  go_wp2_with fail
  go_ret
  exact ⟨rfl, hbA.trans (hb1.mono hbA.size)⟩
/-- What a law is given: three fields. -/
structure Fld (w : World) (v : Value) (neg : Bool) (ln ld : List Nat) : Prop where
  out : ∃ A n c A' m c', v = .agg #[.bool neg, .slice A n c, .slice A' m c'] ∧ Num w ln A n c ∧ Num w ld A' m c'
theorem Fld.below {w w' : World} {v : Value} {neg : Bool} {ln ld : List Nat} (h : Fld w v neg ln ld) (hb : Below w.heap.size w w') : Fld w' v neg ln ld := by
  obtain ⟨A, n, c, A', m, c', e, h1, h2⟩ := h.out
  exact ⟨A, n, c, A', m, c', e, h1.below hb, h2.below hb⟩
def lgt (ln ld : List Nat) : Bool := decide (ln.length ≤ 6) && decide (ld.length ≤ 6)
theorem light_f (v : Value) (neg : Bool) (ln ld : List Nat) (w : World) (V : Bool) (h : Fld w v neg ln ld) (H : Hid (lgt ln ld = V)) : Calls Tryz.prog 11 #[v] w (RetV w (.bool V)) := by
  obtain ⟨A, n, c, A', m, c', rfl, h1, h2⟩ := h.out
  refine light_any neg A A' n c m c' w V ?_
  show _ = _
  rw [← H.out, h1.len, h2.len]
  rfl
theorem valid_f (v : Value) (neg : Bool) (ln ld : List Nat) (w : World) (V : Bool) (h : Fld w v neg ln ld) (hl : lgt ln ld = true) (H : Hid (vld neg ln ld = V)) : Calls Tryz.prog 18 #[v] w (RetV w (.bool V)) := by
  obtain ⟨A, n, c, A', m, c', rfl, h1, h2⟩ := h.out
  unfold lgt at hl
  simp only [Bool.and_eq_true, decide_eq_true_eq] at hl
  exact r_Valid neg A A' n c m c' ln ld w V h1 h2 (by rw [h1.len]; omega) (by rw [h2.len]; omega) H
theorem Fld.agg {w : World} {v : Value} {neg : Bool} {ln ld : List Nat} (h : Fld w v neg ln ld) : ∃ A n c A' m c', v = .agg #[.bool neg, .slice A n c, .slice A' m c'] := by
  obtain ⟨A, n, c, A', m, c', e, _⟩ := h.out
  exact ⟨A, n, c, A', m, c', e⟩
end Go.Proofs.YtggmmgojpamcpaaGreatDoor
