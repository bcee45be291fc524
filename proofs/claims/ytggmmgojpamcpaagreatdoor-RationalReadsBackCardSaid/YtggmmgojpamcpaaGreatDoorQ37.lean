/- The law RationalReadsBack. -/
import Derived.Test.YtggmmgojpamcpaaGreatDoorQ36
import Derived.Test.YtggmmgojpamcpaaGreatDoorQ33
import Derived.Test.YtggmmgojpamcpaaGreatDoorQ29
set_option linter.unusedVariables false
set_option linter.unusedSimpArgs false
namespace Go.Proofs.YtggmmgojpamcpaaGreatDoor
open Go.RowKit

set_option maxRecDepth 20000 in
set_option maxHeartbeats 4000000 in
theorem readsback_law (v1 : Value) (nx : Bool) (a1 d1 : List Nat) (i : Int) (w : World) (hT : Txt w) (h1 : Fld w v1 nx a1 d1) (hi1 : -9223372036854775808 ≤ i) (hi2 : i < 9223372036854775808) :
    Calls Tryz.prog 10 #[v1, .int .i64 i] w (RetV w (.bool true)) := by
  obtain ⟨X1, x1, y1, Z1, z1, t1, rfl⟩ := h1.agg
  have hb0 : Below w.heap.size w (w.alloc (R1 (.bool nx) (.slice X1 x1 y1) (.slice Z1 z1 t1))) := (Below.refl _ _).alloc (Nat.le_refl _) _
  have r1 := Rc.new w (.bool nx) (.slice X1 x1 y1) (.slice Z1 z1 t1)
  have g1 := h1.below hb0
  -- the whole number
  obtain ⟨r, hr⟩ : ∃ r, qv (decide (i < 0) != decide ((1 : Int) < 0)) i.natAbs (1 : Int).natAbs = r := ⟨_, rfl⟩
  have hlow := qv_low (neg := (decide (i < 0) != decide ((1 : Int) < 0))) (a := i.natAbs) (d := 1) (by decide) (Nat.gcd_one_right _)
  have hnum : r.num = i := by
    rw [← hr]
    refine hlow.1.trans ?_
    have e : (decide (i < 0) != decide ((1 : Int) < 0)) = decide (i < 0) := by simp
    rw [e, sgn_self]
  have hden : r.den = 1 := by rw [← hr]; exact hlow.2
  have hok : wholeOk r = true := by unfold wholeOk; rw [hnum, hden]; exact decide_eq_true ⟨rfl, hi1, hi2⟩
  have hwv : wholeOf r = i ∧ wholeOk r = true := ⟨by unfold wholeOf; rw [hok, if_pos rfl, hnum], hok⟩
  have hsr : Sz r 2 := by
    refine ⟨?_, ?_⟩
    · rw [hnum]; exact limbs_length_le (by rw [P_two]; omega)
    · rw [hden]; exact limbs_length_le (by rw [P_two]; decide)
  have HR := Lib.hid hr
  have HW := Lib.hid hwv
  have HI := Lib.hid (And.intro hi1 hi2)
  clear hr hlow hnum hden hok hwv hi1 hi2
  obtain ⟨V1, e1⟩ : ∃ b, lgt a1 d1 = b := ⟨_, rfl⟩
  obtain ⟨V2, e2⟩ : ∃ b, vld nx a1 d1 = b := ⟨_, rfl⟩
  have E1 := Lib.hid e1
  have E2 := Lib.hid e2
  clear e1 e2
  obtain ⟨p0, p1, p2⟩ := r1.cells
  go_enter Tryz.func10, Tryz.ntmps10
  go_wp2_with fail
  generalize w.alloc (R1 (.bool nx) (.slice X1 x1 y1) (.slice Z1 z1 t1)) = W0 at *
  refine (light_f _ _ _ _ _ V1 g1 E1).mono ?_
  rintro e w1 ⟨rfl, hb1⟩
  have hb01 := hb0.trans (hb1.mono hb0.size)
  have r11 := r1.below hb1 r1.lt
  have g11 := g1.below hb1
  clear p0 p1 p2
  obtain ⟨p0, p1, p2⟩ := r11.cells
  cases V1
  · go_wp2_with fail
    refine (awake_any _ (hT.below hb01)).mono ?_
    rintro e w2 ⟨rfl, hb2⟩
    go_wp2_with fail
    go_ret
    exact ⟨rfl, hb01.trans (hb2.mono hb01.size)⟩
  · go_wp2_with fail
    refine (valid_f _ _ _ _ _ V2 g11 E1.out E2).mono ?_
    rintro e w2 ⟨rfl, hb2⟩
    have hb02 := hb01.trans (hb2.mono hb01.size)
    have r12 := r11.below hb2 r11.lt
    have g12 := g11.below hb2
    clear p0 p1 p2
    obtain ⟨p0, p1, p2⟩ := r12.cells
    cases V2
    · go_wp2_with fail
      refine (awake_any _ (hT.below hb02)).mono ?_
      rintro e w3 ⟨rfl, hb3⟩
      go_wp2_with fail
      go_ret
      exact ⟨rfl, hb02.trans (hb3.mono hb02.size)⟩
    · obtain ⟨x, hx, sx⟩ := fair_rat g12 ⟨E1.out, E2.out⟩
      have HP : Hid (parseQ (⟨(fmtQ x).toArray⟩ : ByteArray).data.toList = some x) := parse_fmt sx (by decide)
      have hlen : (⟨(fmtQ x).toArray⟩ : ByteArray).size < 4294967281 := fmt_size sx
      obtain ⟨tx, htx⟩ : ∃ t, (⟨(fmtQ x).toArray⟩ : ByteArray) = t := ⟨_, rfl⟩
      rw [htx] at HP hlen
      have HTX := Lib.hid htx
      clear htx g1 g11 g12
      go_wp2_with fail
      refine (Format_any _ x 6 _ (hT.below hb02) (hx.inp sx (by decide)) (sx.mono (by decide))).mono ?_
      rw [HTX.out]
      rintro e w3 ⟨rfl, hb3⟩
      have hb03 := hb02.trans (hb3.mono hb02.size)
      go_wp2_with fail
      refine (Parse_any _ _ (hT.below hb03) hlen _ HP.out).mono ?_
      rintro e w4 ⟨v4, rfl, h4, hb4⟩
      have hb04 := hb03.trans (hb4.mono hb03.size)
      have h4' : RatQ w4 v4 x := h4
      obtain ⟨ny, A, n, c, A', m, c', rfl⟩ := h4'.agg
      have hbn : Below w4.heap.size w4 (w4.alloc (R1 (.bool ny) (.slice A n c) (.slice A' m c'))) := (Below.refl _ _).alloc (Nat.le_refl _) _
      have hb05 := hb04.trans (hbn.mono hb04.size)
      have ry := Rc.new w4 (.bool ny) (.slice A n c) (.slice A' m c')
      have hy := h4'.below hbn
      have r14 := ((r12.below hb3 r12.lt).below hb4 (by have := r12.lt; have := hb3.size; omega)).alloc (R1 (.bool ny) (.slice A n c) (.slice A' m c'))
      have hx4 := ((hx.below hb3).below hb4).below hbn
      clear p0 p1 p2 h4 h4'
      go_wp2_with fail
      generalize w4.alloc (R1 (.bool ny) (.slice A n c) (.slice A' m c')) = W5 at *
      refine (Make_any i 1 _ (hT.tab.below hb05) (by decide) r HR.out HI.out.1 HI.out.2 (by decide) (by decide)).mono ?_
      rintro e w6 ⟨v6, rfl, h6, hb6⟩
      have hb06 := hb05.trans (hb6.mono hb05.size)
      obtain ⟨nq, D, k, d, D', l, d', rfl⟩ := h6.agg
      have hbm : Below w6.heap.size w6 (w6.alloc (R1 (.bool nq) (.slice D k d) (.slice D' l d'))) := (Below.refl _ _).alloc (Nat.le_refl _) _
      have hb07 := hb06.trans (hbm.mono hb06.size)
      have rq := Rc.new w6 (.bool nq) (.slice D k d) (.slice D' l d')
      have hq := h6.below hbm
      have ry7 := (ry.below hb6 ry.lt).alloc (R1 (.bool nq) (.slice D k d) (.slice D' l d'))
      have r17 := (r14.below hb6 r14.lt).alloc (R1 (.bool nq) (.slice D k d) (.slice D' l d'))
      have hx7 := (hx4.below hb6).below hbm
      have hy7 := (hy.below hb6).below hbm
      obtain ⟨q0, q1, q2⟩ := rq.cells
      go_wp2_with fail
      generalize w6.alloc (R1 (.bool nq) (.slice D k d) (.slice D' l d')) = W7 at *
      refine (Whole_any _ r 2 i true _ (hT.tab.below hb07) (hq.inp hsr (by decide)) HW).mono ?_
      rintro e w8 ⟨rfl, hb8⟩
      have hb08 := hb07.trans (hb8.mono hb07.size)
      clear q0 q1 q2
      go_wp2_with fail
      refine (awake_any _ (hT.below hb08)).mono ?_
      rintro e w9 ⟨rfl, hb9⟩
      have hb09 := hb08.trans (hb9.mono hb08.size)
      have r19 := (r17.below hb8 r17.lt).below hb9 (by have := r17.lt; have := hb8.size; omega)
      have ry9 := (ry7.below hb8 ry7.lt).below hb9 (by have := ry7.lt; have := hb8.size; omega)
      have hx9 := (hx7.below hb8).below hb9
      have hy9 := (hy7.below hb8).below hb9
      obtain ⟨p0, p1, p2⟩ := r19.cells
      obtain ⟨s0, s1, s2⟩ := ry9.cells
      go_wp2_with fail
      refine (r_Same_true _ _ x x _ 6 hx9 hy9 sx (by decide) rfl).mono ?_
      rintro e w10 ⟨rfl, hb10⟩
      go_wp2_with fail
      go_ret
      exact ⟨rfl, hb09.trans (hb10.mono hb09.size)⟩
end Go.Proofs.YtggmmgojpamcpaaGreatDoor
