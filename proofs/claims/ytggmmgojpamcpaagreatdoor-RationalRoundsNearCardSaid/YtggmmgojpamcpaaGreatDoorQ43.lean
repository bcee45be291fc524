/- The specification's Whole. -/
import Derived.Test.YtggmmgojpamcpaaGreatDoorQ37
import Derived.Test.YtggmmgojpamcpaaGreatDoorQ29
import Derived.Test.YtggmmgojpamcpaaGreatDoorQ06
import Derived.Deep.CutRange
set_option linter.unusedVariables false
set_option linter.unusedSimpArgs false
namespace Go.Proofs.YtggmmgojpamcpaaGreatDoor
open Go.RowKit

theorem low_two {a : Nat} (h : (limbs a).length ≤ 2) : (limbs a).getD 0 0 + 4294967296 * (limbs a).getD 1 0 = a := by
  conv => rhs; rw [← val_limbs a]
  match h2 : limbs a, h with
  | [], _ => rfl
  | [x], _ => simp [val]
  | [x, y], _ => simp [val]
  | x :: y :: z :: t, hl => simp at hl

set_option maxRecDepth 20000 in
set_option maxHeartbeats 1000000 in
theorem r_Whole (v : Value) (q : Rat) (V : Int) (O : Bool) (w : World) (h : Inr w v q) (HV : Hid (wholeOf q = V ∧ wholeOk q = O)) :
    Calls Tryz.prog 16 #[v] w (RetV w (.tuple #[.int .i64 V, .bool O])) := by
  obtain ⟨z0, Z, zn, zc, Z', zm, ze, rfl⟩ := h.agg
  have hbA : Below w.heap.size w (w.alloc (R1 (.bool z0) (.slice Z zn zc) (.slice Z' zm ze))) := (Below.refl _ _).alloc (Nat.le_refl _) _
  have hrx := Rc.new w (.bool z0) (.slice Z zn zc) (.slice Z' zm ze)
  go_enter Tryz.func16, Tryz.ntmps16
  go_wp2_with fail
  refine (r_Take _ q _ (h.below hbA)).mono ?_
  rintro e w1 ⟨v1, rfl, h1, hb1⟩
  have hrx1 := hrx.below hb1 hrx.lt
  obtain ⟨nb, A, n, c, B, m, e, rfl⟩ := h1.agg
  obtain ⟨k0, k1, k2⟩ := hrx1.cells
  obtain ⟨f0, f1, f2⟩ := hrx1.frozen
  have hb01 := hbA.trans (hb1.mono hbA.size)
  have hrx2 := hrx1.set (.bool nb) (.slice A n c) (.slice B m e)
  obtain ⟨p1, p2, p3⟩ := (h1.set3 hrx1 (.bool nb) (.slice A n c) (.slice B m e)).parts
  have hb02 := below_set3 hb01 (Nat.le_refl _) (.bool nb) (.slice A n c) (.slice B m e)
  obtain ⟨hnn, hfail, hgood, hpos⟩ := whole_plain q nb n m p1 (dl_zero p3 q.den_nz) p2.len
  rw [HV.out.1, HV.out.2] at hfail hgood
  have HF := Lib.hid hfail
  have HG := Lib.hid hgood
  have HN := Lib.hid hnn
  have HP := Lib.hid hpos
  clear hfail hgood hnn hpos p1 p3
  by_cases h0 : m = 0
  · subst h0
    have HG1 := Lib.hid (HG.out rfl)
    by_cases h2 : 2 < n
    · have HF1 := Lib.hid (HF.out (.inr (.inl h2)))
      go_wp2_with fail
      go_ret2
      rw [HF1.out.1, HF1.out.2]
      exact ⟨rfl, hb02⟩
    · have hlt := HN.out h2
      have h2l := low_two (a := q.num.natAbs) (by rw [← p2.len]; omega)
      generalize hsz : q.num.natAbs = a at *
      have HA := Lib.hid hlt
      obtain ⟨x, hx⟩ : ∃ x, (limbs a).getD 0 0 = x := ⟨_, rfl⟩
      obtain ⟨y, hy⟩ : ∃ y, (limbs a).getD 1 0 = y := ⟨_, rfl⟩
      have hx4 : x < 4294967296 := by rw [← hx]; exact p2.lim.getD _
      have hy4 : y < 4294967296 := by rw [← hy]; exact p2.lim.getD _
      rw [hx, hy] at h2l
      have HX := Lib.hid (show (limbs a).getD (0 : Int).toNat 0 = x from hx)
      have HY := Lib.hid (show (limbs a).getD (1 : Int).toNat 0 = y from hy)
      have HXY := Lib.hid h2l
      have hor : bits .or .u64 (x : Int) (IntKind.u64.wrap ((y : Int) * 4294967296)) = (a : Int) := by
        have hyw : IntKind.u64.wrap ((y : Int) * 4294967296) = (y : Int) * 4294967296 := by rw [IntKind.wrap_u64]; omega
        rw [hyw, show (y : Int) * 4294967296 = ((y * 4294967296 : Nat) : Int) from by omega, u64_or_nat _ _ (by omega) (by omega), Nat.or_comm, nat_join 32 (y * 4294967296) x (by omega) (by omega)]
        omega
      clear hlt hsz hx hy h2l
      go_wp2_with fail
      generalize (((w1.setCell ⟨w.heap.size, 0, none⟩ (.bool nb)).setCell ⟨w.heap.size, 1, none⟩ (.slice A n c)).setCell ⟨w.heap.size, 2, none⟩ (.slice B 0 e)) = W2 at *
      replace hrx2 := hrx2.drew
      replace p2 := p2.drew
      replace hb02 := hb02.drew
      clear k0 k1 k2 f0 f1 f2
      obtain ⟨k0, k1, k2⟩ := hrx2.cells
      go_region_with (first
        | (go_at_call 57; (with_reducible refine (r_limb _ _ _ 1 _ _ y p2 (by decide) (by omega) HY).mono ?_); rintro e' w' ⟨rfl, rfl⟩)
        | (go_at_call 57; (with_reducible refine (r_limb _ _ _ 0 _ _ x p2 (by decide) (by omega) HX).mono ?_); rintro e' w' ⟨rfl, rfl⟩))
      all_goals
       clear hor
       cases nb
       · by_cases hc : 9223372036854775808 ≤ a
         · have HF1 := Lib.hid (HF.out (.inr (.inr (.inl ⟨rfl, hc⟩))))
           have hd : decide ((9223372036854775808 : Int) ≤ (a : Int)) = true := by simp; omega
           clear HXY HX HY hx4 hy4 HG HG1 HF HN HP HA hc
           go_wp2_with fail
           go_ret2
           rw [HF1.out.1, HF1.out.2]
           exact ⟨rfl, hb02⟩
         · have HG2 := Lib.hid (HG1.out (.inl ⟨rfl, by omega⟩))
           have hd : decide ((9223372036854775808 : Int) ≤ (a : Int)) = false := by simp; omega
           have hw : IntKind.i64.wrap (a : Int) = (a : Int) := IntWalk.i64_in _ (by omega)
           clear HXY HX HY hx4 hy4 HG HG1 HF HN HP HA hc
           go_wp2_with fail
           go_ret2
           rw [HG2.out.1, HG2.out.2]
           exact ⟨rfl, hb02⟩
       · have hp := HP.out rfl
         rcases Nat.lt_trichotomy a 9223372036854775808 with hc | hc | hc
         · have HG2 := Lib.hid (HG1.out (.inr ⟨rfl, by omega⟩))
           have he : ((a : Int) == 9223372036854775808) = false := by rw [beq_eq_false_iff_ne]; omega
           have hd : decide ((9223372036854775808 : Int) ≤ (a : Int)) = false := by simp; omega
           have hw : IntKind.i64.wrap (a : Int) = (a : Int) := IntWalk.i64_in _ (by omega)
           have hw2 : IntKind.i64.wrap (-(a : Int)) = -(a : Int) := IntWalk.i64_in _ (by omega)
           clear HXY HX HY hx4 hy4 HG HG1 HF HN HP HA hc hp
           go_wp2_with fail
           go_ret2
           rw [HG2.out.1, HG2.out.2]
           exact ⟨rfl, hb02⟩
         · have HG2 := Lib.hid (HG1.out (.inr ⟨rfl, by omega⟩))
           have he : ((a : Int) == 9223372036854775808) = true := by rw [beq_iff_eq]; omega
           have HE : Hid (sgn true a = -9223372036854775808) := by show -(a : Int) = _; omega
           clear HXY HX HY hx4 hy4 HG HG1 HF HN HP HA hc hp
           go_wp2_with fail
           go_ret2
           rw [HG2.out.1, HG2.out.2, HE.out]
           exact ⟨rfl, hb02⟩
         · have HF1 := Lib.hid (HF.out (.inr (.inr (.inr ⟨rfl, hc⟩))))
           have he : ((a : Int) == 9223372036854775808) = false := by rw [beq_eq_false_iff_ne]; omega
           have hd : decide ((9223372036854775808 : Int) ≤ (a : Int)) = true := by simp; omega
           clear HXY HX HY hx4 hy4 HG HG1 HF HN HP HA hc hp
           go_wp2_with fail
           go_ret2
           rw [HF1.out.1, HF1.out.2]
           exact ⟨rfl, hb02⟩
  · have HF1 := Lib.hid (HF.out (.inl h0))
    have hm0 : 0 < m := Nat.pos_of_ne_zero h0
    go_wp2_with fail
    go_ret2
    rw [HF1.out.1, HF1.out.2]
    exact ⟨rfl, hb02⟩
end Go.Proofs.YtggmmgojpamcpaaGreatDoor
