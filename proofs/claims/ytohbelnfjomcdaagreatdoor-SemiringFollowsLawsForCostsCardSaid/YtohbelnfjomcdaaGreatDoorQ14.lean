/- product. -/
import Derived.Test.YtohbelnfjomcdaaGreatDoorQ02
set_option linter.unusedVariables false
set_option linter.unusedSimpArgs false
namespace Go.Proofs.YtohbelnfjomcdaaGreatDoor
open Go.RowKit

set_option maxHeartbeats 1000000 in
theorem product_l (A A' : Option Addr) (n c m c' : Nat) (l r : List Nat) (w : World) (hx : Num w l A n c) (hy : Num w r A' m c') (hn : n ≤ 536870912) (hm : m ≤ 536870912) :
    Calls Tryz.prog 222 #[.slice A n c, .slice A' m c'] w (RetOwn w (limbs (val l * val r))) := by
  have hmk := mk_run (n + m) ((n : Int) + (m : Int)) (by omega) (by omega)
  go_enter Tryz.func222, Tryz.ntmps222
  go_wp2
  go_loopw [20] (fun si wr => ∃ (i : Nat) (L : List Nat), i ≤ n ∧ si = .int .i64 i ∧ Row wr w.heap.size L ∧ Below w.heap.size w wr ∧ Hid (L.length = n + m ∧ Lim L ∧ val L = val (l.take i) * val r ∧ ∀ j, i + m ≤ j → L.getD j 0 = 0))
    (fun si _ => n - (intOf si).toNat)
  case atStart => exact ⟨0, List.replicate (n + m) 0, Nat.zero_le _, rfl, Row.new _ _, (Below.refl _ _).alloc (Nat.le_refl _) _, show Hid _ from ⟨by simp, Lim.zeros _, by simp [val_zeros, val], fun j _ => by rw [List.getD_eq_getElem?_getD, List.getElem?_replicate]; split <;> rfl⟩⟩
  case round =>
    obtain ⟨i, L, hi, rfl, hrow, hbel, HI⟩ := hrel
    clear hmk
    by_cases hin : i < n
    · have hxw := hx.below hbel
      obtain ⟨b, o, x, rfl, _, hx', hx4, hcx⟩ := hxw.at_ hin
      have HX := Lib.hid hx'; clear hx'
      have hne : ¬ n + m = i := by omega
      have hsub : i + m - i = m := by omega
      obtain ⟨wo, rfl⟩ : ∃ wo : World, wo = wr := ⟨_, rfl⟩
      go_wp2_with fail
      go_loopw [8, 34] (fun sc sk w2 => ∃ (k cr : Nat) (M : List Nat), k ≤ m ∧ cr < 4294967296 ∧ sc = .int .u64 cr ∧ sk = .int .i64 k ∧ Row w2 w.heap.size M ∧ Below w.heap.size w w2 ∧ Hid (M.length = n + m ∧ Lim M ∧ val M + P (i + k) * cr = val L + P i * (x * val (r.take k)) ∧ ∀ j, i + k ≤ j → M.getD j 0 = L.getD j 0))
        (fun _ sk _ => m - (intOf sk).toNat)
      case atStart => exact ⟨0, 0, L, Nat.zero_le _, by omega, rfl, rfl, hrow, hbel, show Hid _ from ⟨HI.out.1, HI.out.2.1, by simp [val], fun j _ => rfl⟩⟩
      case round =>
        obtain ⟨k, cr, M, hk, hcr, rfl, rfl, hrow2, hbel2, HJ⟩ := hrel
        by_cases hkm : k < m
        · have hyw := hy.below hbel2
          obtain ⟨b', o', y, rfl, _, hy', hy4, hcy⟩ := hyw.at_ hkm
          have HY := Lib.hid hy'; clear hy'
          obtain ⟨d, hd⟩ : ∃ d, M.getD (i + k) 0 = d := ⟨_, rfl⟩
          have hd4 : d < 4294967296 := by rw [← hd]; exact HJ.out.2.1.getD _
          have hcs := hrow2.cell (k := i + k) (by have := HJ.out.1; omega)
          have hfs := hrow2.frozen (i + k)
          rw [hd] at hcs
          have HD := Lib.hid hd; clear hd
          have hmul0 : 0 ≤ (x : Int) * (y : Int) := Int.mul_nonneg (by omega) (by omega)
          have hmul1 : (x : Int) * (y : Int) ≤ 18446744065119617025 := by
            have h := Nat.mul_le_mul (show x ≤ 4294967295 by omega) (show y ≤ 4294967295 by omega)
            have h2 : ((x * y : Nat) : Int) ≤ 18446744065119617025 := by omega
            rwa [Int.natCast_mul] at h2
          have hmc : ((x * y : Nat) : Int) = (x : Int) * (y : Int) := Int.natCast_mul ..
          have HM := Lib.hid hmc; clear hmc
          go_wp2_with fail
          go_roundw
          case rel =>
            have hmc := HM.out
            refine ⟨k + 1, (cr + (x * y + d)) / 4294967296, M.set (i + k) ((cr + (x * y + d)) % 4294967296), by omega, by omega, congrArg (Value.int _) (by omega), congrArg (Value.int _) (by omega), hrow2.setI _ _ (by omega), hbel2.setCell (Nat.le_refl _) _, ?_⟩
            show Hid _
            have hJ := HJ.out
            have h := mul_step (j := i + k) (s := cr + (x * y + d)) (x := x) (y := y) (by omega) ⟨hJ.1, hJ.2.1, hJ.2.2.1⟩ (by rw [HD.out])
            refine ⟨h.1, h.2.1, ?_, fun j hj => ?_⟩
            · rw [show i + (k + 1) = i + k + 1 from by omega, h.2.2, val_take_succ' r k, HY.out, P_add, Nat.mul_add, Nat.mul_add, ← Nat.add_assoc, Nat.mul_assoc, Nat.mul_left_comm (P k) x y]
            · rw [getD_set_ne _ (by omega)]; exact hJ.2.2.2 j (by omega)
          case measure => simp [intOf]; omega
        · obtain rfl : k = m := by omega
          obtain ⟨d, hd⟩ : ∃ d, M.getD (i + k) 0 = d := ⟨_, rfl⟩
          have hcs := hrow2.cell (k := i + k) (by have := HJ.out.1; omega)
          have hfs := hrow2.frozen (i + k)
          rw [hd] at hcs
          have HD := Lib.hid hd; clear hd
          go_wp2_with fail
          go_roundw
          case rel =>
            refine ⟨i + 1, M.set (i + k) cr, by omega, congrArg (Value.int _) (by omega), hrow2.set _ _, hbel2.setCell (Nat.le_refl _) _, ?_⟩
            show Hid _
            have hJ := HJ.out
            have hI := HI.out
            refine ⟨by rw [List.length_set]; exact hJ.1, hJ.2.1.set _ hcr, ?_, fun j hj => ?_⟩
            · have h4 := val_set cr (show i + k < M.length by omega)
              rw [hJ.2.2.2 (i + k) (by omega), hI.2.2.2 (i + k) (by omega), Nat.mul_zero, Nat.add_zero, hJ.2.2.1, List.take_of_length_le (l := r) (by have := hy.len; omega), hI.2.2.1] at h4
              rw [h4, val_take_succ' l i, HX.out, Nat.add_mul, Nat.mul_assoc]
            · rw [getD_set_ne _ (by omega), hJ.2.2.2 j (by omega)]; exact hI.2.2.2 j (by omega)
          case measure => simp [intOf]; omega
    · obtain rfl : i = n := by omega
      have hlim2 : Lim L := HI.out.2.1
      have HL : Hid (L.length = i + m) := HI.out.1
      have HV : Hid (val L = val l * val r) := by
        show val L = val l * val r
        have h := HI.out.2.2.1
        rwa [List.take_of_length_le (l := l) (by have := hx.len; omega)] at h
      go_wp2_with (go_at_call 225; refine (trimmed_any _ _ _ L _ (hrow.num hlim2 HL.out.symm (Nat.le_refl _)) (by omega)).mono ?_; rintro e w' ⟨rfl, rfl⟩)
      go_ret
      exact hrow.ret (Nat.le_refl _) hlim2 hbel (by have := HL.out; omega) HV.out

/-- product: the product of two numbers, in new memory. -/
theorem product_any (A A' : Option Addr) (n c n' c' a b : Nat) (w : World) (hx : Num w (limbs a) A n c) (hy : Num w (limbs b) A' n' c') (hn : n ≤ 536870912) (hn' : n' ≤ 536870912) :
    Calls Tryz.prog 222 #[.slice A n c, .slice A' n' c'] w (RetOwn w (limbs (a * b))) := by
  have h := product_l A A' n c n' c' _ _ w hx hy hn hn'
  rwa [val_limbs, val_limbs] at h
end Go.Proofs.YtohbelnfjomcdaaGreatDoor
