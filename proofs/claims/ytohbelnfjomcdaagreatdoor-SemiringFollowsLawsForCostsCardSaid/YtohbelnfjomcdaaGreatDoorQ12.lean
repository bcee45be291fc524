/- sum and difference. -/
import Derived.Test.YtohbelnfjomcdaaGreatDoorQ02
set_option linter.unusedVariables false
set_option linter.unusedSimpArgs false
namespace Go.Proofs.YtohbelnfjomcdaaGreatDoor
open Go.RowKit

set_option maxHeartbeats 1000000 in
theorem sum_le (A A' : Option Addr) (n c n' c' : Nat) (l r : List Nat) (w : World) (hx : Num w l A n c) (hy : Num w r A' n' c') (hle : n' ≤ n) (hn : n ≤ 536870912) :
    Calls Tryz.prog 295 #[.slice A n c, .slice A' n' c'] w (RetOwn w (limbs (val l + val r))) := by
  have hlt : decide ((n : Int) < (n' : Int)) = false := by simp; omega
  have hlt' : decide (n < n') = false := by simp; omega
  have hmk := mk_run (n + 1) ((n : Int) + 1) (by omega) (by omega)
  go_enter Tryz.func295, Tryz.ntmps295
  go_wp2
  go_loopw [6, 21] (fun si sj wr => ∃ (k cr : Nat) (L : List Nat), k ≤ n ∧ cr ≤ 1 ∧ si = .int .u64 cr ∧ sj = .int .i64 k ∧ Row wr w.heap.size L ∧ Below w.heap.size w wr ∧ Hid (L.length = n + 1 ∧ Lim L ∧ val (L.take k) + P k * cr = val (l.take k) + val (r.take k)))
    (fun _ sj _ => n - (intOf sj).toNat)
  case atStart => exact ⟨0, 0, List.replicate (n + 1) 0, Nat.zero_le _, by omega, rfl, rfl, Row.new _ _, (Below.refl _ _).alloc (Nat.le_refl _) _, show Hid _ from ⟨by simp, Lim.zeros _, by simp [val]⟩⟩
  case round =>
    obtain ⟨k, cr, L, hk, hcr, rfl, rfl, hrow, hbel, HI⟩ := hrel
    by_cases hkn : k < n
    · have hxw := hx.below hbel
      have hyw := hy.below hbel
      obtain ⟨b, o, x, rfl, _, hx', hx4, hcx⟩ := hxw.at_ hkn
      obtain ⟨y, hy'⟩ : ∃ y, r.getD k 0 = y := ⟨_, rfl⟩
      have hy4 : y < 4294967296 := by rw [← hy']; exact hy.lim.getD k
      have HX := Lib.hid hx'; have HY := Lib.hid hy'; clear hx' hy'
      obtain ⟨d, hd⟩ : ∃ d, L.getD k 0 = d := ⟨_, rfl⟩
      have hcs := hrow.cell (k := k) (by have := HI.out.1; omega)
      have hfs := hrow.frozen k
      rw [hd] at hcs; clear hd
      go_wp2_with fail
      go_quiet ((go_at_call 289; exact quiet_left (limb_v _ _ _ _ r _ y (hyw.drewN _) (by omega) (by omega) HY)))
      go_wp2_with fail
      clear hmk hlt hlt'
      go_roundw
      case rel =>
        refine ⟨k + 1, (cr + (x + y)) / 4294967296, L.set k ((cr + (x + y)) % 4294967296), by omega, by omega, congrArg (Value.int _) (by omega), congrArg (Value.int _) (by omega), (hrow.drewN nq).setI k _ (by omega), (below_drewN hbel nq).setCell (Nat.le_refl _) _, ?_⟩
        show Hid _
        have h := put_step (k := k) (by omega) HI.out (x + y) rfl
        refine ⟨h.1, h.2.1, h.2.2.trans ?_⟩
        rw [val_take_succ' l k, val_take_succ' r k, HX.out, HY.out, Nat.mul_add]; omega
      case measure => simp [intOf]; omega
    · obtain rfl : k = n := by omega
      obtain ⟨d, hd⟩ : ∃ d, L.getD k 0 = d := ⟨_, rfl⟩
      have hcs := hrow.cell (k := k) (by have := HI.out.1; omega)
      have hfs := hrow.frozen k
      rw [hd] at hcs; clear hd
      clear hmk hlt hlt'
      have hrow2 := hrow.set k cr
      have hlim2 : Lim (L.set k cr) := HI.out.2.1.set k (by omega)
      have hlen2 : (L.set k cr).length = k + 1 := by rw [List.length_set]; exact HI.out.1
      have HV : Hid (val (L.set k cr) = val l + val r) := by
        show val (L.set k cr) = val l + val r
        have e := val_take_set cr (show k < L.length by have := HI.out.1; omega)
        rw [List.take_of_length_le (by omega)] at e
        have h := HI.out.2.2
        rw [List.take_of_length_le (l := l) (by have := hx.len; omega), List.take_of_length_le (l := r) (by have := hy.len; omega)] at h
        omega
      have HL := Lib.hid hlen2; clear hlen2
      go_wp2_with (go_at_call 225; refine (trimmed_any _ _ _ (L.set k cr) _ (hrow2.num hlim2 HL.out.symm (Nat.le_refl _)) (by omega)).mono ?_; rintro e w' ⟨rfl, rfl⟩)
      go_ret
      exact hrow2.ret (Nat.le_refl _) hlim2 (hbel.setCell (Nat.le_refl _) _) (by have := HL.out; omega) HV.out

set_option maxHeartbeats 1000000 in
theorem sum_lt (A A' : Option Addr) (n c n' c' : Nat) (l r : List Nat) (w : World) (hx : Num w l A n c) (hy : Num w r A' n' c') (hle : n' ≤ n) (hlt0 : n' < n) (hn : n ≤ 536870912) :
    Calls Tryz.prog 295 #[.slice A' n' c', .slice A n c] w (RetOwn w (limbs (val l + val r))) := by
  have hlt : decide ((n' : Int) < (n : Int)) = true := by simp; omega
  have hlt' : decide (n' < n) = true := by simp; omega
  clear hlt0
  have hmk := mk_run (n + 1) ((n : Int) + 1) (by omega) (by omega)
  go_enter Tryz.func295, Tryz.ntmps295
  go_wp2
  go_loopw [6, 21] (fun si sj wr => ∃ (k cr : Nat) (L : List Nat), k ≤ n ∧ cr ≤ 1 ∧ si = .int .u64 cr ∧ sj = .int .i64 k ∧ Row wr w.heap.size L ∧ Below w.heap.size w wr ∧ Hid (L.length = n + 1 ∧ Lim L ∧ val (L.take k) + P k * cr = val (l.take k) + val (r.take k)))
    (fun _ sj _ => n - (intOf sj).toNat)
  case atStart => exact ⟨0, 0, List.replicate (n + 1) 0, Nat.zero_le _, by omega, rfl, rfl, Row.new _ _, (Below.refl _ _).alloc (Nat.le_refl _) _, show Hid _ from ⟨by simp, Lim.zeros _, by simp [val]⟩⟩
  case round =>
    obtain ⟨k, cr, L, hk, hcr, rfl, rfl, hrow, hbel, HI⟩ := hrel
    by_cases hkn : k < n
    · have hxw := hx.below hbel
      have hyw := hy.below hbel
      obtain ⟨b, o, x, rfl, _, hx', hx4, hcx⟩ := hxw.at_ hkn
      obtain ⟨y, hy'⟩ : ∃ y, r.getD k 0 = y := ⟨_, rfl⟩
      have hy4 : y < 4294967296 := by rw [← hy']; exact hy.lim.getD k
      have HX := Lib.hid hx'; have HY := Lib.hid hy'; clear hx' hy'
      obtain ⟨d, hd⟩ : ∃ d, L.getD k 0 = d := ⟨_, rfl⟩
      have hcs := hrow.cell (k := k) (by have := HI.out.1; omega)
      have hfs := hrow.frozen k
      rw [hd] at hcs; clear hd
      go_wp2_with fail
      go_quiet ((go_at_call 289; exact quiet_left (limb_v _ _ _ _ r _ y (hyw.drewN _) (by omega) (by omega) HY)))
      go_wp2_with fail
      clear hmk hlt hlt'
      go_roundw
      case rel =>
        refine ⟨k + 1, (cr + (x + y)) / 4294967296, L.set k ((cr + (x + y)) % 4294967296), by omega, by omega, congrArg (Value.int _) (by omega), congrArg (Value.int _) (by omega), (hrow.drewN nq).setI k _ (by omega), (below_drewN hbel nq).setCell (Nat.le_refl _) _, ?_⟩
        show Hid _
        have h := put_step (k := k) (by omega) HI.out (x + y) rfl
        refine ⟨h.1, h.2.1, h.2.2.trans ?_⟩
        rw [val_take_succ' l k, val_take_succ' r k, HX.out, HY.out, Nat.mul_add]; omega
      case measure => simp [intOf]; omega
    · obtain rfl : k = n := by omega
      obtain ⟨d, hd⟩ : ∃ d, L.getD k 0 = d := ⟨_, rfl⟩
      have hcs := hrow.cell (k := k) (by have := HI.out.1; omega)
      have hfs := hrow.frozen k
      rw [hd] at hcs; clear hd
      clear hmk hlt hlt'
      have hrow2 := hrow.set k cr
      have hlim2 : Lim (L.set k cr) := HI.out.2.1.set k (by omega)
      have hlen2 : (L.set k cr).length = k + 1 := by rw [List.length_set]; exact HI.out.1
      have HV : Hid (val (L.set k cr) = val l + val r) := by
        show val (L.set k cr) = val l + val r
        have e := val_take_set cr (show k < L.length by have := HI.out.1; omega)
        rw [List.take_of_length_le (by omega)] at e
        have h := HI.out.2.2
        rw [List.take_of_length_le (l := l) (by have := hx.len; omega), List.take_of_length_le (l := r) (by have := hy.len; omega)] at h
        omega
      have HL := Lib.hid hlen2; clear hlen2
      go_wp2_with (go_at_call 225; refine (trimmed_any _ _ _ (L.set k cr) _ (hrow2.num hlim2 HL.out.symm (Nat.le_refl _)) (by omega)).mono ?_; rintro e w' ⟨rfl, rfl⟩)
      go_ret
      exact hrow2.ret (Nat.le_refl _) hlim2 (hbel.setCell (Nat.le_refl _) _) (by have := HL.out; omega) HV.out

/-- sum: the sum of two numbers, in new memory. -/
theorem sum_any (A A' : Option Addr) (n c n' c' a b : Nat) (w : World) (hx : Num w (limbs a) A n c) (hy : Num w (limbs b) A' n' c') (hn : n ≤ 536870912) (hn' : n' ≤ 536870912) :
    Calls Tryz.prog 295 #[.slice A n c, .slice A' n' c'] w (RetOwn w (limbs (a + b))) := by
  by_cases h : n < n'
  · have h := sum_lt A' A n' c' n c _ _ w hy hx (by omega) h hn'
    rwa [val_limbs, val_limbs, Nat.add_comm] at h
  · have h := sum_le A A' n c n' c' _ _ w hx hy (by omega) hn
    rwa [val_limbs, val_limbs] at h
end Go.Proofs.YtohbelnfjomcdaaGreatDoor
