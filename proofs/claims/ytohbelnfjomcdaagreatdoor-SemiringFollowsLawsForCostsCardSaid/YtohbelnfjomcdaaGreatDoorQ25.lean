/- slices.Equal. -/
import Derived.Test.YtohbelnfjomcdaaGreatDoorQ02
set_option linter.unusedVariables false
set_option linter.unusedSimpArgs false
namespace Go.Proofs.YtohbelnfjomcdaaGreatDoor
open Go.RowKit

set_option maxHeartbeats 1000000 in
theorem equal_any (A A' : Option Addr) (n c m c' : Nat) (l r : List Nat) (w : World) (V : Bool) (hx : Num w l A n c) (hy : Num w r A' m c') (hn : n ≤ 1073741824) (hm : m ≤ 1073741824) (H : Hid (decide (l = r) = V)) :
    Calls Tryz.prog 73 #[.slice A n c, .slice A' m c'] w (RetQ w (.bool V)) := by
  by_cases hnm : n = m
  · subst hnm
    have h1 : ((n : Int) != n) = false := by simp
    go_enter Tryz.func73, Tryz.ntmps73
    go_wp2
    go_loopw [13] (fun i wr => ∃ k q : Nat, k ≤ n ∧ i = .int .i64 (k : Int) ∧ wr = w.drewN q ∧ Hid (∀ j, j < k → l.getD j 0 = r.getD j 0)) (fun i _ => (n - intOf i).toNat)
    case atStart => exact ⟨0, 0, Nat.zero_le _, rfl, rfl, show Hid _ from fun j h1 => by omega⟩
    case round =>
      obtain ⟨k, q, hk, rfl, rfl, HE⟩ := hrel
      rcases Nat.lt_or_ge k n with hkn | hkn
      · obtain ⟨b, o, x, rfl, _, hx', _, hcx⟩ := hx.at_ hkn
        obtain ⟨b', o', y, rfl, _, hy', _, hcy⟩ := hy.at_ hkn
        have hkn2 : (k : Int) < (n : Int) := by omega
        have HX := Lib.hid hx'; have HY := Lib.hid hy'
        have LX := Lib.hid hx; have LY := Lib.hid hy
        clear hx' hy' hx hy
        by_cases hxy : x = y
        · have hne : ((x : Int) != y) = false := by simp; omega
          have hne2 : ((y : Int) != y) = false := by simp
          subst hxy
          go_wp2_with fail
          go_quiet (fail)
          go_wp2_with fail
          go_roundw
          case rel => exact ⟨k + 1, _, by omega, congrArg (Value.int _) (by omega), rfl, show Hid _ from fun i hi1 => by
            rcases Nat.lt_or_eq_of_le (Nat.le_of_lt_succ hi1) with hi | hi
            · exact HE.out i hi
            · subst hi; rw [HX.out, HY.out]⟩
          case measure => simp [intOf]; omega
        · have hne : ((x : Int) != y) = true := by simp; omega
          go_wp2_with fail
          go_quiet (fail)
          go_wp2_with fail
          go_ret
          refine ⟨ret_bool ?_, draws2 ..⟩
          rw [← H.out]
          exact (decide_eq_false (fun h => hxy (by rw [← HX.out, ← HY.out, h]))).symm
      · have hlt : ¬ (k : Int) < (n : Int) := by omega
        go_wp2_with fail
        go_ret
        refine ⟨ret_bool ?_, q, rfl⟩
        rw [← H.out]
        exact (decide_eq_true (eq_of_getD (hx.len.symm.trans hy.len) (fun j hj => HE.out j (by have := hx.len; omega)))).symm
  · have h1 : ((n : Int) != m) = true := by simp; omega
    go_enter Tryz.func73, Tryz.ntmps73
    go_wp2
    go_ret
    refine ⟨ret_bool ?_, 0, rfl⟩
    rw [← H.out]
    exact (decide_eq_false (fun h => hnm (by rw [hx.len, hy.len, h]))).symm
end Go.Proofs.YtohbelnfjomcdaaGreatDoor
