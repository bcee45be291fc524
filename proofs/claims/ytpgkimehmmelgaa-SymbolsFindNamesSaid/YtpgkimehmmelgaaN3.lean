/- The bytes of names, and names: inNames, isName; Inner, named. -/
import Derived.Test.YtpgkimehmmelgaaN2
import Derived.Lib.Walk
namespace Go.Proofs.Ytpgkimehmmelgaa
open Go.RowKit

set_option maxHeartbeats 1000000 in
theorem indexByte_lite (s : ByteArray) (c : Int) (w : World) :
    Calls Try.prog 30 #[.string s, .int .u8 c] w (RetE w (.int .i64 (Lib.indexByte s.data.toList c.toNat.toUInt8))) := by
  go_enter Try.func30, Try.ntmps30
  go_wp2_with fail
  rw [run_callFunc_extern Try.func31 (by kernel_rfl) (by kernel_rfl) (by kernel_rfl) (e := Extern.BytealgIndexByte.indexByte) (by kernel_rfl), Lib.run_indexByteString]
  simp only [Result.andThen]
  rw [Oper.upon_value]
  go_wp2_with fail
  go_ret
  exact ⟨rfl, rfl⟩
set_option maxHeartbeats 1000000 in
theorem indexByte_any (s : ByteArray) (c : Int) (w : World) :
    Calls Try.prog 29 #[.string s, .int .u8 c] w (RetE w (.int .i64 (Lib.indexByte s.data.toList c.toNat.toUInt8))) := by
  go_enter Try.func29, Try.ntmps29
  go_wp2_with (go_at_call 30; refine (indexByte_lite _ _ _).mono ?_; rintro e w' ⟨rfl, rfl⟩)
  go_ret
  exact ⟨rfl, rfl⟩
set_option maxHeartbeats 1000000 in
theorem inNames_any (n : Nat) (w : World) (hn : n < 256) (V : Bool) (H : Hid (okn n = V)) :
    Calls Try.prog 26 #[.int .u8 (n : Int)] w (RetE w (.bool V)) := by
  by_cases h1 : 33 ≤ n
  · by_cases h2 : n ≤ 126
    · have hr := okn_resv_all n hn h1 h2
      rw [H.out] at hr
      obtain ⟨i, hi⟩ : ∃ i, Lib.indexByte resv n.toUInt8 = i := ⟨_, rfl⟩
      rw [hi] at hr
      have HI : Hid (Lib.indexByte (⟨#[35, 40, 41, 42, 43, 124, 45, 91, 93]⟩ : ByteArray).data.toList (n : Int).toNat.toUInt8 = i) := Lib.hid hi
      clear hi H
      have HR := Lib.hid hr
      clear hr
      go_enter Try.func26, Try.ntmps26
      go_wp2_with fail
      refine (indexByte_any _ _ _).mono ?_
      rw [HI.out]
      rintro e w' ⟨rfl, rfl⟩
      go_wp2_with fail
      go_ret
      exact ⟨y_bool HR.out.symm, rfl⟩
    · obtain rfl : V = false := by rw [← H.out]; exact okn_out (.inr (by omega))
      clear H
      go_enter Try.func26, Try.ntmps26
      go_wp2_with fail
      go_ret
      exact ⟨rfl, rfl⟩
  · obtain rfl : V = false := by rw [← H.out]; exact okn_out (.inl (by omega))
    clear H
    go_enter Try.func26, Try.ntmps26
    go_wp2_with fail
    go_ret
    exact ⟨rfl, rfl⟩
set_option maxHeartbeats 4000000 in
theorem inner_any (n : Nat) (w : World) (V : Bool) (H : Hid (okn n = V)) :
    Calls Try.prog 28 #[.int .u8 (n : Int)] w (RetE w (.bool V)) := by
  have hV := H.out
  unfold okn at hV
  clear H
  rcases (show n < 33 ∨ 126 < n ∨ n = 35 ∨ n = 40 ∨ n = 41 ∨ n = 42 ∨ n = 43 ∨ n = 124 ∨ n = 45 ∨ n = 91 ∨ n = 93 ∨ (33 ≤ n ∧ n ≤ 126 ∧ n ≠ 35 ∧ n ≠ 40 ∧ n ≠ 41 ∧ n ≠ 42 ∧ n ≠ 43 ∧ n ≠ 124 ∧ n ≠ 45 ∧ n ≠ 91 ∧ n ≠ 93) by omega) with h | h | rfl | rfl | rfl | rfl | rfl | rfl | rfl | rfl | rfl | ⟨h1, h2, h3, h4, h5, h6, h7, h8, h9, h10, h11⟩
  case inl =>
    rw [decide_eq_false (show ¬ 33 ≤ n by omega)] at hV
    subst hV
    go_enter Try.func28, Try.ntmps28
    go_wp2_with fail
    go_ret
    exact ⟨rfl, rfl⟩
  case inr.inl =>
    rw [decide_eq_false (show ¬ n ≤ 126 by omega)] at hV
    simp only [Bool.and_false, Bool.false_and] at hV
    subst hV
    go_enter Try.func28, Try.ntmps28
    go_wp2_with fail
    go_ret
    exact ⟨rfl, rfl⟩
  case inr.inr.inr.inr.inr.inr.inr.inr.inr.inr.inr =>
    rw [decide_eq_true h1, decide_eq_true h2, decide_eq_true h3, decide_eq_true h4, decide_eq_true h5, decide_eq_true h6, decide_eq_true h7, decide_eq_true h8, decide_eq_true h9, decide_eq_true h10, decide_eq_true h11] at hV
    simp only [Bool.and_self] at hV
    subst hV
    have g3 : ((n : Int) != 35) = true := by simp; omega
    have g4 : ((n : Int) != 40) = true := by simp; omega
    have g5 : ((n : Int) != 41) = true := by simp; omega
    have g6 : ((n : Int) != 42) = true := by simp; omega
    have g7 : ((n : Int) != 43) = true := by simp; omega
    have g8 : ((n : Int) != 124) = true := by simp; omega
    have g9 : ((n : Int) != 45) = true := by simp; omega
    have g10 : ((n : Int) != 91) = true := by simp; omega
    have g11 : ((n : Int) != 93) = true := by simp; omega
    clear h3 h4 h5 h6 h7 h8 h9 h10 h11
    go_enter Try.func28, Try.ntmps28
    go_wp2_with fail
    go_ret
    exact ⟨rfl, rfl⟩
  all_goals
    subst hV
    go_enter Try.func28, Try.ntmps28
    go_wp2_with fail
    go_ret
    exact ⟨rfl, rfl⟩
end Go.Proofs.Ytpgkimehmmelgaa
