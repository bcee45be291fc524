/- The place of a name: slices.Index, slices.Contains, place; find. -/
import Derived.Test.YtpgkimehmmelgaaN4
namespace Go.Proofs.Ytpgkimehmmelgaa
open Go.RowKit

set_option maxHeartbeats 1000000 in
theorem index_any (A : Option Addr) (n c : Nat) (l : List ByteArray) (x : ByteArray) (w : World) (h : Names w l A n c) (hn : n ≤ 1073741824) (m : Nat) (H : Hid (fnd l x = m)) :
    Calls Try.prog 27 #[.slice A n c, .string x] w (RetE w (.int .i64 ((m : Int) - 1))) := by
  have HN := Lib.hid h.len
  have HL := Lib.hid h
  clear h
  go_enter Try.func27, Try.ntmps27
  go_wp2_with fail
  go_loop [5, 8] (fun _ i => ∃ k : Nat, k ≤ n ∧ i = .int .i64 k ∧ Hid (∀ j, j < k → l.getD j ByteArray.empty ≠ x)) (fun _ i => n - (intOf i).toNat)
  case atStart => exact ⟨0, Nat.zero_le _, rfl, show Hid _ from fun j h => absurd h (by omega)⟩
  case round =>
    obtain ⟨k, hk, rfl, HE⟩ := hrel
    rcases Nat.lt_or_ge k n with hkn | hkn
    · obtain ⟨b, o, rfl, _, hc⟩ := HL.out.at_ hkn
      obtain ⟨s, hs⟩ : ∃ s, l.getD k ByteArray.empty = s := ⟨_, rfl⟩
      rw [hs] at hc
      have HS := Lib.hid hs
      clear hs
      by_cases hx : s = x
      · have ht : (x.toList == s.toList) = true := by rw [Lib.bytes_beq_iff]; exact hx.symm
        have HX := Lib.hid hx
        clear hx
        go_wp2_with fail
        go_ret
        refine ⟨y_int ?_, rfl⟩
        have := fnd_hit l k x (by have := HN.out; omega) (HS.out.trans HX.out) HE.out
        have := H.out
        omega
      · have ht : (x.toList == s.toList) = false := by rw [Lib.bytes_beq_false_iff]; exact fun e => hx e.symm
        have HX := Lib.hid hx
        clear hx
        go_wp2_with fail
        go_round
        case rel => exact ⟨k + 1, by omega, by go_num, show Hid _ from fun j h => by
          rcases Nat.lt_or_eq_of_le (Nat.le_of_lt_succ h) with h' | rfl
          · exact HE.out j h'
          · rw [HS.out]; exact HX.out⟩
        case measure => simp [intOf]; omega
    · go_wp2_with fail
      go_ret
      refine ⟨y_int ?_, rfl⟩
      have := fnd_miss l x (fun j hj => HE.out j (by have := HN.out; omega))
      have := H.out
      omega
set_option maxHeartbeats 1000000 in
theorem contains_any (A : Option Addr) (n c : Nat) (l : List ByteArray) (x : ByteArray) (w : World) (h : Names w l A n c) (hn : n ≤ 1073741824) (V : Bool) (H : Hid (decide (0 < fnd l x) = V)) :
    Calls Try.prog 21 #[.slice A n c, .string x] w (RetE w (.bool V)) := by
  obtain ⟨m, hm⟩ : ∃ m, fnd l x = m := ⟨_, rfl⟩
  have hV := H.out
  rw [hm] at hV
  have HM := Lib.hid hm
  have HV := Lib.hid hV
  clear hm hV
  go_enter Try.func21, Try.ntmps21
  go_wp2_with (go_at_call 27; refine (index_any _ _ _ l x _ h hn m HM).mono ?_; rintro e w' ⟨rfl, rfl⟩)
  go_ret
  refine ⟨y_bool ?_, rfl⟩
  rw [← HV.out]
  exact decide_eq_decide.2 (by omega)
set_option maxHeartbeats 1000000 in
theorem place_any (A : Option Addr) (n c : Nat) (l : List ByteArray) (x : ByteArray) (w : World) (h : Names w l A n c) (hn : n ≤ 1073741824) (m : Nat) (H : Hid (fnd l x = m)) :
    Calls Try.prog 24 #[.slice A n c, .string x] w (RetE w (.int .i64 (m : Int))) := by
  have hb : m ≤ 1073741824 := by have := fnd_le l x; have := h.len; have := H.out; omega
  have hw : IntKind.i64.wrap ((m : Int) - 1 + 1) = (m : Int) := by rw [IntWalk.i64_in _ (by omega)]; omega
  go_enter Try.func24, Try.ntmps24
  go_wp2_with (go_at_call 27; refine (index_any _ _ _ l x _ h hn m H).mono ?_; rintro e w' ⟨rfl, rfl⟩)
  go_ret
  exact ⟨y_int (by first | rfl | omega | exact hw), rfl⟩
set_option maxHeartbeats 1000000 in
theorem find_any (A : Option Addr) (n c : Nat) (l : List ByteArray) (x : ByteArray) (w : World) (h : Names w l A n c) (hn : n ≤ 1073741824) (m : Nat) (H : Hid (fnd l x = m)) :
    Calls Try.prog 23 #[.slice A n c, .string x] w (RetE w (.int .i64 (m : Int))) := by
  have HN := Lib.hid h.len
  have HL := Lib.hid h
  clear h
  go_enter Try.func23, Try.ntmps23
  go_wp2_with fail
  go_loop [5] (fun i => ∃ k : Nat, k ≤ n ∧ i = .int .i64 k ∧ Hid (∀ j, j < k → l.getD j ByteArray.empty ≠ x)) (fun i => n - (intOf i).toNat)
  case atStart => exact ⟨0, Nat.zero_le _, rfl, show Hid _ from fun j h => absurd h (by omega)⟩
  case round =>
    obtain ⟨k, hk, rfl, HE⟩ := hrel
    rcases Nat.lt_or_ge k n with hkn | hkn
    · obtain ⟨b, o, rfl, _, hc⟩ := HL.out.at_ hkn
      obtain ⟨s, hs⟩ : ∃ s, l.getD k ByteArray.empty = s := ⟨_, rfl⟩
      rw [hs] at hc
      have HS := Lib.hid hs
      clear hs
      by_cases hx : s = x
      · have ht : (s.toList == x.toList) = true := by rw [Lib.bytes_beq_iff]; exact hx
        have HX := Lib.hid hx
        clear hx
        go_wp2_with fail
        go_ret
        refine ⟨y_int ?_, rfl⟩
        have := fnd_hit l k x (by have := HN.out; omega) (HS.out.trans HX.out) HE.out
        have := H.out
        omega
      · have ht : (s.toList == x.toList) = false := by rw [Lib.bytes_beq_false_iff]; exact hx
        have HX := Lib.hid hx
        clear hx
        go_wp2_with fail
        go_round
        case rel => exact ⟨k + 1, by omega, by go_num, show Hid _ from fun j h => by
          rcases Nat.lt_or_eq_of_le (Nat.le_of_lt_succ h) with h' | rfl
          · exact HE.out j h'
          · rw [HS.out]; exact HX.out⟩
        case measure => simp [intOf]; omega
    · go_wp2_with fail
      go_ret
      refine ⟨y_int ?_, rfl⟩
      have := fnd_miss l x (fun j hj => HE.out j (by have := HN.out; omega))
      have := H.out
      omega
end Go.Proofs.Ytpgkimehmmelgaa
