/- Names: isName, named. -/
import Derived.Test.YtpgkimehmmelgaaN3
namespace Go.Proofs.Ytpgkimehmmelgaa
open Go.RowKit

theorem ba_empty {s : ByteArray} (h : s.size = 0) : s = ⟨#[]⟩ := by
  obtain ⟨⟨l⟩⟩ := s
  have : l = [] := List.eq_nil_of_length_eq_zero (show l.length = 0 from h)
  rw [this]
theorem ba_lt (s : ByteArray) {k : Nat} (h : k < s.size) : s[k].toNat < 256 := by have := s[k].toNat_lt; omega
theorem toList_nil_iff (s : ByteArray) : s.toList = [] ↔ s.size = 0 := by
  have h := Lib.bytes_beq_iff s ⟨#[]⟩
  have e : (⟨#[]⟩ : ByteArray).toList = [] := by decide +kernel
  rw [e] at h
  constructor
  · intro hs
    rw [h.1 (by rw [hs]; rfl)]; rfl
  · intro hs
    have := ba_empty hs
    rw [this]; exact e
set_option maxHeartbeats 2000000 in
theorem isName_any (s : ByteArray) (w : World) (V : Bool) (H : Hid (nmd s = V)) :
    Calls Try.prog 20 #[.string s] w (RetE w (.bool V)) := by
  by_cases h0 : s.size = 0
  · obtain rfl := ba_empty h0
    obtain rfl : V = false := by rw [← H.out]; exact nmd_empty (by decide)
    clear h0 H
    go_enter Try.func20, Try.ntmps20
    go_wp2_with fail
    go_ret
    exact ⟨rfl, rfl⟩
  · have e0 : s.toList.isEmpty = false := by
      rw [List.isEmpty_eq_false_iff]
      exact fun h => h0 ((toList_nil_iff s).1 h)
    by_cases h1 : 24 < s.size
    · obtain rfl : V = false := by rw [← H.out]; exact nmd_long h1
      clear H
      have h2 : (24 : Int) < (s.size : Int) := by omega
      go_enter Try.func20, Try.ntmps20
      go_wp2_with fail
      go_ret
      exact ⟨rfl, rfl⟩
    · have h2 : ¬ (24 : Int) < (s.size : Int) := by omega
      by_cases h3 : (s.toList == [48]) = true
      · obtain rfl : V = false := by rw [← H.out]; exact nmd_zero h3
        clear H
        go_enter Try.func20, Try.ntmps20
        go_wp2_with fail
        go_ret
        exact ⟨rfl, rfl⟩
      · have h3' : (s.toList == [48]) = false := by simpa using h3
        by_cases h4 : (s.toList == [49]) = true
        · obtain rfl : V = false := by rw [← H.out]; exact nmd_one h4
          clear H
          go_enter Try.func20, Try.ntmps20
          go_wp2_with fail
          go_ret
          exact ⟨rfl, rfl⟩
        · have h4' : (s.toList == [49]) = false := by simpa using h4
          have HB : Hid (s.data.toList.all okB = V) := Lib.hid ((nmd_bytes (by omega) (by omega) h3' h4').symm.trans H.out)
          clear h3 h4 H
          go_enter Try.func20, Try.ntmps20
          go_wp2_with fail
          clear h3' h4' e0 h0
          go_loop [3, 21] (fun _ i => ∃ k : Nat, k ≤ s.size ∧ i = .int .i64 k ∧ Hid (∀ j (hj : j < s.size), j < k → okB s[j] = true)) (fun _ i => s.size - (intOf i).toNat)
          case atStart => exact ⟨0, Nat.zero_le _, rfl, show Hid _ from fun j _ h => absurd h (by omega)⟩
          case round =>
            obtain ⟨k, hk, rfl, HE⟩ := hrel
            rcases Nat.lt_or_ge k s.size with hks | hks
            · have hlt := ba_lt s hks
              obtain ⟨V1, hV1⟩ : ∃ b, okn s[k].toNat = b := ⟨_, rfl⟩
              have HV := Lib.hid hV1
              clear hV1
              go_wp2_with (go_at_call 26; refine (inNames_any _ _ hlt V1 HV).mono ?_; rintro e w' ⟨rfl, rfl⟩; cases V1)
              · go_wp2_with fail
                go_ret
                refine ⟨y_bool ?_, rfl⟩
                rw [← HB.out]
                exact (not_all_of_byte hks HV.out).symm
              · go_wp2_with fail
                go_round
                case rel => exact ⟨k + 1, by omega, by go_num, show Hid _ from fun j hj h => by
                  rcases Nat.lt_or_eq_of_le (Nat.le_of_lt_succ h) with h' | rfl
                  · exact HE.out j hj h'
                  · exact HV.out⟩
                case measure => simp [intOf]; omega
            · go_wp2_with fail
              go_ret
              refine ⟨y_bool ?_, rfl⟩
              rw [← HB.out]
              exact (all_of_bytes fun j hj => HE.out j hj (by omega)).symm
set_option maxHeartbeats 2000000 in
theorem named_any (s : ByteArray) (w : World) (V : Bool) (H : Hid (nmd s = V)) :
    Calls Try.prog 22 #[.string s] w (RetE w (.bool V)) := by
  by_cases h0 : s.size = 0
  · obtain rfl := ba_empty h0
    obtain rfl : V = false := by rw [← H.out]; exact nmd_empty (by decide)
    clear h0 H
    go_enter Try.func22, Try.ntmps22
    go_wp2_with fail
    go_ret
    exact ⟨rfl, rfl⟩
  · have e0 : ¬ (s.size : Int) < 1 := by omega
    by_cases h1 : 24 < s.size
    · obtain rfl : V = false := by rw [← H.out]; exact nmd_long h1
      clear H
      have h2 : (24 : Int) < (s.size : Int) := by omega
      go_enter Try.func22, Try.ntmps22
      go_wp2_with fail
      go_ret
      exact ⟨rfl, rfl⟩
    · have h2 : ¬ (24 : Int) < (s.size : Int) := by omega
      by_cases h3 : (s.toList == [48]) = true
      · obtain rfl : V = false := by rw [← H.out]; exact nmd_zero h3
        clear H
        go_enter Try.func22, Try.ntmps22
        go_wp2_with fail
        go_ret
        exact ⟨rfl, rfl⟩
      · have h3' : (s.toList == [48]) = false := by simpa using h3
        by_cases h4 : (s.toList == [49]) = true
        · obtain rfl : V = false := by rw [← H.out]; exact nmd_one h4
          clear H
          go_enter Try.func22, Try.ntmps22
          go_wp2_with fail
          go_ret
          exact ⟨rfl, rfl⟩
        · have h4' : (s.toList == [49]) = false := by simpa using h4
          have HB : Hid (s.data.toList.all okB = V) := Lib.hid ((nmd_bytes (by omega) (by omega) h3' h4').symm.trans H.out)
          clear h3 h4 H
          go_enter Try.func22, Try.ntmps22
          go_wp2_with fail
          clear h3' h4' e0 h0
          go_loop [3] (fun i => ∃ k : Nat, k ≤ s.size ∧ i = .int .i64 k ∧ Hid (∀ j (hj : j < s.size), j < k → okB s[j] = true)) (fun i => s.size - (intOf i).toNat)
          case atStart => exact ⟨0, Nat.zero_le _, rfl, show Hid _ from fun j _ h => absurd h (by omega)⟩
          case round =>
            obtain ⟨k, hk, rfl, HE⟩ := hrel
            rcases Nat.lt_or_ge k s.size with hks | hks
            · obtain ⟨V1, hV1⟩ : ∃ b, okn s[k].toNat = b := ⟨_, rfl⟩
              have HV := Lib.hid hV1
              clear hV1
              go_wp2_with (go_at_call 28; refine (inner_any _ _ V1 HV).mono ?_; rintro e w' ⟨rfl, rfl⟩; cases V1)
              · go_wp2_with fail
                go_ret
                refine ⟨y_bool ?_, rfl⟩
                rw [← HB.out]
                exact (not_all_of_byte hks HV.out).symm
              · go_wp2_with fail
                go_round
                case rel => exact ⟨k + 1, by omega, by go_num, show Hid _ from fun j hj h => by
                  rcases Nat.lt_or_eq_of_le (Nat.le_of_lt_succ h) with h' | rfl
                  · exact HE.out j hj h'
                  · exact HV.out⟩
                case measure => simp [intOf]; omega
            · go_wp2_with fail
              go_ret
              refine ⟨y_bool ?_, rfl⟩
              rw [← HB.out]
              exact (all_of_bytes fun j hj => HE.out j hj (by omega)).symm
end Go.Proofs.Ytpgkimehmmelgaa
