/- Tables: Valid of the program. -/
import Derived.Test.YtpgkimehmmelgaaN5
namespace Go.Proofs.Ytpgkimehmmelgaa
open Go.RowKit

set_option maxHeartbeats 2000000 in
theorem Valid_any (A : Option Addr) (n c : Nat) (l : List ByteArray) (w : World) (h : Names w l A n c) (V : Bool) (H : Hid (tab l = V)) :
    Calls Try.prog 9 #[.slice A n c] w (RetE w (.bool V)) := by
  have hnl := h.len
  by_cases h0 : n = 0
  · obtain rfl : V = false := by rw [← H.out]; exact tab_none (by omega)
    subst h0
    clear H h hnl
    go_enter Try.func9, Try.ntmps9
    go_wp2_with fail
    go_ret
    exact ⟨rfl, rfl⟩
  · have e0 : ((n : Int) == 0) = false := by simp; omega
    by_cases h1 : 32 < n
    · obtain rfl : V = false := by rw [← H.out]; exact tab_many (by omega)
      have h2 : (32 : Int) < (n : Int) := by omega
      clear H h hnl h0
      go_enter Try.func9, Try.ntmps9
      go_wp2_with fail
      go_ret
      exact ⟨rfl, rfl⟩
    · have h2 : ¬ (32 : Int) < (n : Int) := by omega
      have h3 : n ≤ 32 := by omega
      have h4 : 0 < n := by omega
      have HN := Lib.hid hnl
      have HL := Lib.hid h
      clear h hnl h0 h1
      go_enter Try.func9, Try.ntmps9
      go_wp2_with fail
      clear e0
      go_loop [3, 4, 15] (fun _ _ i => ∃ k : Nat, k ≤ n ∧ i = .int .i64 k ∧ Hid (firsts l k)) (fun _ _ i => n - (intOf i).toNat)
      case atStart => exact ⟨0, Nat.zero_le _, rfl, show Hid _ from fun j h => absurd h (by omega)⟩
      case round =>
        obtain ⟨k, hk, rfl, HE⟩ := hrel
        rcases Nat.lt_or_ge k n with hkn | hkn
        · obtain ⟨b, o, rfl, _, hc⟩ := HL.out.at_ hkn
          have HT := Lib.hid (HL.out.take (k := k) (by omega))
          have hk30 : k ≤ 1073741824 := by omega
          obtain ⟨s, hs⟩ : ∃ s, l.getD k ByteArray.empty = s := ⟨_, rfl⟩
          rw [hs] at hc
          obtain ⟨V1, hV1⟩ : ∃ b, nmd s = b := ⟨_, rfl⟩
          obtain ⟨V2, hV2⟩ : ∃ b, decide (0 < fnd (l.take k) s) = b := ⟨_, rfl⟩
          have HS := Lib.hid hs
          have HV1 := Lib.hid hV1
          have HV2 := Lib.hid hV2
          have hck : k ≤ c := by have := HL.out.cap; omega
          clear hs hV1 hV2
          go_wp2_with fail
          refine (isName_any s _ V1 HV1).mono ?_
          rintro e w' ⟨rfl, rfl⟩
          cases V1
          · go_wp2_with fail
            go_ret
            refine ⟨y_bool ?_, rfl⟩
            rw [← H.out]
            exact (tab_bad (i := k) (by have := HN.out; omega) (by rw [HS.out, HV1.out]; simp)).symm
          · go_wp2_with fail
            refine (contains_any _ _ _ _ s _ HT.out hk30 V2 HV2).mono ?_
            rintro e w' ⟨rfl, rfl⟩
            cases V2
            · go_wp2_with fail
              go_round
              case rel => exact ⟨k + 1, by omega, by go_num, show Hid _ from firsts_step HE.out (by rw [HS.out]; exact HV1.out) (by rw [HS.out]; have := of_decide_eq_false HV2.out; omega)⟩
              case measure => simp [intOf]; omega
            · go_wp2_with fail
              go_ret
              refine ⟨y_bool ?_, rfl⟩
              rw [← H.out]
              exact (tab_bad (i := k) (by have := HN.out; omega) (by rw [HS.out]; have := of_decide_eq_true HV2.out; omega)).symm
        · go_wp2_with fail
          go_ret
          refine ⟨y_bool ?_, rfl⟩
          rw [← H.out]
          obtain rfl : k = n := by omega
          have := HN.out
          exact (tab_mk (by omega) (by omega) (by rw [← this]; exact HE.out)).symm
end Go.Proofs.Ytpgkimehmmelgaa
