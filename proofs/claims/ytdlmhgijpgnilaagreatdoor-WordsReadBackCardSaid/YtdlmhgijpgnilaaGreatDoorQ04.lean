/- The bytes of names, and names: inNames, isName; Inner, named. -/
import Derived.Test.YtdlmhgijpgnilaaGreatDoorQ03
import Derived.Lib.Walk
set_option linter.unusedVariables false
set_option linter.unusedSimpArgs false
namespace Go.Proofs.YtdlmhgijpgnilaaGreatDoor
open Go.RowKit

set_option maxRecDepth 100000 in
set_option maxHeartbeats 1000000 in
theorem indexByte_lite (s : ByteArray) (c : Int) (w : World) :
    Calls Tryz.prog 147 #[.string s, .int .u8 c] w (RetE w (.int .i64 (Lib.indexByte s.data.toList c.toNat.toUInt8))) := by
  go_enter Tryz.func147, Tryz.ntmps147
  go_wp2_with fail
  rw [run_callFunc_extern Tryz.func157 (by kernel_rfl) (by kernel_rfl) (by kernel_rfl) (e := Extern.BytealgIndexByte.indexByte) (by kernel_rfl), Lib.run_indexByteString]
  simp only [Result.andThen]
  rw [Oper.upon_value]
  go_wp2_with fail
  go_ret
  exact ⟨rfl, rfl⟩
set_option maxHeartbeats 1000000 in
theorem indexByte_any (s : ByteArray) (c : Int) (w : World) :
    Calls Tryz.prog 134 #[.string s, .int .u8 c] w (RetE w (.int .i64 (Lib.indexByte s.data.toList c.toNat.toUInt8))) := by
  go_enter Tryz.func134, Tryz.ntmps134
  go_wp2_with (go_at_call 147; refine (indexByte_lite _ _ _).mono ?_; rintro e w' ⟨rfl, rfl⟩)
  go_ret
  exact ⟨rfl, rfl⟩
set_option maxHeartbeats 1000000 in
theorem inNames_any (n : Nat) (w : World) (hn : n < 256) (V : Bool) (H : Hid (okn n = V)) :
    Calls Tryz.prog 116 #[.int .u8 (n : Int)] w (RetE w (.bool V)) := by
  by_cases h1 : 33 ≤ n
  · by_cases h2 : n ≤ 126
    · have hr := okn_resv_all n hn h1 h2
      rw [H.out] at hr
      obtain ⟨i, hi⟩ : ∃ i, Lib.indexByte resv n.toUInt8 = i := ⟨_, rfl⟩
      rw [hi] at hr
      have HI : Hid (Lib.indexByte (⟨#[35, 40, 41, 42, 43, 124, 45, 91, 93]⟩ : ByteArray).data.toList (n : Int).toNat.toUInt8 = i) := Lib.hid hi
      clear hi H
      have HR := Lib.hid hr
      clear hr
      go_enter Tryz.func116, Tryz.ntmps116
      go_wp2_with fail
      refine (indexByte_any _ _ _).mono ?_
      rw [HI.out]
      rintro e w' ⟨rfl, rfl⟩
      go_wp2_with fail
      go_ret
      exact ⟨y_bool HR.out.symm, rfl⟩
    · obtain rfl : V = false := by rw [← H.out]; exact okn_out (.inr (by omega))
      clear H
      go_enter Tryz.func116, Tryz.ntmps116
      go_wp2_with fail
      go_ret
      exact ⟨rfl, rfl⟩
  · obtain rfl : V = false := by rw [← H.out]; exact okn_out (.inl (by omega))
    clear H
    go_enter Tryz.func116, Tryz.ntmps116
    go_wp2_with fail
    go_ret
    exact ⟨rfl, rfl⟩
set_option maxHeartbeats 4000000 in
theorem inner_any (n : Nat) (w : World) (V : Bool) (H : Hid (okn n = V)) :
    Calls Tryz.prog 99 #[.int .u8 (n : Int)] w (RetE w (.bool V)) := by
  have hV := H.out
  unfold okn at hV
  clear H
  rcases (show n < 33 ∨ 126 < n ∨ n = 35 ∨ n = 40 ∨ n = 41 ∨ n = 42 ∨ n = 43 ∨ n = 124 ∨ n = 45 ∨ n = 91 ∨ n = 93 ∨ (33 ≤ n ∧ n ≤ 126 ∧ n ≠ 35 ∧ n ≠ 40 ∧ n ≠ 41 ∧ n ≠ 42 ∧ n ≠ 43 ∧ n ≠ 124 ∧ n ≠ 45 ∧ n ≠ 91 ∧ n ≠ 93) by omega) with h | h | rfl | rfl | rfl | rfl | rfl | rfl | rfl | rfl | rfl | ⟨h1, h2, h3, h4, h5, h6, h7, h8, h9, h10, h11⟩
  case inl =>
    rw [decide_eq_false (show ¬ 33 ≤ n by omega)] at hV
    subst hV
    go_enter Tryz.func99, Tryz.ntmps99
    go_wp2_with fail
    go_ret
    exact ⟨rfl, rfl⟩
  case inr.inl =>
    rw [decide_eq_false (show ¬ n ≤ 126 by omega)] at hV
    simp only [Bool.and_false, Bool.false_and] at hV
    subst hV
    go_enter Tryz.func99, Tryz.ntmps99
    go_wp2_with fail
    go_ret
    exact ⟨rfl, rfl⟩
  case inr.inr.inr.inr.inr.inr.inr.inr.inr.inr.inr =>
    rw [decide_eq_true h1, decide_eq_true h2, decide_eq_true h3, decide_eq_true h4, decide_eq_true h5, decide_eq_true h6, decide_eq_true h7, decide_eq_true h8, decide_eq_true h9, decide_eq_true h10, decide_eq_true h11] at hV
    simp only [Bool.and_self] at hV
    subst hV
    have g3 : ((n : Int) != 35) = true := by simp; omega
    have g4 : ((n : Int) != 40) = true := by simp; omega
    have g5 : ((n : Int) != 41) = true := by simp; omega
    have g6 : ((n : Int) != 42) = true := by simp; omega
    have g7 : ((n : Int) != 43) = true := by simp; omega
    have g8 : ((n : Int) != 124) = true := by simp; omega
    have g9 : ((n : Int) != 45) = true := by simp; omega
    have g10 : ((n : Int) != 91) = true := by simp; omega
    have g11 : ((n : Int) != 93) = true := by simp; omega
    clear h3 h4 h5 h6 h7 h8 h9 h10 h11
    go_enter Tryz.func99, Tryz.ntmps99
    go_wp2_with fail
    go_ret
    exact ⟨rfl, rfl⟩
  all_goals
    subst hV
    go_enter Tryz.func99, Tryz.ntmps99
    go_wp2_with fail
    go_ret
    exact ⟨rfl, rfl⟩
end Go.Proofs.YtdlmhgijpgnilaaGreatDoor

namespace Go.Proofs.YtdlmhgijpgnilaaGreatDoor
open Go.RowKit

theorem ba_empty {s : ByteArray} (h : s.size = 0) : s = ⟨#[]⟩ := by
  obtain ⟨⟨l⟩⟩ := s
  have : l = [] := List.eq_nil_of_length_eq_zero (show l.length = 0 from h)
  rw [this]
theorem ba_lt (s : ByteArray) {k : Nat} (h : k < s.size) : s[k].toNat < 256 := by have := s[k].toNat_lt; omega
theorem toList_nil_iff (s : ByteArray) : s.toList = [] ↔ s.size = 0 := by
  have h := Lib.bytes_beq_iff s ⟨#[]⟩
  have e : (⟨#[]⟩ : ByteArray).toList = [] := by decide +kernel
  rw [e] at h
  constructor
  · intro hs
    rw [h.1 (by rw [hs]; rfl)]; rfl
  · intro hs
    have := ba_empty hs
    rw [this]; exact e
set_option maxHeartbeats 2000000 in
theorem isName_any (s : ByteArray) (w : World) (V : Bool) (H : Hid (nmd s = V)) :
    Calls Tryz.prog 85 #[.string s] w (RetE w (.bool V)) := by
  by_cases h0 : s.size = 0
  · obtain rfl := ba_empty h0
    obtain rfl : V = false := by rw [← H.out]; exact nmd_empty (by decide)
    clear h0 H
    go_enter Tryz.func85, Tryz.ntmps85
    go_wp2_with fail
    go_ret
    exact ⟨rfl, rfl⟩
  · have e0 : s.toList.isEmpty = false := by
      rw [List.isEmpty_eq_false_iff]
      exact fun h => h0 ((toList_nil_iff s).1 h)
    by_cases h1 : 24 < s.size
    · obtain rfl : V = false := by rw [← H.out]; exact nmd_long h1
      clear H
      have h2 : (24 : Int) < (s.size : Int) := by omega
      go_enter Tryz.func85, Tryz.ntmps85
      go_wp2_with fail
      go_ret
      exact ⟨rfl, rfl⟩
    · have h2 : ¬ (24 : Int) < (s.size : Int) := by omega
      by_cases h3 : (s.toList == [48]) = true
      · obtain rfl : V = false := by rw [← H.out]; exact nmd_zero h3
        clear H
        go_enter Tryz.func85, Tryz.ntmps85
        go_wp2_with fail
        go_ret
        exact ⟨rfl, rfl⟩
      · have h3' : (s.toList == [48]) = false := by simpa using h3
        by_cases h4 : (s.toList == [49]) = true
        · obtain rfl : V = false := by rw [← H.out]; exact nmd_one h4
          clear H
          go_enter Tryz.func85, Tryz.ntmps85
          go_wp2_with fail
          go_ret
          exact ⟨rfl, rfl⟩
        · have h4' : (s.toList == [49]) = false := by simpa using h4
          have HB : Hid (s.data.toList.all okB = V) := Lib.hid ((nmd_bytes (by omega) (by omega) h3' h4').symm.trans H.out)
          clear h3 h4 H
          go_enter Tryz.func85, Tryz.ntmps85
          go_wp2_with fail
          clear h3' h4' e0 h0
          go_loop [3, 21] (fun _ i => ∃ k : Nat, k ≤ s.size ∧ i = .int .i64 k ∧ Hid (∀ j (hj : j < s.size), j < k → okB s[j] = true)) (fun _ i => s.size - (intOf i).toNat)
          case atStart => exact ⟨0, Nat.zero_le _, rfl, show Hid _ from fun j _ h => absurd h (by omega)⟩
          case round =>
            obtain ⟨k, hk, rfl, HE⟩ := hrel
            rcases Nat.lt_or_ge k s.size with hks | hks
            · have hlt := ba_lt s hks
              obtain ⟨V1, hV1⟩ : ∃ b, okn s[k].toNat = b := ⟨_, rfl⟩
              have HV := Lib.hid hV1
              clear hV1
              go_wp2_with (go_at_call 116; refine (inNames_any _ _ hlt V1 HV).mono ?_; rintro e w' ⟨rfl, rfl⟩; cases V1)
              · go_wp2_with fail
                go_ret
                refine ⟨y_bool ?_, rfl⟩
                rw [← HB.out]
                exact (not_all_of_byte hks HV.out).symm
              · go_wp2_with fail
                go_round
                case rel => exact ⟨k + 1, by omega, by go_num, show Hid _ from fun j hj h => by
                  rcases Nat.lt_or_eq_of_le (Nat.le_of_lt_succ h) with h' | rfl
                  · exact HE.out j hj h'
                  · exact HV.out⟩
                case measure => simp [intOf]; omega
            · go_wp2_with fail
              go_ret
              refine ⟨y_bool ?_, rfl⟩
              rw [← HB.out]
              exact (all_of_bytes fun j hj => HE.out j hj (by omega)).symm
set_option maxHeartbeats 2000000 in
theorem named_any (s : ByteArray) (w : World) (V : Bool) (H : Hid (nmd s = V)) :
    Calls Tryz.prog 64 #[.string s] w (RetE w (.bool V)) := by
  by_cases h0 : s.size = 0
  · obtain rfl := ba_empty h0
    obtain rfl : V = false := by rw [← H.out]; exact nmd_empty (by decide)
    clear h0 H
    go_enter Tryz.func64, Tryz.ntmps64
    go_wp2_with fail
    go_ret
    exact ⟨rfl, rfl⟩
  · have e0 : ¬ (s.size : Int) < 1 := by omega
    by_cases h1 : 24 < s.size
    · obtain rfl : V = false := by rw [← H.out]; exact nmd_long h1
      clear H
      have h2 : (24 : Int) < (s.size : Int) := by omega
      go_enter Tryz.func64, Tryz.ntmps64
      go_wp2_with fail
      go_ret
      exact ⟨rfl, rfl⟩
    · have h2 : ¬ (24 : Int) < (s.size : Int) := by omega
      by_cases h3 : (s.toList == [48]) = true
      · obtain rfl : V = false := by rw [← H.out]; exact nmd_zero h3
        clear H
        go_enter Tryz.func64, Tryz.ntmps64
        go_wp2_with fail
        go_ret
        exact ⟨rfl, rfl⟩
      · have h3' : (s.toList == [48]) = false := by simpa using h3
        by_cases h4 : (s.toList == [49]) = true
        · obtain rfl : V = false := by rw [← H.out]; exact nmd_one h4
          clear H
          go_enter Tryz.func64, Tryz.ntmps64
          go_wp2_with fail
          go_ret
          exact ⟨rfl, rfl⟩
        · have h4' : (s.toList == [49]) = false := by simpa using h4
          have HB : Hid (s.data.toList.all okB = V) := Lib.hid ((nmd_bytes (by omega) (by omega) h3' h4').symm.trans H.out)
          clear h3 h4 H
          go_enter Tryz.func64, Tryz.ntmps64
          go_wp2_with fail
          clear h3' h4' e0 h0
          go_loop [3] (fun i => ∃ k : Nat, k ≤ s.size ∧ i = .int .i64 k ∧ Hid (∀ j (hj : j < s.size), j < k → okB s[j] = true)) (fun i => s.size - (intOf i).toNat)
          case atStart => exact ⟨0, Nat.zero_le _, rfl, show Hid _ from fun j _ h => absurd h (by omega)⟩
          case round =>
            obtain ⟨k, hk, rfl, HE⟩ := hrel
            rcases Nat.lt_or_ge k s.size with hks | hks
            · obtain ⟨V1, hV1⟩ : ∃ b, okn s[k].toNat = b := ⟨_, rfl⟩
              have HV := Lib.hid hV1
              clear hV1
              go_wp2_with (go_at_call 99; refine (inner_any _ _ V1 HV).mono ?_; rintro e w' ⟨rfl, rfl⟩; cases V1)
              · go_wp2_with fail
                go_ret
                refine ⟨y_bool ?_, rfl⟩
                rw [← HB.out]
                exact (not_all_of_byte hks HV.out).symm
              · go_wp2_with fail
                go_round
                case rel => exact ⟨k + 1, by omega, by go_num, show Hid _ from fun j hj h => by
                  rcases Nat.lt_or_eq_of_le (Nat.le_of_lt_succ h) with h' | rfl
                  · exact HE.out j hj h'
                  · exact HV.out⟩
                case measure => simp [intOf]; omega
            · go_wp2_with fail
              go_ret
              refine ⟨y_bool ?_, rfl⟩
              rw [← HB.out]
              exact (all_of_bytes fun j hj => HE.out j hj (by omega)).symm
end Go.Proofs.YtdlmhgijpgnilaaGreatDoor

namespace Go.Proofs.YtdlmhgijpgnilaaGreatDoor
open Go.RowKit

set_option maxHeartbeats 1000000 in
theorem index_any (A : Option Addr) (n c : Nat) (l : List ByteArray) (x : ByteArray) (w : World) (h : Names w l A n c) (hn : n ≤ 1073741824) (m : Nat) (H : Hid (fnd l x = m)) :
    Calls Tryz.prog 51 #[.slice A n c, .string x] w (RetE w (.int .i64 ((m : Int) - 1))) := by
  have HN := Lib.hid h.len
  have HL := Lib.hid h
  clear h
  go_enter Tryz.func51, Tryz.ntmps51
  go_wp2_with fail
  go_loop [5, 8] (fun _ i => ∃ k : Nat, k ≤ n ∧ i = .int .i64 k ∧ Hid (∀ j, j < k → l.getD j ByteArray.empty ≠ x)) (fun _ i => n - (intOf i).toNat)
  case atStart => exact ⟨0, Nat.zero_le _, rfl, show Hid _ from fun j h => absurd h (by omega)⟩
  case round =>
    obtain ⟨k, hk, rfl, HE⟩ := hrel
    rcases Nat.lt_or_ge k n with hkn | hkn
    · obtain ⟨b, o, rfl, _, hc⟩ := HL.out.at_ hkn
      obtain ⟨s, hs⟩ : ∃ s, l.getD k ByteArray.empty = s := ⟨_, rfl⟩
      rw [hs] at hc
      have HS := Lib.hid hs
      clear hs
      by_cases hx : s = x
      · have ht : (x.toList == s.toList) = true := by rw [Lib.bytes_beq_iff]; exact hx.symm
        have HX := Lib.hid hx
        clear hx
        go_wp2_with fail
        go_ret
        refine ⟨y_int ?_, rfl⟩
        have := fnd_hit l k x (by have := HN.out; omega) (HS.out.trans HX.out) HE.out
        have := H.out
        omega
      · have ht : (x.toList == s.toList) = false := by rw [Lib.bytes_beq_false_iff]; exact fun e => hx e.symm
        have HX := Lib.hid hx
        clear hx
        go_wp2_with fail
        go_round
        case rel => exact ⟨k + 1, by omega, by go_num, show Hid _ from fun j h => by
          rcases Nat.lt_or_eq_of_le (Nat.le_of_lt_succ h) with h' | rfl
          · exact HE.out j h'
          · rw [HS.out]; exact HX.out⟩
        case measure => simp [intOf]; omega
    · go_wp2_with fail
      go_ret
      refine ⟨y_int ?_, rfl⟩
      have := fnd_miss l x (fun j hj => HE.out j (by have := HN.out; omega))
      have := H.out
      omega
set_option maxHeartbeats 1000000 in
theorem contains_any (A : Option Addr) (n c : Nat) (l : List ByteArray) (x : ByteArray) (w : World) (h : Names w l A n c) (hn : n ≤ 1073741824) (V : Bool) (H : Hid (decide (0 < fnd l x) = V)) :
    Calls Tryz.prog 86 #[.slice A n c, .string x] w (RetE w (.bool V)) := by
  obtain ⟨m, hm⟩ : ∃ m, fnd l x = m := ⟨_, rfl⟩
  have hV := H.out
  rw [hm] at hV
  have HM := Lib.hid hm
  have HV := Lib.hid hV
  clear hm hV
  go_enter Tryz.func86, Tryz.ntmps86
  go_wp2_with (go_at_call 51; refine (index_any _ _ _ l x _ h hn m HM).mono ?_; rintro e w' ⟨rfl, rfl⟩)
  go_ret
  refine ⟨y_bool ?_, rfl⟩
  rw [← HV.out]
  exact decide_eq_decide.2 (by omega)
set_option maxHeartbeats 1000000 in
theorem find_any (A : Option Addr) (n c : Nat) (l : List ByteArray) (x : ByteArray) (w : World) (h : Names w l A n c) (hn : n ≤ 1073741824) (m : Nat) (H : Hid (fnd l x = m)) :
    Calls Tryz.prog 65 #[.slice A n c, .string x] w (RetE w (.int .i64 (m : Int))) := by
  have HN := Lib.hid h.len
  have HL := Lib.hid h
  clear h
  go_enter Tryz.func65, Tryz.ntmps65
  go_wp2_with fail
  go_loop [5] (fun i => ∃ k : Nat, k ≤ n ∧ i = .int .i64 k ∧ Hid (∀ j, j < k → l.getD j ByteArray.empty ≠ x)) (fun i => n - (intOf i).toNat)
  case atStart => exact ⟨0, Nat.zero_le _, rfl, show Hid _ from fun j h => absurd h (by omega)⟩
  case round =>
    obtain ⟨k, hk, rfl, HE⟩ := hrel
    rcases Nat.lt_or_ge k n with hkn | hkn
    · obtain ⟨b, o, rfl, _, hc⟩ := HL.out.at_ hkn
      obtain ⟨s, hs⟩ : ∃ s, l.getD k ByteArray.empty = s := ⟨_, rfl⟩
      rw [hs] at hc
      have HS := Lib.hid hs
      clear hs
      by_cases hx : s = x
      · have ht : (s.toList == x.toList) = true := by rw [Lib.bytes_beq_iff]; exact hx
        have HX := Lib.hid hx
        clear hx
        go_wp2_with fail
        go_ret
        refine ⟨y_int ?_, rfl⟩
        have := fnd_hit l k x (by have := HN.out; omega) (HS.out.trans HX.out) HE.out
        have := H.out
        omega
      · have ht : (s.toList == x.toList) = false := by rw [Lib.bytes_beq_false_iff]; exact hx
        have HX := Lib.hid hx
        clear hx
        go_wp2_with fail
        go_round
        case rel => exact ⟨k + 1, by omega, by go_num, show Hid _ from fun j h => by
          rcases Nat.lt_or_eq_of_le (Nat.le_of_lt_succ h) with h' | rfl
          · exact HE.out j h'
          · rw [HS.out]; exact HX.out⟩
        case measure => simp [intOf]; omega
    · go_wp2_with fail
      go_ret
      refine ⟨y_int ?_, rfl⟩
      have := fnd_miss l x (fun j hj => HE.out j (by have := HN.out; omega))
      have := H.out
      omega
end Go.Proofs.YtdlmhgijpgnilaaGreatDoor

namespace Go.Proofs.YtdlmhgijpgnilaaGreatDoor
open Go.RowKit

set_option maxHeartbeats 2000000 in
theorem Valid_any (A : Option Addr) (n c : Nat) (l : List ByteArray) (w : World) (h : Names w l A n c) (V : Bool) (H : Hid (tab l = V)) :
    Calls Tryz.prog 48 #[.slice A n c] w (RetE w (.bool V)) := by
  have hnl := h.len
  by_cases h0 : n = 0
  · obtain rfl : V = false := by rw [← H.out]; exact tab_none (by omega)
    subst h0
    clear H h hnl
    go_enter Tryz.func48, Tryz.ntmps48
    go_wp2_with fail
    go_ret
    exact ⟨rfl, rfl⟩
  · have e0 : ((n : Int) == 0) = false := by simp; omega
    by_cases h1 : 32 < n
    · obtain rfl : V = false := by rw [← H.out]; exact tab_many (by omega)
      have h2 : (32 : Int) < (n : Int) := by omega
      clear H h hnl h0
      go_enter Tryz.func48, Tryz.ntmps48
      go_wp2_with fail
      go_ret
      exact ⟨rfl, rfl⟩
    · have h2 : ¬ (32 : Int) < (n : Int) := by omega
      have h3 : n ≤ 32 := by omega
      have h4 : 0 < n := by omega
      have HN := Lib.hid hnl
      have HL := Lib.hid h
      clear h hnl h0 h1
      go_enter Tryz.func48, Tryz.ntmps48
      go_wp2_with fail
      clear e0
      go_loop [3, 4, 15] (fun _ _ i => ∃ k : Nat, k ≤ n ∧ i = .int .i64 k ∧ Hid (firsts l k)) (fun _ _ i => n - (intOf i).toNat)
      case atStart => exact ⟨0, Nat.zero_le _, rfl, show Hid _ from fun j h => absurd h (by omega)⟩
      case round =>
        obtain ⟨k, hk, rfl, HE⟩ := hrel
        rcases Nat.lt_or_ge k n with hkn | hkn
        · obtain ⟨b, o, rfl, _, hc⟩ := HL.out.at_ hkn
          have HT := Lib.hid (HL.out.take (k := k) (by omega))
          have hk30 : k ≤ 1073741824 := by omega
          obtain ⟨s, hs⟩ : ∃ s, l.getD k ByteArray.empty = s := ⟨_, rfl⟩
          rw [hs] at hc
          obtain ⟨V1, hV1⟩ : ∃ b, nmd s = b := ⟨_, rfl⟩
          obtain ⟨V2, hV2⟩ : ∃ b, decide (0 < fnd (l.take k) s) = b := ⟨_, rfl⟩
          have HS := Lib.hid hs
          have HV1 := Lib.hid hV1
          have HV2 := Lib.hid hV2
          have hck : k ≤ c := by have := HL.out.cap; omega
          clear hs hV1 hV2
          go_wp2_with fail
          refine (isName_any s _ V1 HV1).mono ?_
          rintro e w' ⟨rfl, rfl⟩
          cases V1
          · go_wp2_with fail
            go_ret
            refine ⟨y_bool ?_, rfl⟩
            rw [← H.out]
            exact (tab_bad (i := k) (by have := HN.out; omega) (by rw [HS.out, HV1.out]; simp)).symm
          · go_wp2_with fail
            refine (contains_any _ _ _ _ s _ HT.out hk30 V2 HV2).mono ?_
            rintro e w' ⟨rfl, rfl⟩
            cases V2
            · go_wp2_with fail
              go_round
              case rel => exact ⟨k + 1, by omega, by go_num, show Hid _ from firsts_step HE.out (by rw [HS.out]; exact HV1.out) (by rw [HS.out]; have := of_decide_eq_false HV2.out; omega)⟩
              case measure => simp [intOf]; omega
            · go_wp2_with fail
              go_ret
              refine ⟨y_bool ?_, rfl⟩
              rw [← H.out]
              exact (tab_bad (i := k) (by have := HN.out; omega) (by rw [HS.out]; have := of_decide_eq_true HV2.out; omega)).symm
        · go_wp2_with fail
          go_ret
          refine ⟨y_bool ?_, rfl⟩
          rw [← H.out]
          obtain rfl : k = n := by omega
          have := HN.out
          exact (tab_mk (by omega) (by omega) (by rw [← this]; exact HE.out)).symm
end Go.Proofs.YtdlmhgijpgnilaaGreatDoor
