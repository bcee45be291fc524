/- Same, same; Mod; Strings; Find and Name, of the program and of the specification. -/
import Derived.Test.YtpgkimehmmelgaaN8
namespace Go.Proofs.Ytpgkimehmmelgaa
open Go.RowKit

theorem names_eq {l r : List ByteArray} (hl : l.length = r.length) (h : ∀ j, j < l.length → l.getD j ByteArray.empty = r.getD j ByteArray.empty) : l = r := by
  apply List.ext_getElem hl
  intro j h1 h2
  have := h j h1
  rw [List.getD_eq_getElem?_getD, List.getD_eq_getElem?_getD, List.getElem?_eq_getElem h1, List.getElem?_eq_getElem h2] at this
  exact this
theorem nats_eq {l r : List Nat} (hl : l.length = r.length) (h : ∀ j, j < l.length → l.getD j 0 = r.getD j 0) : l = r := by
  apply List.ext_getElem hl
  intro j h1 h2
  have := h j h1
  rw [List.getD_eq_getElem?_getD, List.getD_eq_getElem?_getD, List.getElem?_eq_getElem h1, List.getElem?_eq_getElem h2] at this
  exact this
set_option maxHeartbeats 2000000 in
theorem Same_any (A A' : Option Addr) (n c m c' : Nat) (l r : List ByteArray) (w : World) (V : Bool) (hx : Names w l A n c) (hy : Names w r A' m c') (hn : n ≤ 1073741824) (hm : m ≤ 1073741824) (H : Hid (decide (l = r) = V)) :
    Calls Try.prog 17 #[.slice A n c, .slice A' m c'] w (RetD w (.bool V)) := by
  by_cases hnm : n = m
  · subst hnm
    have h1 : ((n : Int) != n) = false := by simp
    have LX := Lib.hid hx; have LY := Lib.hid hy
    clear hx hy
    go_enter Try.func17, Try.ntmps17
    go_wp2_with fail
    clear h1
    go_loopw [5] (fun i wr => ∃ k q : Nat, k ≤ n ∧ i = .int .i64 (k : Int) ∧ wr = w.drewN q ∧ Hid (∀ j, j < k → l.getD j ByteArray.empty = r.getD j ByteArray.empty)) (fun i _ => (n - intOf i).toNat)
    case atStart => exact ⟨0, 0, Nat.zero_le _, rfl, rfl, show Hid _ from fun j h1 => by omega⟩
    case round =>
      obtain ⟨k, q, hk, rfl, rfl, HE⟩ := hrel
      rcases Nat.lt_or_ge k n with hkn | hkn
      · obtain ⟨b, o, rfl, _, hcx⟩ := LX.out.at_ hkn
        obtain ⟨b', o', rfl, _, hcy⟩ := LY.out.at_ hkn
        obtain ⟨s, hs⟩ : ∃ s, l.getD k ByteArray.empty = s := ⟨_, rfl⟩
        obtain ⟨t, ht⟩ : ∃ s, r.getD k ByteArray.empty = s := ⟨_, rfl⟩
        rw [hs] at hcx
        rw [ht] at hcy
        have HX := Lib.hid hs; have HY := Lib.hid ht
        clear hs ht
        have hkn2 : (k : Int) < (n : Int) := by omega
        by_cases hst : s = t
        · have e1 : (s.toList == t.toList) = true := (Lib.bytes_beq_iff s t).2 hst
          have HS := Lib.hid hst
          clear hst
          go_wp2_with fail
          go_quiet (fail)
          go_wp2_with fail
          go_roundw
          case rel => exact ⟨k + 1, _, by omega, by go_num, rfl, show Hid _ from fun i hi1 => by
            rcases Nat.lt_or_eq_of_le (Nat.le_of_lt_succ hi1) with hi | hi
            · exact HE.out i hi
            · subst hi; rw [HX.out, HY.out]; exact HS.out⟩
          case measure => simp [intOf]; omega
        · have e1 : (s.toList == t.toList) = false := (Lib.bytes_beq_false_iff s t).2 hst
          have HS := Lib.hid hst
          clear hst
          go_wp2_with fail
          go_quiet (fail)
          go_wp2_with fail
          go_ret
          refine ⟨y_bool ?_, _, World.drewN_drewN ..⟩
          rw [← H.out]
          exact (decide_eq_false (fun h => HS.out (by rw [← HX.out, ← HY.out, h]))).symm
      · have hlt : ¬ (k : Int) < (n : Int) := by omega
        go_wp2_with fail
        go_ret
        refine ⟨y_bool ?_, q, rfl⟩
        rw [← H.out]
        exact (decide_eq_true (names_eq (LX.out.len.symm.trans LY.out.len) (fun j hj => HE.out j (by have := LX.out.len; omega)))).symm
  · have h1 : ((n : Int) != m) = true := by simp; omega
    go_enter Try.func17, Try.ntmps17
    go_wp2_with fail
    go_ret
    refine ⟨y_bool ?_, 0, rfl⟩
    rw [← H.out]
    exact (decide_eq_false (fun h => hnm (by rw [hx.len, hy.len, h]))).symm
set_option maxHeartbeats 2000000 in
theorem same_any (A A' : Option Addr) (n c m c' : Nat) (l r : List Nat) (w : World) (V : Bool) (hx : Syms w l A n c) (hy : Syms w r A' m c') (hn : n ≤ 1073741824) (hm : m ≤ 1073741824) (H : Hid (decide (l = r) = V)) :
    Calls Try.prog 18 #[.slice A n c, .slice A' m c'] w (RetD w (.bool V)) := by
  by_cases hnm : n = m
  · subst hnm
    have h1 : ((n : Int) != n) = false := by simp
    have LX := Lib.hid hx; have LY := Lib.hid hy
    clear hx hy
    go_enter Try.func18, Try.ntmps18
    go_wp2_with fail
    clear h1
    go_loopw [5] (fun i wr => ∃ k q : Nat, k ≤ n ∧ i = .int .i64 (k : Int) ∧ wr = w.drewN q ∧ Hid (∀ j, j < k → l.getD j 0 = r.getD j 0)) (fun i _ => (n - intOf i).toNat)
    case atStart => exact ⟨0, 0, Nat.zero_le _, rfl, rfl, show Hid _ from fun j h1 => by omega⟩
    case round =>
      obtain ⟨k, q, hk, rfl, rfl, HE⟩ := hrel
      rcases Nat.lt_or_ge k n with hkn | hkn
      · obtain ⟨b, o, rfl, _, hcx⟩ := LX.out.at_ hkn
        obtain ⟨b', o', rfl, _, hcy⟩ := LY.out.at_ hkn
        obtain ⟨s, hs⟩ : ∃ s, l.getD k 0 = s := ⟨_, rfl⟩
        obtain ⟨t, ht⟩ : ∃ s, r.getD k 0 = s := ⟨_, rfl⟩
        rw [hs] at hcx
        rw [ht] at hcy
        have HX := Lib.hid hs; have HY := Lib.hid ht
        clear hs ht
        have hkn2 : (k : Int) < (n : Int) := by omega
        by_cases hst : s = t
        · have hne2 : ((s : Int) != s) = false := by simp
          subst hst
          go_wp2_with fail
          go_quiet (fail)
          go_wp2_with fail
          go_roundw
          case rel => exact ⟨k + 1, _, by omega, by go_num, rfl, show Hid _ from fun i hi1 => by
            rcases Nat.lt_or_eq_of_le (Nat.le_of_lt_succ hi1) with hi | hi
            · exact HE.out i hi
            · subst hi; rw [HX.out, HY.out]⟩
          case measure => simp [intOf]; omega
        · have e1 : ((s : Int) != t) = true := by simp; omega
          have HS := Lib.hid hst
          clear hst
          go_wp2_with fail
          go_quiet (fail)
          go_wp2_with fail
          go_ret
          refine ⟨y_bool ?_, _, World.drewN_drewN ..⟩
          rw [← H.out]
          exact (decide_eq_false (fun h => HS.out (by rw [← HX.out, ← HY.out, h]))).symm
      · have hlt : ¬ (k : Int) < (n : Int) := by omega
        go_wp2_with fail
        go_ret
        refine ⟨y_bool ?_, q, rfl⟩
        rw [← H.out]
        exact (decide_eq_true (nats_eq (LX.out.len.symm.trans LY.out.len) (fun j hj => HE.out j (by have := LX.out.len; omega)))).symm
  · have h1 : ((n : Int) != m) = true := by simp; omega
    go_enter Try.func18, Try.ntmps18
    go_wp2_with fail
    go_ret
    refine ⟨y_bool ?_, 0, rfl⟩
    rw [← H.out]
    exact (decide_eq_false (fun h => hnm (by rw [hx.len, hy.len, h]))).symm
/-- A number modulo the length of a table. -/
def RetMod (w0 : World) (n : Nat) (e : Ending) (w' : World) : Prop := ∃ r : Nat, r < n ∧ e = .returned (.int .i64 (r : Int)) ∧ w0 = w'
theorem retMod {w : World} {n : Nat} {x : Int} (h0 : 0 ≤ x) (h1 : x < n) : RetMod w n (.returned (.int .i64 x)) w := ⟨x.toNat, by omega, y_int (by omega), rfl⟩
set_option maxHeartbeats 1000000 in
theorem Mod_in (k : Int) (n : Nat) (w : World) (hk1 : -9223372036854775808 ≤ k) (hk2 : k ≤ 9223372036854775807) (h0 : 0 < n) (hn : n ≤ 1073741824) :
    Calls Try.prog 19 #[.int .i64 k, .int .i64 (n : Int)] w (RetMod w n) := by
  have hz : ((n : Int) == 0) = false := by simp; omega
  have hn1 : (1 : Int) ≤ (n : Int) := by omega
  rcases Int.lt_or_le k 0 with h | h
  · obtain ⟨y, hy⟩ : ∃ y, k.tmod n = y := ⟨_, rfl⟩
    have b1 : -(n : Int) < y ∧ y ≤ 0 := by
      rw [← hy]
      have h1 := Int.lt_tmod_of_pos k (b := (n : Int)) (by omega)
      have h2 : (-k).tmod n = -(k.tmod n) := Int.neg_tmod ..
      have h3 := Int.tmod_nonneg (a := -k) (n : Int) (by omega)
      omega
    obtain ⟨b2, b3⟩ := b1
    by_cases hy0 : y < 0
    · go_enter Try.func19, Try.ntmps19
      go_wp2_with fail
      go_ret
      exact retMod (by omega) (by omega)
    · go_enter Try.func19, Try.ntmps19
      go_wp2_with fail
      go_ret
      exact retMod (by omega) (by omega)
  · have b1 : 0 ≤ k % n := Int.emod_nonneg _ (by omega)
    have b2 : k % n < n := Int.emod_lt_of_pos _ (by omega)
    go_enter Try.func19, Try.ntmps19
    go_wp2_with fail
    go_ret
    exact retMod (by omega) (by omega)
/-- Strings answers something, and says yes to lists of at most 40 names alone. -/
def RetS (w0 : World) (n : Nat) (e : Ending) (w' : World) : Prop := ∃ V : Bool, e = .returned (.bool V) ∧ (V = true → n ≤ 40) ∧ w0 = w'
set_option maxHeartbeats 1000000 in
theorem Strings_any (A : Option Addr) (n c : Nat) (l : List ByteArray) (w : World) (h : Names w l A n c) :
    Calls Try.prog 7 #[.slice A n c] w (RetS w n) := by
  by_cases h1 : 40 < n
  · have h2 : (40 : Int) < (n : Int) := by omega
    go_enter Try.func7, Try.ntmps7
    go_wp2_with fail
    go_ret
    exact ⟨false, rfl, fun h => absurd h (by decide), rfl⟩
  · have h2 : ¬ (40 : Int) < (n : Int) := by omega
    have HL := Lib.hid h
    clear h
    go_enter Try.func7, Try.ntmps7
    go_wp2_with fail
    go_loop [3] (fun i => ∃ k : Nat, k ≤ n ∧ i = .int .i64 k) (fun i => n - (intOf i).toNat)
    case atStart => exact ⟨0, Nat.zero_le _, rfl⟩
    case round =>
      obtain ⟨k, hk, rfl⟩ := hrel
      rcases Nat.lt_or_ge k n with hkn | hkn
      · obtain ⟨b, o, rfl, _, hc⟩ := HL.out.at_ hkn
        obtain ⟨s, hs⟩ : ∃ s, l.getD k ByteArray.empty = s := ⟨_, rfl⟩
        rw [hs] at hc
        clear hs
        by_cases h3 : 40 < s.size
        · have h4 : (40 : Int) < (s.size : Int) := by omega
          go_wp2_with fail
          go_ret
          exact ⟨false, rfl, fun h => absurd h (by decide), rfl⟩
        · have h4 : ¬ (40 : Int) < (s.size : Int) := by omega
          go_wp2_with fail
          go_round
          case rel => exact ⟨k + 1, by omega, by go_num⟩
          case measure => simp [intOf]; omega
      · go_wp2_with fail
        go_ret
        exact ⟨true, rfl, fun _ => by omega, rfl⟩
theorem fndT_no {l : List ByteArray} (x : ByteArray) (h : tab l = false) : fndT l x = 0 := by unfold fndT; rw [h]; rfl
theorem fndT_yes {l : List ByteArray} (x : ByteArray) (h : tab l = true) : fndT l x = fnd l x := by unfold fndT; rw [h]; rfl
set_option maxHeartbeats 1000000 in
theorem Find_any (A : Option Addr) (n c : Nat) (l : List ByteArray) (x : ByteArray) (w : World) (h : Names w l A n c) (hn : n ≤ 1073741824) (m : Nat) (H : Hid (fndT l x = m)) :
    Calls Try.prog 11 #[.slice A n c, .string x] w (RetE w (.int .i64 (m : Int))) := by
  obtain ⟨V, hV⟩ : ∃ b, tab l = b := ⟨_, rfl⟩
  have HV := Lib.hid hV
  have HL := Lib.hid h
  clear hV h
  go_enter Try.func11, Try.ntmps11
  go_wp2_with fail
  refine (Valid_any _ _ _ _ _ HL.out V HV).mono ?_
  rintro e w' ⟨rfl, rfl⟩
  cases V
  · have hm := H.out
    rw [fndT_no x HV.out] at hm
    subst hm
    go_wp2_with fail
    go_ret
    exact ⟨rfl, rfl⟩
  · have HM : Hid (fnd l x = m) := Lib.hid ((fndT_yes x HV.out).symm.trans H.out)
    go_wp2_with (go_at_call 24; refine (place_any _ _ _ _ x _ HL.out hn m HM).mono ?_; rintro e w' ⟨rfl, rfl⟩)
    go_ret
    exact ⟨rfl, rfl⟩
set_option maxHeartbeats 1000000 in
theorem r_Find_any (A : Option Addr) (n c : Nat) (l : List ByteArray) (x : ByteArray) (w : World) (h : Names w l A n c) (hn : n ≤ 1073741824) (m : Nat) (H : Hid (fndT l x = m)) :
    Calls Try.prog 12 #[.slice A n c, .string x] w (RetD w (.int .i64 (m : Int))) := by
  obtain ⟨V, hV⟩ : ∃ b, tab l = b := ⟨_, rfl⟩
  have HV := Lib.hid hV
  have HL := Lib.hid h
  clear hV h
  go_enter Try.func12, Try.ntmps12
  go_wp2_with fail
  refine (r_Valid_any _ _ _ _ _ HL.out V HV).mono ?_
  rintro e w' ⟨rfl, q, rfl⟩
  cases V
  · have hm := H.out
    rw [fndT_no x HV.out] at hm
    subst hm
    go_wp2_with fail
    go_ret
    exact ⟨rfl, q, rfl⟩
  · have HM : Hid (fnd l x = m) := Lib.hid ((fndT_yes x HV.out).symm.trans H.out)
    go_wp2_with (go_at_call 23; refine (find_any _ _ _ _ x _ (HL.out.drewN q) hn m HM).mono ?_; rintro e w' ⟨rfl, rfl⟩)
    go_ret
    exact ⟨rfl, q, rfl⟩
end Go.Proofs.Ytpgkimehmmelgaa
