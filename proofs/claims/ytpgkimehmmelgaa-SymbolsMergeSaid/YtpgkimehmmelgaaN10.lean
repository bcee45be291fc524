/- Name, of the program and of the specification. -/
import Derived.Test.YtpgkimehmmelgaaN9
namespace Go.Proofs.Ytpgkimehmmelgaa
open Go.RowKit

theorem nam_no {l : List ByteArray} (s : Int) (h : tab l = false) : nam l s = ⟨#[]⟩ := by
  unfold nam
  rw [if_neg (by rw [h]; simp)]
theorem nam_out {l : List ByteArray} {s : Int} (h : s < 0 ∨ (l.length : Int) < s) : nam l s = ⟨#[]⟩ := by
  unfold nam
  rw [if_neg (by omega)]
theorem nam_zero {l : List ByteArray} (h : tab l = true) : nam l 0 = ⟨#[45]⟩ := by
  unfold nam
  rw [if_pos ⟨h, by omega, by omega⟩, if_pos rfl]
theorem nam_in {l : List ByteArray} {k : Nat} (h : tab l = true) (hk : k < l.length) : nam l ((k : Int) + 1) = l.getD k ByteArray.empty := by
  unfold nam
  rw [if_pos ⟨h, by omega, by omega⟩, if_neg (by omega)]
  congr 1
set_option maxHeartbeats 2000000 in
theorem Name_any (A : Option Addr) (n c : Nat) (l : List ByteArray) (s : Int) (w : World) (h : Names w l A n c) (x : ByteArray) (H : Hid (nam l s = x)) (hs1 : -9223372036854775808 ≤ s) (hs2 : s ≤ 9223372036854775807) :
    Calls Try.prog 13 #[.slice A n c, .int .i64 s] w (RetE w (.string x)) := by
  obtain ⟨V, hV⟩ : ∃ b, tab l = b := ⟨_, rfl⟩
  have HV := Lib.hid hV
  have HL := Lib.hid h
  have HN := Lib.hid h.len
  clear hV h
  cases V
  · have HX : Hid (x = ⟨#[]⟩) := Lib.hid (H.out.symm.trans (nam_no s HV.out))
    go_enter Try.func13, Try.ntmps13
    go_wp2_with fail
    refine (Valid_any _ _ _ _ _ HL.out false HV).mono ?_
    rintro e w' ⟨rfl, rfl⟩
    go_wp2_with fail
    go_ret
    exact ⟨y_string HX.out.symm, rfl⟩
  have h32 : n ≤ 32 := by have := (tab_out HV.out).2.1; have := HN.out; omega
  rcases Int.lt_or_le s 0 with h0 | h0
  · have HX : Hid (x = ⟨#[]⟩) := Lib.hid (H.out.symm.trans (nam_out (.inl h0)))
    go_enter Try.func13, Try.ntmps13
    go_wp2_with fail
    refine (Valid_any _ _ _ _ _ HL.out true HV).mono ?_
    rintro e w' ⟨rfl, rfl⟩
    go_wp2_with fail
    go_ret
    exact ⟨y_string HX.out.symm, rfl⟩
  rcases Int.lt_or_le (n : Int) s with h1 | h1
  · have HX : Hid (x = ⟨#[]⟩) := Lib.hid (H.out.symm.trans (nam_out (.inr (by rw [← HN.out]; exact h1))))
    go_enter Try.func13, Try.ntmps13
    go_wp2_with fail
    refine (Valid_any _ _ _ _ _ HL.out true HV).mono ?_
    rintro e w' ⟨rfl, rfl⟩
    go_wp2_with fail
    go_ret
    exact ⟨y_string HX.out.symm, rfl⟩
  by_cases h2 : s = 0
  · subst h2
    have HX : Hid (x = ⟨#[45]⟩) := Lib.hid (H.out.symm.trans (nam_zero HV.out))
    go_enter Try.func13, Try.ntmps13
    go_wp2_with fail
    refine (Valid_any _ _ _ _ _ HL.out true HV).mono ?_
    rintro e w' ⟨rfl, rfl⟩
    go_wp2_with fail
    go_ret
    exact ⟨y_string HX.out.symm, rfl⟩
  · obtain ⟨k, rfl⟩ : ∃ k : Nat, s = (k : Int) + 1 := ⟨(s - 1).toNat, by omega⟩
    have hk : k < n := by omega
    have HX : Hid (x = l.getD k ByteArray.empty) := Lib.hid (H.out.symm.trans (nam_in HV.out (by have := HN.out; omega)))
    obtain ⟨b, o, rfl, _, hc⟩ := HL.out.at_ hk
    obtain ⟨y, hy⟩ : ∃ y, l.getD k ByteArray.empty = y := ⟨_, rfl⟩
    rw [hy] at hc
    have HY := Lib.hid hy
    have e2 : ((k : Int) + 1 == 0) = false := by simp; omega
    have e3 : (k : Int) + 1 - 1 = k := by omega
    clear hy h2 hs1 hs2 h0 h1 e3
    go_enter Try.func13, Try.ntmps13
    go_wp2_with fail
    refine (Valid_any _ _ _ _ _ HL.out true HV).mono ?_
    rintro e w' ⟨rfl, rfl⟩
    go_wp2_with fail
    go_ret
    exact ⟨y_string (HY.out.symm.trans HX.out.symm), rfl⟩
set_option maxHeartbeats 2000000 in
theorem r_Name_any (A : Option Addr) (n c : Nat) (l : List ByteArray) (s : Int) (w : World) (h : Names w l A n c) (x : ByteArray) (H : Hid (nam l s = x)) (hs1 : -9223372036854775808 ≤ s) (hs2 : s ≤ 9223372036854775807) :
    Calls Try.prog 14 #[.slice A n c, .int .i64 s] w (RetD w (.string x)) := by
  obtain ⟨V, hV⟩ : ∃ b, tab l = b := ⟨_, rfl⟩
  have HV := Lib.hid hV
  have HL := Lib.hid h
  have HN := Lib.hid h.len
  clear hV h
  cases V
  · have HX : Hid (x = ⟨#[]⟩) := Lib.hid (H.out.symm.trans (nam_no s HV.out))
    go_enter Try.func14, Try.ntmps14
    go_wp2_with fail
    refine (r_Valid_any _ _ _ _ _ HL.out false HV).mono ?_
    rintro e w' ⟨rfl, q, rfl⟩
    go_wp2_with fail
    go_ret
    exact ⟨y_string HX.out.symm, q, rfl⟩
  have h32 : n ≤ 32 := by have := (tab_out HV.out).2.1; have := HN.out; omega
  rcases Int.lt_or_le s 0 with h0 | h0
  · have HX : Hid (x = ⟨#[]⟩) := Lib.hid (H.out.symm.trans (nam_out (.inl h0)))
    go_enter Try.func14, Try.ntmps14
    go_wp2_with fail
    refine (r_Valid_any _ _ _ _ _ HL.out true HV).mono ?_
    rintro e w' ⟨rfl, q, rfl⟩
    go_wp2_with fail
    go_ret
    exact ⟨y_string HX.out.symm, q, rfl⟩
  rcases Int.lt_or_le (n : Int) s with h1 | h1
  · have HX : Hid (x = ⟨#[]⟩) := Lib.hid (H.out.symm.trans (nam_out (.inr (by rw [← HN.out]; exact h1))))
    go_enter Try.func14, Try.ntmps14
    go_wp2_with fail
    refine (r_Valid_any _ _ _ _ _ HL.out true HV).mono ?_
    rintro e w' ⟨rfl, q, rfl⟩
    go_wp2_with fail
    go_ret
    exact ⟨y_string HX.out.symm, q, rfl⟩
  by_cases h2 : s = 0
  · subst h2
    have HX : Hid (x = ⟨#[45]⟩) := Lib.hid (H.out.symm.trans (nam_zero HV.out))
    go_enter Try.func14, Try.ntmps14
    go_wp2_with fail
    refine (r_Valid_any _ _ _ _ _ HL.out true HV).mono ?_
    rintro e w' ⟨rfl, q, rfl⟩
    go_wp2_with fail
    go_ret
    exact ⟨y_string HX.out.symm, q, rfl⟩
  · obtain ⟨k, rfl⟩ : ∃ k : Nat, s = (k : Int) + 1 := ⟨(s - 1).toNat, by omega⟩
    have hk : k < n := by omega
    have HX : Hid (x = l.getD k ByteArray.empty) := Lib.hid (H.out.symm.trans (nam_in HV.out (by have := HN.out; omega)))
    obtain ⟨b, o, rfl, _, hc⟩ := HL.out.at_ hk
    obtain ⟨y, hy⟩ : ∃ y, l.getD k ByteArray.empty = y := ⟨_, rfl⟩
    rw [hy] at hc
    have HY := Lib.hid hy
    have e2 : ((k : Int) + 1 == 0) = false := by simp; omega
    have e3 : (k : Int) + 1 - 1 = k := by omega
    clear hy h2 hs1 hs2 h0 h1 e3
    go_enter Try.func14, Try.ntmps14
    go_wp2_with fail
    refine (r_Valid_any _ _ _ _ _ HL.out true HV).mono ?_
    rintro e w' ⟨rfl, q, rfl⟩
    go_wp2_with fail
    go_ret
    exact ⟨y_string (HY.out.symm.trans HX.out.symm), q, rfl⟩
end Go.Proofs.Ytpgkimehmmelgaa
