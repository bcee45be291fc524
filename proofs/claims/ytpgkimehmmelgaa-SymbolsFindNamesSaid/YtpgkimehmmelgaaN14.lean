/- The laws SymbolsName, SymbolsMerge, SymbolsFindNames. -/
import Derived.Test.YtpgkimehmmelgaaN13
namespace Go.Proofs.Ytpgkimehmmelgaa
open Go.RowKit

set_option maxHeartbeats 4000000 in
theorem name_law (A : Option Addr) (n c : Nat) (l : List ByteArray) (x : ByteArray) (s : Int) (w : World) (h : Names w l A n c) (hs1 : -9223372036854775808 ≤ s) (hs2 : s ≤ 9223372036854775807) :
    Calls Try.prog 3 #[.slice A n c, .string x, .int .i64 s] w (RetB w (.bool true)) := by
  have HS := Lib.hid (And.intro hs1 hs2)
  have HL := Lib.hid h
  clear hs1 hs2 h
  go_enter Try.func3, Try.ntmps3
  go_wp2_with fail
  refine (Strings_any _ _ _ _ _ HL.out).mono ?_
  rintro e w1 ⟨V, rfl, hV, rfl⟩
  cases V
  · go_wp2_with fail
    refine (awake_b _).mono ?_
    rintro e w2 ⟨rfl, hb⟩
    go_wp2_with fail
    go_ret
    exact ⟨rfl, hb⟩
  have hn : n ≤ 40 := hV rfl
  clear hV
  by_cases hx : 40 < x.size
  · have hx2 : (40 : Int) < (x.size : Int) := by omega
    go_wp2_with fail
    refine (awake_b _).mono ?_
    rintro e w2 ⟨rfl, hb⟩
    go_wp2_with fail
    go_ret
    exact ⟨rfl, hb⟩
  have hx2 : ¬ (40 : Int) < (x.size : Int) := by omega
  obtain ⟨V0, hV0⟩ : ∃ b, tab l = b := ⟨_, rfl⟩
  obtain ⟨m, hm⟩ : ∃ m, fndT l x = m := ⟨_, rfl⟩
  obtain ⟨y, hy⟩ : ∃ y, nam l s = y := ⟨_, rfl⟩
  have HV := Lib.hid hV0
  have HM := Lib.hid hm
  have HY := Lib.hid hy
  clear hV0 hm hy
  go_wp2_with fail
  refine (awake_b _).mono ?_
  rintro e w2 ⟨rfl, hb2⟩
  have HL2 := Lib.hid (HL.out.below hb2)
  go_wp2_with fail
  refine (Valid_any _ _ _ _ _ HL2.out V0 HV).mono ?_
  rintro e w3 ⟨rfl, rfl⟩
  go_wp2_with fail
  refine (r_Valid_b _ _ _ _ _ HL2.out V0 HV).mono ?_
  rintro e w3 ⟨rfl, hb3⟩
  have hb03 := hb2.trans (hb3.mono hb2.size)
  have HL3 := Lib.hid (HL.out.below hb03)
  clear hb2 hb3
  go_wp2_with fail
  refine (Find_any _ _ _ _ x _ HL3.out (by omega) m HM).mono ?_
  rintro e w4 ⟨rfl, rfl⟩
  go_wp2_with fail
  refine (r_Find_b _ _ _ _ x _ HL3.out (by omega) m HM).mono ?_
  rintro e w4 ⟨rfl, hb4⟩
  have hb04 := hb03.trans (hb4.mono hb03.size)
  have HL4 := Lib.hid (HL.out.below hb04)
  clear hb03 hb4
  go_wp2_with fail
  refine (Name_any _ _ _ _ s _ HL4.out y HY HS.out.1 HS.out.2).mono ?_
  rintro e w5 ⟨rfl, rfl⟩
  go_wp2_with fail
  refine (r_Name_b _ _ _ _ s _ HL4.out y HY HS.out.1 HS.out.2).mono ?_
  rintro e w5 ⟨rfl, hb5⟩
  go_wp2_with fail
  go_ret
  exact ⟨rfl, hb04.trans (hb5.mono hb04.size)⟩
set_option maxHeartbeats 4000000 in
theorem merge_law (A A' : Option Addr) (n c m c' : Nat) (t u : List ByteArray) (w : World) (h1 : Names w t A n c) (h2 : Names w u A' m c') :
    Calls Try.prog 4 #[.slice A n c, .slice A' m c'] w (RetB w (.bool true)) := by
  have H1 := Lib.hid h1
  have H2 := Lib.hid h2
  clear h1 h2
  go_enter Try.func4, Try.ntmps4
  go_wp2_with fail
  refine (Strings_any _ _ _ _ _ H1.out).mono ?_
  rintro e w1 ⟨V, rfl, hV, rfl⟩
  cases V
  · go_wp2_with fail
    refine (awake_b _).mono ?_
    rintro e w2 ⟨rfl, hb⟩
    go_wp2_with fail
    go_ret
    exact ⟨rfl, hb⟩
  have hn : n ≤ 40 := hV rfl
  clear hV
  go_wp2_with fail
  refine (Strings_any _ _ _ _ _ H2.out).mono ?_
  rintro e w1 ⟨V, rfl, hV, rfl⟩
  cases V
  · go_wp2_with fail
    refine (awake_b _).mono ?_
    rintro e w2 ⟨rfl, hb⟩
    go_wp2_with fail
    go_ret
    exact ⟨rfl, hb⟩
  have hm : m ≤ 40 := hV rfl
  clear hV
  obtain ⟨R, hR⟩ : ∃ r, ans t u = r := ⟨_, rfl⟩
  have hl : R.1.length ≤ 80 ∧ R.2.1.length ≤ 80 := by
    have := H1.out.len; have := H2.out.len; have := mrg_len t u
    rw [← hR]
    unfold ans
    split
    · simp
    · split
      · simp
      · simp only; omega
  obtain ⟨hl1, hl2⟩ := hl
  have hM := fun W h1 h2 => Merge_any A A' n c m c' t u W h1 h2
  have hQ := fun W h1 h2 => r_Merge_any A A' n c m c' t u W h1 h2
  rw [hR] at hM hQ
  have HM := Lib.hid hM
  have HQ := Lib.hid hQ
  obtain ⟨ml, ms, er⟩ := R
  simp only at hl1 hl2
  clear hR hM hQ
  go_wp2_with fail
  refine (HM.out _ H1.out H2.out).mono ?_
  rintro e w2 ⟨a1, c1, a2, c2, rfl, hN, hS, hb2⟩
  have HN := Lib.hid hN
  have HS := Lib.hid hS
  clear hN hS
  go_wp2_with fail
  refine (HQ.out _ (H1.out.below hb2) (H2.out.below hb2)).mono ?_
  rintro e w3 ⟨a3, c3, a4, c4, rfl, hN', hS', hb3⟩
  have hb03 := hb2.trans (hb3.mono hb2.size)
  have HN3 := Lib.hid (Names.below HN.out hb3)
  have HS3 := Lib.hid (Syms.below HS.out hb3)
  have HN3' := Lib.hid hN'
  have HS3' := Lib.hid hS'
  clear hN' hS' hb2 hb3 HM HQ
  go_wp2_with fail
  refine (awake_b _).mono ?_
  rintro e w4 ⟨rfl, hb4⟩
  have hb04 := hb03.trans (hb4.mono hb03.size)
  have HN4 := Lib.hid (Names.below HN3.out hb4)
  have HN4' := Lib.hid (Names.below HN3'.out hb4)
  have HS4 := Lib.hid (Syms.below HS3.out hb4)
  have HS4' := Lib.hid (Syms.below HS3'.out hb4)
  clear hb03 hb4
  go_wp2_with fail
  refine (Same_b _ _ _ _ _ _ ml ml _ true HN4.out HN4'.out (by show _ ≤ _; omega) (by show _ ≤ _; omega) (Lib.hid (decide_eq_true rfl))).mono ?_
  rintro e w5 ⟨rfl, hb5⟩
  have hb05 := hb04.trans (hb5.mono hb04.size)
  have HS5 := Lib.hid (Syms.below HS4.out hb5)
  have HS5' := Lib.hid (Syms.below HS4'.out hb5)
  clear hb04 hb5
  go_wp2_with fail
  refine (same_b _ _ _ _ _ _ ms ms _ true HS5.out HS5'.out (by show _ ≤ _; omega) (by show _ ≤ _; omega) (Lib.hid (decide_eq_true rfl))).mono ?_
  rintro e w6 ⟨rfl, hb6⟩
  go_wp2_with fail
  go_ret
  exact ⟨rfl, hb05.trans (hb6.mono hb05.size)⟩
theorem len_of (x : ByteArray) : 0 ≤ (x.size : Int) := by omega
theorem nam_get {l : List ByteArray} {x : ByteArray} {k : Nat} (h : tab l = true) (hf : fndT l x = k + 1) : nam l ((k : Int) + 1) = x := by
  rw [fndT_yes x h] at hf
  obtain ⟨hk, hx⟩ := fnd_get hf
  rw [nam_in h hk, hx]
theorem find_nam {l : List ByteArray} {k : Nat} (h : tab l = true) (hk : k < l.length) : fndT l (nam l ((k : Int) + 1)) = k + 1 := by
  rw [nam_in h hk, fndT_yes _ h, tab_find h hk]
set_option maxHeartbeats 4000000 in
theorem findNames_law (A : Option Addr) (n c : Nat) (l : List ByteArray) (x : ByteArray) (s : Int) (w : World) (h : Names w l A n c) (hs1 : -9223372036854775808 ≤ s) (hs2 : s ≤ 9223372036854775807) :
    Calls Try.prog 5 #[.slice A n c, .string x, .int .i64 s] w (RetB w (.bool true)) := by
  have HS := Lib.hid (And.intro hs1 hs2)
  have HL := Lib.hid h
  clear hs1 hs2 h
  go_enter Try.func5, Try.ntmps5
  go_wp2_with fail
  refine (Strings_any _ _ _ _ _ HL.out).mono ?_
  rintro e w1 ⟨V, rfl, hV, rfl⟩
  cases V
  · go_wp2_with fail
    refine (awake_b _).mono ?_
    rintro e w2 ⟨rfl, hb⟩
    go_wp2_with fail
    go_ret
    exact ⟨rfl, hb⟩
  have hn : n ≤ 40 := hV rfl
  clear hV
  by_cases hx : 40 < x.size
  · have hx2 : (40 : Int) < (x.size : Int) := by omega
    go_wp2_with fail
    refine (awake_b _).mono ?_
    rintro e w2 ⟨rfl, hb⟩
    go_wp2_with fail
    go_ret
    exact ⟨rfl, hb⟩
  have hx2 : ¬ (40 : Int) < (x.size : Int) := by omega
  obtain ⟨V0, hV0⟩ : ∃ b, tab l = b := ⟨_, rfl⟩
  have HV := Lib.hid hV0
  clear hV0 hx
  go_wp2_with fail
  refine (r_Valid_b _ _ _ _ _ HL.out V0 HV).mono ?_
  rintro e w2 ⟨rfl, hb2⟩
  cases V0
  · go_wp2_with fail
    refine (awake_b _).mono ?_
    rintro e w3 ⟨rfl, hb⟩
    go_wp2_with fail
    go_ret
    exact ⟨rfl, hb2.trans (hb.mono hb2.size)⟩
  have hn0 : 0 < n := by have := HL.out.len; have := (tab_out HV.out).1; omega
  have HL2 := Lib.hid (HL.out.below hb2)
  obtain ⟨m, hm⟩ : ∃ m, fndT l x = m := ⟨_, rfl⟩
  have hml : m ≤ 40 := by
    have := fnd_le l x; have := HL.out.len
    rw [fndT_yes x HV.out] at hm; omega
  have HM := Lib.hid hm
  clear hm
  go_wp2_with fail
  refine (Mod_in s n _ HS.out.1 HS.out.2 hn0 (by omega)).mono ?_
  rintro e w3 ⟨r, hr, rfl, rfl⟩
  have hrl : r < l.length := by have := HL.out.len; omega
  obtain ⟨y, hy⟩ : ∃ y, nam l (1 + (r : Int)) = y := ⟨_, rfl⟩
  have hf := find_nam HV.out hrl
  rw [show (r : Int) + 1 = 1 + r from by omega] at hf
  rw [hy] at hf
  have HY := Lib.hid hy
  have HF := Lib.hid hf
  have HZ : Hid (nam l 0 = ⟨#[45]⟩) := Lib.hid (nam_zero HV.out)
  clear hy hf hrl
  go_wp2_with fail
  refine (Find_any _ _ _ _ x _ HL2.out (by omega) m HM).mono ?_
  rintro e w4 ⟨rfl, rfl⟩
  go_wp2_with fail
  refine (awake_b _).mono ?_
  rintro e w4 ⟨rfl, hb4⟩
  have hb04 := hb2.trans (hb4.mono hb2.size)
  have HL4 := Lib.hid (HL.out.below hb04)
  clear hb2 hb4
  go_wp2_with fail
  refine (Name_any _ _ _ _ _ _ HL4.out y HY (by omega) (by omega)).mono ?_
  rintro e w5 ⟨rfl, rfl⟩
  go_wp2_with fail
  refine (Find_any _ _ _ _ y _ HL4.out (by omega) (r + 1) HF).mono ?_
  rintro e w5 ⟨rfl, rfl⟩
  have hrr : ((r : Int) + 1 == 1 + (r : Int)) = true := by simp; omega
  rcases Nat.eq_zero_or_pos m with rfl | hm0
  · go_wp2_with fail
    refine (Name_any _ _ _ _ 0 _ HL4.out _ HZ (by omega) (by omega)).mono ?_
    rintro e w6 ⟨rfl, rfl⟩
    go_wp2_with fail
    go_ret
    exact ⟨rfl, hb04⟩
  · obtain ⟨k, rfl⟩ : ∃ k, m = k + 1 := ⟨m - 1, by omega⟩
    have HX : Hid (nam l ((k : Int) + 1) = x) := Lib.hid (nam_get HV.out HM.out)
    have hk0 : ((k : Int) + 1 == 0) = false := by simp; omega
    go_wp2_with fail
    refine (Name_any _ _ _ _ _ _ HL4.out x HX (by omega) (by omega)).mono ?_
    rintro e w6 ⟨rfl, rfl⟩
    go_wp2_with fail
    refine (Name_any _ _ _ _ 0 _ HL4.out _ HZ (by omega) (by omega)).mono ?_
    rintro e w7 ⟨rfl, rfl⟩
    go_wp2_with fail
    go_ret
    exact ⟨rfl, hb04⟩
end Go.Proofs.Ytpgkimehmmelgaa
