/- Merge of the specification. -/
import Derived.Test.YtpgkimehmmelgaaN11
namespace Go.Proofs.Ytpgkimehmmelgaa
open Go.RowKit

theorem r_Valid_b (A : Option Addr) (n c : Nat) (l : List ByteArray) (w : World) (h : Names w l A n c) (V : Bool) (H : Hid (tab l = V)) :
    Calls Try.prog 10 #[.slice A n c] w (RetB w (.bool V)) := (r_Valid_any A n c l w h V H).mono fun _ _ hh => RetD.b hh
set_option maxHeartbeats 8000000 in
theorem r_Merge_any (A A' : Option Addr) (n c m c' : Nat) (t u : List ByteArray) (w : World) (h1 : Names w t A n c) (h2 : Names w u A' m c') :
    Calls Try.prog 16 #[.slice A n c, .slice A' m c'] w (RetM w (ans t u)) := by
  obtain ⟨V1, hV1⟩ : ∃ b, tab t = b := ⟨_, rfl⟩
  obtain ⟨V2, hV2⟩ : ∃ b, tab u = b := ⟨_, rfl⟩
  have HV1 := Lib.hid hV1
  have HV2 := Lib.hid hV2
  have HT := Lib.hid h1
  have HU := Lib.hid h2
  clear hV1 hV2 h1 h2
  cases V1
  · go_enter Try.func16, Try.ntmps16
    go_wp2_with fail
    refine (r_Valid_b _ _ _ _ _ HT.out false HV1).mono ?_
    rintro e w1 ⟨rfl, hb1⟩
    go_wp2_with fail
    go_ret3
    exact retM_none (ans_bad1 HV1.out) hb1
  cases V2
  · go_enter Try.func16, Try.ntmps16
    go_wp2_with fail
    refine (r_Valid_b _ _ _ _ _ HT.out true HV1).mono ?_
    rintro e w1 ⟨rfl, hb1⟩
    go_wp2_with fail
    refine (r_Valid_b _ _ _ _ _ (HU.out.below hb1) false HV2).mono ?_
    rintro e w2 ⟨rfl, hb2⟩
    go_wp2_with fail
    go_ret3
    exact retM_none (ans_bad2 HV2.out) (hb1.trans (hb2.mono hb1.size))
  have ht32 : 0 < n ∧ n ≤ 32 := by have := tab_out HV1.out; have := HT.out.len; omega
  have hu32 : m ≤ 32 := by have := tab_out HV2.out; have := HU.out.len; omega
  obtain ⟨hn0, hn32⟩ := ht32
  have HN := Lib.hid HT.out.len
  have HM := Lib.hid HU.out.len
  go_enter Try.func16, Try.ntmps16
  go_wp2_with fail
  refine (r_Valid_b _ _ _ _ _ HT.out true HV1).mono ?_
  rintro e wa ⟨rfl, hba⟩
  go_wp2_with fail
  refine (r_Valid_b _ _ _ _ _ (HU.out.below hba) true HV2).mono ?_
  rintro e wb ⟨rfl, hbb⟩
  have hb0 := hba.trans (hbb.mono hba.size)
  have hsz0 := hb0.size
  have HT2 := Lib.hid (HT.out.below hb0)
  clear hba hbb
  go_wp2_with (at_builtin; refine wpList_appV rfl (.const (.slice none 0 0)) (.tmp 18) 22 9 rfl rfl _ 16 Try.underlying22 info_string rfl (by omega) w.heap.size _ [] rfl (OwnN.nil _ _) _ _ _ (t.map Value.string) rfl HT2.out (strings_one t) ?c7 hsz0 ?_)
  case c7 => simp; omega
  intro v0 w1 hv0 hg0 _
  have hb1 : Below w.heap.size w w1 := below_grown hb0 (OwnN.nil _ _) hg0 hsz0
  have HO := Lib.hid (OwnN.of_len hv0)
  clear hv0 hg0 hb0 hsz0
  go_wp2_with fail
  go_loopw [7, 8, 9] (fun v v' i wr => ∃ k : Nat, k ≤ m ∧ i = .int .i64 k ∧ MRel w (mrg t (u.take k)) v v' wr) (fun _ _ i _ => m - (intOf i).toNat)
  case atStart => exact ⟨0, Nat.zero_le _, rfl, HO.out, OwnS.nil _ _, hb1⟩
  case round =>
    obtain ⟨k, hk, rfl, hrn, hrs, hrb⟩ := hrel
    obtain ⟨P, hP⟩ : ∃ p, mrg t (u.take k) = p := ⟨_, rfl⟩
    have hml := mrg_len t (u.take k)
    have hmk : P.1.length ≤ 64 ∧ P.2.length ≤ 32 := by
      have := HN.out; have := HM.out
      rw [List.length_take] at hml
      rw [← hP]
      omega
    obtain ⟨hm1, hm2⟩ := hmk
    rw [hP] at hrn hrs
    obtain ⟨a4, c4, rfl, hr4⟩ := hrn.reads
    have H4 := Lib.hid hr4
    have HRN := Lib.hid hrn
    have HRS := Lib.hid hrs
    have HRB := Lib.hid hrb
    have hsz := hrb.size
    clear hr4 hrn hrs hml
    rcases Nat.lt_or_ge k m with hkm | hkm
    · have hP1 := mrg_take t u k (by have := HM.out; omega)
      rw [hP] at hP1
      obtain ⟨b, o, rfl, hbl, hc0⟩ := HU.out.at_ hkm
      obtain ⟨s, hs⟩ : ∃ s, u.getD k ByteArray.empty = s := ⟨_, rfl⟩
      rw [hs] at hc0 hP1
      have hc : wr.cell? ⟨b, o + k, none⟩ = some (.string s) := (hrb.cell (p := ⟨b, o + k, none⟩) hbl).trans hc0
      have HC0 := Lib.hid hc0
      obtain ⟨f, hf⟩ : ∃ f, fnd P.1 s = f := ⟨_, rfl⟩
      have HP1 := Lib.hid hP1
      have HF := Lib.hid hf
      clear hs hP hP1 hf hc0 hrb
      rcases Nat.eq_zero_or_pos f with rfl | hf0
      · have HF2 : Hid (fnd (P.1 ++ [s]) s = P.1.length + 1) := Lib.hid (fnd_append_new HF.out)
        go_wp2_with fail
        refine (find_any _ _ _ _ s _ H4.out (by omega) 0 HF).mono ?_
        rintro e w2 ⟨rfl, rfl⟩
        go_wp2_with (at_builtin; refine wpList_appV rfl (.tmp 33) (.tmp 38) 22 9 rfl rfl _ 16 Try.underlying22 info_string rfl (by omega) w.heap.size _ (P.1.map Value.string) rfl (HRN.out.alloc _) _ 1 1 [.string s] rfl (Rd.one _ _ _) (strings_one [s]) ?c1 ?c2 ?_)
        case c1 => simp; omega
        case c2 => simp; omega
        intro v1 w2 hv hg _
        have HR2 := Lib.hid (mrel_name (x := s) HRN.out HRS.out HRB.out hv (by simp) (by simp) hg)
        obtain ⟨a5, c5, rfl, hr5⟩ := OwnN.reads HR2.out.1
        have e5 : (P.1 ++ [s]).length = P.1.length + 1 := by simp
        rw [e5] at hr5
        have H5 := Lib.hid hr5
        have hsz2 := HR2.out.2.2.size
        have hl5 : P.1.length + 1 ≤ 1073741824 := by omega
        clear hv hg hr5 hc e5
        have hc2 : w2.cell? ⟨b, o + k, none⟩ = some (.string s) := (HR2.out.2.2.cell (p := ⟨b, o + k, none⟩) hbl).trans HC0.out
        go_wp2_with fail
        refine (find_any _ _ _ _ s _ H5.out hl5 (P.1.length + 1) HF2).mono ?_
        rintro e w3 ⟨rfl, rfl⟩
        go_wp2_with (at_builtin; refine wpList_appV rfl (.tmp 40) (.tmp 47) 28 3 rfl rfl _ 8 Try.underlying28 info_int rfl (by omega) w.heap.size _ (syms P.2) rfl (OwnS.alloc HR2.out.2.1 _) _ 1 1 [.int .i64 ((P.1.length + 1 : Nat) : Int)] rfl (Rd.one _ _ _) (syms_one [P.1.length + 1]) ?c3 ?c4 ?_)
        case c3 => rw [syms_length]; omega
        case c4 => simp; omega
        intro v2 w3 hv hg _
        have HR3 := Lib.hid (mrel_sym (x := P.1.length + 1) HR2.out.1 HR2.out.2.1 HR2.out.2.2 hv (by simp [syms_length]) (by simp) hg)
        clear hv hg hc2
        go_wp2_with fail
        go_roundw
        case rel => exact ⟨k + 1, by omega, by go_num, by rw [HP1.out, mstep_new HF.out]; have := HR3.out; rwa [show (P.1 ++ [s]).length = P.1.length + 1 from by simp] at this⟩
        case measure => simp [intOf]; omega
      · have hne : ((f : Int) == 0) = false := by simp; omega
        have hl4 : P.1.length ≤ 1073741824 := by omega
        go_wp2_with fail
        refine (find_any _ _ _ _ s _ H4.out hl4 f HF).mono ?_
        rintro e w2 ⟨rfl, rfl⟩
        go_wp2_with fail
        refine (find_any _ _ _ _ s _ H4.out hl4 f HF).mono ?_
        rintro e w3 ⟨rfl, rfl⟩
        go_wp2_with (at_builtin; refine wpList_appV rfl (.tmp 40) (.tmp 47) 28 3 rfl rfl _ 8 Try.underlying28 info_int rfl (by omega) w.heap.size _ (syms P.2) rfl (OwnS.alloc HRS.out _) _ 1 1 [.int .i64 (f : Int)] rfl (Rd.one _ _ _) (syms_one [f]) ?c5 ?c6 ?_)
        case c5 => rw [syms_length]; omega
        case c6 => simp; omega
        intro v2 w3 hv hg _
        have HR3 := Lib.hid (mrel_sym (x := f) HRN.out HRS.out HRB.out hv (by simp [syms_length]) (by simp) hg)
        have HF3 : Hid (fnd P.1 s ≠ 0) := Lib.hid (by rw [HF.out]; omega)
        clear hv hg hne hc
        go_wp2_with fail
        go_roundw
        case rel => exact ⟨k + 1, by omega, by go_num, by rw [HP1.out, mstep_old HF3.out, HF.out]; exact HR3.out⟩
        case measure => simp [intOf]; omega
    · have hkm2 : k = m := by omega
      have hP2 : mrg t u = P := by rw [← hP, hkm2, HM.out, List.take_length]
      have HP2 := Lib.hid hP2
      clear hP hP2 hkm2
      obtain ⟨a5, c5, rfl, hr5⟩ := HRS.out.reads
      have H5 := Lib.hid hr5
      clear hr5 hrb
      by_cases h32 : 32 < P.1.length
      · have h32' : (32 : Int) < (P.1.length : Int) := by omega
        go_wp2_with fail
        go_ret3
        exact retM_none (ans_many HV1.out HV2.out (by rw [HP2.out]; exact h32)) HRB.out
      · have h32' : ¬ (32 : Int) < (P.1.length : Int) := by omega
        go_wp2_with fail
        go_ret3
        exact retM_ok (by rw [ans_ok HV1.out HV2.out (by rw [HP2.out]; exact h32), HP2.out]) H4.out H5.out HRB.out
end Go.Proofs.Ytpgkimehmmelgaa
