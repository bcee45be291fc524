/- The law SymbolsMergeKeepsNames. -/
import Derived.Test.YtpgkimehmmelgaaN14
namespace Go.Proofs.Ytpgkimehmmelgaa
open Go.RowKit

/-- What the k-th number of a merge says. -/
theorem mrg_nam {t u : List ByteArray} (h1 : tab t = true) (h2 : tab u = true) (h : ¬ 32 < (mrg t u).1.length) {k : Nat} (hk : k < u.length) : ∃ s : Nat, (mrg t u).2.getD k 0 = s ∧ s ≤ 32 ∧ nam (mrg t u).1 (s : Int) = u.getD k ByteArray.empty := by
  obtain ⟨s, hs, h3, h4, h5⟩ := mrg_to t u hk
  refine ⟨s, by rw [List.getD_eq_getElem?_getD, hs]; rfl, by omega, ?_⟩
  obtain ⟨j, rfl⟩ : ∃ j, s = j + 1 := ⟨s - 1, by omega⟩
  have e : ((j + 1 : Nat) : Int) = (j : Int) + 1 := by omega
  rw [e, nam_in (mrg_tab h1 h2 (by omega)) (by omega)]
  exact h5
set_option maxHeartbeats 8000000 in
theorem keeps_law (A A' : Option Addr) (n c m c' : Nat) (t u : List ByteArray) (w : World) (h1 : Names w t A n c) (h2 : Names w u A' m c') :
    Calls Try.prog 6 #[.slice A n c, .slice A' m c'] w (RetB w (.bool true)) := by
  have H1 := Lib.hid h1
  have H2 := Lib.hid h2
  clear h1 h2
  go_enter Try.func6, Try.ntmps6
  go_wp2_with fail
  refine (Strings_any _ _ _ _ _ H1.out).mono ?_
  rintro e w1 ⟨V, rfl, hV, rfl⟩
  cases V
  · go_wp2_with fail
    refine (awake_b _).mono ?_
    rintro e w2 ⟨rfl, hb⟩
    go_wp2_with fail
    go_ret
    exact ⟨rfl, hb⟩
  clear hV
  go_wp2_with fail
  refine (Strings_any _ _ _ _ _ H2.out).mono ?_
  rintro e w1 ⟨V, rfl, hV, rfl⟩
  cases V
  · go_wp2_with fail
    refine (awake_b _).mono ?_
    rintro e w2 ⟨rfl, hb⟩
    go_wp2_with fail
    go_ret
    exact ⟨rfl, hb⟩
  clear hV
  obtain ⟨V1, hV1⟩ : ∃ b, tab t = b := ⟨_, rfl⟩
  obtain ⟨V2, hV2⟩ : ∃ b, tab u = b := ⟨_, rfl⟩
  have HV1 := Lib.hid hV1
  have HV2 := Lib.hid hV2
  clear hV1 hV2
  go_wp2_with fail
  refine (r_Valid_b _ _ _ _ _ H1.out V1 HV1).mono ?_
  rintro e wa ⟨rfl, hba⟩
  cases V1
  · go_wp2_with fail
    refine (awake_b _).mono ?_
    rintro e w2 ⟨rfl, hb⟩
    go_wp2_with fail
    go_ret
    exact ⟨rfl, hba.trans (hb.mono hba.size)⟩
  go_wp2_with fail
  refine (r_Valid_b _ _ _ _ _ (H2.out.below hba) V2 HV2).mono ?_
  rintro e wb ⟨rfl, hbb⟩
  have hb0 := hba.trans (hbb.mono hba.size)
  clear hba hbb
  cases V2
  · go_wp2_with fail
    refine (awake_b _).mono ?_
    rintro e w2 ⟨rfl, hb⟩
    go_wp2_with fail
    go_ret
    exact ⟨rfl, hb0.trans (hb.mono hb0.size)⟩
  have HN := Lib.hid H1.out.len
  have HM := Lib.hid H2.out.len
  have hn32 : n ≤ 32 := by have := tab_out HV1.out; have := HN.out; omega
  have hm32 : m ≤ 32 := by have := tab_out HV2.out; have := HM.out; omega
  have hn0 : 0 < n := by have := tab_out HV1.out; have := HN.out; omega
  by_cases h32 : 32 < (mrg t u).1.length
  · have hM := fun W h1 h2 => Merge_any A A' n c m c' t u W h1 h2
    have hQ := fun W h1 h2 => r_Merge_any A A' n c m c' t u W h1 h2
    rw [ans_many HV1.out HV2.out h32] at hM hQ
    have HMg := Lib.hid hM
    have HQ := Lib.hid hQ
    clear hM hQ h32
    go_wp2_with fail
    refine (HMg.out _ (H1.out.below hb0) (H2.out.below hb0)).mono ?_
    rintro e w2 ⟨a1, c1, a2, c2, rfl, _, _, hb2⟩
    have hb02 := hb0.trans (hb2.mono hb0.size)
    clear hb0 hb2
    go_wp2_with fail
    refine (HQ.out _ (H1.out.below hb02) (H2.out.below hb02)).mono ?_
    rintro e w3 ⟨a3, c3, a4, c4, rfl, _, _, hb3⟩
    have hb03 := hb02.trans (hb3.mono hb02.size)
    clear hb02 hb3 HMg HQ
    go_wp2_with fail
    refine (awake_b _).mono ?_
    rintro e w4 ⟨rfl, hb4⟩
    go_wp2_with fail
    go_ret
    exact ⟨rfl, hb03.trans (hb4.mono hb03.size)⟩
  have hM := fun W h1 h2 => Merge_any A A' n c m c' t u W h1 h2
  rw [ans_ok HV1.out HV2.out h32] at hM
  have HMg := Lib.hid hM
  have hlen := mrg_len t u
  have HP := Lib.hid (mrg_pre t u)
  have HG := Lib.hid (mrg_again t u)
  have HT := Lib.hid (mrg_tab HV1.out HV2.out (by omega))
  have HK := Lib.hid (fun k hk => mrg_nam HV1.out HV2.out h32 (k := k) hk)
  have hsl : (mrg t u).2.length = m := by have := HM.out; omega
  have hll : n ≤ (mrg t u).1.length := by have := HN.out; omega
  obtain ⟨ml, hml⟩ : ∃ x, (mrg t u).1 = x := ⟨_, rfl⟩
  obtain ⟨ms, hms⟩ : ∃ x, (mrg t u).2 = x := ⟨_, rfl⟩
  rw [hml, hms] at HMg
  rw [hml] at HP HT h32 hll
  rw [hms] at hsl
  simp only [hml, hms] at HG HK
  clear hM hlen hml hms
  go_wp2_with fail
  refine (HMg.out _ (H1.out.below hb0) (H2.out.below hb0)).mono ?_
  rintro e w2 ⟨a1, c1, a2, c2, rfl, hN, hS, hb2⟩
  have hb02 := hb0.trans (hb2.mono hb0.size)
  have hN' : Names w2 ml a1 ml.length c1 := hN
  have hS' : Syms w2 ms a2 ms.length c2 := hS
  obtain ⟨b1, o1, rfl, _, _⟩ := hN'.at_ (k := 0) (by omega)
  have hc1 : ml.length ≤ c1 := hN'.cap
  have hnc1 : n ≤ c1 := by omega
  have HTk : Hid (Names w2 t (some ⟨b1, o1, none⟩) n c1) := by
    have := hN'.take (k := n) hll
    rw [HN.out, take_of_prefix HP.out, ← HN.out] at this
    exact Lib.hid this
  have HN2 := Lib.hid hN'
  have HS2 := Lib.hid hS'
  have hne : ((ms.length : Int) != (m : Int)) = false := by simp; omega
  have hnl : ¬ (ml.length : Int) < (n : Int) := by omega
  clear hN hS hN' hS' hb0 hb2 HMg
  go_wp2_with fail
  refine (Same_b _ _ _ _ _ _ t t _ true HTk.out (H1.out.below hb02) (by omega) (by omega) (Lib.hid (decide_eq_true rfl))).mono ?_
  rintro e w5 ⟨rfl, hb5⟩
  have hb05 := hb02.trans (hb5.mono hb02.size)
  have HN5 := Lib.hid (HN2.out.below hb5)
  have HS5 := Lib.hid (HS2.out.below hb5)
  have HU5 := Lib.hid (H2.out.below hb05)
  clear hb02 hb5 HTk HN2 HS2
  go_wp2_with fail
  clear hne hnl
  go_loopw [11] (fun i wr => ∃ k q : Nat, k ≤ m ∧ i = .int .i64 (k : Int) ∧ wr = w5.drewN q) (fun i _ => m - (intOf i).toNat)
  case atStart => exact ⟨0, 0, Nat.zero_le _, rfl, rfl⟩
  case round =>
    obtain ⟨k, q, hk, rfl, rfl⟩ := hrel
    rcases Nat.lt_or_ge k m with hkm | hkm
    · obtain ⟨s, hs1, hs2, hs3⟩ := HK.out k (by have := HM.out; omega)
      obtain ⟨b2, o2, rfl, _, hc2⟩ := HS5.out.at_ (k := k) (by omega)
      obtain ⟨b3, o3, rfl, _, hc3⟩ := HU5.out.at_ hkm
      obtain ⟨y, hy⟩ : ∃ y, u.getD k ByteArray.empty = y := ⟨_, rfl⟩
      rw [hy] at hc3 hs3
      rw [hs1] at hc2
      have HY := Lib.hid hs3
      have hkm2 : (k : Int) < (m : Int) := by omega
      have hks2 : (k : Int) < (ms.length : Int) := by omega
      have hlm : ml.length ≤ 1073741824 := by omega
      clear hs1 hs3 hy
      go_wp2_with fail
      go_quiet ((go_at_call 13; first | exact quietE_add (Name_any _ _ _ _ _ _ (HN5.out.drewN _) y HY (by omega) (by omega)) | exact quietE (Name_any _ _ _ _ _ _ (HN5.out.drewN _) y HY (by omega) (by omega))))
      go_wp2_with fail
      go_roundw
      case rel => exact ⟨k + 1, _, by omega, by go_num, rfl⟩
      case measure => simp [intOf]; omega
    · obtain ⟨w6, hw6⟩ : ∃ w6, w5.drewN q = w6 := ⟨_, rfl⟩
      have hb6 : Below w.heap.size w w6 := by rw [← hw6]; exact below_draws hb05 q
      have HN6 : Hid (Names w6 ml (some ⟨b1, o1, none⟩) ml.length c1) := by rw [← hw6]; exact Lib.hid (HN5.out.drewN q)
      have HU6 : Hid (Names w6 u A' m c') := by rw [← hw6]; exact Lib.hid (HU5.out.drewN q)
      rw [hw6]
      have hM := fun W h1 h2 => Merge_any (some ⟨b1, o1, none⟩) A' ml.length c1 m c' ml u W h1 h2
      rw [ans_ok HT.out HV2.out (by rw [HG.out]; exact h32), HG.out] at hM
      have HMg := Lib.hid hM
      clear hM hb05 hw6
      go_wp2_with fail
      refine (HMg.out _ HN6.out HU6.out).mono ?_
      rintro e w7 ⟨a3, c3, a4, c4, rfl, hN7, _, hb7⟩
      have hb07 := hb6.trans (hb7.mono hb6.size)
      have HR7 := Lib.hid (show Names w7 ml a3 ml.length c3 from hN7)
      have HN7 := Lib.hid (HN6.out.below hb7)
      clear hN7 hb6 hb7 HMg
      go_wp2_with fail
      refine (awake_b _).mono ?_
      rintro e w8 ⟨rfl, hb8⟩
      have hb08 := hb07.trans (hb8.mono hb07.size)
      have HR8 := Lib.hid (HR7.out.below hb8)
      have HN8 := Lib.hid (HN7.out.below hb8)
      clear hb07 hb8
      go_wp2_with fail
      refine (Valid_any _ _ _ _ _ HN8.out true HT).mono ?_
      rintro e w9 ⟨rfl, rfl⟩
      go_wp2_with fail
      refine (Same_b _ _ _ _ _ _ ml ml _ true HR8.out HN8.out (by omega) (by omega) (Lib.hid (decide_eq_true rfl))).mono ?_
      rintro e w9 ⟨rfl, hb9⟩
      go_wp2_with fail
      go_ret
      exact ⟨rfl, hb08.trans (hb9.mono hb08.size)⟩
end Go.Proofs.Ytpgkimehmmelgaa
