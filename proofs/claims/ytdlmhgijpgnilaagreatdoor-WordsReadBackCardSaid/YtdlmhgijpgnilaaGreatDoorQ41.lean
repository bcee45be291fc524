/- The specification's Format. -/
import Derived.Test.YtdlmhgijpgnilaaGreatDoorQ09
import Derived.Test.YtdlmhgijpgnilaaGreatDoorQ40
import Derived.Test.YtdlmhgijpgnilaaGreatDoorQ05
set_option linter.unusedVariables false
set_option linter.unusedSimpArgs false
namespace Go.Proofs.YtdlmhgijpgnilaaGreatDoor
open Go.RowKit

/-- The answer of Format. -/
def fmtA (l : List ByteArray) (w : List Int) : ByteArray × Int := if tab l = true then (if wok w l.length = true then (⟨(wtext l w).toArray⟩, 0) else (⟨#[]⟩, 9)) else (⟨#[]⟩, 5)
theorem wtext_step {l : List ByteArray} {w : List Int} {k : Nat} (hk : k < w.length) : wtext l (w.take (k + 1)) = if k = 0 then nameAt l (w.getD k 0) else wtext l (w.take k) ++ [32] ++ nameAt l (w.getD k 0) := by
  have e : w.take (k + 1) = w.take k ++ [w.getD k 0] := by
    rw [List.take_succ_eq_append_getElem hk, List.getD_eq_getElem?_getD, List.getElem?_eq_getElem hk]
    rfl
  rw [e, wtext_snoc]
  by_cases h0 : k = 0
  · subst h0
    rw [if_pos (by simp), if_pos rfl]
  · rw [if_neg h0, if_neg (by
      intro h
      have := congrArg List.length h
      rw [List.length_take, Nat.min_eq_left (by omega)] at this
      exact h0 this)]
theorem name_size {l : List ByteArray} (h : tab l = true) {x : Int} (h1 : 1 ≤ x) (h2 : x ≤ l.length) : (l.getD (x.toNat - 1) ByteArray.empty).size ≤ 24 := by
  have := (nameAt_ok h h1 h2).2.1
  unfold nameAt at this
  simpa using this
set_option maxRecDepth 100000 in
set_option maxHeartbeats 4000000 in
theorem qFormat_ok (A : Option Addr) (n c : Nat) (l : List ByteArray) (A' : Option Addr) (m c' : Nat) (r : List Int) (w : World) (h : Names w l A n c) (h' : Ints w r A' m c') (ht : tab l = true) (hk : wok r l.length = true) :
    Calls Tryz.prog 17 #[.slice A n c, .slice A' m c'] w (RetD w (.tuple #[.string ⟨(wtext l r).toArray⟩, .int .i64 0])) := by
  obtain ⟨hs1, hs2, hl, hm⟩ := wok_out hk
  have HT := Lib.hid ht
  have HK := Lib.hid hk
  have HL := Lib.hid h
  have HR := Lib.hid h'
  have hn := h.len
  have hmn := h'.len
  have HM := Lib.hid hm
  have hn32 : n ≤ 32 := by omega
  have hm256 : m ≤ 256 := by omega
  rw [← hn] at hk
  have HK2 := Lib.hid hk
  have HN := Lib.hid hn
  have HMN := Lib.hid hmn
  clear h h' ht hk hm hl hs1 hs2 hn hmn
  go_enter Tryz.func17, Tryz.ntmps17
  go_wp2_with fail
  refine (r_Valid_any A n c l _ HL.out true HT).mono ?_
  rintro e w' ⟨rfl, q, rfl⟩
  go_wp2_with fail
  refine (qValid_any A' m c' r (n : Int) _ (HR.out.drewN q) true HK2).mono ?_
  rintro e w' ⟨rfl, rfl⟩
  go_wp2_with fail
  go_loop [6, 7] (fun sv i => ∃ (k : Nat) (t : ByteArray), k ≤ m ∧ i = .int .i64 (k : Int) ∧ sv = .string t ∧ t.size ≤ 25 * k ∧ Hid (t.data.toList = wtext l (r.take k))) (fun _ i => m - (intOf i).toNat)
  case atStart => exact ⟨0, ⟨#[]⟩, Nat.zero_le _, rfl, rfl, Nat.zero_le _, by rw [List.take_zero]; exact Lib.hid rfl⟩
  case round =>
    obtain ⟨k, t, hk, rfl, rfl, hts, HE⟩ := hrel
    rcases Nat.lt_or_ge k m with hkn | hkn
    · obtain ⟨b, o, rfl, _, hcx⟩ := (HR.out.drewN q).at_ hkn
      obtain ⟨x, hx⟩ : ∃ x, r.getD k 0 = x := ⟨_, rfl⟩
      have hxm := HM.out _ (mem_getD (l := r) (k := k) (by have := HMN.out; omega))
      rw [hx] at hcx hxm
      obtain ⟨j, hj⟩ : ∃ j : Nat, x = (j : Int) + 1 := ⟨(x - 1).toNat, by omega⟩
      have hjn : j < n := by have := HN.out; omega
      obtain ⟨b', o', rfl, _, hcy⟩ := (HL.out.below (below_of_drewN w q _)).at_ hjn
      obtain ⟨nm, hnm⟩ : ∃ s, l.getD j ByteArray.empty = s := ⟨_, rfl⟩
      rw [hnm] at hcy
      have hnz : nm.size ≤ 24 := by
        have := name_size HT.out hxm.1 hxm.2
        rw [show x.toNat - 1 = j by omega, hnm] at this
        exact this
      have hna : nameAt l x = nm.data.toList := by
        unfold nameAt
        rw [show x.toNat - 1 = j by omega, hnm]
      have hst := wtext_step (l := l) (w := r) (k := k) (by have := HMN.out; omega)
      rw [hx, hna] at hst
      have HST := Lib.hid hst
      have hw1 : IntKind.i64.wrap (x - 1) = (j : Int) := by rw [hj, IntWalk.i64_in _ (by omega)]; omega
      clear hx hst hna hnm hj hxm
      by_cases h0 : (0 : Int) < (k : Int)
      · go_wp2_with fail
        go_round
        case rel =>
          refine ⟨k + 1, _, by omega, by go_num, rfl, ?_, ?_⟩
          · rw [ByteArray.size_append, ByteArray.size_append]
            show t.size + 1 + nm.size ≤ _
            omega
          · show _ = _
            rw [HST.out, if_neg (by omega), ← HE.out]
            simp
        case measure => simp [intOf]; omega
      · obtain rfl : k = 0 := by omega
        rw [Nat.add_zero] at hcx
        go_wp2_with fail
        go_round
        case rel =>
          refine ⟨1, _, by omega, by go_num, rfl, ?_, ?_⟩
          · rw [ByteArray.size_append]
            omega
          · show _ = _
            have h1 : t.data.toList = [] := by rw [HE.out, List.take_zero]; rfl
            rw [HST.out, if_pos rfl]
            simp [h1]
        case measure => simp [intOf]; omega
    · obtain rfl : k = m := by omega
      go_wp2_with fail
      refine bodyPost_ret (results_tmp2 rfl _ _ _) rfl ?_
      refine ⟨?_, q, rfl⟩
      have h1 := HE.out
      rw [List.take_of_length_le (by have := HMN.out; omega)] at h1
      have ht : (⟨(wtext l r).toArray⟩ : ByteArray) = t := by
        rw [← h1]
      rw [ht]
      rfl
theorem fmtA_ok {l : List ByteArray} {r : List Int} (h : tab l = true) (h' : wok r l.length = true) : fmtA l r = (⟨(wtext l r).toArray⟩, 0) := by unfold fmtA; rw [if_pos h, if_pos h']
theorem fmtA_lab {l : List ByteArray} {r : List Int} (h : tab l = true) (h' : wok r l.length = false) : fmtA l r = (⟨#[]⟩, 9) := by unfold fmtA; rw [if_pos h, if_neg (by rw [h']; decide)]
theorem fmtA_tab {l : List ByteArray} {r : List Int} (h : tab l = false) : fmtA l r = (⟨#[]⟩, 5) := by unfold fmtA; rw [if_neg (by rw [h]; decide)]
set_option maxRecDepth 100000 in
set_option maxHeartbeats 1000000 in
theorem qFormat_any (A : Option Addr) (n c : Nat) (l : List ByteArray) (A' : Option Addr) (m c' : Nat) (r : List Int) (w : World) (h : Names w l A n c) (h' : Ints w r A' m c') (z : ByteArray × Int) (H : Hid (fmtA l r = z)) :
    Calls Tryz.prog 17 #[.slice A n c, .slice A' m c'] w (RetD w (.tuple #[.string z.1, .int .i64 z.2])) := by
  obtain ⟨V, hV⟩ : ∃ b, tab l = b := ⟨_, rfl⟩
  obtain ⟨V', hV'⟩ : ∃ b, wok r l.length = b := ⟨_, rfl⟩
  have HV := Lib.hid hV
  have hV2 := hV'
  rw [← h.len] at hV2
  have HV2 := Lib.hid hV2
  cases V with
  | false =>
    have HZ : Hid (z = (⟨#[]⟩, 5)) := Lib.hid (H.out.symm.trans (fmtA_tab hV))
    clear hV hV' hV2 H
    go_enter Tryz.func17, Tryz.ntmps17
    go_wp2_with fail
    refine (r_Valid_any A n c l _ h false HV).mono ?_
    rintro e w' ⟨rfl, q, rfl⟩
    go_wp2_with fail
    refine bodyPost_ret (results_tmp2 rfl _ _ _) rfl ?_
    rw [HZ.out]
    exact ⟨rfl, q, rfl⟩
  | true =>
    cases V' with
    | true =>
      have := qFormat_ok A n c l A' m c' r w h h' hV hV'
      rw [← H.out, fmtA_ok hV hV']
      exact this
    | false =>
      have HZ : Hid (z = (⟨#[]⟩, 9)) := Lib.hid (H.out.symm.trans (fmtA_lab hV hV'))
      clear hV hV' hV2 H
      go_enter Tryz.func17, Tryz.ntmps17
      go_wp2_with fail
      refine (r_Valid_any A n c l _ h true HV).mono ?_
      rintro e w' ⟨rfl, q, rfl⟩
      go_wp2_with fail
      refine (qValid_any A' m c' r (n : Int) _ (Ints.drewN h' q) false HV2).mono ?_
      rintro e w' ⟨rfl, rfl⟩
      go_wp2_with fail
      refine bodyPost_ret (results_tmp2 rfl _ _ _) rfl ?_
      rw [HZ.out]
      exact ⟨rfl, q, rfl⟩
end Go.Proofs.YtdlmhgijpgnilaaGreatDoor
