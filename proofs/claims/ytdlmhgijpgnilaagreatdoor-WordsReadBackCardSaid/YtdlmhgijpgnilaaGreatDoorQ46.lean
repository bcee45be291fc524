/- The specification's Parse. -/
import Derived.Test.YtdlmhgijpgnilaaGreatDoorQ43
import Derived.Test.YtdlmhgijpgnilaaGreatDoorQ45
import Derived.Test.YtdlmhgijpgnilaaGreatDoorQ06
set_option linter.unusedVariables false
set_option linter.unusedSimpArgs false
namespace Go.Proofs.YtdlmhgijpgnilaaGreatDoor
open Go.RowKit

theorem castI_length (l : List Nat) : (l.map fun (n : Nat) => (n : Int)).length = l.length := List.length_map _
theorem symsOf_take {l : List ByteArray} {ps : List (List UInt8)} {k : Nat} (hk : k < ps.length) : ps.take (k + 1) = ps.take k ++ [ps.getD k []] := by
  rw [List.take_succ_eq_append_getElem hk, List.getD_eq_getElem?_getD, List.getElem?_eq_getElem hk]
  rfl
theorem strs_get {ps : List (List UInt8)} {k : Nat} (hk : k < ps.length) : (strs ps).getD k ByteArray.empty = ⟨(ps.getD k []).toArray⟩ := by
  unfold strs
  rw [List.getD_eq_getElem?_getD, List.getD_eq_getElem?_getD, List.getElem?_map, List.getElem?_eq_getElem hk]
  rfl
theorem zero_in {l : List ByteArray} {ps : List (List UInt8)} {k : Nat} (hk : k < ps.length) (h : fnd l ⟨(ps.getD k []).toArray⟩ = 0) : 0 ∈ symsOf l ps := by
  unfold symsOf
  refine List.mem_map.2 ⟨ps.getD k [], ?_, h⟩
  rw [List.getD_eq_getElem?_getD, List.getElem?_eq_getElem hk]
  exact List.getElem_mem hk
theorem zero_not {l : List ByteArray} {ps : List (List UInt8)} {k : Nat} (hk : k < ps.length) (h0 : 0 ∉ symsOf l (ps.take k)) (h : fnd l ⟨(ps.getD k []).toArray⟩ ≠ 0) : 0 ∉ symsOf l (ps.take (k + 1)) := by
  rw [symsOf_take (l := l) hk]
  unfold symsOf at h0 ⊢
  rw [List.map_append, List.mem_append]
  rintro (h3 | h3)
  · exact h0 h3
  · simp at h3
    exact h (by simpa using h3.symm)
set_option maxRecDepth 100000 in
set_option maxHeartbeats 4000000 in
theorem qParse_ok (A : Option Addr) (n c : Nat) (l : List ByteArray) (s : ByteArray) (w : World) (h : Names w l A n c) (ht : tab l = true) (hz : s.size ≤ 16384) :
    Calls Tryz.prog 19 #[.slice A n c, .string s] w (RetIE w ((readA l s).1.map fun (n : Nat) => (n : Int)) (readA l s).2) := by
  have HT := Lib.hid ht
  have HL := Lib.hid h
  have hn := h.len
  have htn := tab_out ht
  have hn32 : n ≤ 32 := by omega
  have hgt : ¬ (16384 : Int) < (s.size : Int) := by omega
  obtain ⟨ps, hps⟩ : ∃ ps, flds s.data.toList = ps := ⟨_, rfl⟩
  have hpl : ps.length ≤ s.size := by
    have := flds_length s.data.toList
    rw [hps, len_bytes] at this
    exact this
  have HRA : Hid (readA l s = if 0 ∈ symsOf l ps then ([], 3) else if 256 < ps.length then ([], 2) else (symsOf l ps, 0)) := Lib.hid (by
    unfold readA
    rw [if_pos ht, if_neg (by omega), hps])
  have HPS := Lib.hid hps
  have HZ := Lib.hid hz
  clear h ht hn htn hps
  go_enter Tryz.func19, Tryz.ntmps19
  go_wp2_with fail
  refine (r_Valid_any A n c l _ HL.out true HT).mono ?_
  rintro e w' ⟨rfl, q, rfl⟩
  go_wp2_with fail
  refine (fields_any s _ (by omega)).mono ?_
  rintro e w1 ⟨v6, rfl, ho6, hb1⟩
  rw [HPS.out] at ho6
  obtain ⟨A6, c6, e6, _⟩ := ho6.reads
  rw [strs_length] at e6
  subst e6
  have HB1 : Hid (Below w.heap.size w w1) := Lib.hid ((below_of_drewN w q _).trans hb1)
  have HO6 : Hid (OwnN w1 w.heap.size (.slice A6 ps.length c6) (strs ps)) := Lib.hid ho6
  clear ho6 hb1
  go_wp2_with fail
  go_loopw [7, 8, 9] (fun v i _ wr => ∃ k : Nat, k ≤ ps.length ∧ i = .int .i64 (k : Int) ∧ Hid (OwnI wr w.heap.size v (sI l (ps.take k))) ∧ Hid (0 ∉ symsOf l (ps.take k)) ∧ Hid (OwnN wr w.heap.size (.slice A6 ps.length c6) (strs ps)) ∧ Below w.heap.size w wr) (fun _ i _ _ => ps.length - (intOf i).toNat)
  case atStart => exact ⟨0, Nat.zero_le _, rfl, Lib.hid (OwnI.nil _ _), Lib.hid (by simp [symsOf]), HO6, HB1.out⟩
  case round =>
    obtain ⟨k, hk, rfl, HO, HZN, HO5, hrb⟩ := hrel
    have hlk : (sI l (ps.take k)).length = k := by rw [sI_length, List.length_take, Nat.min_eq_left hk]
    obtain ⟨A7, c7, e7, _⟩ := HO.out.reads
    rw [hlk] at e7
    subst e7
    have HLK := Lib.hid hlk
    have HRB := Lib.hid hrb
    clear hlk hrb
    rcases Nat.lt_or_ge k ps.length with hkm | hkm
    · obtain ⟨A8, c8, e8, hr8⟩ := HO5.out.reads
      rw [strs_length] at e8 hr8
      injection e8 with e8 _ e9
      subst e8 e9
      obtain ⟨b, o, rfl, hb, hcx⟩ := hr8.at_ hkm
      rw [strs_get hkm] at hcx
      obtain ⟨x, hx⟩ : ∃ x : ByteArray, (⟨(ps.getD k []).toArray⟩ : ByteArray) = x := ⟨_, rfl⟩
      obtain ⟨m, hm⟩ : ∃ m, fnd l x = m := ⟨_, rfl⟩
      have HM : Hid (fndT l x = m) := Lib.hid (by unfold fndT; rw [if_pos HT.out]; exact hm)
      have HX := Lib.hid hx
      have HM1 := Lib.hid hm
      rw [hx] at hcx
      clear hr8 hx hm
      have hnm := HL.out.below HRB.out
      rcases Nat.eq_zero_or_pos m with rfl | hm0
      · have HEND : Hid (readA l s = ([], 3)) := Lib.hid (by
          rw [HRA.out, if_pos (zero_in hkm (by rw [HX.out]; exact HM1.out))])
        go_wp2_with fail
        refine (r_Find_any A n c l x _ hnm (by omega) 0 HM).mono ?_
        rintro e w3 ⟨rfl, q3, rfl⟩
        go_wp2_with fail
        refine bodyPost_ret (results_tmp2 rfl _ _ _) rfl ?_
        rw [HEND.out]
        exact ⟨_, rfl, OwnI.nil _ _, below_draws HRB.out q3⟩
      · have hm1 : ((m : Int) == 0) = false := by simp; omega
        have HZ2 : Hid (0 ∉ symsOf l (ps.take (k + 1))) := Lib.hid (zero_not hkm HZN.out (by rw [HX.out, HM1.out]; omega))
        have HS : Hid (sI l (ps.take (k + 1)) = sI l (ps.take k) ++ [(m : Int)]) := Lib.hid (by
          rw [symsOf_take (l := l) hkm, sI_snoc, HX.out, HM1.out])
        go_wp2_with fail
        refine (r_Find_any A n c l x _ hnm (by omega) m HM).mono ?_
        rintro e w3 ⟨rfl, q3, rfl⟩
        have HOI : Hid (OwnI (wr.drewN q3) w.heap.size (.slice A7 k c7) (sI l (ps.take k))) := Lib.hid (own_below HO.out (below_of_drewN wr q3 _))
        have HON : Hid (OwnN (wr.drewN q3) w.heap.size (.slice (some ⟨b, o, none⟩) ps.length c6) (strs ps)) := Lib.hid (own_below HO5.out (below_of_drewN wr q3 _))
        have HRB3 : Hid (Below w.heap.size w (wr.drewN q3)) := Lib.hid (below_draws HRB.out q3)
        clear hnm hcx
        generalize wr.drewN q3 = W5 at *
        go_wp2_with (at_builtin; refine wpList_appV rfl (.tmp 32) (.tmp 34) 22 3 rfl rfl _ 8 Tryz.underlying22 info_int rfl (by omega) w.heap.size _ (ints (sI l (ps.take k))) rfl (own_alloc HOI.out _) _ 1 1 [.int .i64 (m : Int)] rfl (Rd.one _ _ _) (ints_one [(m : Int)]) ?c1 ?c2 ?_)
        case c1 => rw [ints_length, HLK.out]; omega
        case c2 => have := HRB3.out.size; first | (simp; done) | (simp; omega) | omega
        intro v1 w2 hv hg _
        have ha := HRB3.out.alloc HRB3.out.size (.cells #[.int .i64 (m : Int)] 3)
        have HO4 : Hid (OwnI w2 w.heap.size v1 (sI l (ps.take (k + 1)))) := Lib.hid (by
          rw [HS.out]
          apply OwnI.of_snoc
          rw [List.length_append]
          exact hv)
        have HN4 : Hid (OwnN w2 w.heap.size (.slice (some ⟨b, o, none⟩) ps.length c6) (strs ps)) := Lib.hid (own_grown (ownN_alloc HON.out _) hg (own_apart (ownN_alloc HON.out _) (own_alloc HOI.out (.cells #[.int .i64 (m : Int)] 3)) (by decide)))
        have HB4 := Lib.hid (below_grown ha (own_alloc HOI.out _) hg ha.size)
        clear hv hg ha
        go_wp2_with fail
        go_roundw
        case rel => exact ⟨k + 1, by omega, by go_num, HO4, HZ2, HN4, HB4.out⟩
        case measure => first | (simp [intOf]; done) | (simp [intOf]; omega)
    · obtain rfl : k = ps.length := by omega
      have HO7 : Hid (OwnI wr w.heap.size (.slice A7 ps.length c7) (sI l ps)) := Lib.hid (by have := HO.out; rwa [List.take_length] at this)
      have HZ7 : Hid (0 ∉ symsOf l ps) := Lib.hid (by have := HZN.out; rwa [List.take_length] at this)
      by_cases h256 : (256 : Int) < (ps.length : Int)
      · have HEND : Hid (readA l s = ([], 2)) := Lib.hid (by rw [HRA.out, if_neg HZ7.out, if_pos (by omega)])
        go_wp2_with fail
        refine bodyPost_ret (results_tmp2 rfl _ _ _) rfl ?_
        rw [HEND.out]
        exact ⟨_, rfl, OwnI.nil _ _, HRB.out⟩
      · have HEND : Hid (readA l s = (symsOf l ps, 0)) := Lib.hid (by rw [HRA.out, if_neg HZ7.out, if_neg (by omega)])
        go_wp2_with fail
        refine bodyPost_ret (results_tmp2 rfl _ _ _) rfl ?_
        rw [HEND.out]
        exact ⟨_, rfl, HO7.out, HRB.out⟩
end Go.Proofs.YtdlmhgijpgnilaaGreatDoor

namespace Go.Proofs.YtdlmhgijpgnilaaGreatDoor
open Go.RowKit

set_option maxRecDepth 100000 in
set_option maxHeartbeats 1000000 in
theorem qParse_any (A : Option Addr) (n c : Nat) (l : List ByteArray) (s : ByteArray) (w : World) (h : Names w l A n c) :
    Calls Tryz.prog 19 #[.slice A n c, .string s] w (RetIE w (castI (readA l s).1) (readA l s).2) := by
  obtain ⟨V, hV⟩ : ∃ b, tab l = b := ⟨_, rfl⟩
  have bad : ∀ x : Int, readA l s = ([], x) → Hid (castI (readA l s).1 = [] ∧ (readA l s).2 = x) := fun x hx => by rw [hx]; exact Lib.hid ⟨rfl, rfl⟩
  have HV := Lib.hid hV
  cases V with
  | false =>
    have HR := bad 5 (by unfold readA; rw [if_neg (by rw [hV]; decide)])
    clear hV bad
    rw [HR.out.1, HR.out.2]
    go_enter Tryz.func19, Tryz.ntmps19
    go_wp2_with fail
    refine (r_Valid_any A n c l _ h false HV).mono ?_
    rintro e w' ⟨rfl, q, rfl⟩
    go_wp2_with fail
    refine bodyPost_ret (results_tmp2 rfl _ _ _) rfl ?_
    exact ⟨_, rfl, OwnI.nil _ _, below_of_drewN w q _⟩
  | true =>
    by_cases hz : s.size ≤ 16384
    · exact qParse_ok A n c l s w h hV hz
    · have hgt : (16384 : Int) < (s.size : Int) := by omega
      have HR := bad 2 (by unfold readA; rw [if_pos hV, if_pos (by omega)])
      clear hV bad hz
      rw [HR.out.1, HR.out.2]
      go_enter Tryz.func19, Tryz.ntmps19
      go_wp2_with fail
      refine (r_Valid_any A n c l _ h true HV).mono ?_
      rintro e w' ⟨rfl, q, rfl⟩
      go_wp2_with fail
      refine bodyPost_ret (results_tmp2 rfl _ _ _) rfl ?_
      exact ⟨_, rfl, OwnI.nil _ _, below_of_drewN w q _⟩
end Go.Proofs.YtdlmhgijpgnilaaGreatDoor
