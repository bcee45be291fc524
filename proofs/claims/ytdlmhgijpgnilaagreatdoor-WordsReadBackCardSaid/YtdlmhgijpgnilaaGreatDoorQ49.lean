/- The law on reading back. -/
import Derived.Test.YtdlmhgijpgnilaaGreatDoorQ47
import Derived.Test.YtdlmhgijpgnilaaGreatDoorQ26
set_option linter.unusedVariables false
set_option linter.unusedSimpArgs false
namespace Go.Proofs.YtdlmhgijpgnilaaGreatDoor
open Go.RowKit

theorem widen_step {K : Nat} {s : List UInt8} {k : Nat} {c : UInt8} (h : s[k]? = some c) : widen K (s.take (k + 1)) = widen K (s.take k) ++ (if c = 32 then List.replicate (K + 1) 32 else [c]) := by
  rw [List.take_add_one, h, widen_append]
  unfold widen
  simp
theorem wok_in {l : List Int} {s : Int} (h1 : 1 ≤ s) (h2 : s ≤ 32) (h3 : l.length ≤ 256) (h4 : ∀ x ∈ l, 1 ≤ x ∧ x ≤ s) : wok l s = true := by
  unfold wok
  simp only [Bool.and_eq_true, decide_eq_true_eq, List.all_eq_true]
  exact ⟨⟨⟨h1, h2⟩, h3⟩, h4⟩
theorem ext_one {s : ByteArray} {k : Nat} {c : UInt8} (h : s.data.toList[k]? = some c) : (s.extract k (k + 1)).data.toList = [c] := by
  rw [Lib.extract_eq]
  show (s.data.toList.drop k).take (k + 1 - k) = [c]
  obtain ⟨h1, h2⟩ := List.getElem?_eq_some_iff.1 h
  rw [List.drop_eq_getElem_cons h1, h2, show k + 1 - k = 1 by omega]
  rfl
theorem widen_done {K j : Nat} {s T : List UInt8} {k : Nat} {c : UInt8} {b : Bool} (h : s[k]? = some c) (hb : (c == 32) = b) (hT : T = widen K (s.take k) ++ [c] ++ List.replicate j 32) (hj : j ≤ K) (hj0 : b = false → j = 0) (he : ¬ (j < K ∧ b = true)) : T = widen K (s.take (k + 1)) := by
  rw [widen_step h, hT]
  cases b with
  | false =>
    have hc : c ≠ 32 := by simpa using hb
    rw [hj0 rfl, if_neg hc]
    simp
  | true =>
    have hc : c = 32 := by simpa using hb
    obtain rfl : j = K := by
      have : ¬ j < K := fun h => he ⟨h, rfl⟩
      omega
    rw [if_pos hc, hc, List.replicate_succ]
    simp
theorem read_wide {l : List ByteArray} {ww : List Int} {n K : Nat} {T t : ByteArray} (hv : tab l = true) (hn : n = l.length) (hm : ∀ y ∈ ww, 1 ≤ y ∧ y ≤ (n : Int)) (hl : ww.length ≤ 20) (ht : t.data.toList = widen K (wtext l ww)) (hz : t.size ≤ 4000) (hT : (⟨#[32, 32]⟩ : ByteArray) ++ t ++ (⟨#[32]⟩ : ByteArray) = T) : castI (readA l T).1 = ww ∧ (readA l T).2 = 0 := by
  have hm2 : ∀ y ∈ ww, 1 ≤ y ∧ y ≤ (l.length : Int) := fun y hy => by have := hm y hy; omega
  have h1 : T.data.toList = List.replicate 2 32 ++ widen K (wtext l ww) ++ List.replicate 1 32 := by
    rw [← hT, ByteArray.data_append, Array.toList_append, ByteArray.data_append, Array.toList_append, ht]
    rfl
  have h2 : T.size ≤ 16384 := by
    rw [← hT, ByteArray.size_append, ByteArray.size_append]
    show 2 + t.size + 1 ≤ _
    omega
  have h3 : flds T.data.toList = ww.map (nameAt l) := by rw [h1]; exact flds_written hv K hm2 2 1
  have h4 : symsOf l (flds T.data.toList) = ww.map Int.toNat := by rw [h3]; exact symsOf_written hv hm2
  have h5 : 0 ∉ symsOf l (flds T.data.toList) := by
    rw [h4]
    intro h
    obtain ⟨y, hy, hy2⟩ := List.mem_map.1 h
    have := hm2 y hy
    omega
  have h6 : ¬ 256 < (flds T.data.toList).length := by rw [h3, List.length_map]; omega
  have h7 : readA l T = (ww.map Int.toNat, 0) := by
    unfold readA
    rw [if_pos hv, if_neg (by omega), if_neg h5, if_neg h6, h4]
  rw [h7]
  refine ⟨?_, rfl⟩
  unfold castI
  show (ww.map Int.toNat).map _ = ww
  rw [List.map_map]
  have : ∀ y ∈ ww, ((fun (n : Nat) => (n : Int)) ∘ Int.toNat) y = id y := fun y hy => by
    have := hm2 y hy
    show ((y.toNat : Nat) : Int) = y
    omega
  rw [List.map_congr_left this, List.map_id]
set_option maxRecDepth 100000 in
set_option maxHeartbeats 4000000 in
theorem readBack_law (A : Option Addr) (n c : Nat) (l : List ByteArray) (A' : Option Addr) (m c' : Nat) (r : List Int) (x : Int) (w : World) (hT : Tab w) (h : Names w l A n c) (h' : Ints w r A' m c') (hr : ∀ x ∈ r, -9223372036854775808 ≤ x ∧ x ≤ 9223372036854775807) (hx0 : 0 ≤ x) (hx1 : x ≤ 255) :
    Calls Tryz.prog 6 #[.slice A n c, .slice A' m c', .int .u8 x] w (RetV w (.bool true)) := by
  have HT := Lib.hid hT
  have HL := Lib.hid h
  have HI := Lib.hid h'
  have HR := Lib.hid hr
  have HN := Lib.hid h.len
  obtain ⟨V, hV⟩ : ∃ b, tab l = b := ⟨_, rfl⟩
  have HV := Lib.hid hV
  clear hT h h' hr
  go_enter Tryz.func6, Tryz.ntmps6
  go_wp2_with fail
  refine (Strings_any _ _ _ _ _ HL.out).mono ?_
  rintro e w' ⟨VS, rfl, hVS, rfl⟩
  cases VS with
  | false =>
    clear hVS hV
    go_wp2_with fail
    refine (awake5_any _ HT.out).mono ?_
    rintro e0 w2 ⟨rfl, hb2⟩
    go_wp2_with fail
    go_ret
    exact ⟨rfl, hb2⟩
  | true =>
    clear hVS
    cases V with
    | false =>
      clear hV
      go_wp2_with fail
      refine (r_Valid_any A n c l _ HL.out false HV).mono ?_
      rintro e w' ⟨rfl, q, rfl⟩
      go_wp2_with fail
      refine (awake5_any _ (HT.out.below (below_of_drewN w q _))).mono ?_
      rintro e0 w2 ⟨rfl, hb2⟩
      go_wp2_with fail
      go_ret
      exact ⟨rfl, (below_of_drewN w q _).trans hb2⟩
    | true =>
      have htn := tab_out hV
      have hn1 : 1 ≤ n := by have := HN.out; omega
      have hn32 : n ≤ 32 := by have := HN.out; omega
      clear hV htn
      go_wp2_with fail
      refine (r_Valid_any A n c l _ HL.out true HV).mono ?_
      rintro e w' ⟨rfl, q, rfl⟩
      go_wp2_with fail
      refine (Word_any A' m c' r n _ (HI.out.drewN q) HR.out hn1 hn32).mono ?_
      rintro e w1 hw
      obtain ⟨v, ww, rfl, ho, hwl, hwm, hb⟩ := hw
      have HB : Hid (Below w.heap.size w w1) := Lib.hid ((below_of_drewN w q _).trans hb)
      obtain ⟨A1, c1, rfl, hi1⟩ := ho.reads
      have HW1 := Lib.hid hi1
      have HWL := Lib.hid hwl
      have HWM := Lib.hid hwm
      have hok : wok ww l.length = true := wok_in (by have := HN.out; omega) (by have := HN.out; omega) (by omega) (fun y hy => by have := hwm y hy; have := HN.out; omega)
      have HF : Hid (fmtA l ww = (⟨(wtext l ww).toArray⟩, 0)) := Lib.hid (fmtA_ok HV.out hok)
      obtain ⟨s, hs⟩ : ∃ s : ByteArray, (⟨(wtext l ww).toArray⟩ : ByteArray) = s := ⟨_, rfl⟩
      rw [hs] at HF
      have hsz : s.size ≤ 500 := by
        have h1 := wtext_length HV.out (w := ww) (fun y hy => by have := hwm y hy; have := HN.out; omega)
        have h2 : s.size = (wtext l ww).length := by rw [← hs]; show (wtext l ww).toArray.size = _; simp
        omega
      have HS : Hid (s.data.toList = wtext l ww) := Lib.hid (by rw [← hs])
      clear ho hi1 hwl hwm hok hs hb
      go_wp2_with fail
      refine (wFormat_any A n c l A1 ww.length c1 ww _ (HL.out.below HB.out) HW1.out (s, 0) HF).mono ?_
      rintro e w2 ⟨rfl, hb2⟩
      have HB2 := Lib.hid (HB.out.trans (hb2.mono HB.out.size))
      have HW2 := Lib.hid (HW1.out.below hb2)
      clear hb2
      obtain ⟨K, hK⟩ : ∃ K : Nat, Int.tmod x 4 = (K : Int) := ⟨(Int.tmod x 4).toNat, by
        rw [Int.tmod_eq_emod_of_nonneg hx0]
        omega⟩
      have hK3 : K ≤ 3 := by
        rw [Int.tmod_eq_emod_of_nonneg hx0] at hK
        omega
      go_wp2_with fail
      go_loop [10, 11, 12] (fun tv i _ => ∃ (k : Nat) (t : ByteArray), k ≤ s.size ∧ i = .int .i64 (k : Int) ∧ tv = .string t ∧ Hid (t.data.toList = widen K (s.data.toList.take k)) ∧ t.size ≤ 4 * k) (fun _ i _ => s.size - (intOf i).toNat)
      case atStart => exact ⟨0, ⟨#[]⟩, Nat.zero_le _, rfl, rfl, Lib.hid (by rw [List.take_zero]; rfl), Nat.zero_le _⟩
      case round =>
        obtain ⟨k, t, hk, rfl, rfl, HTX, hts⟩ := hrel
        rcases Nat.lt_or_ge k s.size with hlt | hge
        · obtain ⟨cc, hcc, _⟩ := drop_at hlt
          obtain ⟨b, hb⟩ : ∃ b, bla s k = b := ⟨_, rfl⟩
          have hat := bla_at hlt
          rw [hb] at hat
          have HCB : Hid ((cc == 32) = b) := Lib.hid (by rw [← hb]; unfold bla; rw [hcc])
          have HCC := Lib.hid hcc
          obtain ⟨E, hE⟩ : ∃ E, s.extract k (k + 1) = E := ⟨_, rfl⟩
          have hE1 : E.data.toList = [cc] := by rw [← hE]; exact ext_one hcc
          have hEs : E.size = 1 := by
            have := congrArg List.length hE1
            rw [len_bytes] at this
            exact this
          have HE1 := Lib.hid hE1
          have hw1 : IntKind.i64.wrap ((k : Int) + 1) = (k : Int) + 1 := IntWalk.i64_in _ (by omega)
          clear hcc hb hE1
          go_wp2_with fail
          go_loop [10, 12] (fun tv i => ∃ (j : Nat) (t2 : ByteArray), j ≤ K ∧ i = .int .i64 (j : Int) ∧ tv = .string t2 ∧ Hid (t2.data.toList = t.data.toList ++ [cc] ++ List.replicate j 32) ∧ t2.size ≤ t.size + 1 + j ∧ Hid (b = false → j = 0)) (fun _ i => K - (intOf i).toNat)
          case atStart => exact ⟨0, _, Nat.zero_le _, rfl, rfl, Lib.hid (by rw [ByteArray.data_append, Array.toList_append, HE1.out]; simp), by rw [ByteArray.size_append]; omega, Lib.hid (fun _ => rfl)⟩
          case round =>
            obtain ⟨j, t2, hj, rfl, rfl, HT2, hts2, HJ⟩ := hrel
            by_cases hgo : j < K ∧ b = true
            · obtain ⟨hjK, rfl⟩ := hgo
              have HJ2 : Hid (true = false → j + 1 = 0) := Lib.hid (fun h => by cases h)
              go_wp2_with fail
              go_round
              case rel =>
                refine ⟨j + 1, _, by omega, by go_num, rfl, Lib.hid ?_, by rw [ByteArray.size_append]; show t2.size + 1 ≤ _; omega, HJ2⟩
                rw [ByteArray.data_append, Array.toList_append, HT2.out, List.replicate_succ', List.append_assoc _ _ [32]]
              case measure => first | (simp [intOf]; done) | (simp [intOf]; omega)
            · have HN : Hid (t2.data.toList = widen K (s.data.toList.take (k + 1))) := Lib.hid (widen_done HCC.out HCB.out (by rw [HT2.out, HTX.out]) hj HJ.out hgo)
              have hs4 : t2.size ≤ 4 * (k + 1) := by omega
              by_cases hjK : j < K
              · have hbf : b = false := by
                  cases b with
                  | false => rfl
                  | true => exact absurd ⟨hjK, rfl⟩ hgo
                subst hbf
                clear hgo
                go_wp2_with fail
                go_round
                case rel => exact ⟨k + 1, t2, by omega, by go_num, rfl, HN, hs4⟩
                case measure => first | (simp [intOf]; done) | (simp [intOf]; omega)
              · clear hgo
                go_wp2_with fail
                go_round
                case rel => exact ⟨k + 1, t2, by omega, by go_num, rfl, HN, hs4⟩
                case measure => first | (simp [intOf]; done) | (simp [intOf]; omega)
        · obtain rfl : k = s.size := by omega
          have HTT : Hid (t.data.toList = widen K (wtext l ww)) := Lib.hid (by rw [HTX.out, List.take_of_length_le (by rw [len_bytes]; exact Nat.le_refl _), HS.out])
          obtain ⟨T, hTT⟩ : ∃ T, (⟨#[32, 32]⟩ : ByteArray) ++ t ++ (⟨#[32]⟩ : ByteArray) = T := ⟨_, rfl⟩
          have HP : Hid (castI (readA l T).1 = ww ∧ (readA l T).2 = 0) := Lib.hid (read_wide HV.out HN.out HWM.out HWL.out HTT.out (by omega) hTT)
          have HTE := Lib.hid hTT
          have hww : ww.length ≤ 1073741824 := by have := HWL.out; omega
          clear hTT
          go_wp2_with fail
          rw [HTE.out]
          refine (wParse_any A n c l T _ (HL.out.below HB2.out)).mono ?_
          rw [HP.out.1, HP.out.2]
          rintro e0 w5 ⟨vc, rfl, oc, hb1⟩
          obtain ⟨A5, c5, rfl, hc⟩ := oc.reads
          have hd := HW2.out.below hb1
          have hb := HB2.out.trans (hb1.mono HB2.out.size)
          clear oc hb1
          go_wp2_with fail
          refine (awake5_any _ (HT.out.below hb)).mono ?_
          rintro e0 w7 ⟨rfl, hb1⟩
          replace hc := hc.below hb1
          replace hd := hd.below hb1
          replace hb := hb.trans (hb1.mono hb.size)
          clear hb1
          go_wp2_with fail
          refine (qSame_any A5 A1 _ c5 _ c1 ww ww _ true hc hd hww hww (Lib.hid (by simp))).mono ?_
          rintro e0 w9 ⟨rfl, qk, rfl⟩
          replace hb := hb.trans (below_of_drewN _ qk _)
          go_wp2_with fail
          go_ret
          exact ⟨rfl, hb⟩
end Go.Proofs.YtdlmhgijpgnilaaGreatDoor
