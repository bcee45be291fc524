/- Format of the program. -/
import Derived.Test.YtdlmhgijpgnilaaGreatDoorQ41
import Derived.Test.YtdlmhgijpgnilaaGreatDoorQ06
import Derived.Test.YtdlmhgijpgnilaaGreatDoorQ42
import Derived.BigQuiet
import Derived.Test.YtdlmhgijpgnilaaGreatDoorQ40
import Derived.Test.YtdlmhgijpgnilaaGreatDoorQ05
set_option linter.unusedVariables false
set_option linter.unusedSimpArgs false
namespace Go.Proofs.YtdlmhgijpgnilaaGreatDoor
open Go.RowKit

/-- The names of a word. -/
def nms (l : List ByteArray) (r : List Int) : List ByteArray := r.map fun x => l.getD (x.toNat - 1) ByteArray.empty
theorem nms_snoc {l : List ByteArray} {r : List Int} {k : Nat} (hk : k < r.length) : nms l (r.take (k + 1)) = nms l (r.take k) ++ [l.getD ((r.getD k 0).toNat - 1) ByteArray.empty] := by
  have e : r.take (k + 1) = r.take k ++ [r.getD k 0] := by
    rw [List.take_succ_eq_append_getElem hk, List.getD_eq_getElem?_getD, List.getElem?_eq_getElem hk]
    rfl
  rw [e]
  unfold nms
  rw [List.map_append]
  rfl
theorem nms_length (l : List ByteArray) (r : List Int) : (nms l r).length = r.length := List.length_map _
theorem nms_text (l : List ByteArray) (r : List Int) : Lib.join ((nms l r).map (·.data.toList)) [32] = wtext l r := by
  unfold nms wtext nameAt
  rw [List.map_map]
  rfl
theorem ownN_alloc {w : World} {B : Nat} {v : Value} {l : List ByteArray} (h : OwnN w B v l) (o : Obj) : OwnN (w.alloc o) B v l := own_alloc h o
theorem join_nil (w : World) : Calls Tryz.prog 49 #[.slice none 0 0, .string ⟨#[32]⟩] w (RetE w (.string ⟨#[]⟩)) := by
  go_enter Tryz.func49, Tryz.ntmps49
  go_wp2_with fail
  go_ret
  exact ⟨rfl, rfl⟩
/-- What strings.Join makes of the names of a word. -/
theorem join_names {w : World} {A : Option Addr} {c B k : Nat} {l : List ByteArray} {r : List Int} (ho : OwnN w B (.slice A k c) (nms l r)) (hlen : (wtext l r).length ≤ 140737488355328) (hl : r.length ≤ 1000000) :
    Calls Tryz.prog 49 #[.slice A k c, .string ⟨#[32]⟩] w (RetP w (.string ⟨(wtext l r).toArray⟩)) := by
  rcases ho.2 with ⟨he, hz⟩ | ⟨g, cap, cur, he, hbase, hg, h1, h2, h3, h4⟩
  · injection he with e1 e2 e3
    subst e1 e2 e3
    have h0 : r = [] := List.eq_nil_of_length_eq_zero (by rw [← nms_length l r]; simpa using hz)
    subst h0
    refine (join_nil w).mono ?_
    rintro e w' ⟨rfl, rfl⟩
    exact ⟨rfl, Below.refl _ _⟩
  · injection he with e1 e2 e3
    subst e1 e2 e3
    have hk : (List.map Value.string (nms l r)).length = (nms l r).length := List.length_map _
    rw [hk]
    refine (Lx.Tryz.strings_Join g 0 c (nms l r) ⟨#[32]⟩ w (fun j x hj => ?_) (heap_lt hg) (by rw [nms_length]; omega) (hk ▸ h1) (by rw [nms_text]; exact hlen)).mono ?_
    · rw [Nat.zero_add, cell_of_row w g j _ _ _ hg]
      have h5 : ((nms l r).map Value.string)[j]? = some (.string x) := by rw [List.getElem?_map, hj]; rfl
      rw [← h4, List.getElem?_take] at h5
      split at h5
      · rw [← Array.getElem?_toList]; exact h5
      · cases h5
    · rintro e w' ⟨rfl, hb⟩
      rw [nms_text]
      exact ⟨rfl, hb⟩
set_option maxRecDepth 100000 in
set_option maxHeartbeats 4000000 in
theorem wFormat_ok (A : Option Addr) (n c : Nat) (l : List ByteArray) (A' : Option Addr) (m c' : Nat) (r : List Int) (w : World) (h : Names w l A n c) (h' : Ints w r A' m c') (ht : tab l = true) (hk : wok r l.length = true) :
    Calls Tryz.prog 16 #[.slice A n c, .slice A' m c'] w (RetP w (.tuple #[.string ⟨(wtext l r).toArray⟩, .int .i64 0])) := by
  obtain ⟨hs1, hs2, hl, hm⟩ := wok_out hk
  have HT := Lib.hid ht
  have HL := Lib.hid h
  have HR := Lib.hid h'
  have hn := h.len
  have hmn := h'.len
  have HM := Lib.hid hm
  have hn32 : n ≤ 32 := by omega
  have hm256 : m ≤ 256 := by omega
  have hwt := wtext_length (l := l) ht (w := r) hm
  have HW : Hid ((wtext l r).length ≤ 140737488355328) := Lib.hid (by omega)
  rw [← hn] at hk
  have HK2 := Lib.hid hk
  have HN := Lib.hid hn
  have HMN := Lib.hid hmn
  clear h h' ht hk hm hl hs1 hs2 hn hmn hwt
  go_enter Tryz.func16, Tryz.ntmps16
  go_wp2_with fail
  refine (Valid_any A n c l _ HL.out true HT).mono ?_
  rintro e w' ⟨rfl, rfl⟩
  go_wp2_with fail
  refine (wValid_any A' m c' r (n : Int) _ HR.out true HK2).mono ?_
  rintro e w' ⟨rfl, rfl⟩
  go_wp2_with fail
  go_loopw [6, 8, 19] (fun v _ i wr => ∃ k : Nat, k ≤ m ∧ i = .int .i64 k ∧ Hid (OwnN wr w.heap.size v (nms l (r.take k))) ∧ Below w.heap.size w wr) (fun _ _ i _ => m - (intOf i).toNat)
  case atStart => exact ⟨0, Nat.zero_le _, rfl, Lib.hid (OwnN.nil _ _), Below.refl _ _⟩
  case round =>
    obtain ⟨k, hk, rfl, HO, hrb⟩ := hrel
    have hsz := hrb.size
    obtain ⟨a4, c4, e4, _⟩ := HO.out.reads
    rw [nms_length, List.length_take, Nat.min_eq_left (by have := HMN.out; omega)] at e4
    subst e4
    have hlk : (List.map Value.string (nms l (r.take k))).length = k := by rw [List.length_map, nms_length, List.length_take]; have := HMN.out; omega
    have HLK := Lib.hid hlk
    clear hlk
    rcases Nat.lt_or_ge k m with hkm | hkm
    · obtain ⟨b, o, rfl, hb, hcx0⟩ := HR.out.at_ hkm
      obtain ⟨x, hx⟩ : ∃ x, r.getD k 0 = x := ⟨_, rfl⟩
      have hxm := HM.out _ (mem_getD (l := r) (k := k) (by have := HMN.out; omega))
      rw [hx] at hcx0 hxm
      have hcx : wr.cell? ⟨b, o + k, none⟩ = some (.int .i64 x) := (hrb.cell (p := ⟨b, o + k, none⟩) hb).trans hcx0
      obtain ⟨j, hj⟩ : ∃ j : Nat, x = (j : Int) + 1 := ⟨(x - 1).toNat, by omega⟩
      have hjn : j < n := by have := HN.out; omega
      obtain ⟨b', o', rfl, hb', hcy0⟩ := HL.out.at_ hjn
      obtain ⟨nm, hnm⟩ : ∃ s, l.getD j ByteArray.empty = s := ⟨_, rfl⟩
      rw [hnm] at hcy0
      have hcy : wr.cell? ⟨b', o' + j, none⟩ = some (.string nm) := (hrb.cell (p := ⟨b', o' + j, none⟩) hb').trans hcy0
      have hst := nms_snoc (l := l) (r := r) (k := k) (by have := HMN.out; omega)
      rw [hx, show x.toNat - 1 = j by omega, hnm] at hst
      have HST := Lib.hid hst
      have HRB := Lib.hid hrb
      have hw1 : IntKind.i64.wrap (x - 1) = (j : Int) := by rw [hj, IntWalk.i64_in _ (by omega)]; omega
      clear hx hst hnm hj hxm hcx0 hcy0 hrb
      go_wp2_with (at_builtin; refine wpList_appV rfl (.tmp 23) (.tmp 29) 37 9 rfl rfl _ 16 Tryz.underlying37 info_string rfl (by omega) w.heap.size _ ((nms l (r.take k)).map Value.string) rfl (ownN_alloc HO.out _) _ 1 1 [.string nm] rfl (Rd.one _ _ _) (strings_one [nm]) ?c1 ?c2 ?_)
      case c1 => rw [HLK.out]; omega
      case c2 => simp; omega
      intro v1 w2 hv hg _
      have ha : Below w.heap.size w (wr.alloc (.cells #[.string nm] 9)) := HRB.out.alloc HRB.out.size _
      have HO2 : Hid (OwnN w2 w.heap.size v1 (nms l (r.take (k + 1)))) := Lib.hid (by
        rw [HST.out]
        have e2 : (List.map Value.string (nms l (r.take k)) ++ List.map Value.string [nm]).length = (nms l (r.take k)).length + 1 := by simp
        refine OwnN.of_append (r := [nm]) ?_
        rw [e2]
        exact hv)
      have HB2 := Lib.hid (below_grown ha (ownN_alloc HO.out _) hg ha.size)
      clear hv hg ha
      go_wp2_with fail
      go_roundw
      case rel => exact ⟨k + 1, by omega, by go_num, HO2, HB2.out⟩
      case measure => simp [intOf]; omega
    · obtain rfl : k = m := by omega
      have HRB := Lib.hid hrb
      have HO3 : Hid (OwnN wr w.heap.size (.slice a4 k c4) (nms l r)) := Lib.hid (by
        have := HO.out
        rwa [List.take_of_length_le (by have := HMN.out; omega)] at this)
      have HL6 : Hid (r.length ≤ 1000000) := Lib.hid (by have := HMN.out; omega)
      clear hrb
      go_wp2_with fail
      refine (join_names HO3.out HW.out HL6.out).mono ?_
      rintro e w2 ⟨rfl, hb2⟩
      have HB2 := Lib.hid hb2
      clear hb2
      go_wp2_with fail
      refine bodyPost_ret (results_tmp2 rfl _ _ _) rfl ?_
      exact ⟨rfl, HRB.out.trans (HB2.out.mono hsz)⟩
set_option maxRecDepth 100000 in
set_option maxHeartbeats 1000000 in
theorem wFormat_any (A : Option Addr) (n c : Nat) (l : List ByteArray) (A' : Option Addr) (m c' : Nat) (r : List Int) (w : World) (h : Names w l A n c) (h' : Ints w r A' m c') (z : ByteArray × Int) (H : Hid (fmtA l r = z)) :
    Calls Tryz.prog 16 #[.slice A n c, .slice A' m c'] w (RetP w (.tuple #[.string z.1, .int .i64 z.2])) := by
  obtain ⟨V, hV⟩ : ∃ b, tab l = b := ⟨_, rfl⟩
  obtain ⟨V', hV'⟩ : ∃ b, wok r l.length = b := ⟨_, rfl⟩
  have HV := Lib.hid hV
  have hV2 := hV'
  rw [← h.len] at hV2
  have HV2 := Lib.hid hV2
  cases V with
  | false =>
    have HZ : Hid (z = (⟨#[]⟩, 5)) := Lib.hid (H.out.symm.trans (fmtA_tab hV))
    clear hV hV' hV2 H
    go_enter Tryz.func16, Tryz.ntmps16
    go_wp2_with fail
    refine (Valid_any A n c l _ h false HV).mono ?_
    rintro e w' ⟨rfl, rfl⟩
    go_wp2_with fail
    refine bodyPost_ret (results_tmp2 rfl _ _ _) rfl ?_
    rw [HZ.out]
    exact ⟨rfl, Below.refl _ _⟩
  | true =>
    cases V' with
    | true =>
      have := wFormat_ok A n c l A' m c' r w h h' hV hV'
      rw [← H.out, fmtA_ok hV hV']
      exact this
    | false =>
      have HZ : Hid (z = (⟨#[]⟩, 9)) := Lib.hid (H.out.symm.trans (fmtA_lab hV hV'))
      clear hV hV' hV2 H
      go_enter Tryz.func16, Tryz.ntmps16
      go_wp2_with fail
      refine (Valid_any A n c l _ h true HV).mono ?_
      rintro e w' ⟨rfl, rfl⟩
      go_wp2_with fail
      refine (wValid_any A' m c' r (n : Int) _ h' false HV2).mono ?_
      rintro e w' ⟨rfl, rfl⟩
      go_wp2_with fail
      refine bodyPost_ret (results_tmp2 rfl _ _ _) rfl ?_
      rw [HZ.out]
      exact ⟨rfl, Below.refl _ _⟩
end Go.Proofs.YtdlmhgijpgnilaaGreatDoor

namespace Go.Proofs.YtdlmhgijpgnilaaGreatDoor
open Go.RowKit

/-- Whether a part ends at a place. -/
def bla (t : ByteArray) (i : Nat) : Bool := match t.data.toList[i]? with
  | none => true
  | some c => c == 32
/-- What stands at the head of a round of Fields. -/
structure FI (t : ByteArray) (i : Nat) (f : Int) (out : List (List UInt8)) : Prop where
  le : i ≤ t.size + 1
  on : i ≤ t.size → (f = -1 ∧ flds t.data.toList = out ++ fldsA [] (t.data.toList.drop i)) ∨ ∃ a : Nat, f = (a : Int) ∧ a < i ∧ flds t.data.toList = out ++ fldsA ((t.data.toList.drop a).take (i - a)) (t.data.toList.drop i)
  off : i = t.size + 1 → flds t.data.toList = out
theorem len_bytes (t : ByteArray) : t.data.toList.length = t.size := by rw [Array.length_toList]; rfl
theorem FI.start (t : ByteArray) : FI t 0 (-1) [] := ⟨by omega, fun _ => .inl ⟨rfl, by simp [flds]⟩, by omega⟩
theorem drop_at {t : ByteArray} {i : Nat} (h : i < t.size) : ∃ c, t.data.toList[i]? = some c ∧ t.data.toList.drop i = c :: t.data.toList.drop (i + 1) := by
  have h2 : i < t.data.toList.length := by rw [len_bytes]; exact h
  exact ⟨t.data.toList[i], List.getElem?_eq_getElem h2, List.drop_eq_getElem_cons h2⟩
theorem fldsA_end (cur : List UInt8) : fldsA cur [] = if cur = [] then [] else [cur] := rfl
theorem fldsA_other (cur q : List UInt8) {c : UInt8} (h : c ≠ 32) : fldsA cur (c :: q) = fldsA (cur ++ [c]) q := by
  have := fldsA_part cur [c] q (by simpa using h)
  simpa using this
theorem FI.skip {t : ByteArray} {i : Nat} {out : List (List UInt8)} (h : FI t i (-1) out) (hi : i ≤ t.size) (hb : bla t i = true) : FI t (i + 1) (-1) out := by
  rcases h.on hi with ⟨_, h2⟩ | ⟨a, h1, _⟩
  · rcases Nat.lt_or_ge i t.size with hlt | hge
    · obtain ⟨c, h3, h4⟩ := drop_at hlt
      unfold bla at hb
      rw [h3] at hb
      have hc : c = 32 := by simpa using hb
      rw [h4, hc, fldsA_space] at h2
      exact ⟨by omega, fun _ => .inl ⟨rfl, by simpa using h2⟩, by omega⟩
    · obtain rfl : i = t.size := by omega
      rw [List.drop_of_length_le (by rw [len_bytes]; exact Nat.le_refl _), fldsA_end] at h2
      exact ⟨by omega, by omega, fun _ => by simpa using h2⟩
  · omega
theorem FI.cut {t : ByteArray} {i a : Nat} {out : List (List UInt8)} (h : FI t i (a : Int) out) (hi : i ≤ t.size) (hb : bla t i = true) : a < i ∧ FI t (i + 1) (-1) (out ++ [(t.data.toList.drop a).take (i - a)]) := by
  rcases h.on hi with ⟨h1, _⟩ | ⟨a', h1, ha, h2⟩
  · omega
  · obtain rfl : a = a' := by omega
    refine ⟨ha, ?_⟩
    have hne : (t.data.toList.drop a).take (i - a) ≠ [] := by
      intro e
      have := congrArg List.length e
      rw [List.length_take, List.length_drop, len_bytes] at this
      simp at this
      omega
    rcases Nat.lt_or_ge i t.size with hlt | hge
    · obtain ⟨c, h3, h4⟩ := drop_at hlt
      unfold bla at hb
      rw [h3] at hb
      have hc : c = 32 := by simpa using hb
      rw [h4, hc, fldsA_space, if_neg hne] at h2
      exact ⟨by omega, fun _ => .inl ⟨rfl, by rw [h2, List.append_assoc]⟩, by omega⟩
    · obtain rfl : i = t.size := by omega
      rw [List.drop_of_length_le (i := t.size) (by rw [len_bytes]; exact Nat.le_refl _), fldsA_end, if_neg hne] at h2
      exact ⟨by omega, by omega, fun _ => h2⟩
theorem FI.open {t : ByteArray} {i : Nat} {out : List (List UInt8)} (h : FI t i (-1) out) (hi : i ≤ t.size) (hb : bla t i = false) : i < t.size ∧ FI t (i + 1) (i : Int) out := by
  rcases h.on hi with ⟨_, h2⟩ | ⟨a, h1, _⟩
  · rcases Nat.lt_or_ge i t.size with hlt | hge
    · obtain ⟨c, h3, h4⟩ := drop_at hlt
      unfold bla at hb
      rw [h3] at hb
      have hc : c ≠ 32 := by simpa using hb
      refine ⟨hlt, by omega, fun _ => .inr ⟨i, rfl, by omega, ?_⟩, by omega⟩
      have h5 : (t.data.toList.drop i).take (i + 1 - i) = [c] := by
        rw [h4, show i + 1 - i = 1 by omega]; rfl
      rw [h5, h2, h4, fldsA_other _ _ hc]
      rfl
    · unfold bla at hb
      rw [List.getElem?_eq_none (by rw [len_bytes]; exact hge)] at hb
      cases hb
  · omega
theorem FI.go {t : ByteArray} {i a : Nat} {out : List (List UInt8)} (h : FI t i (a : Int) out) (hi : i ≤ t.size) (hb : bla t i = false) : i < t.size ∧ FI t (i + 1) (a : Int) out := by
  rcases h.on hi with ⟨h1, _⟩ | ⟨a', h1, ha, h2⟩
  · omega
  · obtain rfl : a = a' := by omega
    rcases Nat.lt_or_ge i t.size with hlt | hge
    · obtain ⟨c, h3, h4⟩ := drop_at hlt
      have h6 := h3
      unfold bla at hb
      rw [h3] at hb
      have hc : c ≠ 32 := by simpa using hb
      refine ⟨hlt, by omega, fun _ => .inr ⟨a, rfl, by omega, ?_⟩, by omega⟩
      have h5 : (t.data.toList.drop a).take (i + 1 - a) = (t.data.toList.drop a).take (i - a) ++ [c] := by
        rw [show i + 1 - a = (i - a) + 1 by omega, List.take_add_one, List.getElem?_drop, show a + (i - a) = i by omega, h6]
        rfl
      rw [h5, h2, h4, fldsA_other _ _ hc]
    · unfold bla at hb
      rw [List.getElem?_eq_none (by rw [len_bytes]; exact hge)] at hb
      cases hb
theorem strs_snoc (l : List (List UInt8)) (x : List UInt8) : strs (l ++ [x]) = strs l ++ [⟨x.toArray⟩] := by unfold strs; simp
theorem strs_length (l : List (List UInt8)) : (strs l).length = l.length := by unfold strs; simp
theorem out_len {t : ByteArray} {i : Nat} {f : Int} {out : List (List UInt8)} (h : FI t i f out) : out.length ≤ t.size := by
  have h2 := flds_length t.data.toList
  rw [len_bytes] at h2
  rcases Nat.lt_or_ge t.size i with h1 | h1
  · rw [← h.off (by have := h.le; omega)]; exact h2
  · rcases h.on h1 with ⟨_, h3⟩ | ⟨a, _, _, h3⟩ <;> (have := congrArg List.length h3; rw [List.length_append] at this; omega)
theorem bla_at {t : ByteArray} {k : Nat} (h : k < t.size) : ((t[k].toNat : Int) == 32) = bla t k := by
  have h2 : k < t.data.toList.length := by rw [len_bytes]; exact h
  unfold bla
  rw [List.getElem?_eq_getElem h2]
  show ((t.data.toList[k].toNat : Int) == 32) = (t.data.toList[k] == 32)
  generalize t.data.toList[k] = c
  rw [Bool.eq_iff_iff]
  simp
  constructor
  · intro h; exact UInt8.toNat_inj.1 (by simpa using (by omega : c.toNat = 32))
  · rintro rfl; rfl
set_option maxRecDepth 100000 in
set_option maxHeartbeats 4000000 in
theorem fields_any (t : ByteArray) (w : World) (hz : t.size ≤ 1000000) :
    Calls Tryz.prog 52 #[.string t, .string ⟨#[32]⟩] w (RetN w (strs (flds t.data.toList))) := by
  go_enter Tryz.func52, Tryz.ntmps52
  go_wp2_with fail
  go_loopw [5, 6, 7, 8, 9] (fun v f i _ _ wr => ∃ (k : Nat) (x : Int) (out : List (List UInt8)), i = .int .i64 (k : Int) ∧ f = .int .i64 x ∧ Hid (FI t k x out) ∧ Hid (OwnN wr w.heap.size v (strs out)) ∧ Below w.heap.size w wr) (fun _ _ i _ _ _ => t.size + 1 - (intOf i).toNat)
  case atStart => exact ⟨0, -1, [], rfl, rfl, Lib.hid (FI.start t), Lib.hid (OwnN.nil _ _), Below.refl _ _⟩
  case round =>
    obtain ⟨k, x, out, rfl, rfl, HFI, HO, hrb⟩ := hrel
    have hk1 := HFI.out.le
    obtain ⟨Ax, cx, ev, _⟩ := HO.out.reads
    rw [strs_length] at ev
    subst ev
    have HRB := Lib.hid hrb
    clear hrb
    by_cases hk : (k : Int) ≤ (t.size : Int)
    · rcases Nat.lt_or_ge k t.size with hlt | hge
      · have hne : ((k : Int) == (t.size : Int)) = false := by simp; omega
        obtain ⟨b, hb⟩ : ∃ b, bla t k = b := ⟨_, rfl⟩
        have hat := bla_at hlt
        rw [hb] at hat
        have HB := Lib.hid hb
        clear hb
        go_wp2_with fail
        go_loopw [8, 9] (fun c i wi => ∃ q : Nat, wi = wr.drewN q ∧ ((i = .int .i64 0 ∧ c = .bool false) ∨ (i = .int .i64 1 ∧ c = .bool b))) (fun _ i _ => 1 - (intOf i).toNat)
        case atStart => exact ⟨0, rfl, .inl ⟨rfl, rfl⟩⟩
        case round =>
          obtain ⟨q, rfl, ⟨rfl, rfl⟩ | ⟨rfl, rfl⟩⟩ := hrel
          · have hix : ∀ w, (Instr.index 9 (.string ⟨#[32]⟩) (.int .i64 0)).run Tryz.prog w = .ok (.int .u8 32) w := fun w => by kernel_rfl
            go_wp2_with fail
            go_quiet (fail)
            go_wp2_with fail
            go_roundw
            case rel => exact ⟨q + nq, rfl, .inr ⟨rfl, rfl⟩⟩
            case measure => simp [intOf]
          · have HO2 : Hid (OwnN (wr.drewN q) w.heap.size (.slice Ax out.length cx) (strs out)) := Lib.hid (own_below HO.out (below_of_drewN wr q _))
            have HRB2 : Hid (Below w.heap.size w (wr.drewN q)) := Lib.hid (below_draws HRB.out q)
            generalize wr.drewN q = W5 at *
            clear hat hne
            cases b with
            | true =>
              rcases HFI.out.on (by omega) with ⟨rfl, _⟩ | ⟨a, rfl, hak, _⟩
              · have HN := Lib.hid (HFI.out.skip (by omega) HB.out)
                go_wp2_with fail
                go_roundw
                case rel => exact ⟨k + 1, _, _, by go_num, rfl, HN, HO2, HRB2.out⟩
                case measure => first | (simp [intOf]; done) | (simp [intOf]; omega)
              · have HN := Lib.hid (HFI.out.cut (by omega) HB.out).2
                have ha0 : ¬ (a : Int) < 0 := by omega
                have hout := out_len HFI.out
                go_wp2_with (at_builtin; refine wpList_appV rfl (.tmp 49) (.tmp 54) 37 9 rfl rfl _ 16 Tryz.underlying37 info_string rfl (by omega) w.heap.size _ ((strs out).map Value.string) rfl (ownN_alloc HO2.out _) _ 1 1 [.string (t.extract a k)] rfl (Rd.one _ _ _) (strings_one [t.extract a k]) ?c1 ?c2 ?_)
                case c1 => have h9 := strs_length out; first | omega | (simp; omega)
                case c2 => have := HRB2.out.size; first | (simp; done) | (simp; omega) | omega
                intro v1 w2 hv hg _
                have ha := HRB2.out.alloc HRB2.out.size (.cells #[.string (t.extract a k)] 9)
                have HO4 : Hid (OwnN w2 w.heap.size v1 (strs (out ++ [(t.data.toList.drop a).take (k - a)]))) := Lib.hid (by
                  rw [strs_snoc, ← Lib.extract_eq]
                  have e2 : (List.map Value.string (strs out) ++ List.map Value.string [t.extract a k]).length = (strs out).length + 1 := by simp
                  refine OwnN.of_append (r := [t.extract a k]) ?_
                  rw [e2]
                  exact hv)
                have HB2 := Lib.hid (below_grown ha (ownN_alloc HO2.out _) hg ha.size)
                clear hv hg ha hout
                go_wp2_with fail
                go_roundw
                case rel => exact ⟨k + 1, _, _, by go_num, rfl, HN, HO4, HB2.out⟩
                case measure => first | (simp [intOf]; done) | (simp [intOf]; omega)
            | false =>
              rcases HFI.out.on (by omega) with ⟨rfl, _⟩ | ⟨a, rfl, hak, _⟩
              · have HN := Lib.hid (HFI.out.open (by omega) HB.out).2
                go_wp2_with fail
                go_roundw
                case rel => exact ⟨k + 1, _, _, by go_num, rfl, HN, HO2, HRB2.out⟩
                case measure => first | (simp [intOf]; done) | (simp [intOf]; omega)
              · have HN := Lib.hid (HFI.out.go (by omega) HB.out).2
                have ha0 : ¬ (a : Int) < 0 := by omega
                go_wp2_with fail
                go_roundw
                case rel => exact ⟨k + 1, _, _, by go_num, rfl, HN, HO2, HRB2.out⟩
                case measure => first | (simp [intOf]; done) | (simp [intOf]; omega)
      · obtain rfl : k = t.size := by omega
        have HB : Hid (bla t t.size = true) := Lib.hid (by unfold bla; rw [List.getElem?_eq_none (by rw [len_bytes]; exact Nat.le_refl _)])
        have HO2 := HO
        have HRB2 := HRB
        go_wp2_with fail
        go_loopw [8, 9] (fun c i wi => wi = wr ∧ i = .int .i64 0 ∧ c = .bool true) (fun _ i _ => 1 - (intOf i).toNat)
        case atStart => exact ⟨rfl, rfl, rfl⟩
        case round =>
          obtain ⟨rfl, rfl, rfl⟩ := hrel
          rcases HFI.out.on (by omega) with ⟨rfl, _⟩ | ⟨a, rfl, hak, _⟩
          · have HN := Lib.hid (HFI.out.skip (by omega) HB.out)
            go_wp2_with fail
            go_roundw
            case rel => exact ⟨t.size + 1, _, _, by go_num, rfl, HN, HO2, HRB2.out⟩
            case measure => first | (simp [intOf]; done) | (simp [intOf]; omega)
          · have HN := Lib.hid (HFI.out.cut (by omega) HB.out).2
            have ha0 : ¬ (a : Int) < 0 := by omega
            have hout := out_len HFI.out
            go_wp2_with (at_builtin; refine wpList_appV rfl (.tmp 49) (.tmp 54) 37 9 rfl rfl _ 16 Tryz.underlying37 info_string rfl (by omega) w.heap.size _ ((strs out).map Value.string) rfl (ownN_alloc HO2.out _) _ 1 1 [.string (t.extract a t.size)] rfl (Rd.one _ _ _) (strings_one [t.extract a t.size]) ?c1 ?c2 ?_)
            case c1 => have h9 := strs_length out; first | omega | (simp; omega)
            case c2 => have := HRB2.out.size; first | (simp; done) | (simp; omega) | omega
            intro v1 w2 hv hg _
            have ha := HRB2.out.alloc HRB2.out.size (.cells #[.string (t.extract a t.size)] 9)
            have HO4 : Hid (OwnN w2 w.heap.size v1 (strs (out ++ [(t.data.toList.drop a).take (t.size - a)]))) := Lib.hid (by
              rw [strs_snoc, ← Lib.extract_eq]
              have e2 : (List.map Value.string (strs out) ++ List.map Value.string [t.extract a t.size]).length = (strs out).length + 1 := by simp
              refine OwnN.of_append (r := [t.extract a t.size]) ?_
              rw [e2]
              exact hv)
            have HB2 := Lib.hid (below_grown ha (ownN_alloc HO2.out _) hg ha.size)
            clear hv hg ha hout
            go_wp2_with fail
            go_roundw
            case rel => exact ⟨t.size + 1, _, _, by go_num, rfl, HN, HO4, HB2.out⟩
            case measure => first | (simp [intOf]; done) | (simp [intOf]; omega)
    · go_wp2_with fail
      go_ret
      have := HFI.out.off (by omega)
      rw [this]
      exact ⟨_, rfl, HO.out, HRB.out⟩
end Go.Proofs.YtdlmhgijpgnilaaGreatDoor
