/- Merge of the program. -/
import Derived.Test.YtpgkimehmmelgaaN10
namespace Go.Proofs.Ytpgkimehmmelgaa
open Go.RowKit

/-- What a merge answers: the table, the numbers, the error. -/
def ans (t u : List ByteArray) : List ByteArray × List Nat × Int := if (tab t && tab u) = false then ([], [], 5) else if 32 < (mrg t u).1.length then ([], [], 2) else ((mrg t u).1, (mrg t u).2, 0)
theorem ans_bad1 {t u : List ByteArray} (h : tab t = false) : ans t u = ([], [], 5) := by unfold ans; rw [h]; rfl
theorem ans_bad2 {t u : List ByteArray} (h : tab u = false) : ans t u = ([], [], 5) := by unfold ans; rw [h, Bool.and_false]; rfl
theorem ans_many {t u : List ByteArray} (h1 : tab t = true) (h2 : tab u = true) (h : 32 < (mrg t u).1.length) : ans t u = ([], [], 2) := by unfold ans; rw [h1, h2, if_neg (by decide), if_pos h]
theorem ans_ok {t u : List ByteArray} (h1 : tab t = true) (h2 : tab u = true) (h : ¬ 32 < (mrg t u).1.length) : ans t u = ((mrg t u).1, (mrg t u).2, 0) := by unfold ans; rw [h1, h2, if_neg (by decide), if_neg h]
def RetM (w0 : World) (r : List ByteArray × List Nat × Int) (e : Ending) (w' : World) : Prop :=
  ∃ A c A' c', e = .returned (.tuple #[.slice A r.1.length c, .slice A' r.2.1.length c', .int .i64 r.2.2]) ∧ Names w' r.1 A r.1.length c ∧ Syms w' r.2.1 A' r.2.1.length c' ∧ Below w0.heap.size w0 w'
theorem retM_none {w0 w' : World} {r : List ByteArray × List Nat × Int} {er : Int} (h : r = ([], [], er)) (hb : Below w0.heap.size w0 w') : RetM w0 r (.returned (.tuple #[.slice none 0 0, .slice none 0 0, .int .i64 er])) w' := by
  subst h
  exact ⟨none, 0, none, 0, rfl, Names.nil _ _ _, Syms.nil _ _ _, hb⟩
theorem retM_ok {w0 w' : World} {r : List ByteArray × List Nat × Int} {l : List ByteArray} {s : List Nat} {A A' : Option Addr} {c c' : Nat} (h : r = (l, s, 0)) (h1 : Names w' l A l.length c) (h2 : Syms w' s A' s.length c') (hb : Below w0.heap.size w0 w') :
    RetM w0 r (.returned (.tuple #[.slice A l.length c, .slice A' s.length c', .int .i64 0])) w' := by
  subst h
  exact ⟨A, c, A', c', rfl, h1, h2, hb⟩
theorem mstep_new {p : List ByteArray × List Nat} {x : ByteArray} (h : fnd p.1 x = 0) : mstep p x = (p.1 ++ [x], p.2 ++ [p.1.length + 1]) := by unfold mstep; rw [if_pos h]
theorem mstep_old {p : List ByteArray × List Nat} {x : ByteArray} (h : fnd p.1 x ≠ 0) : mstep p x = (p.1, p.2 ++ [fnd p.1 x]) := by unfold mstep; rw [if_neg h]
/-- What stands at the head of a merge's round. -/
def MRel (w : World) (p : List ByteArray × List Nat) (v v' : Value) (wr : World) : Prop := OwnN wr w.heap.size v p.1 ∧ OwnS wr w.heap.size v' p.2 ∧ Below w.heap.size w wr
theorem OwnN.alloc {w : World} {B : Nat} {v : Value} {l : List ByteArray} (h : OwnN w B v l) (o : Obj) : OwnN (w.alloc o) B v l := own_alloc h o
theorem OwnS.alloc {w : World} {B : Nat} {v : Value} {l : List Nat} (h : OwnS w B v l) (o : Obj) : OwnS (w.alloc o) B v l := own_alloc h o
/-- Behind the append of a name. -/
theorem mrel_name {w wr w1 : World} {t : List ByteArray} {s : List Nat} {x : ByteArray} {v v' v1 : Value} {n : Nat} {ys : List Value} {o : Obj} (hn : OwnN wr w.heap.size v t) (hs : OwnS wr w.heap.size v' s) (hb : Below w.heap.size w wr)
    (hv : w1.ownsRow w.heap.size 9 1 v1 n ys) (hl : n = t.length + 1) (hy : ys = t.map Value.string ++ [Value.string x]) (hg : (wr.alloc o).grownBy w1 v.ownBlock) : MRel w (t ++ [x], s) v1 v' w1 := by
  have ha : Below w.heap.size w (wr.alloc o) := hb.alloc hb.size o
  subst hl hy
  refine ⟨?_, own_grown (OwnS.alloc hs o) hg (own_apart (OwnS.alloc hs o) (OwnN.alloc hn o) (by decide)), below_grown ha (OwnN.alloc hn o) hg ha.size⟩
  unfold OwnN
  rw [List.map_append, List.length_append, List.length_map]
  exact hv
/-- Behind the append of a symbol. -/
theorem mrel_sym {w wr w1 : World} {t : List ByteArray} {s : List Nat} {x : Nat} {v v' v1 : Value} {n : Nat} {ys : List Value} {o : Obj} (hn : OwnN wr w.heap.size v t) (hs : OwnS wr w.heap.size v' s) (hb : Below w.heap.size w wr)
    (hv : w1.ownsRow w.heap.size 3 1 v1 n ys) (hl : n = s.length + 1) (hy : ys = syms s ++ [Value.int .i64 (x : Int)]) (hg : (wr.alloc o).grownBy w1 v'.ownBlock) : MRel w (t, s ++ [x]) v v1 w1 := by
  have ha : Below w.heap.size w (wr.alloc o) := hb.alloc hb.size o
  subst hl hy
  refine ⟨own_grown (OwnN.alloc hn o) hg (own_apart (OwnN.alloc hn o) (OwnS.alloc hs o) (by decide)), ?_, below_grown ha (OwnS.alloc hs o) hg ha.size⟩
  unfold OwnS
  rw [syms_snoc, List.length_append, syms_length]
  exact hv
set_option maxHeartbeats 8000000 in
theorem Merge_any (A A' : Option Addr) (n c m c' : Nat) (t u : List ByteArray) (w : World) (h1 : Names w t A n c) (h2 : Names w u A' m c') :
    Calls Try.prog 15 #[.slice A n c, .slice A' m c'] w (RetM w (ans t u)) := by
  obtain ⟨V1, hV1⟩ : ∃ b, tab t = b := ⟨_, rfl⟩
  obtain ⟨V2, hV2⟩ : ∃ b, tab u = b := ⟨_, rfl⟩
  have HV1 := Lib.hid hV1
  have HV2 := Lib.hid hV2
  have HT := Lib.hid h1
  have HU := Lib.hid h2
  clear hV1 hV2 h1 h2
  cases V1
  · go_enter Try.func15, Try.ntmps15
    go_wp2_with fail
    refine (Valid_any _ _ _ _ _ HT.out false HV1).mono ?_
    rintro e w' ⟨rfl, rfl⟩
    go_wp2_with fail
    go_ret3
    exact retM_none (ans_bad1 HV1.out) (Below.refl _ _)
  cases V2
  · go_enter Try.func15, Try.ntmps15
    go_wp2_with fail
    refine (Valid_any _ _ _ _ _ HT.out true HV1).mono ?_
    rintro e w' ⟨rfl, rfl⟩
    go_wp2_with fail
    refine (Valid_any _ _ _ _ _ HU.out false HV2).mono ?_
    rintro e w' ⟨rfl, rfl⟩
    go_wp2_with fail
    go_ret3
    exact retM_none (ans_bad2 HV2.out) (Below.refl _ _)
  have ht32 : 0 < n ∧ n ≤ 32 := by have := tab_out HV1.out; have := HT.out.len; omega
  have hu32 : m ≤ 32 := by have := tab_out HV2.out; have := HU.out.len; omega
  obtain ⟨hn0, hn32⟩ := ht32
  have HN := Lib.hid HT.out.len
  have HM := Lib.hid HU.out.len
  go_enter Try.func15, Try.ntmps15
  go_wp2_with fail
  refine (Valid_any _ _ _ _ _ HT.out true HV1).mono ?_
  rintro e w' ⟨rfl, rfl⟩
  go_wp2_with fail
  refine (Valid_any _ _ _ _ _ HU.out true HV2).mono ?_
  rintro e w' ⟨rfl, rfl⟩
  go_wp2_with fail
  refine (clone_any _ _ _ _ _ HT.out (by omega) hn0).mono ?_
  rintro e w1 ⟨v0, rfl, ho0, hb0⟩
  have HO := Lib.hid ho0
  clear ho0
  go_wp2_with fail
  go_loopw [4, 5, 8, 21] (fun v v' _ i wr => ∃ k : Nat, k ≤ m ∧ i = .int .i64 k ∧ MRel w (mrg t (u.take k)) v v' wr) (fun _ _ _ i _ => m - (intOf i).toNat)
  case atStart => exact ⟨0, Nat.zero_le _, rfl, HO.out, OwnS.nil _ _, hb0⟩
  case round =>
    obtain ⟨k, hk, rfl, hrn, hrs, hrb⟩ := hrel
    obtain ⟨P, hP⟩ : ∃ p, mrg t (u.take k) = p := ⟨_, rfl⟩
    have hml := mrg_len t (u.take k)
    have hmk : P.1.length ≤ 64 ∧ P.2.length ≤ 32 := by
      have := HN.out; have := HM.out
      rw [List.length_take] at hml
      rw [← hP]
      omega
    obtain ⟨hm1, hm2⟩ := hmk
    rw [hP] at hrn hrs
    obtain ⟨a4, c4, rfl, hr4⟩ := hrn.reads
    have H4 := Lib.hid hr4
    have HRN := Lib.hid hrn
    have HRS := Lib.hid hrs
    have HRB := Lib.hid hrb
    have hsz := hrb.size
    clear hr4 hrn hrs hml
    rcases Nat.lt_or_ge k m with hkm | hkm
    · have hP1 := mrg_take t u k (by have := HM.out; omega)
      rw [hP] at hP1
      obtain ⟨b, o, rfl, hbl, hc0⟩ := HU.out.at_ hkm
      obtain ⟨s, hs⟩ : ∃ s, u.getD k ByteArray.empty = s := ⟨_, rfl⟩
      rw [hs] at hc0 hP1
      have hc : wr.cell? ⟨b, o + k, none⟩ = some (.string s) := (hrb.cell (p := ⟨b, o + k, none⟩) hbl).trans hc0
      obtain ⟨f, hf⟩ : ∃ f, fnd P.1 s = f := ⟨_, rfl⟩
      have HP1 := Lib.hid hP1
      have HF := Lib.hid hf
      clear hs hP hP1 hf hc0 hrb
      rcases Nat.eq_zero_or_pos f with rfl | hf0
      · have HF2 : Hid (fnd (P.1 ++ [s]) s = P.1.length + 1) := Lib.hid (fnd_append_new HF.out)
        go_wp2_with fail
        refine (place_any _ _ _ _ s _ H4.out (by omega) 0 HF).mono ?_
        rintro e w2 ⟨rfl, rfl⟩
        go_wp2_with (at_builtin; refine wpList_appV rfl (.tmp 29) (.tmp 31) 22 9 rfl rfl _ 16 Try.underlying22 info_string rfl (by omega) w.heap.size _ (P.1.map Value.string) rfl (HRN.out.alloc _) _ 1 1 [.string s] rfl (Rd.one _ _ _) (strings_one [s]) ?c1 ?c2 ?_)
        case c1 => simp; omega
        case c2 => simp; omega
        intro v1 w2 hv hg _
        have HR2 := Lib.hid (mrel_name (x := s) HRN.out HRS.out HRB.out hv (by simp) (by simp) hg)
        obtain ⟨a5, c5, rfl, hr5⟩ := OwnN.reads HR2.out.1
        have e5 : (P.1 ++ [s]).length = P.1.length + 1 := by simp
        rw [e5] at hr5
        have H5 := Lib.hid hr5
        have hsz2 := HR2.out.2.2.size
        have hl5 : P.1.length + 1 ≤ 1073741824 := by omega
        clear hv hg hr5 hc e5
        go_wp2_with fail
        refine (place_any _ _ _ _ s _ H5.out hl5 (P.1.length + 1) HF2).mono ?_
        rintro e w3 ⟨rfl, rfl⟩
        go_wp2_with (at_builtin; refine wpList_appV rfl (.tmp 33) (.tmp 37) 28 3 rfl rfl _ 8 Try.underlying28 info_int rfl (by omega) w.heap.size _ (syms P.2) rfl (OwnS.alloc HR2.out.2.1 _) _ 1 1 [.int .i64 ((P.1.length + 1 : Nat) : Int)] rfl (Rd.one _ _ _) (syms_one [P.1.length + 1]) ?c3 ?c4 ?_)
        case c3 => rw [syms_length]; omega
        case c4 => simp; omega
        intro v2 w3 hv hg _
        have HR3 := Lib.hid (mrel_sym (x := P.1.length + 1) HR2.out.1 HR2.out.2.1 HR2.out.2.2 hv (by simp [syms_length]) (by simp) hg)
        clear hv hg
        go_wp2_with fail
        go_roundw
        case rel => exact ⟨k + 1, by omega, by go_num, by rw [HP1.out, mstep_new HF.out]; have := HR3.out; rwa [show (P.1 ++ [s]).length = P.1.length + 1 from by simp] at this⟩
        case measure => simp [intOf]; omega
      · have hne : ((f : Int) == 0) = false := by simp; omega
        have hl4 : P.1.length ≤ 1073741824 := by omega
        go_wp2_with fail
        refine (place_any _ _ _ _ s _ H4.out hl4 f HF).mono ?_
        rintro e w2 ⟨rfl, rfl⟩
        go_wp2_with fail
        refine (place_any _ _ _ _ s _ H4.out hl4 f HF).mono ?_
        rintro e w3 ⟨rfl, rfl⟩
        go_wp2_with (at_builtin; refine wpList_appV rfl (.tmp 33) (.tmp 37) 28 3 rfl rfl _ 8 Try.underlying28 info_int rfl (by omega) w.heap.size _ (syms P.2) rfl (OwnS.alloc HRS.out _) _ 1 1 [.int .i64 (f : Int)] rfl (Rd.one _ _ _) (syms_one [f]) ?c5 ?c6 ?_)
        case c5 => rw [syms_length]; omega
        case c6 => simp; omega
        intro v2 w3 hv hg _
        have HR3 := Lib.hid (mrel_sym (x := f) HRN.out HRS.out HRB.out hv (by simp [syms_length]) (by simp) hg)
        have HF3 : Hid (fnd P.1 s ≠ 0) := Lib.hid (by rw [HF.out]; omega)
        clear hv hg hne
        go_wp2_with fail
        go_roundw
        case rel => exact ⟨k + 1, by omega, by go_num, by rw [HP1.out, mstep_old HF3.out, HF.out]; exact HR3.out⟩
        case measure => simp [intOf]; omega
    · have hkm2 : k = m := by omega
      have hP2 : mrg t u = P := by rw [← hP, hkm2, HM.out, List.take_length]
      have HP2 := Lib.hid hP2
      clear hP hP2 hkm2
      obtain ⟨a5, c5, rfl, hr5⟩ := HRS.out.reads
      have H5 := Lib.hid hr5
      clear hr5 hrb
      by_cases h32 : 32 < P.1.length
      · have h32' : (32 : Int) < (P.1.length : Int) := by omega
        go_wp2_with fail
        go_ret3
        exact retM_none (ans_many HV1.out HV2.out (by rw [HP2.out]; exact h32)) HRB.out
      · have h32' : ¬ (32 : Int) < (P.1.length : Int) := by omega
        go_wp2_with fail
        go_ret3
        exact retM_ok (by rw [ans_ok HV1.out HV2.out (by rw [HP2.out]; exact h32), HP2.out]) H4.out H5.out HRB.out
end Go.Proofs.Ytpgkimehmmelgaa
