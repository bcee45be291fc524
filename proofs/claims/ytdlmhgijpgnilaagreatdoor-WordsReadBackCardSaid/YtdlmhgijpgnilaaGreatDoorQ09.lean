/- Words in memory; isAlphabet and Valid, of the program and of the specification; Compare. -/
import Derived.Test.YtdlmhgijpgnilaaGreatDoorQ01
import Derived.Test.YtdlmhgijpgnilaaGreatDoorQ06
import Derived.Test.YtdlmhgijpgnilaaGreatDoorQ08
set_option linter.unusedVariables false
set_option linter.unusedSimpArgs false
namespace Go.Proofs.YtdlmhgijpgnilaaGreatDoor
open Go.RowKit

def ints (l : List Int) : List Value := l.map fun (n : Int) => Value.int .i64 n
theorem ints_length (l : List Int) : (ints l).length = l.length := by simp [ints]
theorem ints_append (l r : List Int) : ints (l ++ r) = ints l ++ ints r := by simp [ints]
theorem ints_snoc (l : List Int) (x : Int) : ints (l ++ [x]) = ints l ++ [.int .i64 x] := by simp [ints]
theorem ints_get (l : List Int) (k : Nat) : (ints l)[k]? = (l[k]?).map fun (n : Int) => Value.int .i64 n := by simp [ints]
theorem ints_set (l : List Int) (k : Nat) (x : Int) : ints (l.set k x) = (ints l).set k (.int .i64 x) := by unfold ints; rw [List.map_set]
theorem ints_one (l : List Int) : ∀ u ∈ ints l, u.oneCell' = true := by
  intro u hu
  obtain ⟨x, _, rfl⟩ := List.mem_map.1 hu
  rfl
/-- The slice value reads as a list of numbers. -/
def Ints (w : World) (l : List Int) (A : Option Addr) (n c : Nat) : Prop := Rd w (ints l) A n c
theorem Ints.len {w : World} {l : List Int} {A : Option Addr} {n c : Nat} (h : Ints w l A n c) : n = l.length := by rw [Rd.len h, ints_length]
theorem Ints.below {w w' : World} {l : List Int} {A : Option Addr} {n c : Nat} (h : Ints w l A n c) (hb : Below w.heap.size w w') : Ints w' l A n c := Rd.below h hb
theorem Ints.drewN {w : World} {l : List Int} {A : Option Addr} {n c : Nat} (h : Ints w l A n c) (k : Nat) : Ints (w.drewN k) l A n c := h.below (below_of_drewN w k _)
theorem Ints.nil (w : World) (A : Option Addr) (c : Nat) : Ints w [] A 0 c := Rd.nil w A c
theorem Ints.at_ {w : World} {l : List Int} {A : Option Addr} {n c : Nat} (h : Ints w l A n c) {k : Nat} (hk : k < n) :
    ∃ b o, A = some ⟨b, o, none⟩ ∧ b < w.heap.size ∧ w.cell? ⟨b, o + k, none⟩ = some (.int .i64 (l.getD k 0)) := by
  obtain ⟨b, o, x, hA, hb, hx, hc⟩ := Rd.at_ h hk
  refine ⟨b, o, hA, hb, ?_⟩
  rw [hc, List.getD_eq_getElem?_getD]
  rw [ints_get] at hx
  obtain ⟨s, hs, rfl⟩ := Option.map_eq_some_iff.1 hx
  rw [hs]; rfl
theorem Ints.form {w : World} {l : List Int} {A : Option Addr} {n c : Nat} (h : Ints w l A n c) : (n = 0 ∧ l = []) ∨ ∃ b o, A = some ⟨b, o, none⟩ ∧ b < w.heap.size ∧ 0 < n := by
  rcases Nat.eq_zero_or_pos n with h0 | h0
  · exact .inl ⟨h0, List.eq_nil_of_length_eq_zero (by have := h.len; omega)⟩
  · obtain ⟨b, o, hA, hb, _⟩ := h.at_ (k := 0) h0
    exact .inr ⟨b, o, hA, hb, h0⟩
/-- The call's own row of numbers. -/
def OwnI (w : World) (B : Nat) (v : Value) (l : List Int) : Prop := w.ownsRow B 3 1 v (ints l).length (ints l)
theorem OwnI.reads {w : World} {B : Nat} {v : Value} {l : List Int} (h : OwnI w B v l) : ∃ A c, v = .slice A l.length c ∧ Ints w l A l.length c := by
  obtain ⟨A, c, hv, hr⟩ := Rd.of_own h
  rw [ints_length] at hv hr
  exact ⟨A, c, hv, hr⟩
theorem OwnI.nil (w : World) (B : Nat) : OwnI w B (.slice none 0 0) [] := World.ownsRow_nil ..
theorem OwnI.of_append {w : World} {B : Nat} {v : Value} {l r : List Int} (h : w.ownsRow B 3 1 v (ints l ++ ints r).length (ints l ++ ints r)) : OwnI w B v (l ++ r) := by
  unfold OwnI
  rw [ints_append]; exact h
theorem OwnI.of_snoc {w : World} {B : Nat} {v : Value} {l : List Int} {x : Int} (h : w.ownsRow B 3 1 v (ints l ++ [Value.int .i64 x]).length (ints l ++ [Value.int .i64 x])) : OwnI w B v (l ++ [x]) := by
  unfold OwnI
  rw [ints_snoc]; exact h
theorem OwnI.of_len {w : World} {B : Nat} {v : Value} {l : List Int} (h : w.ownsRow B 3 1 v l.length (ints l)) : OwnI w B v l := by
  unfold OwnI
  rw [ints_length]; exact h

/-- A word and an error handed back, the word in new memory. -/
def RetWE (w0 : World) (l : List Int) (E : Int) (e : Ending) (w' : World) : Prop := ∃ A c, e = .returned (.tuple #[.slice A l.length c, .int .i64 E]) ∧ Ints w' l A l.length c ∧ Below w0.heap.size w0 w'

set_option maxHeartbeats 1000000 in
theorem isAlphabet_any (s : Int) (w : World) (V : Bool) (H : Hid (decide (1 ≤ s ∧ s ≤ 32) = V)) : Calls Tryz.prog 34 #[.int .i64 s] w (RetE w (.bool V)) := by
  by_cases h1 : 1 ≤ s
  · by_cases h2 : s ≤ 32
    · obtain rfl : V = true := by rw [← H.out]; exact decide_eq_true ⟨h1, h2⟩
      clear H
      go_enter Tryz.func34, Tryz.ntmps34
      go_wp2_with fail
      go_ret
      exact ⟨rfl, rfl⟩
    · obtain rfl : V = false := by rw [← H.out]; exact decide_eq_false (fun h => h2 h.2)
      clear H
      go_enter Tryz.func34, Tryz.ntmps34
      go_wp2_with fail
      go_ret
      exact ⟨rfl, rfl⟩
  · obtain rfl : V = false := by rw [← H.out]; exact decide_eq_false (fun h => h1 h.1)
    clear H
    go_enter Tryz.func34, Tryz.ntmps34
    go_wp2_with fail
    go_ret
    exact ⟨rfl, rfl⟩
set_option maxHeartbeats 1000000 in
theorem Alphabet_any (s : Int) (w : World) (V : Bool) (H : Hid (decide (1 ≤ s ∧ s ≤ 32) = V)) : Calls Tryz.prog 39 #[.int .i64 s] w (RetE w (.bool V)) := by
  by_cases h1 : 1 ≤ s
  · by_cases h2 : s ≤ 32
    · obtain rfl : V = true := by rw [← H.out]; exact decide_eq_true ⟨h1, h2⟩
      clear H
      go_enter Tryz.func39, Tryz.ntmps39
      go_wp2_with fail
      go_ret
      exact ⟨rfl, rfl⟩
    · obtain rfl : V = false := by rw [← H.out]; exact decide_eq_false (fun h => h2 h.2)
      clear H
      go_enter Tryz.func39, Tryz.ntmps39
      go_wp2_with fail
      go_ret
      exact ⟨rfl, rfl⟩
  · obtain rfl : V = false := by rw [← H.out]; exact decide_eq_false (fun h => h1 h.1)
    clear H
    go_enter Tryz.func39, Tryz.ntmps39
    go_wp2_with fail
    go_ret
    exact ⟨rfl, rfl⟩
/-- Which numbers are no alphabet's size, or words are too long, or letters do not fit. -/
theorem wok_parts (l : List Int) (s : Int) : (¬ (1 ≤ s ∧ s ≤ 32) → wok l s = false) ∧ (256 < l.length → wok l s = false) := by
  constructor
  · intro h
    by_cases h1 : 1 ≤ s
    · exact wok_high (fun h2 => h ⟨h1, h2⟩)
    · exact wok_low h1
  · intro h; exact wok_long (by omega)
set_option maxHeartbeats 2000000 in
theorem wValid_any (A : Option Addr) (n c : Nat) (l : List Int) (s : Int) (w : World) (h : Ints w l A n c) (V : Bool) (H : Hid (wok l s = V)) :
    Calls Tryz.prog 28 #[.slice A n c, .int .i64 s] w (RetE w (.bool V)) := by
  have hnl := h.len
  by_cases hs : 1 ≤ s ∧ s ≤ 32
  · by_cases hn : 256 < n
    · obtain rfl : V = false := by rw [← H.out]; exact (wok_parts l s).2 (by omega)
      have h2 : (256 : Int) < (n : Int) := by omega
      clear H h hnl
      go_enter Tryz.func28, Tryz.ntmps28
      go_wp2_with fail
      refine (isAlphabet_any s _ true (Lib.hid (decide_eq_true hs))).mono ?_
      rintro e w' ⟨rfl, rfl⟩
      go_wp2_with fail
      go_ret
      exact ⟨rfl, rfl⟩
    · have h2 : ¬ (256 : Int) < (n : Int) := by omega
      have hn2 : n ≤ 256 := by omega
      have HN := Lib.hid hnl
      have HL := Lib.hid h
      clear hnl h hn
      go_enter Tryz.func28, Tryz.ntmps28
      go_wp2_with fail
      refine (isAlphabet_any s _ true (Lib.hid (decide_eq_true hs))).mono ?_
      rintro e w' ⟨rfl, rfl⟩
      have HS := Lib.hid hs
      clear hs
      go_wp2_with fail
      go_loop [6, 17] (fun _ i => ∃ k : Nat, k ≤ n ∧ i = .int .i64 k ∧ Hid (∀ j, j < k → 1 ≤ l.getD j 0 ∧ l.getD j 0 ≤ s)) (fun _ i => n - (intOf i).toNat)
      case atStart => exact ⟨0, Nat.zero_le _, rfl, show Hid _ from fun j h => absurd h (by omega)⟩
      case round =>
        obtain ⟨k, hk, rfl, HE⟩ := hrel
        rcases Nat.lt_or_ge k n with hkn | hkn
        · obtain ⟨b, o, rfl, _, hc⟩ := HL.out.at_ hkn
          obtain ⟨x, hx⟩ : ∃ x, l.getD k 0 = x := ⟨_, rfl⟩
          rw [hx] at hc
          have HX := Lib.hid hx
          clear hx
          by_cases h3 : x < 1
          · go_wp2_with fail
            go_ret
            refine ⟨y_bool ?_, rfl⟩
            rw [← H.out]
            exact (wok_bad (k := k) (by have := HN.out; omega) (by rw [HX.out]; omega)).symm
          · by_cases h4 : s < x
            · go_wp2_with fail
              go_ret
              refine ⟨y_bool ?_, rfl⟩
              rw [← H.out]
              exact (wok_bad (k := k) (by have := HN.out; omega) (by rw [HX.out]; omega)).symm
            · go_wp2_with fail
              go_round
              case rel => exact ⟨k + 1, by omega, by go_num, show Hid _ from fun j hj => by
                rcases Nat.lt_or_eq_of_le (Nat.le_of_lt_succ hj) with h' | rfl
                · exact HE.out j h'
                · rw [HX.out]; omega⟩
              case measure => simp [intOf]; omega
        · go_wp2_with fail
          go_ret
          refine ⟨y_bool ?_, rfl⟩
          rw [← H.out]
          have := HN.out
          exact (wok_at HS.out.1 HS.out.2 (by omega) (fun j hj => HE.out j (by omega))).symm
  · obtain rfl : V = false := by rw [← H.out]; exact (wok_parts l s).1 hs
    have HS := Lib.hid hs
    clear H hs
    go_enter Tryz.func28, Tryz.ntmps28
    go_wp2_with fail
    refine (isAlphabet_any s _ false (Lib.hid (decide_eq_false HS.out))).mono ?_
    rintro e w' ⟨rfl, rfl⟩
    go_wp2_with fail
    go_ret
    exact ⟨rfl, rfl⟩
set_option maxHeartbeats 2000000 in
theorem qValid_any (A : Option Addr) (n c : Nat) (l : List Int) (s : Int) (w : World) (h : Ints w l A n c) (V : Bool) (H : Hid (wok l s = V)) :
    Calls Tryz.prog 32 #[.slice A n c, .int .i64 s] w (RetE w (.bool V)) := by
  have hnl := h.len
  by_cases hs : 1 ≤ s ∧ s ≤ 32
  · by_cases hn : 256 < n
    · obtain rfl : V = false := by rw [← H.out]; exact (wok_parts l s).2 (by omega)
      have h2 : (256 : Int) < (n : Int) := by omega
      clear H h hnl
      go_enter Tryz.func32, Tryz.ntmps32
      go_wp2_with fail
      refine (Alphabet_any s _ true (Lib.hid (decide_eq_true hs))).mono ?_
      rintro e w' ⟨rfl, rfl⟩
      go_wp2_with fail
      go_ret
      exact ⟨rfl, rfl⟩
    · have h2 : ¬ (256 : Int) < (n : Int) := by omega
      have hn2 : n ≤ 256 := by omega
      have HN := Lib.hid hnl
      have HL := Lib.hid h
      clear hnl h hn
      go_enter Tryz.func32, Tryz.ntmps32
      go_wp2_with fail
      refine (Alphabet_any s _ true (Lib.hid (decide_eq_true hs))).mono ?_
      rintro e w' ⟨rfl, rfl⟩
      have HS := Lib.hid hs
      clear hs
      go_wp2_with fail
      go_loop [5] (fun i => ∃ k : Nat, k ≤ n ∧ i = .int .i64 k ∧ Hid (∀ j, j < k → 1 ≤ l.getD j 0 ∧ l.getD j 0 ≤ s)) (fun i => n - (intOf i).toNat)
      case atStart => exact ⟨0, Nat.zero_le _, rfl, show Hid _ from fun j h => absurd h (by omega)⟩
      case round =>
        obtain ⟨k, hk, rfl, HE⟩ := hrel
        rcases Nat.lt_or_ge k n with hkn | hkn
        · obtain ⟨b, o, rfl, _, hc⟩ := HL.out.at_ hkn
          obtain ⟨x, hx⟩ : ∃ x, l.getD k 0 = x := ⟨_, rfl⟩
          rw [hx] at hc
          have HX := Lib.hid hx
          clear hx
          by_cases h3 : x < 1
          · go_wp2_with fail
            go_ret
            refine ⟨y_bool ?_, rfl⟩
            rw [← H.out]
            exact (wok_bad (k := k) (by have := HN.out; omega) (by rw [HX.out]; omega)).symm
          · by_cases h4 : s < x
            · go_wp2_with fail
              go_ret
              refine ⟨y_bool ?_, rfl⟩
              rw [← H.out]
              exact (wok_bad (k := k) (by have := HN.out; omega) (by rw [HX.out]; omega)).symm
            · go_wp2_with fail
              go_round
              case rel => exact ⟨k + 1, by omega, by go_num, show Hid _ from fun j hj => by
                rcases Nat.lt_or_eq_of_le (Nat.le_of_lt_succ hj) with h' | rfl
                · exact HE.out j h'
                · rw [HX.out]; omega⟩
              case measure => simp [intOf]; omega
        · go_wp2_with fail
          go_ret
          refine ⟨y_bool ?_, rfl⟩
          rw [← H.out]
          have := HN.out
          exact (wok_at HS.out.1 HS.out.2 (by omega) (fun j hj => HE.out j (by omega))).symm
  · obtain rfl : V = false := by rw [← H.out]; exact (wok_parts l s).1 hs
    have HS := Lib.hid hs
    clear H hs
    go_enter Tryz.func32, Tryz.ntmps32
    go_wp2_with fail
    refine (Alphabet_any s _ false (Lib.hid (decide_eq_false HS.out))).mono ?_
    rintro e w' ⟨rfl, rfl⟩
    go_wp2_with fail
    go_ret
    exact ⟨rfl, rfl⟩
end Go.Proofs.YtdlmhgijpgnilaaGreatDoor

namespace Go.Proofs.YtdlmhgijpgnilaaGreatDoor
open Go.RowKit

theorem cmp_v (a b V : Int) (w : World) (H : Hid (cmpI a b = V)) : Calls Tryz.prog 62 #[.int .i64 a, .int .i64 b] w (RetE w (.int .i64 V)) := by
  rw [← H.out]; exact cmp_int a b w
theorem cmpV_lt {a b : Int} (h : a < b) : cmpI a b = -1 := by unfold cmpI; rw [if_pos h]
theorem cmpV_gt {a b : Int} (h : b < a) : cmpI a b = 1 := by unfold cmpI; rw [if_neg (by omega), if_pos h]
theorem cmpV_eq (a : Int) : cmpI a a = 0 := by unfold cmpI; rw [if_neg (by omega), if_neg (by omega)]
theorem cmpW_len {v w : List Int} (h : v.length ≠ w.length) : cmpW v w = cmpI (v.length : Int) (w.length : Int) := by
  unfold cmpW
  rcases Nat.lt_or_gt_of_ne h with h1 | h1
  · rw [if_pos h1, cmpV_lt (by omega)]
  · rw [if_neg (by omega), if_pos h1, cmpV_gt (by omega)]
set_option maxHeartbeats 2000000 in
theorem slCompare_any (A A' : Option Addr) (n c c' : Nat) (l r : List Int) (w : World) (V : Int) (hx : Ints w l A n c) (hy : Ints w r A' n c') (hn : n ≤ 1073741824) (H : Hid (lexc l r = V)) :
    Calls Tryz.prog 63 #[.slice A n c, .slice A' n c'] w (RetE w (.int .i64 V)) := by
  have LX := Lib.hid hx; have LY := Lib.hid hy
  clear hx hy
  go_enter Tryz.func63, Tryz.ntmps63
  go_wp2_with fail
  go_loop [5, 6, 7, 8, 11] (fun _ _ _ _ i => ∃ k : Nat, k ≤ n ∧ i = .int .i64 (k : Int) ∧ Hid (∀ j, j < k → l.getD j 0 = r.getD j 0)) (fun _ _ _ _ i => n - (intOf i).toNat)
  case atStart => exact ⟨0, Nat.zero_le _, rfl, show Hid _ from fun j h1 => by omega⟩
  case round =>
    obtain ⟨k, hk, rfl, HE⟩ := hrel
    rcases Nat.lt_or_ge k n with hkn | hkn
    · obtain ⟨b, o, rfl, _, hcx⟩ := LX.out.at_ hkn
      obtain ⟨b', o', rfl, _, hcy⟩ := LY.out.at_ hkn
      obtain ⟨s, hs⟩ : ∃ s, l.getD k 0 = s := ⟨_, rfl⟩
      obtain ⟨t, ht⟩ : ∃ s, r.getD k 0 = s := ⟨_, rfl⟩
      rw [hs] at hcx
      rw [ht] at hcy
      have HX := Lib.hid hs; have HY := Lib.hid ht
      clear hs ht
      have hge : ¬ (n : Int) ≤ (k : Int) := by omega
      have hlen := LX.out.len; have hlen' := LY.out.len
      rcases Int.lt_trichotomy s t with hst | hst | hst
      · have HC := Lib.hid (cmpV_lt hst)
        have HV := (lexc_at (l := l) (r := r) (k := k) (by omega) (by omega) HE.out).1 (by rw [HX.out, HY.out]; exact hst)
        obtain rfl : V = -1 := H.out.symm.trans HV
        clear H HV hst hlen hlen'
        go_wp2_with fail
        refine (cmp_v s t (-1) _ HC).mono ?_
        rintro e w' ⟨rfl, rfl⟩
        go_wp2_with fail
        go_ret
        exact ⟨rfl, rfl⟩
      · subst hst
        have HC := Lib.hid (cmpV_eq s)
        clear hlen hlen'
        go_wp2_with fail
        refine (cmp_v s s 0 _ HC).mono ?_
        rintro e w' ⟨rfl, rfl⟩
        go_wp2_with fail
        go_round
        case rel => exact ⟨k + 1, by omega, by go_num, show Hid _ from fun i hi1 => by
          rcases Nat.lt_or_eq_of_le (Nat.le_of_lt_succ hi1) with hi | hi
          · exact HE.out i hi
          · subst hi; rw [HX.out, HY.out]⟩
        case measure => simp [intOf]; omega
      · have HC := Lib.hid (cmpV_gt hst)
        have HV := (lexc_at (l := l) (r := r) (k := k) (by omega) (by omega) HE.out).2 (by rw [HX.out, HY.out]; exact hst)
        obtain rfl : V = 1 := H.out.symm.trans HV
        clear H HV hst hlen hlen'
        go_wp2_with fail
        refine (cmp_v s t 1 _ HC).mono ?_
        rintro e w' ⟨rfl, rfl⟩
        go_wp2_with fail
        go_ret
        exact ⟨rfl, rfl⟩
    · have hlt : ¬ (k : Int) < (n : Int) := by omega
      have hnn : ¬ (n : Int) < (n : Int) := by omega
      go_wp2_with fail
      go_ret
      refine ⟨y_int ?_, rfl⟩
      rw [← H.out]
      have := ints_eq (l := l) (r := r) (by rw [← LX.out.len, ← LY.out.len]) (fun j hj => HE.out j (by have := LX.out.len; omega))
      rw [this, lexc_self]
set_option maxHeartbeats 1000000 in
theorem wCompare_any (A A' : Option Addr) (n c m c' : Nat) (l r : List Int) (w : World) (V : Int) (hx : Ints w l A n c) (hy : Ints w r A' m c') (hn : n ≤ 1073741824) (hm : m ≤ 1073741824) (H : Hid (cmpW l r = V)) :
    Calls Tryz.prog 25 #[.slice A n c, .slice A' m c'] w (RetE w (.int .i64 V)) := by
  have hl := hx.len
  have hl' := hy.len
  by_cases hnm : n = m
  · subst hnm
    have h1 : ((n : Int) != n) = false := by simp
    have HV : Hid (lexc l r = V) := Lib.hid ((cmpW_same (hl.symm.trans hl')).symm.trans H.out)
    clear H hl hl'
    go_enter Tryz.func25, Tryz.ntmps25
    go_wp2_with fail
    refine (slCompare_any A A' n c c' l r _ V hx hy hn HV).mono ?_
    rintro e w' ⟨rfl, rfl⟩
    go_wp2_with fail
    go_ret
    exact ⟨rfl, rfl⟩
  · have h1 : ((n : Int) != m) = true := by simp; omega
    have HV : Hid (cmpI (n : Int) (m : Int) = V) := Lib.hid (by rw [hl, hl', ← cmpW_len (by omega)]; exact H.out)
    clear H hl hl' hnm
    go_enter Tryz.func25, Tryz.ntmps25
    go_wp2_with fail
    refine (cmp_v _ _ V _ HV).mono ?_
    rintro e w' ⟨rfl, rfl⟩
    go_wp2_with fail
    go_ret
    exact ⟨rfl, rfl⟩
set_option maxHeartbeats 2000000 in
theorem qCompare_any (A A' : Option Addr) (n c m c' : Nat) (l r : List Int) (w : World) (V : Int) (hx : Ints w l A n c) (hy : Ints w r A' m c') (hn : n ≤ 1073741824) (hm : m ≤ 1073741824) (H : Hid (cmpW l r = V)) :
    Calls Tryz.prog 47 #[.slice A n c, .slice A' m c'] w (RetD w (.int .i64 V)) := by
  have hl := hx.len
  have hl' := hy.len
  by_cases hnm : n = m
  · subst hnm
    have h1 : ((n : Int) != n) = false := by simp
    have HV : Hid (lexc l r = V) := Lib.hid ((cmpW_same (hl.symm.trans hl')).symm.trans H.out)
    have LX := Lib.hid hx; have LY := Lib.hid hy
    clear H hl hl' hx hy
    go_enter Tryz.func47, Tryz.ntmps47
    go_wp2_with fail
    clear h1
    go_loopw [5] (fun i wr => ∃ k q : Nat, k ≤ n ∧ i = .int .i64 (k : Int) ∧ wr = w.drewN q ∧ Hid (∀ j, j < k → l.getD j 0 = r.getD j 0)) (fun i _ => (n - intOf i).toNat)
    case atStart => exact ⟨0, 0, Nat.zero_le _, rfl, rfl, show Hid _ from fun j h1 => by omega⟩
    case round =>
      obtain ⟨k, q, hk, rfl, rfl, HE⟩ := hrel
      rcases Nat.lt_or_ge k n with hkn | hkn
      · obtain ⟨b, o, rfl, _, hcx⟩ := LX.out.at_ hkn
        obtain ⟨b', o', rfl, _, hcy⟩ := LY.out.at_ hkn
        obtain ⟨s, hs⟩ : ∃ s, l.getD k 0 = s := ⟨_, rfl⟩
        obtain ⟨t, ht⟩ : ∃ s, r.getD k 0 = s := ⟨_, rfl⟩
        rw [hs] at hcx
        rw [ht] at hcy
        have HX := Lib.hid hs; have HY := Lib.hid ht
        have hlen := LX.out.len; have hlen' := LY.out.len
        clear hs ht
        have hkn2 : (k : Int) < (n : Int) := by omega
        rcases Int.lt_trichotomy s t with hst | hst | hst
        · have HW := (lexc_at (l := l) (r := r) (k := k) (by omega) (by omega) HE.out).1 (by rw [HX.out, HY.out]; exact hst)
          obtain rfl : V = -1 := HV.out.symm.trans HW
          clear HV HW hlen hlen'
          go_wp2_with fail
          go_quiet (fail)
          go_wp2_with fail
          go_ret
          exact ⟨rfl, _, World.drewN_drewN ..⟩
        · subst hst
          have hss : ¬ s < s := by omega
          clear hlen hlen'
          go_wp2_with fail
          go_quiet (fail)
          go_wp2_with fail
          go_quiet (fail)
          go_wp2_with fail
          go_roundw
          case rel => exact ⟨k + 1, _, by omega, by go_num, by first | rfl | rw [World.drewN_drewN, World.drewN_drewN], show Hid _ from fun i hi1 => by
            rcases Nat.lt_or_eq_of_le (Nat.le_of_lt_succ hi1) with hi | hi
            · exact HE.out i hi
            · subst hi; rw [HX.out, HY.out]⟩
          case measure => simp [intOf]; omega
        · have HW := (lexc_at (l := l) (r := r) (k := k) (by omega) (by omega) HE.out).2 (by rw [HX.out, HY.out]; exact hst)
          obtain rfl : V = 1 := HV.out.symm.trans HW
          have hst2 : ¬ s < t := by omega
          clear HV HW hlen hlen'
          go_wp2_with fail
          go_quiet (fail)
          go_wp2_with fail
          go_quiet (fail)
          go_wp2_with fail
          go_ret
          exact ⟨rfl, _, by first | rfl | rw [World.drewN_drewN, World.drewN_drewN]⟩
      · have hlt : ¬ (k : Int) < (n : Int) := by omega
        go_wp2_with fail
        go_ret
        refine ⟨y_int ?_, q, rfl⟩
        rw [← HV.out]
        have := ints_eq (l := l) (r := r) (by rw [← LX.out.len, ← LY.out.len]) (fun j hj => HE.out j (by have := LX.out.len; omega))
        rw [this, lexc_self]
  · have h1 : ((n : Int) != m) = true := by simp; omega
    have hV := cmpW_len (v := l) (w := r) (by omega)
    rw [H.out, ← hl, ← hl'] at hV
    rcases Nat.lt_or_gt_of_ne hnm with h2 | h2
    · have h3 : (n : Int) < (m : Int) := by omega
      rw [cmpV_lt h3] at hV
      subst hV
      clear H hl hl' hnm
      go_enter Tryz.func47, Tryz.ntmps47
      go_wp2_with fail
      go_ret
      exact ⟨rfl, 0, rfl⟩
    · have h3 : (m : Int) < (n : Int) := by omega
      have h4 : ¬ (n : Int) < (m : Int) := by omega
      rw [cmpV_gt h3] at hV
      subst hV
      clear H hl hl' hnm
      go_enter Tryz.func47, Tryz.ntmps47
      go_wp2_with fail
      go_ret
      exact ⟨rfl, 0, rfl⟩
set_option maxHeartbeats 1000000 in
theorem qSame_any (A A' : Option Addr) (n c m c' : Nat) (l r : List Int) (w : World) (V : Bool) (hx : Ints w l A n c) (hy : Ints w r A' m c') (hn : n ≤ 1073741824) (hm : m ≤ 1073741824) (H : Hid (decide (l = r) = V)) :
    Calls Tryz.prog 14 #[.slice A n c, .slice A' m c'] w (RetD w (.bool V)) := by
  obtain ⟨C, hC⟩ : ∃ C, cmpW l r = C := ⟨_, rfl⟩
  have hV : (C == 0) = V := by
    rw [← H.out, ← hC]
    by_cases h : l = r
    · rw [decide_eq_true h, cmpW_zero.2 h]; rfl
    · rw [decide_eq_false h]
      exact beq_eq_false_iff_ne.2 (fun h2 => h (cmpW_zero.1 h2))
  have HC := Lib.hid hC
  clear hC H
  go_enter Tryz.func14, Tryz.ntmps14
  go_wp2_with fail
  refine (qCompare_any A A' n c m c' l r _ C hx hy hn hm HC).mono ?_
  rintro e w' ⟨rfl, q, rfl⟩
  go_wp2_with fail
  go_ret
  exact ⟨rfl, q, rfl⟩
end Go.Proofs.YtdlmhgijpgnilaaGreatDoor
