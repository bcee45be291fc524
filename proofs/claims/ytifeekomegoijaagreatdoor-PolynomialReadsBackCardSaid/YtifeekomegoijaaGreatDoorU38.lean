/- texts -/
import Derived.Test.YtifeekomegoijaaGreatDoorU37
import Derived.Shelf.Strings.BuilderK
import Derived.Test.YtifeekomegoijaaGreatDoorU30
import Derived.Test.YtifeekomegoijaaGreatDoorU22
import Derived.Test.YtifeekomegoijaaGreatDoorU13
import Derived.Test.YtifeekomegoijaaGreatDoorU12
import Derived.Test.YtifeekomegoijaaGreatDoorU11
set_option linter.unusedVariables false
set_option linter.unusedSimpArgs false
namespace Go.Proofs.YtifeekomegoijaaGreatDoor
open Go.RowKit

abbrev BT : TypeId := 89
abbrev U8 : TypeId := 5
theorem write_b (B b : Nat) (bs : List Value) (s : ByteArray) (w : World) (h : Lib.IsBuilderF BT U8 B b bs w) (hlen : bs.length + s.size ≤ 140737488355328) (hBw : B ≤ w.heap.size) :
  Calls Tryz.prog 76 #[.pointer (some ⟨b, 0, none⟩), .string s] w fun e w' => e = .returned (.tuple #[.int .i64 s.size, .nilIface]) ∧ (Lib.BuilderAtF BT U8 B b (.pointer (some ⟨b, 0, none⟩)) (bs ++ Lib.strCells s) w' ∧ Below B w w' ∧ Lib.OthersKept U8 (some b) w w') :=
 Any.Builder_WriteString_k { Lx.Tryz.lays156 with } Lx.Tryz.Builder_Extra_156 B b bs s w h hlen hBw
theorem string_b (B b : Nat) (l : List UInt8) (w : World) (h : Lib.IsBuilderF BT U8 B b (Lib.byteCells l) w) (hBw : B ≤ w.heap.size) :
  Calls Tryz.prog 80 #[.pointer (some ⟨b, 0, none⟩)] w fun e w' => e = .returned (.string ⟨l.toArray⟩) ∧ (Lib.IsBuilderF BT U8 B b (Lib.byteCells l) w' ∧ Below B w w' ∧ Lib.OthersKept U8 (some b) w w') :=
 Any.Builder_String_any_k { Lx.Tryz.lays156 with } Lx.Tryz.Builder_Extra_156 B b l w h hBw
theorem owF_below {w w' : World} {base size k : Nat} {e : TypeId} {v : Value} {xs : List Value} (h : w.ownsRowF base e size v k xs) (hb : Below w.heap.size w w') : w'.ownsRowF base e size v k xs := by
 refine ⟨h.1, ?_⟩
 rcases h.2 with h1 | ⟨g, cap, cur, fz, rfl, h2, h3, h4⟩
 ·exact .inl h1
 ·exact .inr ⟨g, cap, cur, fz, rfl, h2, (hb.block g (heap_lt h3)).trans h3, h4⟩
theorem bAt_below {T e : TypeId} {B b : Nat} {p : Value} {bs : List Value} {w w' : World} (h : Lib.BuilderAtF T e B b p bs w) (hb : Below w.heap.size w w') : Lib.BuilderAtF T e B b p bs w' := by
 obtain ⟨h1, v, h2, h3, h4⟩ := h
 exact ⟨h1, v, (hb.block b (heap_lt h2)).trans h2, owF_below h3 hb, h4⟩
theorem isB_below {T e : TypeId} {B b : Nat} {bs : List Value} {w w' : World} (h : Lib.IsBuilderF T e B b bs w) (hb : Below w.heap.size w w') : Lib.IsBuilderF T e B b bs w' :=
 h.elim (fun x => .inl (bAt_below x hb)) (fun x => .inr (bAt_below x hb))
theorem Cs.kept {w w' : World} {g b : Nat} {l : List Value} {t : TypeId} (h : Cs w g l t) (hk : Lib.OthersKept U8 (some b) w w') (hne : g ≠ b) (ht : t ≠ U8) : Cs w' g l t :=
 hk g _ h (fun e => hne (Option.some.inj e)) (fun c fz e => by cases e; exact ht rfl)

def textOf (l : List ByteArray) : List UInt8 := Lib.join (l.map (·.data.toList)) [42]
def monText (i : Nat) (m : Mon) : List UInt8 := signT (decide (i = 0)) (decide (m.2.num < 0)) ++ textOf (factL m)
def fmtTo (l : List Mon) (k : Nat) : List UInt8 := (List.range k).flatMap fun i => (l[i]?.map (monText i)).getD []
def fmtP (l : List Mon) : List UInt8 := if l = [] then [48] else fmtTo l l.length
theorem fmtTo_succ {l : List Mon} {k : Nat} {m : Mon} (h : l[k]? = some m) : fmtTo l (k + 1) = fmtTo l k ++ monText k m := by
 unfold fmtTo
 rw [List.range_succ, List.flatMap_append, List.flatMap_singleton, h]; rfl
theorem fmtQ_le {q : Rat} {L : Nat} (h : Sz q L) (hL : L ≤ 10000) : (fmtQ q).length ≤ 300000 := by
 have h1 := decDigits_le h.1
 have h2 := decDigits_le h.2
 unfold fmtQ
 rw [List.length_append, List.length_append]
 have e1 : (if q.num < 0 then ([45] : List UInt8) else []).length ≤ 1 := by split <;> simp
 have e2 : (if q.den = 1 then ([] : List UInt8) else 47 :: Lib.decDigits q.den).length ≤ 10 * L + 2 := by split <;> simp <;> omega
 omega
theorem factL_ne (m : Mon) (h : absq m.2 = 1 → m.1 ≠ (0, 0, 0)) : factL m ≠ [] := by
 unfold factL numPart
 by_cases h0 : m.1 = (0, 0, 0) ∨ absq m.2 ≠ 1
 ·rw [if_pos h0]; simp
 ·rw [if_neg h0, List.nil_append]
  have h1 : m.1 ≠ (0, 0, 0) := fun e => h0 (.inl e)
  intro he
  apply h1
  have hk : ∀ k < 3, comp m.1 k = 0 := by
   intro k hk
   have h2 : partK k (comp m.1 k) = [] := by
    have h3 : ∀ x ∈ partK k (comp m.1 k), x ∈ parts m.1 3 := fun x hx => List.mem_flatMap.2 ⟨k, List.mem_range.2 hk, hx⟩
    rw [he] at h3
    exact List.eq_nil_iff_forall_not_mem.2 (fun x hx => by simpa using h3 x hx)
   unfold partK at h2
   split at h2
   ·cases h2
   ·split at h2
    ·cases h2
    ·omega
  exact Prod.ext (hk 0 (by omega)) (Prod.ext (hk 1 (by omega)) (hk 2 (by omega)))
theorem factL_ne' (m : Mon) : factL m ≠ [] := by
 by_cases h : m.1 = (0, 0, 0)
 ·unfold factL numPart
  rw [if_pos (.inl h)]; simp
 ·exact factL_ne m (fun _ => h)
theorem lens_le {l : List (List UInt8)} {M : Nat} (h : ∀ x ∈ l, x.length ≤ M) : Lib.lens l ≤ l.length * M := by
 induction l with
 | nil => simp [Lib.lens]
 | cons x r ih =>
  have h1 := h x (by simp)
  have h2 := ih (fun y hy => h y (by simp [hy]))
  simp [Lib.lens] at h2 ⊢
  rw [Nat.add_mul]
  omega
set_option maxRecDepth 20000 in
theorem textOf_le {m : Mon} {L : Nat} (he : deg m.1 ≤ 5) (h : Sz m.2 L) (hL : L ≤ 10000) : (textOf (factL m)).length ≤ 2000000 := by
 have hlen : (factL m).length ≤ 4 := by
  have h1 : (numPart m.1 (absq m.2)).length ≤ 1 := by unfold numPart; split <;> simp
  have h2 : ∀ k, (parts m.1 k).length ≤ k := by
   intro k
   induction k with
   | zero => simp [parts]
   | succ k ih => rw [parts_succ, List.length_append]; have := partK_len k (comp m.1 k); omega
  unfold factL
  rw [List.length_append]; have := h2 3; omega
 have hx : ∀ x ∈ (factL m).map (·.data.toList), x.length ≤ 300000 := by
  intro x hx
  obtain ⟨y, hy, rfl⟩ := List.mem_map.1 hx
  unfold factL at hy
  rcases List.mem_append.1 hy with hy | hy
  ·unfold numPart at hy
   split at hy
   ·obtain rfl := List.mem_singleton.1 hy
    show (fmtQ _).toArray.toList.length ≤ _
    exact fmtQ_le (sz_abs h rfl) hL
   ·cases hy
  ·obtain ⟨k, hk, hy⟩ := List.mem_flatMap.1 hy
   have hk3 := List.mem_range.1 hk
   have hc := comp_le he k
   have hl : (letter k).data.toList.length = 1 := letter_size hk3
   unfold partK at hy
   split at hy
   ·obtain rfl := List.mem_singleton.1 hy
    rw [hl]; decide
   ·split at hy
    ·obtain rfl := List.mem_singleton.1 hy
     have hd : (Lib.decDigits (comp m.1 k)).length = 1 := dec_small _ (by omega)
     simp only [ByteArray.data_append, Array.toList_append, List.length_append, hl, hd]
     decide
    ·cases hy
 unfold textOf
 cases hm : factL m with
 | nil => simp [Lib.join_nil]
 | cons y r =>
  rw [hm] at hx hlen
  rw [List.map_cons, Lib.join_length]
  have h5 := lens_le hx
  simp only [List.length_map, List.map_cons, List.length_cons, List.length_nil] at h5 hlen ⊢
  have : (r.length + 1) * 300000 ≤ 4 * 300000 := Nat.mul_le_mul_right _ hlen
  omega
theorem sign_le (f n : Bool) : (signT f n).length ≤ 3 := by cases f <;> cases n <;> decide
set_option maxRecDepth 20000 in
theorem fmtTo_le {l : List Mon} {L : Nat} (hv : VP l) (h : SzL l L) (hL : L ≤ 10000) : ∀ k, (fmtTo l k).length ≤ k * 2000003 := by
 intro k
 induction k with
 | zero => simp [fmtTo]
 | succ k ih =>
  rw [Nat.add_mul, Nat.one_mul]
  cases hm : l[k]? with
  | none =>
   have : fmtTo l (k + 1) = fmtTo l k := by
    unfold fmtTo
    rw [List.range_succ, List.flatMap_append, List.flatMap_singleton, hm]; simp
   rw [this]; exact Nat.le_trans ih (Nat.le_add_right _ _)
  | some m =>
   rw [fmtTo_succ hm, List.length_append]
   have hmem := List.mem_of_getElem? hm
   have h1 := textOf_le (hv.1 m hmem).1 (h m hmem) hL
   have h2 := sign_le (decide (k = 0)) (decide (m.2.num < 0))
   unfold monText
   rw [List.length_append]
   omega
theorem join_row {w : World} {B : Nat} {v : Value} {l : List ByteArray} (h : RowS w B v l) (h0 : l ≠ []) (hlen : (textOf l).length ≤ 140737488355328) (hl : l.length ≤ 1000000) :
  Calls Tryz.prog 78 #[v, .string ⟨#[42]⟩] w (RetV w (.string ⟨(textOf l).toArray⟩)) := by
 rcases h.2 with ⟨rfl, hz⟩ | ⟨g, cap, cur, rfl, hbase, hg, h1, h2, h3, h4⟩
 ·exact absurd (List.eq_nil_of_length_eq_zero hz) h0
 ·refine Lx.Tryz.strings_Join g 0 cap l ⟨#[42]⟩ w (fun j x hj => ?_) (heap_lt hg) (by omega) h1 hlen
  rw [Nat.zero_add, cell_of_row w g j _ _ _ hg]
  have h5 : (l.map Value.string)[j]? = some (.string x) := by rw [List.getElem?_map, hj]; rfl
  rw [← h4, List.getElem?_take] at h5
  split at h5
  ·rw [← Array.getElem?_toList]; exact h5
  ·cases h5
end Go.Proofs.YtifeekomegoijaaGreatDoor

namespace Go.Proofs.YtifeekomegoijaaGreatDoor
open Go.RowKit

theorem byteCells_app (l r : List UInt8) : Lib.byteCells (l ++ r) = Lib.byteCells l ++ Lib.byteCells r := by simp [Lib.byteCells]
theorem factL_len (m : Mon) : (factL m).length ≤ 1000000 := parts_len m.1 (absq m.2) 3 (Nat.le_refl _)

set_option maxRecDepth 20000 in
set_option maxHeartbeats 4000000 in
theorem Format_p (v : Value) (l : List Mon) (L : Nat) (w : World) (hT : TxF w) (h : PI w v l L) (hL : L ≤ 10000) : Calls Tryz.prog 36 #[v] w (RetV w (.string ⟨(fmtP l).toArray⟩)) := by
 obtain ⟨_, _, _, rfl⟩ := h.slice
 have hvp := h.vp
 have hsp := h.szl
 have hlp := vp_length hvp
 have hC1 := clean_p _ l L w hT.tab h
 have HC1 := Lib.hid hC1
 clear hC1 h
 go_enter Tryz.func36, Tryz.ntmps36
 go_wp2_with fail
 refine HC1.out.mono ?_
 rintro e1 w1 ⟨v1, rfl, hp1, hb1⟩
 have hT1 := hT.below hb1
 obtain ⟨A1, c1, rfl⟩ := hp1.slice
 clear HC1 hT
 rcases Nat.eq_zero_or_pos l.length with h0 | h0
 ·have hl : l = [] := List.eq_nil_of_length_eq_zero h0
  subst hl
  go_wp2_with fail
  go_ret
  exact ⟨rfl, hb1⟩
 ·have hne : l ≠ [] := fun e => by rw [e] at h0; exact absurd h0 (by decide)
  have hz : (((l.length : Int) == 0) : Bool) = false := by simp; omega
  have hB := Lib.IsBuilderF.of (Lib.fresh_isBuilder BT U8 w1)
  have HNE := Lib.hid hne
  clear hne
  go_wp2_with fail
  generalize hW : (w1.alloc (.cells #[.pointer none, .slice none 0 0] 89)) = W at *
  have hbW : Below w1.heap.size w1 W := by rw [← hW]; exact (Below.refl _ _).alloc (Nat.le_refl _) _
  clear hW
  go_loopw [13] (fun i wr => ∃ k : Nat, k ≤ l.length ∧ i = .int .i64 (k : Int) ∧ Lib.IsBuilderF BT U8 w1.heap.size w1.heap.size (Lib.byteCells (fmtTo l k)) wr ∧ Below w1.heap.size w1 wr) (fun i _ => (l.length - intOf i).toNat)
  case atStart => exact ⟨0, Nat.zero_le _, rfl, hB, hbW⟩
  case round =>
   obtain ⟨k, hk, rfl, hBk, hbk⟩ := hrel
   rcases Nat.lt_or_ge k l.length with hkn | hkn
   ·obtain ⟨m, hm⟩ : ∃ m, l[k]? = some m := ⟨l[k], List.getElem?_eq_getElem hkn⟩
    obtain ⟨bq, oq, y0, y1, y2, rfl, hbq, hat, hcoef⟩ := hp1.at hm
    obtain ⟨nb, Ay, ny, cy, By, my, ey, heq⟩ := hcoef.agg
    simp only [Value.agg.injEq, Array.mk.injEq, List.cons.injEq, and_true] at heq
    obtain ⟨rfl, rfl, rfl⟩ := heq
    have hnb : nb = decide (m.2.num < 0) := by
     obtain ⟨_, _, _, _, _, _, e, _, _⟩ := hcoef
     simp only [Value.agg.injEq, Array.mk.injEq, List.cons.injEq, Value.bool.injEq] at e
     exact e.1
    have hmq : m ∈ l := List.mem_of_getElem? hm
    have hdm := (hvp.1 m hmq).1
    have hsm := hsp m hmq
    obtain ⟨x0, x1, x2, x3, x4, x5⟩ := hat.below hbk hbq
    obtain ⟨hb6, d6⟩ := new6 wr (.int .i64 (m.1.1 : Int)) (.int .i64 (m.1.2.1 : Int)) (.int .i64 (m.1.2.2 : Int)) (.bool nb) (.slice Ay ny cy) (.slice By my ey)
    have hlt : (k : Int) < (l.length : Int) := by omega
    have hB6 := isB_below hBk hb6
    have hbk6 := hbk.trans (hb6.mono hbk.size)
    have hsz1 : w1.heap.size ≤ wr.heap.size := hbk.size
    have hlt1 : w1.heap.size < wr.heap.size := by
     rcases hBk with hh | hh
     ·exact hh.lt
     ·exact hh.lt
    have HM := Lib.hid hm
    have HK := Lib.hid hkn
    have HNB := Lib.hid hnb
    have HDM := Lib.hid hdm
    have hc6 := d6.c6
    clear hkn hm hat hnb hmq hdm hBk
    go_wp2_with fail
    generalize hW6 : (wr.alloc (M6 (.int .i64 (m.1.1 : Int)) (.int .i64 (m.1.2.1 : Int)) (.int .i64 (m.1.2.2 : Int)) (.bool nb) (.slice Ay ny cy) (.slice By my ey))) = W6 at *
    clear hW6 x0 x1 x2 x3 x4 x5 hc6
    have hkb : (((k : Int) == 0) : Bool) = decide (k = 0) := by
     by_cases hk0 : k = 0
     ·subst hk0; rfl
     ·have : ¬ ((k : Int) = 0) := by omega
      simp [hk0, this]
    have HKB := Lib.hid hkb
    clear hkb
    refine (sign_any ((k : Int) == 0) nb _).mono ?_
    rintro e2 w2 ⟨rfl, rfl⟩
    obtain ⟨S1, hS1⟩ : ∃ S1, signT ((k : Int) == 0) nb = S1 := ⟨_, rfl⟩
    rw [hS1]
    have hS1l : S1.length ≤ 3 := by rw [← hS1]; exact sign_le _ _
    have hf := fmtTo_le hvp hsp hL k
    have hk56 : k * 2000003 ≤ 56 * 2000003 := Nat.mul_le_mul_right _ (by have := HK.out; omega)
    have HS1 := Lib.hid hS1
    have HWR := Lib.hid (write_b w1.heap.size w1.heap.size _ ⟨S1.toArray⟩ _ hB6 (by rw [Lib.byteCells_length]; show _ + S1.toArray.size ≤ _; rw [List.size_toArray]; omega) hbk6.size)
    clear hS1
    go_wp2_with fail
    refine HWR.out.mono ?_
    rintro e3 w3 ⟨rfl, hB3, hb3, hk3⟩
    have d3 := d6.kept hk3 (by omega) (by decide)
    have hbk3 := hbk6.trans hb3
    have hT3 := hT1.below hbk3
    have hq3 := hcoef.below hbk3
    have hc3 := d3.c6
    clear HWR hB6 hb6 hk3 hb3
    go_wp2_with fail
    have hfl : factL m = numPart m.1 (absq m.2) ++ parts m.1 3 := rfl
    refine (factors_any m.1 nb Ay By ny cy my ey m.2 (absq m.2) L w3 hT3 HDM.out hq3 hsm hL rfl).mono ?_
    rintro e4 w4 ⟨v4, rfl, hrow, hb4⟩
    rw [← hfl] at hrow
    have hbk4 := hbk3.trans (hb4.mono hbk3.size)
    have hB4 := isB_below (.inr hB3) hb4
    have htl := textOf_le HDM.out hsm hL
    have HJ := Lib.hid (join_row hrow (factL_ne' m) (by omega) (factL_len m))
    clear hrow hT3 hq3 hc3 d3 d6 hB3 hb4 hfl
    go_wp2_with fail
    refine HJ.out.mono ?_
    rintro e5 w5 ⟨rfl, hb5⟩
    have hbk5 := hbk4.trans (hb5.mono hbk4.size)
    obtain ⟨S2, hS2⟩ : ∃ S2, textOf (factL m) = S2 := ⟨_, rfl⟩
    rw [hS2] at htl
    have HS2 := Lib.hid hS2
    have HWR2 := Lib.hid (write_b w1.heap.size w1.heap.size _ ⟨S2.toArray⟩ _ (isB_below hB4 hb5) (by rw [List.length_append, Lib.byteCells_length, Lib.strCells_length]; show _ + S1.toArray.size + S2.toArray.size ≤ _; rw [List.size_toArray, List.size_toArray]; omega) hbk5.size)
    rw [hS2]
    clear hS2 HJ hB4 hb5
    go_wp2_with fail
    refine HWR2.out.mono ?_
    rintro e6 w6 ⟨rfl, hB6, hb6, _⟩
    have hbk6' := hbk5.trans hb6
    clear HWR2 hb6
    go_wp2_with fail
    go_roundw
    case rel =>
     refine ⟨k + 1, HK.out, congrArg (Value.int _) (by omega), .inr ?_, hbk6'⟩
     rw [fmtTo_succ HM.out]
     unfold monText
     rw [← HKB.out, ← HNB.out, HS1.out, HS2.out, byteCells_app, byteCells_app, ← List.append_assoc]
     exact hB6
    case measure => simp [intOf]; have := HK.out; omega
   ·obtain rfl : k = l.length := by omega
    have hlt : ¬ ((l.length : Int) < (l.length : Int)) := by omega
    have HSB := Lib.hid (string_b w1.heap.size w1.heap.size _ _ hBk hbk.size)
    clear hBk
    go_wp2_with fail
    refine HSB.out.mono ?_
    rintro e4 w4 ⟨rfl, _, hb4, _⟩
    go_wp2_with fail
    go_ret
    refine ⟨?_, hb1.trans ((hbk.trans hb4).mono hb1.size)⟩
    unfold fmtP
    rw [if_neg HNE.out]
    rfl
end Go.Proofs.YtifeekomegoijaaGreatDoor

namespace Go.Proofs.YtifeekomegoijaaGreatDoor
open Go.RowKit

theorem dig_ok {d : Nat} (h : d < 10) : isDig (UInt8.ofNat (48 + d)) = true ∧ (UInt8.ofNat (48 + d)).toNat - 48 = d := by
 have e : (UInt8.ofNat (48 + d)).toNat = 48 + d := by rw [UInt8.toNat_ofNat']; omega
 unfold isDig
 rw [e]
 exact ⟨decide_eq_true (by omega), by omega⟩
theorem dec_all (n : Nat) : ∀ c ∈ Lib.decDigits n, isDig c = true := by
 induction n using Nat.strongRecOn with
 | _ n ih =>
  by_cases h : n < 10
  ·rw [Lib.decDigits, dif_pos h]
   intro c hc
   have : c = UInt8.ofNat (48 + n) := by simpa using hc
   rw [this]; exact (dig_ok h).1
  ·rw [decDigits_big h]
   intro c hc
   rcases List.mem_append.1 hc with hc | hc
   ·exact ih (n / 10) (by omega) c hc
   ·have : c = UInt8.ofNat (48 + n % 10) := by simpa using hc
    rw [this]; exact (dig_ok (Nat.mod_lt _ (by decide))).1
theorem dec_val (n : Nat) : decVal 0 (Lib.decDigits n) = some n := by
 induction n using Nat.strongRecOn with
 | _ n ih =>
  by_cases h : n < 10
  ·rw [Lib.decDigits, dif_pos h]
   simp only [decVal, (dig_ok h).1, (dig_ok h).2, if_true]
   congr 1; omega
  ·rw [decDigits_big h, decVal_append, ih (n / 10) (by omega)]
   have hm := Nat.mod_lt n (show 0 < 10 by decide)
   simp only [Option.bind_some, decVal, (dig_ok hm).1, (dig_ok hm).2, if_true]
   congr 1; omega
theorem dec_head (n : Nat) (h0 : 1 ≤ n) : (Lib.decDigits n).getD 0 0 ≠ 48 := by
 induction n using Nat.strongRecOn with
 | _ n ih =>
  by_cases h : n < 10
  ·rw [Lib.decDigits, dif_pos h]
   have e : (UInt8.ofNat (48 + n)).toNat = 48 + n := by rw [UInt8.toNat_ofNat']; omega
   intro hh
   have h1 : (UInt8.ofNat (48 + n)) = 48 := by simpa using hh
   rw [h1] at e
   have : (48 : UInt8).toNat = 48 := rfl
   omega
  ·rw [decDigits_big h]
   have h1 := ih (n / 10) (by omega) (by omega)
   have h2 := decDigits_pos (n / 10)
   rw [List.getD_eq_getElem?_getD, List.getElem?_append_left (by omega), ← List.getD_eq_getElem?_getD]
   exact h1
theorem read_dec {n k : Nat} (h : (limbs n).length ≤ k) (hk : k ≤ 100) : readDec (Lib.decDigits n) = some n := by
 unfold readDec
 rw [if_neg, dec_val]
 intro hh
 have h1 := decDigits_pos n
 have h2 := decDigits_le h
 rcases hh with hh | hh | ⟨hh, h3⟩
 ·omega
 ·omega
 ·rcases Nat.eq_zero_or_pos n with h0 | h0
  ·subst h0
   rw [dec_zero] at hh
   simp at hh
  ·exact dec_head n h0 h3
theorem no_dig {c : UInt8} (h : isDig c = true) : c ≠ 47 ∧ c ≠ 45 := by
 unfold isDig at h
 have h1 := of_decide_eq_true h
 refine ⟨fun e => ?_, fun e => ?_⟩ <;> (rw [e] at h1; revert h1; decide)
theorem index_hit47 (l r : List UInt8) (h : ∀ c ∈ l, c ≠ 47) : Lib.index (l ++ 47 :: r) [47] = l.length := by
 induction l with
 | nil => simp [Lib.index, List.isPrefixOf]
 | cons b l ih =>
  have hb := h b List.mem_cons_self
  have h1 := ih (fun c hc => h c (List.mem_cons_of_mem _ hc))
  have hne : (47 == b) = false := beq_eq_false_iff_ne.2 (fun e => hb e.symm)
  simp only [List.cons_append, Lib.index, List.isPrefixOf, hne, Bool.false_and, Bool.false_eq_true, if_false, h1]
  rw [if_neg (by simp)]
  simp
theorem index_miss47 (l : List UInt8) (h : ∀ c ∈ l, c ≠ 47) : Lib.index l [47] = -1 := by
 induction l with
 | nil => rfl
 | cons b l ih =>
  have hb := h b List.mem_cons_self
  have h1 := ih (fun c hc => h c (List.mem_cons_of_mem _ hc))
  have hne : (47 == b) = false := beq_eq_false_iff_ne.2 (fun e => hb e.symm)
  simp only [Lib.index, List.isPrefixOf, hne, Bool.false_and, Bool.false_eq_true, if_false, h1]
  rfl
theorem cut_hit47 (l r : List UInt8) (h : ∀ c ∈ l, c ≠ 47) : Lib.cut (l ++ 47 :: r) [47] = (l, r, true) := by
 unfold Lib.cut
 rw [index_hit47 l r h, if_pos (by omega)]
 simp
theorem cut_miss47 (l : List UInt8) (h : ∀ c ∈ l, c ≠ 47) : Lib.cut l [47] = (l, [], false) := by
 unfold Lib.cut
 rw [index_miss47 l h, if_neg (by omega)]
theorem prefix_no {l : List UInt8} (h : ∀ c ∈ l, c ≠ 45) : Lib.hasPrefix l [45] = false := by
 cases l with
 | nil => rfl
 | cons b l =>
  have hb := h b List.mem_cons_self
  have hne : (45 == b) = false := beq_eq_false_iff_ne.2 (fun e => hb e.symm)
  simp [Lib.hasPrefix, List.isPrefixOf, hne]
theorem prefix_yes (l : List UInt8) : Lib.hasPrefix (45 :: l) [45] = true := by simp [Lib.hasPrefix, List.isPrefixOf]
def tailQ (q : Rat) : List UInt8 := Lib.decDigits q.num.natAbs ++ (if q.den = 1 then [] else 47 :: Lib.decDigits q.den)
theorem parse_tail {q : Rat} {k : Nat} (hS : Sz q k) (hk : k ≤ 100) (neg : Bool) (hn : decide (q.num < 0) = neg) :
  (match readDec (Lib.cut (tailQ q) [47]).1 with
  | none => none
  | some n => if (Lib.cut (tailQ q) [47]).2.2 then (match readDec (Lib.cut (tailQ q) [47]).2.1 with | none => none | some d => if d = 0 then none else some (qv neg n d)) else some (qv neg n 1)) = some q := by
 have h1 : ∀ c ∈ Lib.decDigits q.num.natAbs, c ≠ 47 := fun c hc => (no_dig (dec_all _ c hc)).1
 unfold tailQ
 by_cases hd : q.den = 1
 ·rw [if_pos hd, List.append_nil, cut_miss47 _ h1]
  simp only [read_dec hS.1 hk, Bool.false_eq_true, if_false]
  rw [← hn]
  have := qv_self q
  rw [hd] at this
  rw [this]
 ·rw [if_neg hd, cut_hit47 _ _ h1]
  simp only [read_dec hS.1 hk, read_dec hS.2 hk, if_true, q.den_nz, if_false]
  rw [← hn, qv_self]
theorem parse_fmt {q : Rat} {k : Nat} (hS : Sz q k) (hk : k ≤ 100) : parseQ (fmtQ q) = some q := by
 have ht : ∀ c ∈ tailQ q, c ≠ 45 := by
  intro c hc
  unfold tailQ at hc
  rcases List.mem_append.1 hc with hc | hc
  ·exact (no_dig (dec_all _ c hc)).2
  ·split at hc
   ·simp at hc
   ·rcases List.mem_cons.1 hc with hc | hc
    ·rw [hc]; decide
    ·exact (no_dig (dec_all _ c hc)).2
 by_cases h : q.num < 0
 ·have e : fmtQ q = 45 :: tailQ q := by unfold fmtQ tailQ; rw [if_pos h]; simp
  rw [e]
  unfold parseQ Lib.trimPrefix
  rw [prefix_yes]
  simp only [if_true, List.length_cons, List.length_nil, Nat.zero_add, List.drop_succ_cons, List.drop_zero]
  exact parse_tail hS hk true (decide_eq_true h)
 ·have e : fmtQ q = tailQ q := by unfold fmtQ tailQ; rw [if_neg h]; simp
  rw [e]
  unfold parseQ Lib.trimPrefix
  rw [prefix_no ht]
  simp only [Bool.false_eq_true, if_false]
  exact parse_tail hS hk false (decide_eq_false h)
end Go.Proofs.YtifeekomegoijaaGreatDoor

namespace Go.Proofs.YtifeekomegoijaaGreatDoor
open Go.RowKit

set_option maxRecDepth 20000 in
set_option maxHeartbeats 2000000 in
theorem r2_order (x0 x1 x2 y0 y1 y2 : Int) (w : World) (V : Int) (H : Hid (lexI (x0, x1, x2) (y0, y1, y2) = V)) : Calls Tryz.prog 52 #[eV x0 x1 x2, eV y0 y1 y2] w (RetV w (.int .i64 V)) := by
 obtain ⟨hb, c1, c2⟩ := blk2 w (e3 x0 x1 x2) (e3 y0 y1 y2) 57 57
 have hmx : Tryz.prog.follows .mixedOrders = true := by kernel_rfl
 go_enter Tryz.func52, Tryz.ntmps52
 go_wp2_with fail
 generalize ((w.alloc (.cells #[.int .i64 x0, .int .i64 x1, .int .i64 x2] 57)).alloc (.cells #[.int .i64 y0, .int .i64 y1, .int .i64 y2] 57)) = W at *
 refine wp_loop_rounds 4 ?_
 rw [rounds_succ]
 have a0 : (W).cell? ⟨w.heap.size, 0, none⟩ = some (.int .i64 x0) := c1.cell rfl
 have b0 : (W).cell? ⟨w.heap.size + 1, 0, none⟩ = some (.int .i64 y0) := c2.cell rfl
 rcases Int.lt_trichotomy x0 y0 with h0 | h0 | h0
 ·have HV : V = -1 := by rw [← H.out]; unfold lexI; simp only; rw [if_pos h0]
  have hn : ((x0 == y0) : Bool) = false := by simp; omega
  have hl : x0 < y0 := h0
  go_wp2_with fail
  go_region_o
  all_goals go_wp2_with fail
  all_goals go_region_o
  all_goals go_wp2_with fail
  all_goals go_ret
  all_goals exact ⟨by rw [HV]; rfl, hb.drew.drew⟩
 ·subst h0
  go_wp2_with fail
  go_region_o
  go_wp2_with fail
  clear a0 b0
  rw [rounds_succ]
  have a1 : (W.drew).cell? ⟨w.heap.size, 1, none⟩ = some (.int .i64 x1) := c1.cell rfl
  have b1 : (W.drew).cell? ⟨w.heap.size + 1, 1, none⟩ = some (.int .i64 y1) := c2.cell rfl
  rcases Int.lt_trichotomy x1 y1 with h1 | h1 | h1
  ·have HV : V = -1 := by rw [← H.out]; unfold lexI; simp only; rw [if_neg (by omega), if_neg (by omega)]; rw [if_pos h1]
   have hn : ((x1 == y1) : Bool) = false := by simp; omega
   have hl : x1 < y1 := h1
   go_wp2_with fail
   go_region_o
   all_goals go_wp2_with fail
   all_goals go_region_o
   all_goals go_wp2_with fail
   all_goals go_ret
   all_goals exact ⟨by rw [HV]; rfl, hb.drew.drew.drew⟩
  ·subst h1
   go_wp2_with fail
   go_region_o
   go_wp2_with fail
   clear a1 b1
   rw [rounds_succ]
   have a2 : (W.drew.drew).cell? ⟨w.heap.size, 2, none⟩ = some (.int .i64 x2) := c1.cell rfl
   have b2 : (W.drew.drew).cell? ⟨w.heap.size + 1, 2, none⟩ = some (.int .i64 y2) := c2.cell rfl
   rcases Int.lt_trichotomy x2 y2 with h2 | h2 | h2
   ·have HV : V = -1 := by rw [← H.out]; unfold lexI; simp only; rw [if_neg (by omega), if_neg (by omega)]; rw [if_neg (by omega), if_neg (by omega)]; rw [if_pos h2]
    have hn : ((x2 == y2) : Bool) = false := by simp; omega
    have hl : x2 < y2 := h2
    go_wp2_with fail
    go_region_o
    all_goals go_wp2_with fail
    all_goals go_region_o
    all_goals go_wp2_with fail
    all_goals go_ret
    all_goals exact ⟨by rw [HV]; rfl, hb.drew.drew.drew.drew⟩
   ·subst h2
    go_wp2_with fail
    go_region_o
    go_wp2_with fail
    clear a2 b2
    rw [rounds_succ]
    go_wp2_with fail
    go_ret
    have HV : V = 0 := by rw [← H.out]; unfold lexI; simp only; rw [if_neg (by omega), if_neg (by omega)]; rw [if_neg (by omega), if_neg (by omega)]; rw [if_neg (by omega), if_neg (by omega)]
    exact ⟨by rw [HV]; rfl, hb.drew.drew.drew⟩
   ·have HV : V = 1 := by rw [← H.out]; unfold lexI; simp only; rw [if_neg (by omega), if_neg (by omega)]; rw [if_neg (by omega), if_neg (by omega)]; rw [if_neg (by omega), if_pos h2]
    have hn : ((x2 == y2) : Bool) = false := by simp; omega
    have hl : ¬ x2 < y2 := by omega
    go_wp2_with fail
    go_region_o
    all_goals go_wp2_with fail
    all_goals go_region_o
    all_goals go_wp2_with fail
    all_goals go_ret
    all_goals exact ⟨by rw [HV]; rfl, hb.drew.drew.drew.drew⟩
  ·have HV : V = 1 := by rw [← H.out]; unfold lexI; simp only; rw [if_neg (by omega), if_neg (by omega)]; rw [if_neg (by omega), if_pos h1]
   have hn : ((x1 == y1) : Bool) = false := by simp; omega
   have hl : ¬ x1 < y1 := by omega
   go_wp2_with fail
   go_region_o
   all_goals go_wp2_with fail
   all_goals go_region_o
   all_goals go_wp2_with fail
   all_goals go_ret
   all_goals exact ⟨by rw [HV]; rfl, hb.drew.drew.drew⟩
 ·have HV : V = 1 := by rw [← H.out]; unfold lexI; simp only; rw [if_neg (by omega), if_pos h0]
  have hn : ((x0 == y0) : Bool) = false := by simp; omega
  have hl : ¬ x0 < y0 := by omega
  go_wp2_with fail
  go_region_o
  all_goals go_wp2_with fail
  all_goals go_region_o
  all_goals go_wp2_with fail
  all_goals go_ret
  all_goals exact ⟨by rw [HV]; rfl, hb.drew.drew⟩
set_option maxRecDepth 20000 in
set_option maxHeartbeats 2000000 in
theorem r2_possible (x0 x1 x2 : Int) (w : World) (V : Bool) (H : Hid (knownI (x0, x1, x2) = V)) : Calls Tryz.prog 49 #[eV x0 x1 x2] w (RetV w (.bool V)) := by
 obtain ⟨hb, c1⟩ := blk1 w (e3 x0 x1 x2) 57
 obtain ⟨a0, a1, a2⟩ := c1.c3
 go_enter Tryz.func49, Tryz.ntmps49
 go_wp2_with fail
 generalize (w.alloc (.cells #[.int .i64 x0, .int .i64 x1, .int .i64 x2] 57)) = W at *
 refine wp_loop_rounds 4 ?_
 rw [rounds_succ]
 rcases out5 x0 with m00 | ⟨m00, m01⟩ | ⟨m00, m01, m02, m03⟩
 ·have g := of_decide_eq_true m00
  go_wp2_with fail
  go_ret
  exact ⟨ret_bool (by rw [← H.out]; unfold knownI; exact (decide_eq_false (by simp only; omega)).symm), hb⟩
 ·have g := of_decide_eq_true m01
  go_wp2_with fail
  go_ret
  exact ⟨ret_bool (by rw [← H.out]; unfold knownI; exact (decide_eq_false (by simp only; omega)).symm), hb⟩
 ·have hw0 : IntKind.i64.wrap (0 + x0) = 0 + x0 := IntWalk.i64_in _ (by omega)
  go_wp2_with fail
  rw [rounds_succ]
  rcases out5 x1 with m10 | ⟨m10, m11⟩ | ⟨m10, m11, m12, m13⟩
  ·have g := of_decide_eq_true m10
   go_wp2_with fail
   go_ret
   exact ⟨ret_bool (by rw [← H.out]; unfold knownI; exact (decide_eq_false (by simp only; omega)).symm), hb⟩
  ·have g := of_decide_eq_true m11
   go_wp2_with fail
   go_ret
   exact ⟨ret_bool (by rw [← H.out]; unfold knownI; exact (decide_eq_false (by simp only; omega)).symm), hb⟩
  ·have hw1 : IntKind.i64.wrap (x0 + x1) = x0 + x1 := IntWalk.i64_in _ (by omega)
   go_wp2_with fail
   rw [rounds_succ]
   rcases out5 x2 with m20 | ⟨m20, m21⟩ | ⟨m20, m21, m22, m23⟩
   ·have g := of_decide_eq_true m20
    go_wp2_with fail
    go_ret
    exact ⟨ret_bool (by rw [← H.out]; unfold knownI; exact (decide_eq_false (by simp only; omega)).symm), hb⟩
   ·have g := of_decide_eq_true m21
    go_wp2_with fail
    go_ret
    exact ⟨ret_bool (by rw [← H.out]; unfold knownI; exact (decide_eq_false (by simp only; omega)).symm), hb⟩
   ·have hw2 : IntKind.i64.wrap (x0 + x1 + x2) = x0 + x1 + x2 := IntWalk.i64_in _ (by omega)
    go_wp2_with fail
    rw [rounds_succ]
    have hv : decide (x0 + x1 + x2 ≤ 5) = V := by rw [← H.out]; unfold knownI; exact decide_eq_decide.2 (by simp only; omega)
    have hw3 : (x0 + x1 + x2 ≤ 5) ↔ V = true := by rw [← hv]; simp
    clear m00 m01 m02 m03 m10 m11 m12 m13 m20 m21 m22 m23
    go_wp2_with fail
    go_ret
    exact ⟨ret_bool (by simp), hb⟩
end Go.Proofs.YtifeekomegoijaaGreatDoor

namespace Go.Proofs.YtifeekomegoijaaGreatDoor
open Go.RowKit

set_option maxRecDepth 20000 in
set_option maxHeartbeats 4000000 in
theorem r2_Same (v v' : Value) (l l' : List Mon) (w : World) (h : Pol w v l) (h' : Pol w v' l') (sl : SzL l 100000000) (sl' : SzL l' 100000000) (hn : l.length ≤ 1000000) (hn' : l'.length ≤ 1000000) : Calls Tryz.prog 16 #[v, v'] w (RetV w (.bool (decide (l = l')))) := by
 obtain ⟨A, c, rfl⟩ := h.slice
 obtain ⟨A', c', rfl⟩ := h'.slice
 have hmx : Tryz.prog.follows .mixedOrders = true := by kernel_rfl
 by_cases hlen : l.length = l'.length
 ·rw [← hlen]
  have HLEN := Lib.hid hlen
  clear hlen
  go_enter Tryz.func16, Tryz.ntmps16
  go_wp2_with fail
  go_loopw [5] (fun i wr => ∃ k : Nat, k ≤ l.length ∧ i = .int .i64 (k : Int) ∧ Below w.heap.size w wr ∧ Hid (∀ j, j < k → l[j]? = l'[j]?)) (fun i _ => (l.length - intOf i).toNat)
  case atStart => exact ⟨0, Nat.zero_le _, rfl, Below.refl _ _, fun j hj => absurd hj (Nat.not_lt_zero _)⟩
  case round =>
   obtain ⟨k, hk, rfl, hb, hO⟩ := hrel
   by_cases hkn : k < l.length
   ·obtain ⟨m, hm⟩ : ∃ m, l[k]? = some m := ⟨l[k], List.getElem?_eq_getElem hkn⟩
    obtain ⟨m', hm'⟩ : ∃ m', l'[k]? = some m' := ⟨l'[k], List.getElem?_eq_getElem (by have := HLEN.out; omega)⟩
    obtain ⟨b, o, y0, y1, y2, rfl, hbq, hat, hcoef⟩ := h.at hm
    obtain ⟨b', o', y0', y1', y2', rfl, hbq', hat', hcoef'⟩ := h'.at hm'
    have hlt : (k : Int) < (l.length : Int) := by omega
    have hw1 : IntKind.i64.wrap ((k : Int) + 1) = (k : Int) + 1 := IntWalk.i64_in _ (by omega)
    obtain ⟨nb, Ay, ny, cy, By, my, ey, heq⟩ := hcoef.agg
    simp only [Value.agg.injEq, Array.mk.injEq, List.cons.injEq, and_true] at heq
    obtain ⟨rfl, rfl, rfl⟩ := heq
    obtain ⟨nb', Ay', ny', cy', By', my', ey', heq⟩ := hcoef'.agg
    simp only [Value.agg.injEq, Array.mk.injEq, List.cons.injEq, and_true] at heq
    obtain ⟨rfl, rfl, rfl⟩ := heq
    have hatw := hat.below hb hbq
    have hatw' := hat'.below hb hbq'
    have hq := (hcoef.below hb).below (Below.refl _ _).drew
    have hq' := (hcoef'.below hb).below (Below.refl _ _).drew
    have hsm := sl m (List.mem_of_getElem? hm)
    have hsm' := sl' m' (List.mem_of_getElem? hm')
    have HM := Lib.hid hm
    have HM' := Lib.hid hm'
    have HK := Lib.hid hkn
    by_cases he : m.1 = m'.1
    ·have heq : ∀ w : World, (Op.equalIn 10000 57 (.agg #[.int .i64 (m.1.1 : Int), .int .i64 (m.1.2.1 : Int), .int .i64 (m.1.2.2 : Int)]) (.agg #[.int .i64 (m'.1.1 : Int), .int .i64 (m'.1.2.1 : Int), .int .i64 (m'.1.2.2 : Int)])).run Tryz.prog w = .ok true w := fun w => by
      rw [eq_exps, he]; simp
     have HE := Lib.hid he
     obtain ⟨x0, x1, x2, x3, x4, x5⟩ := (show At6 wr.drew _ _ _ _ _ _ _ _ from hatw)
     obtain ⟨z0, z1, z2, z3, z4, z5⟩ := (show At6 wr.drew _ _ _ _ _ _ _ _ from hatw')
     clear he hm hm' hkn
     go_wp2_with fail
     have HS := Lib.hid (r_Same _ _ m.2 m'.2 wr.drew hq hq' hsm hsm')
     have hat5 := (show At6 wr.drew _ _ _ _ _ _ _ _ from hatw)
     have hat5' := (show At6 wr.drew _ _ _ _ _ _ _ _ from hatw')
     have g1 : b < wr.drew.heap.size := Nat.lt_of_lt_of_le hbq hb.size
     have g2 : b' < wr.drew.heap.size := Nat.lt_of_lt_of_le hbq' hb.size
     by_cases hv : m.2 = m'.2
     ·rw [decide_eq_true hv] at HS
      have HV := Lib.hid hv
      clear hv
      go_region_held3 (fun w' => (w'.cell? ⟨b, o + k * 6, none⟩ = some (.int .i64 (m.1.1 : Int)) ∧ w'.cell? ⟨b, o + k * 6 + 1, none⟩ = some (.int .i64 (m.1.2.1 : Int)) ∧ w'.cell? ⟨b, o + k * 6 + 2, none⟩ = some (.int .i64 (m.1.2.2 : Int)) ∧ w'.cell? ⟨b, o + k * 6 + 3, none⟩ = some (.bool nb) ∧ w'.cell? ⟨b, o + k * 6 + 4, none⟩ = some (.slice Ay ny cy) ∧ w'.cell? ⟨b, o + k * 6 + 5, none⟩ = some (.slice By my ey)) ∧ (w'.cell? ⟨b', o' + k * 6, none⟩ = some (.int .i64 (m'.1.1 : Int)) ∧ w'.cell? ⟨b', o' + k * 6 + 1, none⟩ = some (.int .i64 (m'.1.2.1 : Int)) ∧ w'.cell? ⟨b', o' + k * 6 + 2, none⟩ = some (.int .i64 (m'.1.2.2 : Int)) ∧ w'.cell? ⟨b', o' + k * 6 + 3, none⟩ = some (.bool nb') ∧ w'.cell? ⟨b', o' + k * 6 + 4, none⟩ = some (.slice Ay' ny' cy') ∧ w'.cell? ⟨b', o' + k * 6 + 5, none⟩ = some (.slice By' my' ey')))
       (first | with_reducible exact ⟨⟨x0, x1, x2, x3, x4, x5⟩, ⟨z0, z1, z2, z3, z4, z5⟩⟩ | with_reducible exact ⟨ya, yb⟩ | fail)
       (first
        | (go_at_call 23; refine HS.out.mono ?_; rintro e5 x5' ⟨rfl, hb5⟩; have ya : _ ∧ _ ∧ _ ∧ _ ∧ _ ∧ _ := hat5.below hb5 g1; have yb : _ ∧ _ ∧ _ ∧ _ ∧ _ ∧ _ := hat5'.below hb5 g2)
        | fail)
      go_wp2_with fail
      go_roundw
      case rel =>
       refine ⟨k + 1, HK.out, congrArg (Value.int _) (by omega), hb.drew.trans (hb5.mono hb.size), fun j hj => ?_⟩
       rcases Nat.lt_or_ge j k with hjk | hjk
       ·exact hO.out j hjk
       ·obtain rfl : j = k := by omega
        rw [HM.out, HM'.out, Prod.ext HE.out HV.out]
      case measure => simp [intOf]; have := HK.out; omega
     ·rw [decide_eq_false hv] at HS
      have HV : Hid (decide (l = l') = false) := decide_eq_false (fun e => by have h1 := HM.out; rw [e, HM'.out] at h1; cases h1; exact hv rfl)
      clear hv
      go_region_held3 (fun w' => (w'.cell? ⟨b, o + k * 6, none⟩ = some (.int .i64 (m.1.1 : Int)) ∧ w'.cell? ⟨b, o + k * 6 + 1, none⟩ = some (.int .i64 (m.1.2.1 : Int)) ∧ w'.cell? ⟨b, o + k * 6 + 2, none⟩ = some (.int .i64 (m.1.2.2 : Int)) ∧ w'.cell? ⟨b, o + k * 6 + 3, none⟩ = some (.bool nb) ∧ w'.cell? ⟨b, o + k * 6 + 4, none⟩ = some (.slice Ay ny cy) ∧ w'.cell? ⟨b, o + k * 6 + 5, none⟩ = some (.slice By my ey)) ∧ (w'.cell? ⟨b', o' + k * 6, none⟩ = some (.int .i64 (m'.1.1 : Int)) ∧ w'.cell? ⟨b', o' + k * 6 + 1, none⟩ = some (.int .i64 (m'.1.2.1 : Int)) ∧ w'.cell? ⟨b', o' + k * 6 + 2, none⟩ = some (.int .i64 (m'.1.2.2 : Int)) ∧ w'.cell? ⟨b', o' + k * 6 + 3, none⟩ = some (.bool nb') ∧ w'.cell? ⟨b', o' + k * 6 + 4, none⟩ = some (.slice Ay' ny' cy') ∧ w'.cell? ⟨b', o' + k * 6 + 5, none⟩ = some (.slice By' my' ey')))
       (first | with_reducible exact ⟨⟨x0, x1, x2, x3, x4, x5⟩, ⟨z0, z1, z2, z3, z4, z5⟩⟩ | with_reducible exact ⟨ya, yb⟩ | fail)
       (first
        | (go_at_call 23; refine HS.out.mono ?_; rintro e5 x5' ⟨rfl, hb5⟩; have ya : _ ∧ _ ∧ _ ∧ _ ∧ _ ∧ _ := hat5.below hb5 g1; have yb : _ ∧ _ ∧ _ ∧ _ ∧ _ ∧ _ := hat5'.below hb5 g2)
        | fail)
      go_wp2_with fail
      go_ret
      exact ⟨by rw [HV.out]; rfl, hb.drew.trans (hb5.mono hb.size)⟩
    ·have heq : ∀ w : World, (Op.equalIn 10000 57 (.agg #[.int .i64 (m.1.1 : Int), .int .i64 (m.1.2.1 : Int), .int .i64 (m.1.2.2 : Int)]) (.agg #[.int .i64 (m'.1.1 : Int), .int .i64 (m'.1.2.1 : Int), .int .i64 (m'.1.2.2 : Int)])).run Tryz.prog w = .ok false w := fun w => by
      rw [eq_exps]
      congr 1
      rw [Bool.eq_false_iff]
      intro hh
      simp only [Bool.and_eq_true, beq_iff_eq] at hh
      exact he (Prod.ext (by omega) (Prod.ext (by omega) (by omega)))
     have HV : Hid (decide (l = l') = false) := decide_eq_false (fun e => by rw [e] at hm; rw [hm] at hm'; cases hm'; exact he rfl)
     obtain ⟨x0, x1, x2, x3, x4, x5⟩ := (show At6 wr.drew _ _ _ _ _ _ _ _ from hatw)
     obtain ⟨z0, z1, z2, z3, z4, z5⟩ := (show At6 wr.drew _ _ _ _ _ _ _ _ from hatw')
     clear he hm hm' hkn
     go_wp2_with fail
     go_big_region_o
     all_goals go_wp2_with fail
     all_goals go_ret
     all_goals exact ⟨by rw [HV.out]; rfl, hb.drew⟩
   ·obtain rfl : k = l.length := by omega
    have hlt : ¬ ((l.length : Int) < (l.length : Int)) := by omega
    have HV : Hid (decide (l = l') = true) := decide_eq_true (List.ext_getElem? (fun j => by
     by_cases hj : j < l.length
     ·exact hO.out j hj
     ·rw [List.getElem?_eq_none (by omega), List.getElem?_eq_none (by have := HLEN.out; omega)]))
    go_wp2_with fail
    go_ret
    exact ⟨by rw [HV.out]; rfl, hb⟩
 ·have hne : (((l.length : Int) == (l'.length : Int)) : Bool) = false := by simp; omega
  have HV : Hid (decide (l = l') = false) := decide_eq_false (fun e => hlen (by rw [e]))
  clear hlen
  go_enter Tryz.func16, Tryz.ntmps16
  go_wp2_with fail
  go_ret
  exact ⟨by rw [HV.out]; rfl, Below.refl _ _⟩
end Go.Proofs.YtifeekomegoijaaGreatDoor

namespace Go.Proofs.YtifeekomegoijaaGreatDoor
open Go.RowKit

theorem pol_one {w : World} {g : Nat} {e : Ex} {z0 z1 z2 : Value} {q : Rat} {t : TypeId} (h : Cs w g [.int .i64 (e.1 : Int), .int .i64 (e.2.1 : Int), .int .i64 (e.2.2 : Int), z0, z1, z2] t) (hq : RatQ w (.agg #[z0, z1, z2]) q) : Pol w (.slice (some ⟨g, 0, none⟩) 1 1) [(e, q)] := by
 refine ⟨some ⟨g, 0, none⟩, 1, 1, [[.int .i64 (e.1 : Int), .int .i64 (e.2.1 : Int), .int .i64 (e.2.2 : Int), z0, z1, z2]], rfl, ⟨rfl, Nat.le_refl _, fun _ => ⟨g, 0, rfl, h.lt, fun i x hx j v hv => ?_⟩⟩, rfl, fun i e' q' hi => ?_⟩
 ·match i, hx with
  | 0, hx =>
   cases hx
   rw [show 0 + 0 * 6 + j = j by omega]
   exact h.cell hv
  | i + 1, hx => simp at hx
 ·match i, hi with
  | 0, hi =>
   cases hi
   exact ⟨z0, z1, z2, rfl, hq⟩
  | i + 1, hi => simp at hi
def uE : Nat → Ex
 | 0 => (1, 0, 0)
 | 1 => (0, 1, 0)
 | _ => (0, 0, 1)
theorem RatQ.set1c {w : World} {v : Value} {q : Rat} (h : RatQ w v q) {g k : Nat} {l : List Value} {t : TypeId} (hr : Cs w g l t) (hl : ∀ v ∈ l, ∀ x : Nat, v ≠ .int .u32 (x : Int)) (u : Value) : RatQ (w.setCell ⟨g, k, none⟩ u) v q := by
 obtain ⟨A, n, c, A', m, c', e, h1, h2⟩ := h
 exact ⟨A, n, c, A', m, c', e, h1.set1k (h1.ne_cs hr hl) _, h2.set1k (h2.ne_cs hr hl) _⟩

end Go.Proofs.YtifeekomegoijaaGreatDoor

namespace Go.Proofs.YtifeekomegoijaaGreatDoor
open Go.RowKit

theorem flat_at {α : Type} : ∀ {ys : List (List α)}, (∀ y ∈ ys, y.length = 6) → ∀ {j : Nat} {u : α}, ys.flatten[j]? = some u → ∃ i x r, ys[i]? = some x ∧ x[r]? = some u ∧ j = i * 6 + r
 | [], _, j, u, h => by simp at h
 | y :: ys, hl, j, u, h => by
  have hy := hl y (by simp)
  rw [List.flatten_cons] at h
  rcases Nat.lt_or_ge j 6 with hj | hj
  ·rw [List.getElem?_append_left (by omega)] at h
   exact ⟨0, y, j, rfl, h, by omega⟩
  ·rw [List.getElem?_append_right (by omega), hy] at h
   obtain ⟨i, x, r, h1, h2, h3⟩ := flat_at (fun z hz => hl z (by simp [hz])) h
   exact ⟨i + 1, x, r, by simpa using h1, h2, by omega⟩
theorem flat_length {α : Type} : ∀ {ys : List (List α)}, (∀ y ∈ ys, y.length = 6) → ys.flatten.length = ys.length * 6
 | [], _ => rfl
 | y :: ys, hl => by
  rw [List.flatten_cons, List.length_append, hl y (by simp), flat_length (fun z hz => hl z (by simp [hz])), List.length_cons]
  omega
theorem appP_run (w : World) (B : Nat) (v : Value) (n : Nat) (xs : List Value) (hown : w.ownsRow B MT 6 v n xs) (A : Option Addr) (m c : Nat) (ys : List (List Value)) (hr : RdK w 6 ys A m c) (h6 : ∀ y ∈ ys, y.length = 6) (h1 : ∀ y ∈ ys, ∀ u ∈ y, u.oneCell' = true) (hn : n + m ≤ 1000000) (hB : B ≤ w.heap.size) :
  ∃ v' w', (Builtin.append_ #[22, 22] 22 #[v, .slice A m c]).run Tryz.prog w = .ok v' w' ∧ w'.ownsRow B MT 6 v' (n + m) (xs ++ ys.flatten) ∧ w.grownBy w' v.ownBlock := by
 obtain ⟨i0, hi, hz0, hz1, hz2⟩ := info_parts info_mon
 rcases Nat.eq_zero_or_pos m with h0 | h0
 ·subst h0
  have hys : ys = [] := List.eq_nil_of_length_eq_zero hr.len.symm
  subst hys
  refine ⟨v, w, ?_, by simpa using hown, World.grownBy.refl w _⟩
  rcases hown.2 with ⟨rfl, _⟩ | ⟨g, cap, cur, rfl, _, _, hnc, _⟩
  ·cases A <;> simp [Builtin.append_, run_underlying Tryz.underlying22, sizeOf, typeInfo, hi, Builtin.lenOf, Builtin.firstCells, hz1, loadCells, loadCellsFrom, storeCells]
  ·cases A <;> simp [Builtin.append_, run_underlying Tryz.underlying22, sizeOf, typeInfo, hi, Builtin.lenOf, Builtin.firstCells, hz1, hnc, loadCells, loadCellsFrom, storeCells]
 ·obtain ⟨b, o, rfl, hb', hc⟩ := hr.cells h0
  have hl : ys.flatten.length = m * 6 := by rw [flat_length h6, hr.len]
  obtain ⟨v', w', h2, h3, h4, _⟩ := run_append_own_at (P := Tryz.prog) w B 22 22 MT i0 _ 6 80 Tryz.underlying22 hi hz0 hz1 hz2 rfl (by decide) v n xs hown ⟨b, o, none⟩ m c ys.flatten hl
   (fun j u hju => by
    obtain ⟨i, x, r, g1, g2, g3⟩ := flat_at h6 hju
    have := hc i x g1 r u g2
    have e : (⟨b, o, none⟩ : Addr).add j = ⟨b, o + i * 6 + r, none⟩ := by unfold Addr.add; split <;> simp_all <;> omega
    rw [e]; exact this) (fun u hu => by
    obtain ⟨y, hy, hu⟩ := List.mem_flatten.1 hu
    exact h1 y hy u hu) (by unfold maxLen; omega) (by omega) hB
  exact ⟨v', w', h2, h3, h4⟩
end Go.Proofs.YtifeekomegoijaaGreatDoor

namespace Go.Proofs.YtifeekomegoijaaGreatDoor
open Go.RowKit

def NoLimb (v : Value) : Prop := ∀ x : Nat, v ≠ .int .u32 (x : Int)
theorem mem_zeroCells {z : Array Value} {n : Nat} {u : Value} (hz : 0 < z.size) (h : u ∈ (Builtin.zeroCells z n).toList) : u ∈ z.toList := by
 unfold Builtin.zeroCells at h
 rw [Array.toList_map] at h
 obtain ⟨i, _, rfl⟩ := List.mem_map.1 h
 have : i % z.size < z.size := Nat.mod_lt _ hz
 rw [getElem!_pos z (i % z.size) this]
 exact Array.getElem_mem_toList this
def Clear (w : World) (v : Value) : Prop := ∀ g, v.ownBlock = some g → ∃ cur e fz, w.heap[g]? = some (.cells cur e fz) ∧ ∀ u ∈ cur.toList, NoLimb u
theorem Num.ne_clear {w : World} {l : List Nat} {A : Option Addr} {n c : Nat} (h : Num w l A n c) {v : Value} (hv : Clear w v) {g : Nat} (hg : v.ownBlock = some g) : 0 < n → ∀ a, A = some a → a.block ≠ g := by
 intro hn a ha e
 obtain ⟨cur, t, fz, hcur, hno⟩ := hv g hg
 obtain ⟨b, o, y, hA, _, _, _, hc⟩ := h.at_ hn
 rw [ha] at hA
 cases hA
 simp only at e
 subst e
 simp only [World.cell?, hcur] at hc
 have hm : Value.int .u32 (y : Int) ∈ cur.toList := by
  first
   | exact Array.mem_toList_iff.2 (Array.mem_of_getElem? hc)
   | exact List.mem_of_getElem? (by simpa using hc)
 exact hno _ hm y rfl
end Go.Proofs.YtifeekomegoijaaGreatDoor

namespace Go.Proofs.YtifeekomegoijaaGreatDoor
open Go.RowKit

theorem flat6_get {α : Type} : ∀ {ys : List (List α)}, (∀ y ∈ ys, y.length = 6) → ∀ {i r : Nat} {x : List α} {u : α}, ys[i]? = some x → x[r]? = some u → ys.flatten[i * 6 + r]? = some u
 | [], _, i, r, x, u, hi, _ => by simp at hi
 | y :: ys, hl, i, r, x, u, hi, hr => by
  have hy := hl y (by simp)
  rw [List.flatten_cons]
  match i, hi with
  | 0, hi =>
   obtain rfl : y = x := by simpa using hi
   have := (List.getElem?_eq_some_iff.1 hr).1
   rw [List.getElem?_append_left (by omega), Nat.zero_mul, Nat.zero_add]
   exact hr
  | i + 1, hi =>
   rw [List.getElem?_append_right (by omega), hy, show (i + 1) * 6 + r - 6 = i * 6 + r by omega]
   exact flat6_get (fun z hz => hl z (by simp [hz])) (by simpa using hi) hr
theorem rdk_row {w : World} {B n : Nat} {v : Value} {ys : List (List Value)} (h : w.ownsRow B MT 6 v n ys.flatten) (h6 : ∀ y ∈ ys, y.length = 6) : ∃ A c, v = .slice A n c ∧ RdK w 6 ys A n c := by
 have hn : n = ys.length := by have := h.1; rw [flat_length h6] at this; omega
 rcases h.2 with ⟨rfl, hz⟩ | ⟨g, cap, cur, rfl, hb, hg, r1, r2, r3, r4⟩
 ·subst hz
  exact ⟨none, 0, rfl, hn, Nat.le_refl _, fun h0 => absurd h0 (by decide)⟩
 ·refine ⟨_, _, rfl, hn, r1, fun _ => ⟨g, 0, rfl, heap_lt hg, fun i x hx j u hu => ?_⟩⟩
  have h5 := flat6_get h6 hx hu
  rw [Nat.zero_add, cell_of_row w g (i * 6 + j) _ _ _ hg]
  rw [← r4, List.getElem?_take] at h5
  split at h5
  ·rw [← Array.getElem?_toList]; exact h5
  ·cases h5
end Go.Proofs.YtifeekomegoijaaGreatDoor

namespace Go.Proofs.YtifeekomegoijaaGreatDoor
open Go.RowKit

theorem setRow_at {w : World} {g : Nat} {cur : Array Value} {e : TypeId} {fz : Nat × Nat} (xs : Array Value) (hg : w.heap[g]? = some (.cells cur e fz)) : ∃ t z, (w.setRow g xs).heap[g]? = some (.cells xs t z) := ⟨_, _, setRow_heap w g cur xs e fz hg⟩
theorem clear_nil (w : World) : Clear w (.slice none 0 0) := fun g hg => by cases hg
theorem app_clear (w : World) (B : Nat) (v : Value) (n : Nat) (xs : List Value) (hown : w.ownsRow B MT 6 v n xs) (hcl : Clear w v) (A : Option Addr) (m c : Nat) (ys : List (List Value)) (hr : RdK w 6 ys A m c) (h6 : ∀ y ∈ ys, y.length = 6) (h1 : ∀ y ∈ ys, ∀ u ∈ y, u.oneCell' = true ∧ NoLimb u) (hn : n + m ≤ 1000000) {v' : Value} {w' : World}
  (hrun : (Builtin.append_ #[22, 22] 22 #[v, .slice A m c]).run Tryz.prog w = .ok v' w') : Clear w' v' := by
 obtain ⟨i0, hi, hz0, hz1, hz2⟩ := info_parts info_mon
 rcases Nat.eq_zero_or_pos m with h0 | h0
 ·subst h0
  have hr0 : (Builtin.append_ #[22, 22] 22 #[v, .slice A 0 c]).run Tryz.prog w = .ok v w := by
   rcases hown.2 with ⟨rfl, _⟩ | ⟨g, cap, cur, rfl, _, _, hnc, _⟩
   ·cases A <;> simp [Builtin.append_, run_underlying Tryz.underlying22, sizeOf, typeInfo, hi, Builtin.lenOf, Builtin.firstCells, hz1, loadCells, loadCellsFrom, storeCells]
   ·cases A <;> simp [Builtin.append_, run_underlying Tryz.underlying22, sizeOf, typeInfo, hi, Builtin.lenOf, Builtin.firstCells, hz1, hnc, loadCells, loadCellsFrom, storeCells]
  rw [hr0] at hrun
  cases hrun
  exact hcl
 ·obtain ⟨b, o, rfl, hb', hc⟩ := hr.cells h0
  have hl : ys.flatten.length = m * i0.size := by rw [flat_length h6, hr.len, hz1]
  have hnews : ∀ j u, ys.flatten[j]? = some u → w.cell? ((⟨b, o, none⟩ : Addr).add j) = some u := fun j u hju => by
   obtain ⟨i, x, r, g1, g2, g3⟩ := flat_at h6 hju
   have := hc i x g1 r u g2
   have e : (⟨b, o, none⟩ : Addr).add j = ⟨b, o + i * 6 + r, none⟩ := by unfold Addr.add; split <;> simp_all <;> omega
   rw [e]; exact this
  have hno : ∀ u ∈ ys.flatten, NoLimb u := fun u hu => by
   obtain ⟨y, hy, hu⟩ := List.mem_flatten.1 hu
   exact (h1 y hy u hu).2
  have hoc : ∀ u ∈ ys.flatten, u.oneCell' = true := fun u hu => by
   obtain ⟨y, hy, hu⟩ := List.mem_flatten.1 hu
   exact (h1 y hy u hu).1
  have hzn : ∀ (N : Nat) (u : Value), u ∈ (Builtin.zeroCells (Value.agg #[.int .i64 0, .int .i64 0, .int .i64 0, .bool false, .slice none 0 0, .slice none 0 0]).cells N).toList → NoLimb u := fun N u hu => by
   have hz := mem_zeroCells (by decide) hu
   intro x hx
   subst hx
   simp [Value.cells] at hz
  rcases hown.2 with ⟨rfl, hz⟩ | ⟨g, cap, cur, rfl, hbg, hg, hnc, hcm, hcs, htake⟩
  ·have hr2 := run_append_nil (P := Tryz.prog) w 22 22 MT i0 _ Tryz.underlying22 hi hz0 ⟨b, o, none⟩ m c ys.flatten hl hnews h0 (by omega) (by rw [hz2]; omega)
   rw [hr2] at hrun
   cases hrun
   intro g hg
   have : g = w.heap.size := by simpa [Value.ownBlock, eq_comm] using hg
   subst this
   refine ⟨_, _, _, heap_alloc_new w.drew _, fun u hu => ?_⟩
   rw [Array.toList_append] at hu
   rcases List.mem_append.1 hu with hu | hu
   ·exact hno u hu
   ·exact hzn _ u hu
  ·obtain ⟨cur2, t2, f2, hg2, hcl2⟩ := hcl g rfl
   rw [hg] at hg2
   cases hg2
   by_cases hroom : n + m ≤ cap
   ·have hfit : n * i0.size + ys.flatten.length ≤ cur.size := by
     rw [hl, hz1, hcs, ← Nat.add_mul]; exact Nat.mul_le_mul_right _ hroom
    have hr2 := run_append_room (P := Tryz.prog) w 22 22 MT i0 Tryz.underlying22 hi g n cap cur hg ⟨b, o, none⟩ m c ys.flatten hl hnews hoc hroom hfit
    rw [hr2] at hrun
    cases hrun
    intro g' hg'
    have : g' = g := by simpa [Value.ownBlock, eq_comm] using hg'
    subst this
    obtain ⟨t, z, hh⟩ := setRow_at (cur.toList.take (n * i0.size) ++ ys.flatten ++ cur.toList.drop (n * i0.size + ys.flatten.length)).toArray hg
    refine ⟨_, _, _, hh, fun u hu => ?_⟩
    rw [List.toList_toArray] at hu
    rcases List.mem_append.1 hu with hu | hu
    ·rcases List.mem_append.1 hu with hu | hu
     ·exact hcl2 u (List.mem_of_mem_take hu)
     ·exact hno u hu
    ·exact hcl2 u (List.mem_of_mem_drop hu)
   ·have holds : ∀ j u, xs[j]? = some u → w.cell? ((⟨g, 0, none⟩ : Addr).add j) = some u := hown.cells (g := g) rfl
    have hxl : xs.length = n * i0.size := by rw [hz1]; exact hown.1
    have hr2 := run_append_grow (P := Tryz.prog) w 22 22 MT i0 _ Tryz.underlying22 hi hz0 ⟨g, 0, none⟩ n cap xs hxl holds ⟨b, o, none⟩ m c ys.flatten hl hnews (by omega) (by omega) (growslice_fits (by omega) (by rw [hz2]; omega))
    rw [hr2] at hrun
    cases hrun
    intro g' hg'
    have : g' = w.heap.size := by simpa [Value.ownBlock, eq_comm] using hg'
    subst this
    refine ⟨_, _, _, heap_alloc_new w.drew _, fun u hu => ?_⟩
    rw [Array.toList_append] at hu
    rcases List.mem_append.1 hu with hu | hu
    ·rw [Array.toList_append] at hu
     rcases List.mem_append.1 hu with hu | hu
     ·refine hcl2 u ?_
      have hx : u ∈ cur.toList.take (n * 6) := by rw [htake]; simpa using hu
      exact List.mem_of_mem_take hx
     ·exact hno u (by simpa using hu)
    ·exact hzn _ u hu
theorem Num.clr {w w' : World} {l : List Nat} {A : Option Addr} {n c : Nat} (h : Num w l A n c) {v : Value} (hv : Clear w v) (hg : w.grownBy w' v.ownBlock) : Num w' l A n c :=
 ⟨h.len, h.cap, h.lim, fun hn => by
  obtain ⟨b, o, hA, hb, hc⟩ := h.cells hn
  refine ⟨b, o, hA, Nat.lt_of_lt_of_le hb hg.size, fun k x hx => (World.cell?_of_block (w := w) (hg.block b hb (fun e => ?_))).trans (hc k x hx)⟩
  exact h.ne_clear hv e.symm hn _ hA rfl⟩
theorem RatQ.clr {w w' : World} {z : Value} {q : Rat} (h : RatQ w z q) {v : Value} (hv : Clear w v) (hg : w.grownBy w' v.ownBlock) : RatQ w' z q := by
 obtain ⟨A, n, c, A', m, c', e, h1, h2⟩ := h
 exact ⟨A, n, c, A', m, c', e, h1.clr hv hg, h2.clr hv hg⟩
theorem Clear.keep {w w' : World} {v : Value} (h : Clear w v) (hk : ∀ g, v.ownBlock = some g → w'.heap[g]? = w.heap[g]?) : Clear w' v := fun g hg => by
 obtain ⟨cur, e, fz, h1, h2⟩ := h g hg
 exact ⟨cur, e, fz, (hk g hg).trans h1, h2⟩
theorem rdk_one {w : World} {g : Nat} {z0 z1 z2 z3 z4 z5 : Value} (h : Cs w g [z0, z1, z2, z3, z4, z5] MT) : RdK w 6 [[z0, z1, z2, z3, z4, z5]] (some ⟨g, 0, none⟩) 1 1 :=
 ⟨rfl, Nat.le_refl _, fun _ => ⟨g, 0, rfl, h.lt, fun i x hx j v hv => by
  match i, hx with
  | 0, hx =>
   cases hx
   rw [show 0 + 0 * 6 + j = j by omega]
   exact h.cell hv
  | i + 1, hx => simp at hx⟩⟩
theorem RdK.drop {w : World} {xs : List (List Value)} {b o n c : Nat} (h : RdK w 6 xs (some ⟨b, o, none⟩) n c) {j : Nat} (hj : j ≤ n) : RdK w 6 (xs.drop j) (some ⟨b, o + j * 6, none⟩) (n - j) (c - j) :=
 ⟨by rw [List.length_drop, h.len], by have := h.cap; omega, fun hn => by
  obtain ⟨b', o', hA, hb, hc⟩ := h.cells (by omega)
  cases hA
  refine ⟨b, o + j * 6, rfl, hb, fun i x hx r v hv => ?_⟩
  rw [List.getElem?_drop] at hx
  have := hc _ x hx r v hv
  rw [show o + j * 6 + i * 6 + r = o + (j + i) * 6 + r by rw [Nat.add_mul]; omega]
  exact this⟩
theorem RatQ.setL {w : World} {z : Value} {q : Rat} (h : RatQ w z q) {g k : Nat} {l : List Value} {t : TypeId} (hr : Cs w g l t) (hl : ∀ v ∈ l, ∀ x : Nat, v ≠ .int .u32 (x : Int)) (us : List Value) : RatQ (Go.Proofs.YtifeekomegoijaaGreatDoor.setL w g k us) z q := by
 obtain ⟨A, n, c, A', m, c', e, h1, h2⟩ := h
 exact ⟨A, n, c, A', m, c', e, h1.setL (h1.ne_cs hr hl) us k, h2.setL (h2.ne_cs hr hl) us k⟩
theorem heap_setL {g b : Nat} (hne : b ≠ g) : ∀ (us : List Value) (k : Nat) (w : World), (setL w g k us).heap[b]? = w.heap[b]?
 | [], _, _ => rfl
 | u :: us, k, w => by
  show (setL (w.setCell ⟨g, k, none⟩ u) g (k + 1) us).heap[b]? = _
  rw [heap_setL hne us]
  exact Below.heap_setCell w ⟨g, k, none⟩ u b hne
end Go.Proofs.YtifeekomegoijaaGreatDoor
