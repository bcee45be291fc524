import Derived.Test.YtifeekomegoijaaGreatDoorY36
import Derived.Lib.AtoiAll
import Derived.Lib.SplitLaws
set_option linter.unusedVariables false
set_option linter.unusedSimpArgs false
namespace Go.Proofs.YtifeekomegoijaaGreatDoor
open Go.RowKit
def sp (c : UInt8) : List UInt8 -> List (List UInt8)
 | [] => [[]]
 | x :: l => if x = c then [] :: sp c l else (x :: (sp c l).headD []) :: (sp c l).tail
theorem sp_step (c x : UInt8) (l : List UInt8) : sp c (x :: l) = if x = c then [] :: sp c l else (x :: (sp c l).headD []) :: (sp c l).tail := rfl
theorem sp_ne (c : UInt8) : ∀ l, sp c l ≠ []
 | [] => by simp [sp]
 | x :: l => by unfold sp; split <;> simp
theorem sp_none {c : UInt8} : ∀ {a : List UInt8}, (∀ x ∈ a, x ≠ c) -> sp c a = [a]
 | [], _ => rfl
 | x :: l, h => by
   have h1 : x ≠ c := h x (by simp)
   have h2 := sp_none (c := c) (a := l) (fun y hy => h y (by simp [hy]))
   rw [sp_step, if_neg h1, h2]
   rfl
theorem sp_cons {c : UInt8} (b : List UInt8) : ∀ {a : List UInt8}, (∀ x ∈ a, x ≠ c) -> sp c (a ++ c :: b) = a :: sp c b
 | [], _ => by simp [sp]
 | x :: l, h => by
   have h1 : x ≠ c := h x (by simp)
   have h2 := sp_cons (c := c) b (a := l) (fun y hy => h y (by simp [hy]))
   rw [List.cons_append]
   rw [sp_step, if_neg h1, h2]
   rfl
theorem sp_or (c : UInt8) (l : List UInt8) : (∀ x ∈ l, x ≠ c) \/ ∃ a b, l = a ++ c :: b /\ ∀ x ∈ a, x ≠ c := by
 induction l with
 | nil => exact .inl (fun x hx => by cases hx)
 | cons x l ih =>
   by_cases h : x = c
   ·exact .inr ⟨[], l, by rw [h]; rfl, fun y hy => by cases hy⟩
   ·rcases ih with h1 | ⟨a, b, rfl, h2⟩
    ·exact .inl (fun y hy => by rcases List.mem_cons.1 hy with rfl | hy; exact h; exact h1 y hy)
    ·exact .inr ⟨x :: a, b, rfl, fun y hy => by rcases List.mem_cons.1 hy with rfl | hy; exact h; exact h2 y hy⟩
theorem index_at (c : UInt8) (b : List UInt8) : ∀ {a : List UInt8}, (∀ x ∈ a, x ≠ c) -> Lib.index (a ++ c :: b) [c] = (a.length : Int)
 | [], _ => by simp [Lib.index, List.isPrefixOf]
 | x :: l, h => by
   have h1 : x ≠ c := h x (by simp)
   have h2 := index_at c b (a := l) (fun y hy => h y (by simp [hy]))
   rw [List.cons_append, Lib.index, h2]
   have h3 : ([c] : List UInt8).isPrefixOf (x :: (l ++ c :: b)) = false := by simp [List.isPrefixOf, Ne.symm h1]
   rw [h3]
   have h4 : ((l.length : Int) == -1) = false := by rw [beq_eq_false_iff_ne]; omega
   rw [h4]
   simp
theorem splitK_sp (c : UInt8) : ∀ (n : Nat) (l : List UInt8), l.length <= n -> Lib.splitK [c] 0 (l.count c) l = sp c l := by
 intro n
 induction n with
 | zero =>
   intro l hl
   obtain rfl : l = [] := List.eq_nil_of_length_eq_zero (by omega)
   rfl
 | succ n ih =>
   intro l hl
   rcases sp_or c l with h | ⟨a, b, rfl, h⟩
   ·have h0 : l.count c = 0 := List.count_eq_zero.2 (fun hm => h c hm rfl)
    rw [h0, sp_none h]
    rfl
   ·have h0 : (a ++ c :: b).count c = b.count c + 1 := by
     rw [List.count_append, List.count_cons_self, List.count_eq_zero.2 (fun hm => h c hm rfl)]; omega
    rw [h0, sp_cons b h, Lib.splitK, index_at c b h]
    have h4 : ((a.length : Int) == -1) = false := by rw [beq_eq_false_iff_ne]; omega
    rw [h4]
    have h5 : (a ++ c :: b).take ((a.length : Int).toNat + 0) = a := by simp
    have h6 : (a ++ c :: b).drop ((a.length : Int).toNat + [c].length) = b := by simp
    simp only [Bool.false_eq_true, if_false]
    rw [h5, h6, ih b (by simp at hl; omega)]
theorem splitB_sp (c : UInt8) (s : ByteArray) : (Lib.splitB ⟨#[c]⟩ 0 (Lib.countB s ⟨#[c]⟩) s).map (·.data.toList) = sp c s.data.toList := by
 rw [Lib.splitB_data]
 show Lib.splitK [c] 0 (Lib.count s.data.toList [c]) s.data.toList = _
 rw [Lib.count_one, splitK_sp c _ _ (Nat.le_refl _)]
abbrev EI := Int × Int × Int
def parP (s : List UInt8) : Option (Nat × Int) :=
 if (Lib.cut s [94]).1.length ≠ 1 \/ Lib.index [97, 98, 99] (Lib.cut s [94]).1 < 0 then none
 else if (Lib.cut s [94]).2.2 = false then some ((Lib.index [97, 98, 99] (Lib.cut s [94]).1).toNat, 1)
 else match Lib.atoiAll (Lib.cut s [94]).2.1 with
  | .ok v => some ((Lib.index [97, 98, 99] (Lib.cut s [94]).1).toNat, v)
  | _ => none
def setE (e : EI) (k : Nat) (v : Int) : EI := match k with
 | 0 => (v, e.2.1, e.2.2)
 | 1 => (e.1, v, e.2.2)
 | _ => (e.1, e.2.1, v)
def parsF (e : EI) : List (List UInt8) -> Option EI
 | [] => some e
 | s :: r => match parP s with
   | none => none
   | some kv => parsF (setE e kv.1 kv.2) r
def monP (s : List UInt8) : Option RawM :=
 match parseQ ((sp 42 s).headD []) with
 | some q => (parsF (0, 0, 0) (sp 42 s).tail).map (fun e => (e, q))
 | none => (parsF (0, 0, 0) (sp 42 s)).map (fun e => (e, 1))
def pairsP : List (List UInt8) -> Option (List RawM)
 | [] => some []
 | [_] => none
 | g :: s :: r => if g ≠ [43] /\ g ≠ [45] then none else match monP s with
   | none => none
   | some m => (pairsP r).map (fun t => (m.1, if g = [45] then -m.2 else m.2) :: t)
def signed (s : List UInt8) : List UInt8 := if Lib.hasPrefix s [45] then 45 :: 32 :: Lib.trimPrefix s [45] else 43 :: 32 :: s
def monsP (s : List UInt8) : Option (List RawM) := pairsP (sp 32 (signed s))
noncomputable def parseP (s : List UInt8) : Option (List Mon) :=
 if s = [48] then some [] else match monsP s with
 | none => none
 | some raw => if fmtP (cleanL raw) = s then some (cleanL raw) else none
theorem sp_join {c : UInt8} : ∀ {xs : List (List UInt8)}, xs ≠ [] -> (∀ x ∈ xs, ∀ b ∈ x, b ≠ c) -> sp c (Lib.join xs [c]) = xs
 | [], h, _ => absurd rfl h
 | [x], _, h => by rw [Lib.join_one]; exact sp_none (h x (by simp))
 | x :: y :: r, _, h => by
   have ih := sp_join (c := c) (xs := y :: r) (by simp) (fun z hz => h z (by simp [hz]))
   have e : Lib.join (x :: y :: r) [c] = x ++ c :: Lib.join (y :: r) [c] := by
    rw [Lib.join_cons, Lib.join_cons y]
    simp [Lib.joinTail]
   rw [e, sp_cons _ (h x (by simp)), ih]
def numB (c : UInt8) : Bool := isDig c || c == 47
theorem fmtQ_numB {q : Rat} (h : ¬ q.num < 0) : ∀ c ∈ fmtQ q, numB c = true := by
 intro c hc
 unfold fmtQ at hc
 rw [if_neg h, List.nil_append] at hc
 unfold numB
 rcases List.mem_append.1 hc with hc | hc
 ·rw [dec_all _ c hc]; rfl
 ·split at hc
  ·cases hc
  ·rcases List.mem_cons.1 hc with rfl | hc
   ·rfl
   ·rw [dec_all _ c hc]; rfl
theorem numB_ne {c : UInt8} (h : numB c = true) : c ≠ 42 /\ c ≠ 32 /\ c ≠ 45 := by
 refine ⟨?_, ?_, ?_⟩ <;> rintro rfl <;> exact absurd h (by decide)
def partB (k n : Nat) : List UInt8 := if n = 1 then [UInt8.ofNat (97 + k)] else [UInt8.ofNat (97 + k), 94, UInt8.ofNat (48 + n)]
theorem partK_bytes : ∀ k, k < 3 -> ∀ n, n <= 5 -> (partK k n).map (·.data.toList) = if n = 0 then [] else [partB k n] := by decide +kernel
theorem partB_ok : ∀ k, k < 3 -> ∀ n, n <= 5 -> n ≠ 0 -> (∀ c ∈ partB k n, c ≠ 42 /\ c ≠ 32) /\ (partB k n).headD 0 ≠ 45 /\ partB k n ≠ [] /\ parseQ (partB k n) = none /\ parP (partB k n) = some (k, (n : Int)) := by
 intro k hk n hn h0
 have hk' : k = 0 \/ k = 1 \/ k = 2 := by omega
 have hn' : n = 1 \/ n = 2 \/ n = 3 \/ n = 4 \/ n = 5 := by omega
 rcases hk' with rfl | rfl | rfl <;> rcases hn' with rfl | rfl | rfl | rfl | rfl <;> exact ⟨by decide +kernel, by decide +kernel, by decide +kernel, by rfl, by rfl⟩
theorem absq_num {q : Rat} : ¬ (absq q).num < 0 := by
 have h1 : absq q = mkRat q.num.natAbs q.den := rfl
 rw [h1, Rat.num_mkRat, if_neg q.den_nz]
 exact Int.not_lt.2 (Int.ediv_nonneg (Int.natCast_nonneg _) (Int.natCast_nonneg _))
def pk (k n : Nat) : List (List UInt8) := if n = 0 then [] else [partB k n]
def pcs (m : Mon) : List (List UInt8) := (if m.1 = (0, 0, 0) \/ absq m.2 ≠ 1 then [fmtQ (absq m.2)] else []) ++ (pk 0 m.1.1 ++ (pk 1 m.1.2.1 ++ pk 2 m.1.2.2))
def okM (m : Mon) : Prop := m.1.1 <= 5 /\ m.1.2.1 <= 5 /\ m.1.2.2 <= 5
theorem okM_of {m : Mon} (h : deg m.1 <= 5) : okM m := by
 unfold deg at h
 exact ⟨by omega, by omega, by omega⟩
theorem pcs_eq {m : Mon} (h : okM m) : (factL m).map (·.data.toList) = pcs m := by
 obtain ⟨h1, h2, h3⟩ := h
 unfold factL pcs
 rw [List.map_append]
 congr 1
 ·unfold numPart
  split <;> rfl
 ·have e : parts m.1 3 = partK 0 m.1.1 ++ (partK 1 m.1.2.1 ++ partK 2 m.1.2.2) := by
   unfold parts
   simp [List.range_succ, comp]
  rw [e, List.map_append, List.map_append, partK_bytes 0 (by omega) _ h1, partK_bytes 1 (by omega) _ h2, partK_bytes 2 (by omega) _ h3]
  rfl
theorem textOf_eq {m : Mon} (h : okM m) : textOf (factL m) = Lib.join (pcs m) [42] := by
 unfold textOf
 rw [pcs_eq h]
theorem pk_mem {k n : Nat} (hk : k < 3) (hn : n <= 5) {x : List UInt8} (hx : x ∈ pk k n) : (∀ c ∈ x, c ≠ 42 /\ c ≠ 32) /\ x.headD 0 ≠ 45 /\ x ≠ [] /\ parseQ x = none := by
 unfold pk at hx
 split at hx
 ·cases hx
 ·rename_i h0
  rw [List.mem_singleton] at hx
  subst hx
  obtain ⟨a, b, c, d, _⟩ := partB_ok k hk n hn h0
  exact ⟨a, b, c, d⟩
theorem fmtQ_ne' (q : Rat) : fmtQ q ≠ [] := by
 intro h
 unfold fmtQ at h
 simp only [List.append_eq_nil_iff] at h
 have h1 := decDigits_pos q.num.natAbs
 rw [h.1.2] at h1
 exact absurd h1 (by decide)
theorem pcs_mem {m : Mon} (h : okM m) {x : List UInt8} (hx : x ∈ pcs m) : (∀ c ∈ x, c ≠ 42 /\ c ≠ 32) /\ x.headD 0 ≠ 45 /\ x ≠ [] := by
 obtain ⟨h1, h2, h3⟩ := h
 unfold pcs at hx
 rcases List.mem_append.1 hx with hx | hx
 ·split at hx
  ·rw [List.mem_singleton] at hx
   subst hx
   refine ⟨fun c hc => ⟨(numB_ne (fmtQ_numB absq_num c hc)).1, (numB_ne (fmtQ_numB absq_num c hc)).2.1⟩, ?_, fmtQ_ne' _⟩
   cases hq : fmtQ (absq m.2) with
   | nil => exact absurd hq (fmtQ_ne' _)
   | cons c r => exact (numB_ne (fmtQ_numB absq_num c (by rw [hq]; simp))).2.2
  ·cases hx
 ·rcases List.mem_append.1 hx with hx | hx
  ·have := pk_mem (by omega) h1 hx; exact ⟨this.1, this.2.1, this.2.2.1⟩
  ·rcases List.mem_append.1 hx with hx | hx
   ·have := pk_mem (by omega) h2 hx; exact ⟨this.1, this.2.1, this.2.2.1⟩
   ·have := pk_mem (by omega) h3 hx; exact ⟨this.1, this.2.1, this.2.2.1⟩
theorem pcs_ne (m : Mon) : pcs m ≠ [] := by
 unfold pcs
 split
 ·simp
 ·rename_i h
  have h0 : m.1 ≠ (0, 0, 0) := fun e => h (.inl e)
  intro hh
  simp only [List.nil_append, List.append_eq_nil_iff] at hh
  have z : ∀ k n, pk k n = [] -> n = 0 := fun k n e => by
   unfold pk at e
   split at e
   ·assumption
   ·cases e
  exact h0 (Prod.ext (z _ _ hh.1) (Prod.ext (z _ _ hh.2.1) (z _ _ hh.2.2)))
theorem parsF_pk (e : EI) {k n : Nat} (hk : k < 3) (hn : n <= 5) (r : List (List UInt8)) : parsF e (pk k n ++ r) = parsF (if n = 0 then e else setE e k (n : Int)) r := by
 unfold pk
 by_cases h0 : n = 0
 ·rw [if_pos h0, if_pos h0]; rfl
 ·rw [if_neg h0, if_neg h0, List.singleton_append, parsF, (partB_ok k hk n hn h0).2.2.2.2]
theorem parsF_all {a b c : Nat} (ha : a <= 5) (hb : b <= 5) (hc : c <= 5) : parsF (0, 0, 0) (pk 0 a ++ (pk 1 b ++ pk 2 c)) = some ((a : Int), (b : Int), (c : Int)) := by
 have h2 := parsF_pk (if b = 0 then (if a = 0 then (0, 0, 0) else setE (0, 0, 0) 0 (a : Int)) else setE (if a = 0 then (0, 0, 0) else setE (0, 0, 0) 0 (a : Int)) 1 (b : Int)) (k := 2) (by omega) hc []
 rw [List.append_nil] at h2
 rw [parsF_pk _ (by omega) ha, parsF_pk _ (by omega) hb, h2]
 by_cases a0 : a = 0 <;> by_cases b0 : b = 0 <;> by_cases c0 : c = 0 <;> simp [a0, b0, c0, setE, parsF]
theorem text_no {m : Mon} (h : okM m) : ∀ c ∈ Lib.join (pcs m) [42], c ≠ 32 := by
 have key : ∀ xs : List (List UInt8), (∀ x ∈ xs, ∀ c ∈ x, c ≠ 32) -> ∀ c ∈ Lib.join xs [42], c ≠ (32 : UInt8) := by
  intro xs
  induction xs with
  | nil => intro _ c hc; cases hc
  | cons x r ih =>
    intro hx c hc
    rw [Lib.join_cons] at hc
    rcases List.mem_append.1 hc with hc | hc
    ·exact hx x (by simp) c hc
    ·unfold Lib.joinTail at hc
     obtain ⟨l, hl, hc⟩ := List.mem_flatten.1 hc
     obtain ⟨y, hy, rfl⟩ := List.mem_map.1 hl
     rcases List.mem_append.1 hc with hc | hc
     ·rw [List.mem_singleton] at hc; subst hc; decide
     ·exact hx y (by simp [hy]) c hc
 exact key _ (fun x hx c hc => ((pcs_mem h hx).1 c hc).2)
theorem text_head {m : Mon} (h : okM m) : ∃ c t, Lib.join (pcs m) [42] = c :: t /\ c ≠ 45 := by
 cases hp : pcs m with
 | nil => exact absurd hp (pcs_ne m)
 | cons x r =>
   have hx := pcs_mem h (x := x) (by rw [hp]; simp)
   cases x with
   | nil => exact absurd rfl hx.2.2
   | cons c t => exact ⟨c, t ++ Lib.joinTail [42] r, by rw [Lib.join_cons]; rfl, hx.2.1⟩
theorem parse_abs {q : Rat} (hs : Sz q 100) : parseQ (fmtQ (absq q)) = some (absq q) := parse_fmt (sz_abs hs rfl) (Nat.le_refl _)
theorem monP_text {m : Mon} (h : okM m) (hs : Sz m.2 100) : monP (Lib.join (pcs m) [42]) = some (((m.1.1 : Int), (m.1.2.1 : Int), (m.1.2.2 : Int)), absq m.2) := by
 have hsp : sp 42 (Lib.join (pcs m) [42]) = pcs m := sp_join (pcs_ne m) (fun x hx c hc => ((pcs_mem h hx).1 c hc).1)
 unfold monP
 rw [hsp]
 by_cases hn : m.1 = (0, 0, 0) \/ absq m.2 ≠ 1
 ·have e : pcs m = fmtQ (absq m.2) :: (pk 0 m.1.1 ++ (pk 1 m.1.2.1 ++ pk 2 m.1.2.2)) := by unfold pcs; rw [if_pos hn]; rfl
  rw [e, List.headD_cons, parse_abs hs, List.tail_cons, parsF_all h.1 h.2.1 h.2.2]
  rfl
 ·have e : pcs m = pk 0 m.1.1 ++ (pk 1 m.1.2.1 ++ pk 2 m.1.2.2) := by unfold pcs; rw [if_neg hn]; rfl
  have h1 : absq m.2 = 1 := Decidable.byContradiction (fun hh => hn (.inr hh))
  have hpn : parseQ ((pcs m).headD []) = none := by
   cases hp : pcs m with
   | nil => exact absurd hp (pcs_ne m)
   | cons x r =>
     have hx : x ∈ pk 0 m.1.1 ++ (pk 1 m.1.2.1 ++ pk 2 m.1.2.2) := by rw [<- e, hp]; simp
     rcases List.mem_append.1 hx with hx | hx
     ·exact (pk_mem (by omega) h.1 hx).2.2.2
     ·rcases List.mem_append.1 hx with hx | hx
      ·exact (pk_mem (by omega) h.2.1 hx).2.2.2
      ·exact (pk_mem (by omega) h.2.2 hx).2.2.2
  rw [hpn]
  simp only []
  rw [e, parsF_all h.1 h.2.1 h.2.2, h1]
  rfl
def sgB (m : Mon) : UInt8 := if m.2.num < 0 then 45 else 43
def tx (m : Mon) : List UInt8 := Lib.join (pcs m) [42]
def restT (l : List Mon) : List UInt8 := l.flatMap fun m => 32 :: sgB m :: 32 :: tx m
theorem range_flatMap {α β : Type} (f : α -> List β) : ∀ (l : List α), ((List.range l.length).flatMap fun i => (l[i]?.map f).getD []) = l.flatMap f
 | [] => rfl
 | x :: l => by
   rw [List.length_cons, List.range_succ_eq_map, List.flatMap_cons, List.flatMap_map, List.flatMap_cons]
   have ih := range_flatMap f l
   simpa using ih
theorem fmtP_cons {m : Mon} {r : List Mon} (h : ∀ x ∈ m :: r, okM x) : fmtP (m :: r) = (if m.2.num < 0 then [45] else []) ++ (tx m ++ restT r) := by
 unfold fmtP
 rw [if_neg (by simp)]
 unfold fmtTo
 rw [List.length_cons, List.range_succ_eq_map, List.flatMap_cons, List.flatMap_map]
 have e0 : (((m :: r)[0]?.map (monText 0)).getD []) = (if m.2.num < 0 then [45] else []) ++ tx m := by
  simp only [List.getElem?_cons_zero, Option.map_some, Option.getD_some]
  unfold monText tx
  rw [textOf_eq (h m (by simp))]
  by_cases hn : m.2.num < 0
  ·rw [if_pos hn, decide_eq_true hn]; rfl
  ·rw [if_neg hn, decide_eq_false hn]; rfl
 have e1 : ((List.range r.length).flatMap fun i => (((m :: r)[i + 1]?.map (monText (i + 1))).getD [])) = restT r := by
  have : ∀ i, (((m :: r)[i + 1]?.map (monText (i + 1))).getD []) = ((r[i]?.map (monText 1)).getD []) := fun i => by
   rw [List.getElem?_cons_succ]
   rfl
  simp only [this]
  rw [range_flatMap (monText 1) r]
  unfold restT
  rw [List.flatMap_def, List.flatMap_def]
  congr 1
  refine List.map_congr_left (fun x hx => ?_)
  unfold monText tx sgB
  rw [textOf_eq (h x (by simp [hx]))]
  by_cases hn : x.2.num < 0
  ·rw [if_pos hn, decide_eq_true hn]; rfl
  ·rw [if_neg hn, decide_eq_false hn]; rfl
 rw [e0]
 rw [show (List.flatMap (fun a => (((m :: r)[Nat.succ a]?.map (monText (Nat.succ a))).getD [])) (List.range r.length)) = restT r from e1]
 rw [List.append_assoc]
theorem signed_fmt {m : Mon} {r : List Mon} (h : ∀ x ∈ m :: r, okM x) : signed (fmtP (m :: r)) = sgB m :: 32 :: (tx m ++ restT r) := by
 rw [fmtP_cons h]
 unfold signed sgB
 by_cases hn : m.2.num < 0
 ·rw [if_pos hn, if_pos hn]
  have h1 : Lib.hasPrefix ([45] ++ (tx m ++ restT r)) [45] = true := prefix_yes _
  rw [if_pos h1]
  unfold Lib.trimPrefix
  rw [if_pos h1]
  rfl
 ·rw [if_neg hn, if_neg hn, List.nil_append]
  obtain ⟨c, t, ht, hc⟩ := text_head (h m (by simp))
  have h1 : Lib.hasPrefix (tx m ++ restT r) [45] = false := by
   unfold tx
   rw [ht]
   unfold Lib.hasPrefix
   simp [List.isPrefixOf, Ne.symm hc]
  rw [if_neg (by rw [h1]; decide)]
theorem tx_no {m : Mon} (h : okM m) : ∀ c ∈ tx m, c ≠ 32 := text_no h
theorem sp_rest {m : Mon} (hm : okM m) : ∀ {r : List Mon}, (∀ x ∈ r, okM x) -> sp 32 (tx m ++ restT r) = tx m :: r.flatMap fun x => [[sgB x], tx x]
 | [], _ => by
   show sp 32 (tx m ++ []) = _
   rw [List.append_nil, sp_none (tx_no hm)]
   rfl
 | x :: r, h => by
   have ih := sp_rest (h x (by simp)) (r := r) (fun y hy => h y (by simp [hy]))
   have e : tx m ++ restT (x :: r) = tx m ++ 32 :: ([sgB x] ++ 32 :: (tx x ++ restT r)) := by
    unfold restT
    rw [List.flatMap_cons]
    simp
   have hsg : ∀ c ∈ [sgB x], c ≠ (32 : UInt8) := fun c hc => by
    rw [List.mem_singleton] at hc
    subst hc
    unfold sgB
    split <;> decide
   rw [e, sp_cons _ (tx_no hm), sp_cons _ hsg, ih, List.flatMap_cons]
   rfl
theorem absq_sign {q : Rat} : (if [if q.num < 0 then (45 : UInt8) else 43] = [45] then -(absq q) else absq q) = q := by
 have h1 : absq q = mkRat q.num.natAbs q.den := rfl
 by_cases hn : q.num < 0
 ·rw [if_pos hn, if_pos rfl, h1, Rat.neg_mkRat]
  have : -((q.num.natAbs : Nat) : Int) = q.num := by omega
  rw [this, Rat.mkRat_self]
 ·rw [if_neg hn, if_neg (by decide), h1]
  have : ((q.num.natAbs : Nat) : Int) = q.num := by omega
  rw [this, Rat.mkRat_self]
theorem pairs_fmt : ∀ {l : List Mon}, (∀ x ∈ l, okM x) -> (∀ x ∈ l, Sz x.2 100) -> pairsP (l.flatMap fun x => [[sgB x], tx x]) = some (l.map rawOf)
 | [], _, _ => rfl
 | m :: r, h, hs => by
   have ih := pairs_fmt (l := r) (fun y hy => h y (by simp [hy])) (fun y hy => hs y (by simp [hy]))
   rw [List.flatMap_cons]
   show pairsP ([sgB m] :: tx m :: (r.flatMap fun x => [[sgB x], tx x])) = _
   have h1 : ¬ ([sgB m] ≠ [43] /\ [sgB m] ≠ [45]) := by
    unfold sgB
    split <;> decide
   rw [pairsP, if_neg h1]
   unfold tx
   rw [monP_text (h m (by simp)) (hs m (by simp))]
   simp only []
   unfold tx at ih
   rw [ih]
   have e := absq_sign (q := m.2)
   simp only [Option.map_some, List.map_cons]
   unfold sgB rawOf
   rw [e]
theorem monsP_fmt {l : List Mon} (h0 : l ≠ []) (h : ∀ x ∈ l, okM x) (hs : ∀ x ∈ l, Sz x.2 100) : monsP (fmtP l) = some (l.map rawOf) := by
 cases l with
 | nil => exact absurd rfl h0
 | cons m r =>
   unfold monsP
   rw [signed_fmt h]
   have hsg : ∀ c ∈ [sgB m], c ≠ (32 : UInt8) := fun c hc => by
    rw [List.mem_singleton] at hc
    subst hc
    unfold sgB
    split <;> decide
   have e : sgB m :: 32 :: (tx m ++ restT r) = [sgB m] ++ 32 :: (tx m ++ restT r) := rfl
   rw [e, sp_cons _ hsg, sp_rest (h m (by simp)) (fun y hy => h y (by simp [hy]))]
   exact pairs_fmt (l := m :: r) h hs
theorem parseP_fmt {l : List Mon} (hv : VP l) (hs : SzL l 100) : parseP (fmtP l) = some l := by
 have h : ∀ x ∈ l, okM x := fun x hx => okM_of (hv.1 x hx).1
 cases l with
 | nil => rfl
 | cons m r =>
   have hm := monsP_fmt (l := m :: r) (by simp) h hs
   unfold parseP
   have hne : fmtP (m :: r) ≠ [48] := by
    intro e
    rw [e] at hm
    have h48 : monsP [48] = some [((0, 0, 0), 0)] := by rfl
    rw [h48] at hm
    have h2 := Option.some.inj hm
    rw [List.map_cons] at h2
    have h3 := (List.cons.inj h2).1
    have h4 : (0 : Rat) = m.2 := (congrArg Prod.snd h3)
    exact (hv.1 m (by simp)).2 h4.symm
   rw [if_neg hne, hm]
   simp only []
   rw [cleanL_raw hv, if_pos rfl]
theorem parseP_sound {s : List UInt8} {l : List Mon} (h : parseP s = some l) : fmtP l = s /\ VP l := by
 unfold parseP at h
 split at h
 ·rename_i e
  obtain rfl := Option.some.inj h
  exact ⟨by rw [e]; rfl, ⟨fun m hm => (by cases hm), List.Pairwise.nil⟩⟩
 ·split at h
  ·cases h
  ·split at h
   ·rename_i e
    obtain rfl := Option.some.inj h
    exact ⟨e, vp_cleanL _⟩
   ·cases h
def pcR (first : Bool) (cur : List UInt8) : List UInt8 -> List (List UInt8)
 | [] => [cur]
 | x :: l =>
   if l.length < 2 then [cur ++ x :: l]
   else if first = false /\ ((x :: l).take 3 = [32, 43, 32] \/ (x :: l).take 3 = [32, 45, 32]) then cur :: pcR false (if (x :: l).take 3 = [32, 45, 32] then [45] else []) (l.drop 2)
   else pcR false (cur ++ [x]) l
termination_by s => s.length
decreasing_by all_goals simp; all_goals omega
theorem pcR_nil (first : Bool) (cur : List UInt8) : pcR first cur [] = [cur] := by rw [pcR]
theorem pcR_plain {first : Bool} {cur : List UInt8} {x : UInt8} {l : List UInt8} (h2 : 2 <= l.length) (h : x ≠ 32) : pcR first cur (x :: l) = pcR false (cur ++ [x]) l := by
 rw [pcR, if_neg (by omega), if_neg]
 rintro ⟨_, h1 | h1⟩
 ·rw [List.take_succ_cons] at h1; exact h (List.cons.inj h1).1
 ·rw [List.take_succ_cons] at h1; exact h (List.cons.inj h1).1
theorem pcR_short {first : Bool} {cur : List UInt8} {x : UInt8} {l : List UInt8} (h2 : l.length < 2) : pcR first cur (x :: l) = [cur ++ x :: l] := by rw [pcR, if_pos h2]
theorem pcR_end : ∀ (a : List UInt8) (first : Bool) (cur : List UInt8), (∀ c ∈ a, c ≠ 32) -> pcR first cur a = [cur ++ a]
 | [], first, cur, _ => by rw [pcR_nil, List.append_nil]
 | x :: l, first, cur, h => by
   by_cases h2 : l.length < 2
   ·exact pcR_short h2
   ·rw [pcR_plain (by omega) (h x (by simp)), pcR_end l false (cur ++ [x]) (fun c hc => h c (by simp [hc]))]
    simp
theorem pcR_sign {cur : List UInt8} {sg : UInt8} {t : List UInt8} (h : sg = 43 \/ sg = 45) : pcR false cur (32 :: sg :: 32 :: t) = cur :: pcR false (if sg = 45 then [45] else []) t := by
 rw [pcR, if_neg (by simp), if_pos ⟨rfl, by rcases h with rfl | rfl <;> simp⟩]
 rcases h with rfl | rfl <;> simp
theorem pcR_mid {sg : UInt8} {t : List UInt8} (hs : sg = 43 \/ sg = 45) : ∀ (a : List UInt8) (first : Bool) (cur : List UInt8), (∀ c ∈ a, c ≠ 32) -> (a ≠ [] \/ first = false) -> pcR first cur (a ++ 32 :: sg :: 32 :: t) = (cur ++ a) :: pcR false (if sg = 45 then [45] else []) t
 | [], first, cur, _, h0 => by
   rcases h0 with h0 | rfl
   ·exact absurd rfl h0
   ·rw [List.nil_append, List.append_nil, pcR_sign hs]
 | x :: l, first, cur, h, _ => by
   rw [List.cons_append, pcR_plain (by simp; omega) (h x (by simp)), pcR_mid hs l false (cur ++ [x]) (fun c hc => h c (by simp [hc])) (.inr rfl)]
   simp
def sgT (m : Mon) : List UInt8 := if m.2.num < 0 then [45] else []
theorem sgB_or (m : Mon) : sgB m = 43 \/ sgB m = 45 := by
 unfold sgB
 split
 ·exact .inr rfl
 ·exact .inl rfl
theorem sgB_T (m : Mon) : (if sgB m = 45 then [45] else []) = sgT m := by
 unfold sgB sgT
 split
 ·rfl
 ·rfl
theorem pieces_rest : ∀ (r : List Mon) (m : Mon) (cur : List UInt8) (first : Bool), okM m -> (∀ x ∈ r, okM x) -> pcR first cur (tx m ++ restT r) = (cur ++ tx m) :: r.map (fun x => sgT x ++ tx x)
 | [], m, cur, first, hm, _ => by
   show pcR first cur (tx m ++ []) = _
   rw [List.append_nil, pcR_end _ _ _ (tx_no hm)]
   rfl
 | x :: r, m, cur, first, hm, h => by
   have ih := pieces_rest r x (sgT x) false (h x (by simp)) (fun y hy => h y (by simp [hy]))
   have e : tx m ++ restT (x :: r) = tx m ++ 32 :: sgB x :: 32 :: (tx x ++ restT r) := by
    unfold restT
    rw [List.flatMap_cons]
    simp
   have hne : tx m ≠ [] := by
    obtain ⟨c, t, ht, _⟩ := text_head hm
    unfold tx
    rw [ht]
    simp
   rw [e, pcR_mid (sgB_or x) _ _ _ (tx_no hm) (.inl hne), sgB_T, ih]
   rfl
theorem pieces_fmt {m : Mon} {r : List Mon} (h : ∀ x ∈ m :: r, okM x) : pcR true [] (fmtP (m :: r)) = (m :: r).map (fun x => sgT x ++ tx x) := by
 rw [fmtP_cons h]
 have hm := h m (by simp)
 have hr : ∀ x ∈ r, okM x := fun y hy => h y (by simp [hy])
 by_cases hn : m.2.num < 0
 ·rw [if_pos hn]
  obtain ⟨c, t, ht, _⟩ := text_head hm
  have hT : sgT m = [45] := by unfold sgT; rw [if_pos hn]
  by_cases h2 : (tx m ++ restT r).length < 2
  ·have hr0 : r = [] := by
    cases r with
    | nil => rfl
    | cons y r' =>
      exfalso
      unfold restT at h2
      simp at h2
      omega
   subst hr0
   show pcR true [] ([45] ++ (tx m ++ [])) = _
   rw [List.append_nil, List.singleton_append, pcR_end _ _ _ (fun c hc => by
    rcases List.mem_cons.1 hc with rfl | hc
    ·decide
    ·exact tx_no hm c hc)]
   simp [hT]
  ·rw [List.singleton_append, pcR_plain (by omega) (by decide), pieces_rest r m _ _ hm hr, List.map_cons, hT]
   rfl
 ·rw [if_neg hn, List.nil_append, pieces_rest r m _ _ hm hr, List.map_cons]
  have hT : sgT m = [] := by unfold sgT; rw [if_neg hn]
  rw [hT]
def isPar : List UInt8 -> Option (Nat × Nat)
 | [c] => if 97 <= c.toNat /\ c.toNat < 100 then some (c.toNat - 97, 1) else none
 | [c, h, d] => if (97 <= c.toNat /\ c.toNat < 100) /\ h = 94 /\ 50 <= d.toNat /\ d.toNat <= 53 then some (c.toNat - 97, d.toNat - 48) else none
 | _ => none
def addE (e : Ex) (k n : Nat) : Ex := match k with
 | 0 => (e.1 + n, e.2.1, e.2.2)
 | 1 => (e.1, e.2.1 + n, e.2.2)
 | _ => (e.1, e.2.1, e.2.2 + n)
theorem sp_head_le (c : UInt8) : ∀ s, ((sp c s).headD []).length <= s.length
 | [] => by simp [sp]
 | x :: l => by
   rw [sp_step]
   split
   ·simp
   ·have := sp_head_le c l; simp only [List.headD_cons, List.length_cons]; omega
def refF (first : Bool) (e : Ex) (q : Rat) (s : List UInt8) : Option (Ex × Rat) :=
 if hs : s = [] then (if first then none else some (e, q))
 else match isPar ((sp 42 s).headD []) with
  | some kn => if ((sp 42 s).headD []).length = s.length then some (addE e kn.1 kn.2, q) else refF false (addE e kn.1 kn.2) q (s.drop (((sp 42 s).headD []).length + 1))
  | none => if first then match parseQ ((sp 42 s).headD []) with
   | none => none
   | some q' => if ((sp 42 s).headD []).length = s.length then some (e, q') else refF false e q' (s.drop (((sp 42 s).headD []).length + 1))
    else none
termination_by s.length
decreasing_by
 all_goals
  have : 0 < s.length := List.length_pos_iff.2 hs
  rw [List.length_drop]
  omega
def refM (s : List UInt8) : Option (Ex × Rat) := match s with
 | [] => refF true (0, 0, 0) 1 []
 | c :: t => if c = 45 then (refF true (0, 0, 0) 1 t).map (fun m => (m.1, -m.2)) else refF true (0, 0, 0) 1 (c :: t)
def refL : List (List UInt8) -> Co -> Option Co
 | [], c => some c
 | s :: r, c => match refM s with
   | none => none
   | some m => refL r (addAt c m.1 m.2)
noncomputable def parseR (s : List UInt8) : Option (List Mon) := match refL (pcR true [] s) zeroC with
 | none => none
 | some c => if fmtP (listOf c) = s then some (listOf c) else none
theorem refF_step {first : Bool} {e : Ex} {q : Rat} {s : List UInt8} (hs : s ≠ []) : refF first e q s = match isPar ((sp 42 s).headD []) with
 | some kn => if ((sp 42 s).headD []).length = s.length then some (addE e kn.1 kn.2, q) else refF false (addE e kn.1 kn.2) q (s.drop (((sp 42 s).headD []).length + 1))
 | none => if first then match parseQ ((sp 42 s).headD []) with
  | none => none
  | some q' => if ((sp 42 s).headD []).length = s.length then some (e, q') else refF false e q' (s.drop (((sp 42 s).headD []).length + 1))
   else none := by rw [refF, dif_neg hs]
theorem isPar_B : ∀ k, k < 3 -> ∀ n, n <= 5 -> n ≠ 0 -> isPar (partB k n) = some (k, n) := by decide +kernel
theorem isPar_no {c : UInt8} {r : List UInt8} (h : c.toNat < 97) : isPar (c :: r) = none := by
 match r with
 | [] => show (if 97 <= c.toNat /\ c.toNat < 100 then some (c.toNat - 97, 1) else none) = none; rw [if_neg (by omega)]
 | [_] => rfl
 | [x, y] => show (if (97 <= c.toNat /\ c.toNat < 100) /\ x = 94 /\ 50 <= y.toNat /\ y.toNat <= 53 then some (c.toNat - 97, y.toNat - 48) else none) = none; rw [if_neg (by omega)]
 | _ :: _ :: _ :: _ => rfl
theorem join_two (x y : List UInt8) (r : List (List UInt8)) : Lib.join (x :: y :: r) [42] = x ++ 42 :: Lib.join (y :: r) [42] := by
 rw [Lib.join_cons, Lib.join_cons y]
 simp [Lib.joinTail]
abbrev okP (p : Nat × Nat) : Prop := p.1 < 3 /\ p.2 <= 5 /\ p.2 ≠ 0
def parB (p : Nat × Nat) : List UInt8 := partB p.1 p.2
theorem parB_no {p : Nat × Nat} (h : okP p) : (∀ c ∈ parB p, c ≠ 42) /\ parB p ≠ [] := ⟨fun c hc => ((partB_ok p.1 h.1 p.2 h.2.1 h.2.2).1 c hc).1, (partB_ok p.1 h.1 p.2 h.2.1 h.2.2).2.2.1⟩
theorem refF_pars : ∀ (ps : List (Nat × Nat)) (first : Bool) (e : Ex) (q : Rat), ps ≠ [] -> (∀ p ∈ ps, okP p) -> refF first e q (Lib.join (ps.map parB) [42]) = some (ps.foldl (fun e p => addE e p.1 p.2) e, q)
 | [], _, _, _, h, _ => absurd rfl h
 | [p], first, e, q, _, h => by
   have hp := h p (by simp)
   have hn := parB_no hp
   show refF first e q (Lib.join [parB p] [42]) = _
   rw [Lib.join_one, refF_step hn.2, sp_none hn.1, List.headD_cons]
   unfold parB
   rw [isPar_B p.1 hp.1 p.2 hp.2.1 hp.2.2]
   simp
 | p :: p' :: r, first, e, q, _, h => by
   have hp := h p (by simp)
   have hn := parB_no hp
   have ih := refF_pars (p' :: r) false (addE e p.1 p.2) q (by simp) (fun x hx => h x (by simp [hx]))
   have ej : Lib.join ((p :: p' :: r).map parB) [42] = parB p ++ 42 :: Lib.join ((p' :: r).map parB) [42] := join_two _ _ _
   rw [ej, refF_step (by simp), sp_cons _ hn.1, List.headD_cons]
   have hl : ¬ (parB p).length = (parB p ++ 42 :: Lib.join ((p' :: r).map parB) [42]).length := by simp
   have hd : (parB p ++ 42 :: Lib.join ((p' :: r).map parB) [42]).drop ((parB p).length + 1) = Lib.join ((p' :: r).map parB) [42] := by simp
   rw [show isPar (parB p) = some (p.1, p.2) from isPar_B p.1 hp.1 p.2 hp.2.1 hp.2.2]
   simp only []
   rw [if_neg hl, hd, ih]
   rfl
def prs (e : Ex) : List (Nat × Nat) := (if e.1 = 0 then [] else [(0, e.1)]) ++ ((if e.2.1 = 0 then [] else [(1, e.2.1)]) ++ (if e.2.2 = 0 then [] else [(2, e.2.2)]))
theorem pk_prs (e : Ex) : pk 0 e.1 ++ (pk 1 e.2.1 ++ pk 2 e.2.2) = (prs e).map parB := by
 unfold prs pk
 rw [List.map_append, List.map_append]
 congr 1
 ·split <;> rfl
 ·congr 1
  ·split <;> rfl
  ·split <;> rfl
theorem prs_ok {m : Mon} (h : okM m) : ∀ p ∈ prs m.1, okP p := by
 obtain ⟨h1, h2, h3⟩ := h
 intro p hp
 unfold prs at hp
 rcases List.mem_append.1 hp with hp | hp
 ·split at hp
  ·cases hp
  ·rw [List.mem_singleton] at hp; subst hp; exact ⟨by omega, h1, by assumption⟩
 ·rcases List.mem_append.1 hp with hp | hp
  ·split at hp
   ·cases hp
   ·rw [List.mem_singleton] at hp; subst hp; exact ⟨by omega, h2, by assumption⟩
  ·split at hp
   ·cases hp
   ·rw [List.mem_singleton] at hp; subst hp; exact ⟨by omega, h3, by assumption⟩
theorem prs_fold (e : Ex) : (prs e).foldl (fun e p => addE e p.1 p.2) (0, 0, 0) = e := by
 obtain ⟨a, b, c⟩ := e
 unfold prs
 by_cases a0 : a = 0 <;> by_cases b0 : b = 0 <;> by_cases c0 : c = 0 <;> simp [a0, b0, c0, addE]
theorem fmtQ_head {q : Rat} (h : ¬ q.num < 0) : ∃ c r, fmtQ q = c :: r /\ c.toNat < 97 := by
 cases hq : fmtQ q with
 | nil => exact absurd hq (fmtQ_ne' _)
 | cons c r =>
   refine ⟨c, r, rfl, ?_⟩
   have := fmtQ_numB h c (by rw [hq]; simp)
   unfold numB isDig at this
   rcases Bool.or_eq_true_iff.1 this with h1 | h1
   ·have := of_decide_eq_true h1; omega
   ·have : c = 47 := by simpa using h1
    subst this; decide
theorem refF_text {m : Mon} (h : okM m) (hs : Sz m.2 100) : refF true (0, 0, 0) 1 (tx m) = some (m.1, absq m.2) := by
 unfold tx
 by_cases hn : m.1 = (0, 0, 0) \/ absq m.2 ≠ 1
 ·have e : pcs m = fmtQ (absq m.2) :: (prs m.1).map parB := by unfold pcs; rw [if_pos hn, pk_prs]; rfl
  have hno : ∀ c ∈ fmtQ (absq m.2), c ≠ 42 := fun c hc => (numB_ne (fmtQ_numB absq_num c hc)).1
  have hip : isPar (fmtQ (absq m.2)) = none := by
   obtain ⟨c, r, hc, h97⟩ := fmtQ_head (q := absq m.2) absq_num
   rw [hc]
   exact isPar_no h97
  have hfold := prs_fold m.1
  rw [e]
  cases hp : prs m.1 with
  | nil =>
    rw [hp] at hfold
    rw [List.map_nil, Lib.join_one, refF_step (fmtQ_ne' _), sp_none hno, List.headD_cons, hip, parse_abs hs]
    simp only [if_true]
    rw [<- hfold]
    rfl
  | cons p r =>
    have ej : Lib.join (fmtQ (absq m.2) :: (p :: r).map parB) [42] = fmtQ (absq m.2) ++ 42 :: Lib.join ((p :: r).map parB) [42] := join_two _ _ _
    have hl : ¬ (fmtQ (absq m.2)).length = (fmtQ (absq m.2) ++ 42 :: Lib.join ((p :: r).map parB) [42]).length := by simp
    have hd : (fmtQ (absq m.2) ++ 42 :: Lib.join ((p :: r).map parB) [42]).drop ((fmtQ (absq m.2)).length + 1) = Lib.join ((p :: r).map parB) [42] := by simp
    rw [ej, refF_step (by simp), sp_cons _ hno, List.headD_cons, hip, parse_abs hs]
    simp only [if_true]
    rw [if_neg hl, hd, refF_pars _ _ _ _ (by simp) (by rw [<- hp]; exact prs_ok h), <- hp, hfold]
 ·have e : pcs m = (prs m.1).map parB := by unfold pcs; rw [if_neg hn, pk_prs]; rfl
  have h1 : absq m.2 = 1 := Decidable.byContradiction (fun hh => hn (.inr hh))
  have hne : prs m.1 ≠ [] := fun hh => by
   have := pcs_ne m
   rw [e, hh] at this
   exact this rfl
  rw [e, refF_pars _ _ _ _ hne (prs_ok h), prs_fold, h1]
theorem refM_text {m : Mon} (h : okM m) (hs : Sz m.2 100) : refM (sgT m ++ tx m) = some (m.1, m.2) := by
 have e := absq_sign (q := m.2)
 unfold sgT
 by_cases hn : m.2.num < 0
 ·rw [if_pos hn] at e ⊢
  rw [if_pos rfl] at e
  show refM (45 :: tx m) = _
  unfold refM
  simp only [if_true]
  rw [refF_text h hs]
  simp only [Option.map_some]
  rw [e]
 ·rw [if_neg hn] at e ⊢
  rw [if_neg (by decide)] at e
  obtain ⟨c, t, ht, hc⟩ := text_head h
  have ht' : tx m = c :: t := ht
  rw [List.nil_append, ht']
  unfold refM
  simp only []
  rw [if_neg hc, <- ht', refF_text h hs, e]
theorem refL_text : ∀ (l : List Mon) (c : Co), (∀ x ∈ l, okM x) -> (∀ x ∈ l, Sz x.2 100) -> refL (l.map (fun x => sgT x ++ tx x)) c = some (addL c l)
 | [], _, _, _ => rfl
 | m :: r, c, h, hs => by
   rw [List.map_cons, refL, refM_text (h m (by simp)) (hs m (by simp))]
   simp only []
   rw [refL_text r _ (fun y hy => h y (by simp [hy])) (fun y hy => hs y (by simp [hy]))]
   rfl
theorem addL_zero (l : List Mon) : addL zeroC l = co l := funext fun e => by
 rw [addL_eq]
 show 0 + co l e = co l e
 exact Rat.zero_add _
theorem listOf_zero : listOf zeroC = [] := by unfold listOf zeroC; simp
theorem parseR_fmt {l : List Mon} (hv : VP l) (hs : SzL l 100) : parseR (fmtP l) = some l := by
 have h : ∀ x ∈ l, okM x := fun x hx => okM_of (hv.1 x hx).1
 cases l with
 | nil =>
   have hf : fmtP [] = [48] := rfl
   have h0 : addAt zeroC (0, 0, 0) 0 = zeroC := funext fun e => by unfold addAt zeroC; split <;> exact Rat.zero_add _
   have hm : refM [48] = some ((0, 0, 0), 0) := by
    unfold refM
    simp only []
    rw [if_neg (by decide), refF_step (by simp), sp_none (by decide), List.headD_cons, isPar_no (by decide)]
    rfl
   unfold parseR
   rw [hf, pcR_short (by decide), List.nil_append, refL, hm]
   simp only [refL]
   rw [h0, listOf_zero, hf, if_pos rfl]
 | cons m r =>
   unfold parseR
   rw [pieces_fmt h, refL_text _ _ h hs]
   simp only []
   rw [addL_zero, listOf_co hv, if_pos rfl]
theorem parseR_sound {s : List UInt8} {l : List Mon} (h : parseR s = some l) : fmtP l = s /\ VP l := by
 unfold parseR at h
 split at h
 ·cases h
 ·split at h
  ·rename_i e
   obtain rfl := Option.some.inj h
   exact ⟨e, vp_listOf _⟩
  ·cases h
theorem parse_both {s : List UInt8} (hd : ∀ l, VP l -> fmtP l = s -> SzL l 100) : parseP s = parseR s := by
 cases hP : parseP s with
 | some l =>
   obtain ⟨h1, h2⟩ := parseP_sound hP
   rw [<- h1, parseR_fmt h2 (hd l h2 h1)]
 | none =>
   cases hR : parseR s with
   | none => rfl
   | some l =>
     obtain ⟨h1, h2⟩ := parseR_sound hR
     rw [<- h1, parseP_fmt h2 (hd l h2 h1)] at hP
     cases hP
end Go.Proofs.YtifeekomegoijaaGreatDoor
