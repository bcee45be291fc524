/- Plain: the parts of a text between spaces; words written and read. -/
import Derived.Test.YtdlmhgijpgnilaaGreatDoorQ02
import Derived.Lib.Join
set_option linter.unusedVariables false
set_option linter.unusedSimpArgs false
namespace Go.Proofs.YtdlmhgijpgnilaaGreatDoor

/-- The parts between spaces that are not empty; cur: what has come of the part that is under way. -/
def fldsA (cur : List UInt8) : List UInt8 → List (List UInt8)
  | [] => if cur = [] then [] else [cur]
  | c :: s => if c = 32 then (if cur = [] then fldsA [] s else cur :: fldsA [] s) else fldsA (cur ++ [c]) s
def flds (s : List UInt8) : List (List UInt8) := fldsA [] s
theorem fldsA_part (cur p q : List UInt8) (h : ∀ c ∈ p, c ≠ 32) : fldsA cur (p ++ q) = fldsA (cur ++ p) q := by
  induction p generalizing cur with
  | nil => simp
  | cons c p ih =>
    rw [List.cons_append, fldsA, if_neg (h c (List.mem_cons_self ..)), ih _ (fun x hx => h x (List.mem_cons_of_mem _ hx))]
    simp
theorem fldsA_space (cur q : List UInt8) : fldsA cur (32 :: q) = (if cur = [] then [] else [cur]) ++ fldsA [] q := by
  rw [fldsA, if_pos rfl]
  split <;> simp
theorem flds_cut {p q : List UInt8} (h : ∀ c ∈ p, c ≠ 32) : flds (p ++ 32 :: q) = (if p = [] then [] else [p]) ++ flds q := by
  unfold flds
  rw [fldsA_part [] p _ h, fldsA_space, List.nil_append]
theorem flds_last {p : List UInt8} (h : ∀ c ∈ p, c ≠ 32) : flds p = if p = [] then [] else [p] := by
  unfold flds
  have := fldsA_part [] p [] h
  rw [List.append_nil, List.nil_append] at this
  rw [this, fldsA]
theorem flds_spaces (n : Nat) (q : List UInt8) : flds (List.replicate n 32 ++ q) = flds q := by
  induction n with
  | zero => rfl
  | succ n ih =>
    rw [List.replicate_succ, List.cons_append]
    have := flds_cut (p := []) (q := List.replicate n 32 ++ q) (by simp)
    simpa [ih] using this
theorem fldsA_length (cur s : List UInt8) : (fldsA cur s).length ≤ s.length + 1 ∧ (cur = [] → (fldsA cur s).length ≤ s.length) := by
  induction s generalizing cur with
  | nil => rw [fldsA]; split <;> simp_all
  | cons c s ih =>
    rw [fldsA]
    split
    · have := ih []
      split
      · simp; omega
      · next h => simp [h]; omega
    · have := ih (cur ++ [c])
      simp; omega
theorem flds_length (s : List UInt8) : (flds s).length ≤ s.length := (fldsA_length [] s).2 rfl
theorem fldsA_mem (cur s : List UInt8) : ∀ p ∈ fldsA cur s, p ≠ [] ∧ p.length ≤ cur.length + s.length := by
  induction s generalizing cur with
  | nil =>
    intro p hp
    rw [fldsA] at hp
    split at hp
    · simp at hp
    · next h =>
      rw [List.mem_singleton] at hp
      subst hp
      exact ⟨h, by simp⟩
  | cons c s ih =>
    intro p hp
    rw [fldsA] at hp
    split at hp
    · split at hp
      · have := ih [] p hp
        simp at this ⊢
        exact ⟨this.1, by omega⟩
      · next h =>
        rcases List.mem_cons.1 hp with rfl | hp
        · exact ⟨h, by simp⟩
        · have := ih [] p hp
          simp at this ⊢
          exact ⟨this.1, by omega⟩
    · have := ih (cur ++ [c]) p hp
      simp at this ⊢
      exact ⟨this.1, by omega⟩

/-- Parts as strings. -/
def strs (l : List (List UInt8)) : List ByteArray := l.map fun s => ⟨s.toArray⟩
/-- The symbols of names; 0 for what is no name. -/
def symsOf (l : List ByteArray) (ps : List (List UInt8)) : List Nat := ps.map fun p => fnd l ⟨p.toArray⟩
/-- What reading a text answers: symbols and an error. -/
def readA (l : List ByteArray) (s : ByteArray) : List Nat × Int :=
  if tab l = true then (if 16384 < s.size then ([], 2) else if 0 ∈ symsOf l (flds s.data.toList) then ([], 3) else if 256 < (flds s.data.toList).length then ([], 2) else (symsOf l (flds s.data.toList), 0)) else ([], 5)

/-- The text of a list of symbols. -/
def nameAt (l : List ByteArray) (x : Int) : List UInt8 := (l.getD (x.toNat - 1) ByteArray.empty).data.toList
def wtext (l : List ByteArray) (w : List Int) : List UInt8 := Lib.join (w.map (nameAt l)) [32]
theorem wtext_nil (l : List ByteArray) : wtext l [] = [] := rfl
theorem joinTail_app (sep : List UInt8) (y : List UInt8) (r : List (List UInt8)) : Lib.joinTail sep (r ++ [y]) = Lib.joinTail sep r ++ sep ++ y := by
  unfold Lib.joinTail
  rw [List.map_append, List.flatten_append, List.append_assoc]
  simp
theorem join_snoc (xs : List (List UInt8)) (y sep : List UInt8) : Lib.join (xs ++ [y]) sep = (if xs = [] then y else Lib.join xs sep ++ sep ++ y) := by
  cases xs with
  | nil => rw [if_pos rfl, List.nil_append, Lib.join_one]
  | cons x xs =>
    rw [if_neg (by simp), List.cons_append, Lib.join_cons, Lib.join_cons, joinTail_app]
    simp only [List.append_assoc]
theorem wtext_snoc (l : List ByteArray) (w : List Int) (x : Int) : wtext l (w ++ [x]) = (if w = [] then nameAt l x else wtext l w ++ [32] ++ nameAt l x) := by
  unfold wtext
  rw [List.map_append, List.map_singleton, join_snoc]
  simp
theorem nameAt_ok {l : List ByteArray} (h : tab l = true) {x : Int} (h1 : 1 ≤ x) (h2 : x ≤ l.length) : nameAt l x ≠ [] ∧ (nameAt l x).length ≤ 24 ∧ (∀ c ∈ nameAt l x, c ≠ 32) ∧ fnd l ⟨(nameAt l x).toArray⟩ = x.toNat := by
  obtain ⟨k, hk⟩ : ∃ k : Nat, x = (k : Int) + 1 := ⟨(x - 1).toNat, by omega⟩
  subst hk
  have hkl : k < l.length := by omega
  have e : nameAt l ((k : Int) + 1) = (l.getD k ByteArray.empty).data.toList := by
    unfold nameAt
    rw [show ((k : Int) + 1).toNat - 1 = k by omega]
  rw [e]
  have hn := ((tab_out h).2.2 k hkl).1
  have hs := nmd_size hn
  refine ⟨?_, ?_, ?_, ?_⟩
  · intro h0
    have := congrArg List.length h0
    rw [List.length_nil, Array.length_toList] at this
    have : (l.getD k ByteArray.empty).size = 0 := this
    omega
  · rw [Array.length_toList]; exact hs.2
  · intro c hc h32
    unfold nmd at hn
    rw [Bool.and_eq_true, List.all_eq_true] at hn
    have := hn.2 c hc
    rw [h32] at this
    exact absurd this (by decide)
  · rw [Array.toArray_toList]
    have := tab_find h hkl
    rw [show (⟨(l.getD k ByteArray.empty).data⟩ : ByteArray) = l.getD k ByteArray.empty from rfl, this]
    omega
theorem wtext_length {l : List ByteArray} (h : tab l = true) {w : List Int} (hw : ∀ x ∈ w, 1 ≤ x ∧ x ≤ l.length) : (wtext l w).length ≤ 25 * w.length := by
  have key : ∀ r : List Int, (∀ x ∈ r, 1 ≤ x ∧ x ≤ (l.length : Int)) → (wtext l r.reverse).length ≤ 25 * r.length := by
    intro r
    induction r with
    | nil => intro _; simp [wtext_nil]
    | cons x r ih =>
      intro hr
      have hx := nameAt_ok h (hr x (List.mem_cons_self ..)).1 (hr x (List.mem_cons_self ..)).2
      have := ih (fun y hy => hr y (List.mem_cons_of_mem _ hy))
      rw [List.reverse_cons, wtext_snoc]
      split
      · simp; omega
      · simp; omega
  have := key w.reverse (fun x hx => hw x (List.mem_reverse.1 hx))
  simpa using this
/-- Each space is followed by k more. -/
def widen (k : Nat) (s : List UInt8) : List UInt8 := s.flatMap fun c => if c = 32 then List.replicate (k + 1) 32 else [c]
theorem widen_append (k : Nat) (s t : List UInt8) : widen k (s ++ t) = widen k s ++ widen k t := by unfold widen; rw [List.flatMap_append]
theorem widen_plain (k : Nat) (s : List UInt8) (h : ∀ c ∈ s, c ≠ 32) : widen k s = s := by
  induction s with
  | nil => rfl
  | cons c s ih =>
    have := ih (fun x hx => h x (List.mem_cons_of_mem _ hx))
    unfold widen at this ⊢
    rw [List.flatMap_cons, this, if_neg (h c (List.mem_cons_self ..))]; rfl
theorem widen_length (k : Nat) (s : List UInt8) : (widen k s).length ≤ (k + 1) * s.length := by
  induction s with
  | nil => simp [widen]
  | cons c s ih =>
    unfold widen at ih ⊢
    rw [List.flatMap_cons, List.length_append, List.length_cons, Nat.mul_add]
    have hk : (k + 1) * 1 = k + 1 := Nat.mul_one _
    have hc : (if c = 32 then List.replicate (k + 1) 32 else [c]).length ≤ k + 1 := by
      split
      · rw [List.length_replicate]; exact Nat.le_refl _
      · rw [List.length_singleton]; omega
    omega
theorem flds_append_space {s : List UInt8} (q : List UInt8) : flds (s ++ 32 :: q) = flds s ++ flds q := by
  have key : ∀ (cur s : List UInt8), fldsA cur (s ++ 32 :: q) = fldsA cur s ++ fldsA [] q := by
    intro cur s
    induction s generalizing cur with
    | nil => rw [List.nil_append, fldsA_space, fldsA]
    | cons c s ih =>
      rw [List.cons_append, fldsA, fldsA]
      split
      · split
        · exact ih []
        · rw [ih [], List.cons_append]
      · exact ih _
  exact key [] s
theorem flds_written {l : List ByteArray} (h : tab l = true) (k : Nat) {w : List Int} (hw : ∀ x ∈ w, 1 ≤ x ∧ x ≤ l.length) (n m : Nat) :
    flds (List.replicate n 32 ++ widen k (wtext l w) ++ List.replicate m 32) = w.map (nameAt l) := by
  have hend : ∀ s : List UInt8, flds (s ++ List.replicate m 32) = flds s := by
    intro s
    cases m with
    | zero => simp
    | succ m =>
      rw [List.replicate_succ, flds_append_space]
      have := flds_spaces m []
      rw [List.append_nil] at this
      rw [this]
      simp [flds, fldsA]
  rw [hend, flds_spaces]
  have key : ∀ r : List Int, (∀ x ∈ r, 1 ≤ x ∧ x ≤ (l.length : Int)) → flds (widen k (wtext l r.reverse)) = r.reverse.map (nameAt l) := by
    intro r
    induction r with
    | nil => intro _; rfl
    | cons x r ih =>
      intro hr
      have hx := nameAt_ok h (hr x (List.mem_cons_self ..)).1 (hr x (List.mem_cons_self ..)).2
      have h0 := ih (fun y hy => hr y (List.mem_cons_of_mem _ hy))
      have hp : flds (nameAt l x) = [nameAt l x] := by rw [flds_last hx.2.2.1, if_neg hx.1]
      rw [List.reverse_cons, wtext_snoc, List.map_append, List.map_singleton, ← h0]
      split
      · next hnil =>
        rw [widen_plain _ _ hx.2.2.1, hp, hnil]
        rfl
      · rw [widen_append, widen_append, widen_plain k (nameAt l x) hx.2.2.1, List.append_assoc]
        have e : widen k [32] = 32 :: List.replicate k 32 := by simp [widen, List.replicate_succ]
        rw [e, List.cons_append, flds_append_space, flds_spaces, hp]
  have := key w.reverse (fun x hx => hw x (List.mem_reverse.1 hx))
  rwa [List.reverse_reverse] at this
theorem symsOf_written {l : List ByteArray} (h : tab l = true) {w : List Int} (hw : ∀ x ∈ w, 1 ≤ x ∧ x ≤ l.length) : symsOf l (w.map (nameAt l)) = w.map Int.toNat := by
  unfold symsOf
  rw [List.map_map]
  exact List.map_congr_left fun x hx => (nameAt_ok h (hw x hx).1 (hw x hx).2).2.2.2
end Go.Proofs.YtdlmhgijpgnilaaGreatDoor
