/- Plain: names, tables, places of names, merged tables. -/
import Derived.Lib.SlicesS
import Derived.Lib.Bytealg
set_option linter.unusedVariables false
set_option linter.unusedSimpArgs false
namespace Go.Proofs.YtdlmhgijpgnilaaGreatDoor

def okn (n : Nat) : Bool := decide (33 ≤ n) && decide (n ≤ 126) && decide (n ≠ 35) && decide (n ≠ 40) && decide (n ≠ 41) && decide (n ≠ 42) && decide (n ≠ 43) && decide (n ≠ 124) && decide (n ≠ 45) && decide (n ≠ 91) && decide (n ≠ 93)
/-- The bytes that names may have. -/
def okB (c : UInt8) : Bool := okn c.toNat
def resv : List UInt8 := [35, 40, 41, 42, 43, 124, 45, 91, 93]
theorem okn_resv_all : ∀ n, n < 256 → 33 ≤ n → n ≤ 126 → okn n = decide (Lib.indexByte resv n.toUInt8 < 0) := by decide +kernel
theorem okn_out {n : Nat} (h : n < 33 ∨ 126 < n) : okn n = false := by
  unfold okn
  rcases h with h | h
  · rw [decide_eq_false (show ¬ 33 ≤ n by omega)]; rfl
  · rw [decide_eq_false (show ¬ n ≤ 126 by omega)]; simp

def nmd (s : ByteArray) : Bool := decide (1 ≤ s.size) && decide (s.size ≤ 24) && !(s.toList == [48]) && !(s.toList == [49]) && s.data.toList.all okB
theorem nmd_bytes {s : ByteArray} (h1 : 1 ≤ s.size) (h2 : s.size ≤ 24) (h3 : (s.toList == [48]) = false) (h4 : (s.toList == [49]) = false) : nmd s = s.data.toList.all okB := by
  unfold nmd
  rw [decide_eq_true h1, decide_eq_true h2, h3, h4]; rfl
theorem nmd_empty {s : ByteArray} (h : s.size < 1) : nmd s = false := by
  unfold nmd
  rw [decide_eq_false (show ¬ 1 ≤ s.size by omega)]; rfl
theorem nmd_long {s : ByteArray} (h : 24 < s.size) : nmd s = false := by
  unfold nmd
  rw [decide_eq_false (show ¬ s.size ≤ 24 by omega)]; simp
theorem nmd_zero {s : ByteArray} (h : (s.toList == [48]) = true) : nmd s = false := by
  unfold nmd
  rw [h]; simp
theorem nmd_one {s : ByteArray} (h : (s.toList == [49]) = true) : nmd s = false := by
  unfold nmd
  rw [h]; simp
theorem nmd_size {s : ByteArray} (h : nmd s = true) : 1 ≤ s.size ∧ s.size ≤ 24 := by
  unfold nmd at h
  simp only [Bool.and_eq_true, decide_eq_true_eq] at h
  exact ⟨h.1.1.1.1, h.1.1.1.2⟩
theorem all_of_bytes {s : ByteArray} (h : ∀ j (hj : j < s.size), okB s[j] = true) : s.data.toList.all okB = true := by
  rw [List.all_eq_true]
  intro x hx
  obtain ⟨j, hj, rfl⟩ := List.getElem_of_mem hx
  exact h j (by simpa using hj)
theorem not_all_of_byte {s : ByteArray} {j : Nat} (hj : j < s.size) (h : okB s[j] = false) : s.data.toList.all okB = false := by
  rw [List.all_eq_false]
  exact ⟨s[j], by
    have : s[j] = s.data.toList[j]'(by simpa using hj) := rfl
    rw [this]; exact List.getElem_mem _, by rw [h]; decide⟩

/-- The place of a name in a list, from 1 on, or 0. -/
def fnd : List ByteArray → ByteArray → Nat
  | [], _ => 0
  | y :: l, x => if y = x then 1 else if fnd l x = 0 then 0 else fnd l x + 1
theorem fnd_hit (l : List ByteArray) (k : Nat) (x : ByteArray) (hk : k < l.length) (h : l.getD k ByteArray.empty = x) (hne : ∀ j, j < k → l.getD j ByteArray.empty ≠ x) : fnd l x = k + 1 := by
  induction l generalizing k with
  | nil => simp at hk
  | cons y l ih =>
    match k with
    | 0 => rw [fnd, if_pos (by simpa using h)]
    | k + 1 =>
      have h0 : ¬ y = x := by simpa using hne 0 (by omega)
      have := ih k (by simpa using hk) (by simpa using h) (fun j hj => by simpa using hne (j + 1) (by omega))
      rw [fnd, if_neg h0, this, if_neg (by omega)]
theorem fnd_miss (l : List ByteArray) (x : ByteArray) (h : ∀ j, j < l.length → l.getD j ByteArray.empty ≠ x) : fnd l x = 0 := by
  induction l with
  | nil => rfl
  | cons y l ih =>
    have h0 : ¬ y = x := by simpa using h 0 (by simp)
    have := ih (fun j hj => by simpa using h (j + 1) (by simpa using hj))
    rw [fnd, if_neg h0, this, if_pos rfl]
/-- Either the name stands first at some place, or at none. -/
theorem fnd_cases (l : List ByteArray) (x : ByteArray) : (fnd l x = 0 ∧ ∀ j, j < l.length → l.getD j ByteArray.empty ≠ x) ∨ ∃ k, k < l.length ∧ fnd l x = k + 1 ∧ l.getD k ByteArray.empty = x ∧ ∀ j, j < k → l.getD j ByteArray.empty ≠ x := by
  induction l with
  | nil => exact .inl ⟨rfl, fun j hj => by simp at hj⟩
  | cons y l ih =>
    by_cases h0 : y = x
    · exact .inr ⟨0, by simp, by rw [fnd, if_pos h0], by simpa using h0, fun j hj => by omega⟩
    · rcases ih with ⟨hf, hne⟩ | ⟨k, hk, hf, hx, hne⟩
      · refine .inl ⟨by rw [fnd, if_neg h0, hf, if_pos rfl], fun j hj => ?_⟩
        match j with
        | 0 => simpa using h0
        | j + 1 => simpa using hne j (by simpa using hj)
      · refine .inr ⟨k + 1, by simpa using hk, by rw [fnd, if_neg h0, hf, if_neg (by omega)], by simpa using hx, fun j hj => ?_⟩
        match j with
        | 0 => simpa using h0
        | j + 1 => simpa using hne j (by omega)
theorem fnd_le (l : List ByteArray) (x : ByteArray) : fnd l x ≤ l.length := by
  rcases fnd_cases l x with ⟨h, _⟩ | ⟨k, hk, h, _⟩ <;> omega
theorem fnd_get {l : List ByteArray} {x : ByteArray} {k : Nat} (h : fnd l x = k + 1) : k < l.length ∧ l.getD k ByteArray.empty = x := by
  rcases fnd_cases l x with ⟨h0, _⟩ | ⟨k', hk, h', hx, _⟩
  · omega
  · obtain rfl : k' = k := by omega
    exact ⟨hk, hx⟩
theorem idx_fnd (l : List ByteArray) (x : ByteArray) : Lib.idxOfS l x + 1 = (fnd l x : Int) := by
  rcases fnd_cases l x with ⟨h, hne⟩ | ⟨k, hk, h, hx, hne⟩
  · have := Lib.idxOfS_miss l l.length x hne
    rw [List.take_length] at this
    rw [this, h]; rfl
  · have := Lib.idxOfS_hit l l.length k x hk (Nat.le_refl _) hx hne
    rw [List.take_length] at this
    rw [this, h]; rfl
theorem contains_fnd (l : List ByteArray) (x : ByteArray) : Lib.containsS l x = decide (0 < fnd l x) := by
  unfold Lib.containsS
  have := idx_fnd l x
  exact decide_eq_decide.2 (by omega)
theorem getD_take {l : List ByteArray} {j k : Nat} (h : j < k) : (l.take k).getD j ByteArray.empty = l.getD j ByteArray.empty := by
  simp [List.getD_eq_getElem?_getD, List.getElem?_take, h]
theorem fnd_take {l : List ByteArray} {k : Nat} (hk : k < l.length) (h : fnd (l.take k) (l.getD k ByteArray.empty) = 0) : fnd l (l.getD k ByteArray.empty) = k + 1 := by
  refine fnd_hit l k _ hk rfl fun j hj => ?_
  rcases fnd_cases (l.take k) (l.getD k ByteArray.empty) with ⟨_, hne⟩ | ⟨i, _, hi, _⟩
  · have := hne j (by rw [List.length_take]; omega)
    rwa [getD_take hj] at this
  · omega
theorem fnd_append_hit {l m : List ByteArray} {x : ByteArray} (h : fnd l x ≠ 0) : fnd (l ++ m) x = fnd l x := by
  rcases fnd_cases l x with ⟨h0, _⟩ | ⟨k, hk, h', hx, hne⟩
  · exact absurd h0 h
  · rw [h']
    refine fnd_hit _ k x (by rw [List.length_append]; omega) ?_ fun j hj => ?_
    · rw [List.getD_eq_getElem?_getD, List.getElem?_append_left hk, ← List.getD_eq_getElem?_getD]; exact hx
    · rw [List.getD_eq_getElem?_getD, List.getElem?_append_left (by omega), ← List.getD_eq_getElem?_getD]; exact hne j hj
theorem fnd_append_new {l : List ByteArray} {x : ByteArray} (h : fnd l x = 0) : fnd (l ++ [x]) x = l.length + 1 := by
  rcases fnd_cases l x with ⟨_, hne⟩ | ⟨k, hk, h', _⟩
  · refine fnd_hit _ l.length x (by simp) (by simp [List.getD_eq_getElem?_getD]) fun j hj => ?_
    rw [List.getD_eq_getElem?_getD, List.getElem?_append_left hj, ← List.getD_eq_getElem?_getD]; exact hne j hj
  · omega

/-- The first k names are names, and each stands nowhere before. -/
def firsts (l : List ByteArray) (k : Nat) : Prop := ∀ i, i < k → nmd (l.getD i ByteArray.empty) = true ∧ fnd (l.take i) (l.getD i ByteArray.empty) = 0
instance (l : List ByteArray) (k : Nat) : Decidable (firsts l k) := by unfold firsts; infer_instance
/-- A list of names is a table. -/
def tab (l : List ByteArray) : Bool := decide (1 ≤ l.length) && decide (l.length ≤ 32) && decide (firsts l l.length)
theorem tab_mk {l : List ByteArray} (h1 : 1 ≤ l.length) (h2 : l.length ≤ 32) (h : firsts l l.length) : tab l = true := by
  unfold tab; rw [decide_eq_true h1, decide_eq_true h2, decide_eq_true h]; rfl
theorem tab_out {l : List ByteArray} (h : tab l = true) : 1 ≤ l.length ∧ l.length ≤ 32 ∧ firsts l l.length := by
  unfold tab at h
  simp only [Bool.and_eq_true, decide_eq_true_eq] at h
  exact ⟨h.1.1, h.1.2, h.2⟩
theorem tab_none {l : List ByteArray} (h : l.length < 1) : tab l = false := by
  unfold tab; rw [decide_eq_false (show ¬ 1 ≤ l.length by omega)]; rfl
theorem tab_many {l : List ByteArray} (h : 32 < l.length) : tab l = false := by
  unfold tab; rw [decide_eq_false (show ¬ l.length ≤ 32 by omega)]; simp
theorem tab_bad {l : List ByteArray} {i : Nat} (hi : i < l.length) (h : ¬ (nmd (l.getD i ByteArray.empty) = true ∧ fnd (l.take i) (l.getD i ByteArray.empty) = 0)) : tab l = false := by
  unfold tab; rw [decide_eq_false (show ¬ firsts l l.length from fun hf => h (hf i hi))]; simp
theorem firsts_step {l : List ByteArray} {k : Nat} (h : firsts l k) (h1 : nmd (l.getD k ByteArray.empty) = true) (h2 : fnd (l.take k) (l.getD k ByteArray.empty) = 0) : firsts l (k + 1) := by
  intro i hi
  rcases Nat.lt_or_eq_of_le (Nat.le_of_lt_succ hi) with h' | rfl
  · exact h i h'
  · exact ⟨h1, h2⟩
theorem tab_find {l : List ByteArray} (h : tab l = true) {k : Nat} (hk : k < l.length) : fnd l (l.getD k ByteArray.empty) = k + 1 := fnd_take hk ((tab_out h).2.2 k hk).2

def fndT (l : List ByteArray) (x : ByteArray) : Nat := if tab l = true then fnd l x else 0
/-- The name of a symbol. -/
def nam (l : List ByteArray) (s : Int) : ByteArray := if tab l = true ∧ 0 ≤ s ∧ s ≤ l.length then (if s = 0 then ⟨#[45]⟩ else l.getD (s.toNat - 1) ByteArray.empty) else ⟨#[]⟩

/-- One name more is merged. -/
def mstep (p : List ByteArray × List Nat) (x : ByteArray) : List ByteArray × List Nat := if fnd p.1 x = 0 then (p.1 ++ [x], p.2 ++ [p.1.length + 1]) else (p.1, p.2 ++ [fnd p.1 x])
def mrg (t u : List ByteArray) : List ByteArray × List Nat := u.foldl mstep (t, [])
theorem mrg_nil (t : List ByteArray) : mrg t [] = (t, []) := rfl
theorem mrg_snoc (t u : List ByteArray) (x : ByteArray) : mrg t (u ++ [x]) = mstep (mrg t u) x := by unfold mrg; rw [List.foldl_append]; rfl
theorem mrg_take (t u : List ByteArray) (k : Nat) (hk : k < u.length) : mrg t (u.take (k + 1)) = mstep (mrg t (u.take k)) (u.getD k ByteArray.empty) := by
  rw [List.take_succ_eq_append_getElem hk, mrg_snoc, List.getD_eq_getElem?_getD, List.getElem?_eq_getElem hk]; rfl
theorem list_snoc_ind {P : List ByteArray → Prop} (h0 : P []) (hs : ∀ l x, P l → P (l ++ [x])) (l : List ByteArray) : P l := by
  have : ∀ r : List ByteArray, P r.reverse := fun r => by
    induction r with
    | nil => exact h0
    | cons x r ih => rw [List.reverse_cons]; exact hs _ _ ih
  simpa using this l.reverse
theorem mstep_len (p : List ByteArray × List Nat) (x : ByteArray) : p.1.length ≤ (mstep p x).1.length ∧ (mstep p x).1.length ≤ p.1.length + 1 ∧ (mstep p x).2.length = p.2.length + 1 := by
  unfold mstep; split <;> simp
theorem mrg_len (t u : List ByteArray) : t.length ≤ (mrg t u).1.length ∧ (mrg t u).1.length ≤ t.length + u.length ∧ (mrg t u).2.length = u.length := by
  refine list_snoc_ind (P := fun u => t.length ≤ (mrg t u).1.length ∧ (mrg t u).1.length ≤ t.length + u.length ∧ (mrg t u).2.length = u.length) ⟨Nat.le_refl _, Nat.le_refl _, rfl⟩ (fun l x h => ?_) u
  rw [mrg_snoc, List.length_append, List.length_singleton]
  have := mstep_len (mrg t l) x
  omega
theorem mstep_pre {t : List ByteArray} {p : List ByteArray × List Nat} (h : t <+: p.1) (x : ByteArray) : t <+: (mstep p x).1 := by
  unfold mstep; split
  · exact h.trans (List.prefix_append _ _)
  · exact h
theorem mrg_pre (t u : List ByteArray) : t <+: (mrg t u).1 :=
  list_snoc_ind (P := fun u => t <+: (mrg t u).1) (List.prefix_refl _) (fun l x h => by rw [mrg_snoc]; exact mstep_pre h x) u
theorem mrg_pre_take (t u : List ByteArray) (k : Nat) : (mrg t (u.take k)).1 <+: (mrg t u).1 := by
  have : mrg t u = (u.drop k).foldl mstep (mrg t (u.take k)) := by
    unfold mrg; rw [← List.foldl_append, List.take_append_drop]
  rw [this]
  generalize mrg t (u.take k) = p
  exact list_snoc_ind (P := fun v => p.1 <+: (v.foldl mstep p).1) (List.prefix_refl _) (fun l x h => by rw [List.foldl_append]; exact mstep_pre h x) _
theorem mrg_tos_take (t u : List ByteArray) (k : Nat) : (mrg t (u.take k)).2 <+: (mrg t u).2 := by
  have : mrg t u = (u.drop k).foldl mstep (mrg t (u.take k)) := by
    unfold mrg; rw [← List.foldl_append, List.take_append_drop]
  rw [this]
  generalize mrg t (u.take k) = p
  refine list_snoc_ind (P := fun v => p.2 <+: (v.foldl mstep p).2) (List.prefix_refl _) (fun l x h => ?_) _
  rw [List.foldl_append]
  refine h.trans ?_
  show _ <+: (mstep _ x).2
  unfold mstep; split <;> exact List.prefix_append _ _
theorem getD_of_prefix {l m : List ByteArray} (h : l <+: m) {k : Nat} (hk : k < l.length) : m.getD k ByteArray.empty = l.getD k ByteArray.empty := by
  obtain ⟨r, rfl⟩ := h
  rw [List.getD_eq_getElem?_getD, List.getElem?_append_left hk, ← List.getD_eq_getElem?_getD]
/-- What the numbers say: the k-th is a place of the merged table, which bears the k-th name. -/
theorem mrg_to (t u : List ByteArray) {k : Nat} (hk : k < u.length) : ∃ s, (mrg t u).2[k]? = some s ∧ 1 ≤ s ∧ s ≤ (mrg t u).1.length ∧ (mrg t u).1.getD (s - 1) ByteArray.empty = u.getD k ByteArray.empty := by
  have h1 := mrg_take t u k hk
  have hp := mrg_pre_take t u (k + 1)
  have hq := mrg_tos_take t u (k + 1)
  have hl := (mrg_len t (u.take k)).2.2
  rw [List.length_take, Nat.min_eq_left (by omega)] at hl
  obtain ⟨x, hx⟩ : ∃ x, u.getD k ByteArray.empty = x := ⟨_, rfl⟩
  rw [hx] at h1 ⊢
  generalize mrg t (u.take k) = p at h1 hl
  have key : ∃ s, (mstep p x).2[k]? = some s ∧ 1 ≤ s ∧ s ≤ (mstep p x).1.length ∧ (mstep p x).1.getD (s - 1) ByteArray.empty = x := by
    unfold mstep
    split
    · exact ⟨p.1.length + 1, by rw [List.getElem?_append_right (by omega), hl]; simp, by omega, by simp, by simp [List.getD_eq_getElem?_getD]⟩
    · rename_i hne
      obtain ⟨j, hj⟩ : ∃ j, fnd p.1 x = j + 1 := ⟨fnd p.1 x - 1, by omega⟩
      have := fnd_get hj
      exact ⟨fnd p.1 x, by rw [List.getElem?_append_right (by omega), hl]; simp, by omega, fnd_le _ _, by rw [hj]; exact this.2⟩
  rw [← h1] at key
  obtain ⟨s, h2, h3, h4, h5⟩ := key
  have hs : k < (mrg t (u.take (k + 1))).2.length := (List.getElem?_eq_some_iff.1 h2).1
  refine ⟨s, ?_, h3, Nat.le_trans h4 hp.length_le, ?_⟩
  · obtain ⟨r, hr⟩ := hq
    rw [← hr, List.getElem?_append_left hs]; exact h2
  · rw [getD_of_prefix hp (by omega)]; exact h5
theorem take_of_prefix {l m : List ByteArray} (h : l <+: m) : m.take l.length = l := by
  obtain ⟨r, rfl⟩ := h
  simp
theorem firsts_snoc {l : List ByteArray} {x : ByteArray} (h : firsts l l.length) (h1 : nmd x = true) (h2 : fnd l x = 0) : firsts (l ++ [x]) (l ++ [x]).length := by
  intro i hi
  rw [List.length_append, List.length_singleton] at hi
  rcases Nat.lt_or_eq_of_le (Nat.le_of_lt_succ hi) with h' | rfl
  · have := h i h'
    have e : (l ++ [x]).getD i ByteArray.empty = l.getD i ByteArray.empty := getD_of_prefix (List.prefix_append _ _) h'
    rw [e, List.take_append_of_le_length (by omega)]; exact this
  · have e : (l ++ [x]).getD l.length ByteArray.empty = x := by simp [List.getD_eq_getElem?_getD]
    rw [e, List.take_append_of_le_length (by omega), List.take_length]; exact ⟨h1, h2⟩
/-- The merged list has names, each once. -/
theorem mrg_firsts {t u : List ByteArray} (ht : firsts t t.length) (hu : ∀ i, i < u.length → nmd (u.getD i ByteArray.empty) = true) : firsts (mrg t u).1 (mrg t u).1.length := by
  have key : ∀ k, k ≤ u.length → firsts (mrg t (u.take k)).1 (mrg t (u.take k)).1.length := by
    intro k
    induction k with
    | zero => intro _; exact ht
    | succ k ih =>
      intro hk
      have h0 := ih (by omega)
      rw [mrg_take t u k (by omega)]
      generalize mrg t (u.take k) = p at h0
      unfold mstep
      split
      · rename_i hz
        exact firsts_snoc h0 (hu k (by omega)) hz
      · exact h0
  have := key u.length (Nat.le_refl _)
  rwa [List.take_length] at this
theorem mrg_tab {t u : List ByteArray} (ht : tab t = true) (hu : tab u = true) (hm : (mrg t u).1.length ≤ 32) : tab (mrg t u).1 = true :=
  tab_mk (by have := (mrg_len t u).1; have := (tab_out ht).1; omega) hm (mrg_firsts (tab_out ht).2.2 (fun i hi => ((tab_out hu).2.2 i hi).1))
theorem fnd_of_get {l : List ByteArray} {k : Nat} (hk : k < l.length) : fnd l (l.getD k ByteArray.empty) ≠ 0 := by
  rcases fnd_cases l (l.getD k ByteArray.empty) with ⟨_, hne⟩ | ⟨i, _, hi, _⟩
  · exact absurd rfl (hne k hk)
  · omega
/-- Merged again, nothing is added. -/
theorem mrg_again (t u : List ByteArray) : (mrg (mrg t u).1 u).1 = (mrg t u).1 := by
  have hall : ∀ k, k < u.length → fnd (mrg t u).1 (u.getD k ByteArray.empty) ≠ 0 := by
    intro k hk
    obtain ⟨s, _, h1, h2, h3⟩ := mrg_to t u hk
    rw [← h3]
    exact fnd_of_get (by omega)
  generalize (mrg t u).1 = m at hall
  have key : ∀ k, k ≤ u.length → (mrg m (u.take k)).1 = m := by
    intro k
    induction k with
    | zero => intro _; rfl
    | succ k ih =>
      intro hk
      rw [mrg_take m u k (by omega)]
      have h0 := ih (by omega)
      unfold mstep
      rw [h0, if_neg (hall k (by omega))]
  have := key u.length (Nat.le_refl _)
  rwa [List.take_length] at this
end Go.Proofs.YtdlmhgijpgnilaaGreatDoor
