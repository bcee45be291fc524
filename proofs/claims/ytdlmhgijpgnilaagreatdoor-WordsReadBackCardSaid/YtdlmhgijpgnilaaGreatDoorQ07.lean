/- Plain arithmetic of numbers in limbs of 32 bits: the value of a list of limbs, the one list without a zero at the end for each number, zeros off. No program is imported. -/
set_option linter.unusedVariables false
set_option linter.unusedSimpArgs false
namespace Go.Proofs.YtdlmhgijpgnilaaGreatDoor

/-- The value of limbs, the least significant first. -/
def val : List Nat → Nat
  | [] => 0
  | x :: l => x + 4294967296 * val l
def Lim (l : List Nat) : Prop := ∀ x ∈ l, x < 4294967296
/-- 2^32 to the power of k. -/
def P (k : Nat) : Nat := 4294967296 ^ k
theorem P_zero : P 0 = 1 := rfl
theorem P_succ (k : Nat) : P (k + 1) = P k * 4294967296 := by unfold P; exact Nat.pow_succ ..
theorem P_pos (k : Nat) : 0 < P k := Nat.pow_pos (by decide)
theorem P_add (i j : Nat) : P (i + j) = P i * P j := by unfold P; exact Nat.pow_add _ _ _
theorem P_one : P 1 = 4294967296 := rfl
theorem P_le {i j : Nat} (h : i ≤ j) : P i ≤ P j := Nat.pow_le_pow_right (by decide) h

theorem val_nil : val [] = 0 := rfl
theorem val_cons (x : Nat) (l : List Nat) : val (x :: l) = x + 4294967296 * val l := rfl
theorem val_append (l r : List Nat) : val (l ++ r) = val l + P l.length * val r := by
  induction l with
  | nil => simp [val, P_zero]
  | cons x l ih => simp only [List.cons_append, val, ih, List.length_cons, P_succ]; grind
theorem val_snoc (l : List Nat) (x : Nat) : val (l ++ [x]) = val l + P l.length * x := by simp [val_append, val]
theorem Lim.nil : Lim [] := fun _ h => by simp at h
theorem Lim.cons {x : Nat} {l : List Nat} (hx : x < 4294967296) (h : Lim l) : Lim (x :: l) := fun y hy => by
  rcases List.mem_cons.1 hy with rfl | hy
  · exact hx
  · exact h y hy
theorem Lim.append {l r : List Nat} (h : Lim l) (h' : Lim r) : Lim (l ++ r) := fun y hy => by
  rcases List.mem_append.1 hy with hy | hy
  · exact h y hy
  · exact h' y hy
theorem Lim.snoc {l : List Nat} {x : Nat} (h : Lim l) (hx : x < 4294967296) : Lim (l ++ [x]) := h.append (Lim.cons hx Lim.nil)
theorem Lim.left {l r : List Nat} (h : Lim (l ++ r)) : Lim l := fun y hy => h y (List.mem_append.2 (.inl hy))
theorem Lim.right {l r : List Nat} (h : Lim (l ++ r)) : Lim r := fun y hy => h y (List.mem_append.2 (.inr hy))
theorem Lim.take {l : List Nat} (h : Lim l) (k : Nat) : Lim (l.take k) := fun y hy => h y (List.mem_of_mem_take hy)
theorem Lim.drop {l : List Nat} (h : Lim l) (k : Nat) : Lim (l.drop k) := fun y hy => h y (List.mem_of_mem_drop hy)
theorem Lim.tail {x : Nat} {l : List Nat} (h : Lim (x :: l)) : Lim l := fun y hy => h y (List.mem_cons_of_mem _ hy)
theorem Lim.head {x : Nat} {l : List Nat} (h : Lim (x :: l)) : x < 4294967296 := h x List.mem_cons_self
theorem Lim.zeros (n : Nat) : Lim (List.replicate n 0) := fun y hy => by have := (List.mem_replicate.1 hy).2; omega
theorem Lim.getD {l : List Nat} (h : Lim l) (k : Nat) : l.getD k 0 < 4294967296 := by
  rw [List.getD_eq_getElem?_getD]
  cases hk : l[k]? with
  | none => simp
  | some x => exact h x (List.mem_of_getElem? hk)
theorem val_lt {l : List Nat} (h : Lim l) : val l < P l.length := by
  induction l with
  | nil => simp [val, P_zero]
  | cons x l ih =>
    have h1 := ih h.tail
    have h2 := h.head
    simp only [val, List.length_cons, P_succ]
    omega
theorem val_zeros (n : Nat) : val (List.replicate n 0) = 0 := by
  induction n with
  | zero => rfl
  | succ n ih => simp [List.replicate_succ, val, ih]
theorem take_snoc {l : List Nat} {k : Nat} (h : k < l.length) : l.take (k + 1) = l.take k ++ [l.getD k 0] := by
  rw [List.take_succ_eq_append_getElem h]; simp [List.getD_eq_getElem?_getD, h]
theorem val_take_succ {l : List Nat} {k : Nat} (h : k < l.length) : val (l.take (k + 1)) = val (l.take k) + P k * l.getD k 0 := by
  rw [take_snoc h, val_snoc, List.length_take, Nat.min_eq_left (by omega)]
theorem val_take_succ' (l : List Nat) (k : Nat) : val (l.take (k + 1)) = val (l.take k) + P k * l.getD k 0 := by
  by_cases h : k < l.length
  · exact val_take_succ h
  · rw [List.take_of_length_le (by omega), List.take_of_length_le (by omega), show l.getD k 0 = 0 from by rw [List.getD_eq_getElem?_getD, List.getElem?_eq_none (by omega)]; rfl]; simp
theorem val_take_drop (l : List Nat) (k : Nat) (h : k ≤ l.length) : val l = val (l.take k) + P k * val (l.drop k) := by
  conv => lhs; rw [← List.take_append_drop k l]
  rw [val_append, List.length_take, Nat.min_eq_left h]

/-- The limbs of a number, without a zero at the end. -/
def limbs (n : Nat) : List Nat := if h : n = 0 then [] else n % 4294967296 :: limbs (n / 4294967296)
decreasing_by omega
theorem limbs_zero : limbs 0 = [] := by rw [limbs]; simp
theorem limbs_pos {n : Nat} (h : n ≠ 0) : limbs n = n % 4294967296 :: limbs (n / 4294967296) := by rw [limbs]; simp [h]
theorem val_limbs (n : Nat) : val (limbs n) = n := by
  induction n using Nat.strongRecOn with
  | _ n ih =>
    by_cases h : n = 0
    · subst h; rw [limbs_zero]; rfl
    · rw [limbs_pos h, val, ih _ (by omega)]; omega
theorem lim_limbs (n : Nat) : Lim (limbs n) := by
  induction n using Nat.strongRecOn with
  | _ n ih =>
    by_cases h : n = 0
    · subst h; rw [limbs_zero]; exact Lim.nil
    · rw [limbs_pos h]; exact Lim.cons (Nat.mod_lt _ (by decide)) (ih _ (by omega))
theorem limbs_inj {a b : Nat} (h : limbs a = limbs b) : a = b := by rw [← val_limbs a, ← val_limbs b, h]
theorem limbs_nil {a : Nat} : limbs a = [] ↔ a = 0 := ⟨fun h => by rw [← val_limbs a, h]; rfl, fun h => by rw [h, limbs_zero]⟩
theorem limbs_length_zero {a : Nat} : (limbs a).length = 0 ↔ a = 0 := by rw [List.length_eq_zero_iff, limbs_nil]
/-- A list with no zero at the end is that of its value. -/
theorem limbs_cons {x : Nat} {n : Nat} (hx : x < 4294967296) (h : x ≠ 0 ∨ n ≠ 0) : limbs (x + 4294967296 * n) = x :: limbs n := by
  rw [limbs_pos (by omega)]
  rw [show (x + 4294967296 * n) % 4294967296 = x from by omega, show (x + 4294967296 * n) / 4294967296 = n from by omega]
theorem limbs_snoc {l : List Nat} {x : Nat} (h : Lim l) (hx : x < 4294967296) (h0 : x ≠ 0) : limbs (val (l ++ [x])) = l ++ [x] := by
  induction l with
  | nil =>
    show limbs (x + 4294967296 * 0) = [x]
    rw [limbs_cons hx (.inl h0), limbs_zero]
  | cons y l ih =>
    have h1 := ih h.tail
    show limbs (y + 4294967296 * val (l ++ [x])) = y :: (l ++ [x])
    rw [limbs_cons h.head, h1]
    right
    intro hz
    rw [hz, limbs_zero] at h1
    simp at h1
theorem limbs_last {a k : Nat} (h : (limbs a).length = k + 1) : (limbs a).getD k 0 ≠ 0 := by
  intro hz
  have hk : k < (limbs a).length := by omega
  have e : limbs a = (limbs a).take k ++ [0] := by
    conv => lhs; rw [← List.take_of_length_le (Nat.le_of_eq h), take_snoc hk, hz]
  have hv : a = val ((limbs a).take k) := by
    conv => lhs; rw [← val_limbs a, e, val_snoc]
    simp
  have hl : val ((limbs a).take k) < P k := by
    have h1 := val_lt ((lim_limbs a).take k)
    rwa [List.length_take, Nat.min_eq_left (by omega)] at h1
  have : ∀ (m : Nat) (n : Nat), n < P m → (limbs n).length ≤ m := by
    intro m
    induction m with
    | zero => intro n hn; rw [P_zero] at hn; rw [show n = 0 from by omega, limbs_zero]; simp
    | succ m ih =>
      intro n hn
      by_cases h0 : n = 0
      · subst h0; rw [limbs_zero]; simp
      · rw [limbs_pos h0, List.length_cons]
        have := ih (n / 4294967296) (by rw [P_succ] at hn; exact (Nat.div_lt_iff_lt_mul (by decide)).2 hn)
        omega
  have := this k a (by rw [hv]; exact hl)
  omega
theorem limbs_length_le {n k : Nat} (hn : n < P k) : (limbs n).length ≤ k := by
  rcases Nat.lt_or_ge k (limbs n).length with h | h
  · exfalso
    obtain ⟨j, hj⟩ : ∃ j, (limbs n).length = j + 1 := ⟨(limbs n).length - 1, by omega⟩
    have h1 := limbs_last hj
    have h2 := val_take_drop (limbs n) j (by omega)
    rw [val_limbs] at h2
    have h3 : (limbs n).drop j = [(limbs n).getD j 0] := by
      rw [List.drop_eq_getElem_cons (by omega), List.drop_of_length_le (by omega)]
      simp [List.getD_eq_getElem?_getD, show j < (limbs n).length from by omega]
    rw [h3] at h2
    simp only [val, Nat.mul_zero, Nat.add_zero] at h2
    have h4 : P k ≤ P j := P_le (by omega)
    have h5 : P j ≤ P j * (limbs n).getD j 0 := Nat.le_mul_of_pos_right _ (by omega)
    omega
  · exact h
theorem lt_P_length (n : Nat) : n < P (limbs n).length := by
  have := val_lt (lim_limbs n)
  rwa [val_limbs] at this
theorem length_mono {a b : Nat} (h : a ≤ b) : (limbs a).length ≤ (limbs b).length := limbs_length_le (Nat.lt_of_le_of_lt h (lt_P_length b))
theorem le_of_length {a k : Nat} (h : (limbs a).length = k + 1) : P k ≤ a := by
  rcases Nat.lt_or_ge a (P k) with h1 | h1
  · have := limbs_length_le h1; omega
  · exact h1

/-- Zeros off: how many of the first k limbs stay. -/
def tl : List Nat → Nat → Nat
  | _, 0 => 0
  | l, k + 1 => if l.getD k 0 = 0 then tl l k else k + 1
theorem tl_zero (l : List Nat) (k : Nat) (h : l.getD k 0 = 0) : tl l (k + 1) = tl l k := by simp only [tl]; rw [if_pos h]
theorem tl_pos (l : List Nat) (k : Nat) (h : l.getD k 0 ≠ 0) : tl l (k + 1) = k + 1 := by simp only [tl]; rw [if_neg h]
theorem tl_le (l : List Nat) (k : Nat) : tl l k ≤ k := by
  induction k with
  | zero => exact Nat.le_refl _
  | succ k ih => simp only [tl]; split <;> omega
theorem take_tl (l : List Nat) (k : Nat) (hk : k ≤ l.length) (h : Lim l) : l.take (tl l k) = limbs (val (l.take k)) := by
  induction k with
  | zero => simp [tl, val, limbs_zero]
  | succ k ih =>
    by_cases hz : l.getD k 0 = 0
    · rw [tl_zero _ _ hz, ih (by omega), val_take_succ (by omega), hz]; simp
    · rw [tl_pos _ _ hz, take_snoc (by omega), limbs_snoc (h.take k) (h.getD k) hz]
theorem limbs_canon {l : List Nat} (h : Lim l) (hz : l.getLast? ≠ some 0) : limbs (val l) = l := by
  rcases List.eq_nil_or_concat l with rfl | ⟨r, x, rfl⟩
  · exact limbs_zero
  · simp only [List.concat_eq_append] at *
    exact limbs_snoc h.left (h.right x (by simp)) (fun e => by subst e; simp at hz)
theorem tl_length (l : List Nat) (h : Lim l) : tl l l.length = (limbs (val l)).length := by
  have h1 := take_tl l l.length (Nat.le_refl _) h
  have h2 := congrArg List.length h1
  rw [List.length_take, Nat.min_eq_left (tl_le _ _), List.take_length] at h2
  exact h2
theorem val_getD {l : List Nat} (h : Lim l) (k : Nat) : l.getD k 0 = val l / P k % 4294967296 := by
  induction k generalizing l with
  | zero =>
    cases l with
    | nil => simp [val]
    | cons x l => have := h.head; simp only [val, P_zero, List.getD_cons_zero, Nat.div_one]; omega
  | succ k ih =>
    cases l with
    | nil => simp [val]
    | cons x l =>
      have := h.head
      rw [List.getD_cons_succ, ih h.tail, val_cons, P_succ, Nat.mul_comm (P k), ← Nat.div_div_eq_div_mul, show (x + 4294967296 * val l) / 4294967296 = val l from by omega]
/-- Lists of one length that are equal behind place k are in the order of their limbs there. -/
theorem val_lt_at {l r : List Nat} {k : Nat} (hl : Lim l) (hk : k < l.length) (hlen : l.length = r.length) (he : ∀ j, k < j → l.getD j 0 = r.getD j 0) (hlt : l.getD k 0 < r.getD k 0) : val l < val r := by
  have h1 : l.drop (k + 1) = r.drop (k + 1) := by
    apply List.ext_getElem
    · simp [hlen]
    · intro i hi1 hi2
      have h := he (k + 1 + i) (by omega)
      simp only [List.length_drop] at hi1 hi2
      rw [List.getD_eq_getElem?_getD, List.getD_eq_getElem?_getD, List.getElem?_eq_getElem (by omega), List.getElem?_eq_getElem (by omega)] at h
      simpa using h
  have h2 := val_take_drop l (k + 1) (by omega)
  have h3 := val_take_drop r (k + 1) (by omega)
  rw [val_take_succ' l k, h1] at h2
  rw [val_take_succ' r k] at h3
  have h4 : val (l.take k) < P k := by
    have := val_lt (hl.take k); rwa [List.length_take, Nat.min_eq_left (by omega)] at this
  have h5 : P k * (l.getD k 0 + 1) ≤ P k * r.getD k 0 := Nat.mul_le_mul_left _ hlt
  rw [Nat.mul_add, Nat.mul_one] at h5
  omega
theorem eq_of_getD {l r : List Nat} (hlen : l.length = r.length) (he : ∀ j, j < l.length → l.getD j 0 = r.getD j 0) : l = r := by
  apply List.ext_getElem hlen
  intro i h1 h2
  have h := he i h1
  rw [List.getD_eq_getElem?_getD, List.getD_eq_getElem?_getD, List.getElem?_eq_getElem h1, List.getElem?_eq_getElem h2] at h
  simpa using h
theorem lt_of_length_lt {a b : Nat} (h : (limbs a).length < (limbs b).length) : a < b := by
  rcases Nat.lt_or_ge a b with h1 | h1
  · exact h1
  · have := length_mono h1; omega
theorem take_set {L : List Nat} {k : Nat} (d : Nat) (h : k < L.length) : (L.set k d).take (k + 1) = L.take k ++ [d] := by
  rw [List.take_succ_eq_append_getElem (by simpa using h), List.take_set_of_le (Nat.le_refl _)]; simp
theorem val_take_set {L : List Nat} {k : Nat} (d : Nat) (h : k < L.length) : val ((L.set k d).take (k + 1)) = val (L.take k) + P k * d := by
  rw [take_set d h, val_snoc, List.length_take, Nat.min_eq_left (by omega)]
theorem Lim.set {L : List Nat} (h : Lim L) (k : Nat) {d : Nat} (hd : d < 4294967296) : Lim (L.set k d) := fun y hy => by
  rcases List.mem_or_eq_of_mem_set hy with hy | rfl
  · exact h y hy
  · exact hd
theorem val_set {M : List Nat} {j : Nat} (d : Nat) (h : j < M.length) : val (M.set j d) + P j * M.getD j 0 = val M + P j * d := by
  have h1 := val_take_drop M (j + 1) (by omega)
  have h2 := val_take_drop (M.set j d) (j + 1) (by rw [List.length_set]; omega)
  rw [val_take_set d h, List.drop_set_of_lt (by omega)] at h2
  rw [val_take_succ' M j] at h1
  omega
theorem getD_zeros (n j : Nat) : (List.replicate n 0).getD j 0 = 0 := by
  rw [List.getD_eq_getElem?_getD, List.getElem?_replicate]; split <;> rfl
theorem getD_set_ne {M : List Nat} {j i : Nat} (d : Nat) (h : j ≠ i) : (M.set j d).getD i 0 = M.getD i 0 := by
  rw [List.getD_eq_getElem?_getD, List.getD_eq_getElem?_getD, List.getElem?_set_ne h]
theorem getD_set_eq {M : List Nat} {j : Nat} (d : Nat) (h : j < M.length) : (M.set j d).getD j 0 = d := by
  rw [List.getD_eq_getElem?_getD, List.getElem?_set_self h]; rfl
/-- One limb of a product that is added to what stands there. -/
theorem mul_step {M : List Nat} {j N cr X x y s : Nat} (hj : j < N) (h : M.length = N ∧ Lim M ∧ val M + P j * cr = X) (hs : s = cr + (x * y + M.getD j 0)) :
    (M.set j (s % 4294967296)).length = N ∧ Lim (M.set j (s % 4294967296)) ∧ val (M.set j (s % 4294967296)) + P (j + 1) * (s / 4294967296) = X + P j * (x * y) := by
  obtain ⟨h1, h2, h3⟩ := h
  refine ⟨by simpa using h1, h2.set j (Nat.mod_lt _ (by decide)), ?_⟩
  have h4 := val_set (s % 4294967296) (show j < M.length by omega)
  rw [P_succ, Nat.mul_assoc]
  have : P j * (s % 4294967296) + P j * (4294967296 * (s / 4294967296)) = P j * cr + P j * (x * y) + P j * M.getD j 0 := by
    rw [← Nat.mul_add, Nat.mod_add_div, hs, Nat.mul_add, Nat.mul_add]; omega
  omega
/-- One limb of a difference that is written from below. -/
theorem sub_step {L : List Nat} {k N br d br' X Y : Nat} {x y : Nat} (hk : k < N) (h : L.length = N ∧ Lim L ∧ val (L.take k) + Y = X + P k * br) (hd : d < 4294967296) (hs : d + y + br = x + 4294967296 * br') :
    (L.set k d).length = N ∧ Lim (L.set k d) ∧ val ((L.set k d).take (k + 1)) + (Y + P k * y) = X + P k * x + P (k + 1) * br' := by
  obtain ⟨h1, h2, h3⟩ := h
  refine ⟨by simpa using h1, h2.set k hd, ?_⟩
  rw [val_take_set _ (by omega), P_succ, Nat.mul_assoc]
  have : P k * d + P k * y + P k * br = P k * x + P k * (4294967296 * br') := by rw [← Nat.mul_add, ← Nat.mul_add, ← Nat.mul_add, hs]
  omega
/-- One limb of a number that is written from below: what is behind it goes on as a carry. -/
theorem put_step {L : List Nat} {k N T s X : Nat} (hk : k < N) (h : L.length = N ∧ Lim L ∧ val (L.take k) + P k * T = X) (Y : Nat) (hs : s = T + Y) :
    (L.set k (s % 4294967296)).length = N ∧ Lim (L.set k (s % 4294967296)) ∧ val ((L.set k (s % 4294967296)).take (k + 1)) + P (k + 1) * (s / 4294967296) = X + P k * Y := by
  obtain ⟨h1, h2, h3⟩ := h
  refine ⟨by simpa using h1, h2.set k (Nat.mod_lt _ (by decide)), ?_⟩
  rw [val_take_set _ (by omega), P_succ, ← h3]
  have : P k * (s % 4294967296) + P k * 4294967296 * (s / 4294967296) = P k * T + P k * Y := by
    rw [Nat.mul_assoc, ← Nat.mul_add, Nat.mod_add_div, hs, Nat.mul_add]
  omega
theorem mod_P_succ (X k : Nat) : X % P (k + 1) = X % P k + P k * (X / P k % 4294967296) := by rw [P_succ, Nat.mod_mul]
theorem val_digits {l : List Nat} {X : Nat} (h : ∀ j, j < l.length → l.getD j 0 = X / P j % 4294967296) (k : Nat) (hk : k ≤ l.length) : val (l.take k) = X % P k := by
  induction k with
  | zero => simp [val, P_zero, Nat.mod_one]
  | succ k ih => rw [val_take_succ (by omega), ih (by omega), mod_P_succ, h k (by omega)]
theorem val_digits_all {l : List Nat} {X : Nat} (h : ∀ j, j < l.length → l.getD j 0 = X / P j % 4294967296) (hX : X < P l.length) : val l = X := by
  have := val_digits h l.length (Nat.le_refl _)
  rwa [List.take_length, Nat.mod_eq_of_lt hX] at this
theorem val_drop {l : List Nat} (h : Lim l) (k : Nat) (hk : k ≤ l.length) : val (l.drop k) = val l / P k := by
  have h1 := val_take_drop l k hk
  have h2 : val (l.take k) < P k := by
    have := val_lt (h.take k); rwa [List.length_take, Nat.min_eq_left hk] at this
  rw [h1, Nat.add_mul_div_left _ _ (P_pos k), Nat.div_eq_of_lt h2, Nat.zero_add]
/-- The limb of a number that is moved down by s places. -/
theorem shr_digit (X k s : Nat) (hs : s ≤ 32) : (X / P (k + 1) % 4294967296 * 4294967296 + X / P k % 4294967296) / 2 ^ s % 4294967296 = X / 2 ^ s / P k % 4294967296 := by
  obtain ⟨u, hu⟩ : ∃ u, 2 ^ (32 - s) = u := ⟨_, rfl⟩
  obtain ⟨t, ht⟩ : ∃ t, 2 ^ s = t := ⟨_, rfl⟩
  have hst : t * u = 4294967296 := by rw [← ht, ← hu, ← Nat.pow_add, show s + (32 - s) = 32 from by omega]
  have ht0 : 0 < t := by rw [← ht]; exact Nat.pow_pos (by decide)
  rw [ht, Nat.div_div_eq_div_mul X t, Nat.mul_comm t, ← Nat.div_div_eq_div_mul X, P_succ, ← Nat.div_div_eq_div_mul X]
  generalize X / P k = Y
  have h1 : Y / 4294967296 % 4294967296 * 4294967296 + Y % 4294967296 = Y % (t * (u * 4294967296)) := by
    rw [← Nat.mul_assoc, hst, Nat.mod_mul]; omega
  rw [h1, Nat.mod_mul_right_div_self, Nat.mod_mul_left_mod]
theorem drop_getD {l : List Nat} {k : Nat} (h : k < l.length) : l.drop k = l.getD k 0 :: l.drop (k + 1) := by
  rw [List.drop_eq_getElem_cons h]; simp [List.getD_eq_getElem?_getD, h]
theorem drop_set_self {L : List Nat} {k : Nat} (d : Nat) (h : k < L.length) : (L.set k d).drop k = d :: L.drop (k + 1) := by
  rw [drop_getD (by rw [List.length_set]; exact h), getD_set_eq d h, List.drop_set_of_lt (by omega)]
/-- One limb of a quotient by a limb, from above. -/
theorem div_step {L l : List Nat} {j N d r q r' x : Nat} (hj : j < N) (hl : l.length = N) (h : L.length = N ∧ Lim L ∧ (∀ i, i ≤ j → L.getD i 0 = l.getD i 0) ∧ val (L.drop (j + 1)) * d + r = val (l.drop (j + 1)))
    (hx : l.getD j 0 = x) (hq : q < 4294967296) (hs : q * d + r' = r * 4294967296 + x) :
    (L.set j q).length = N ∧ Lim (L.set j q) ∧ (∀ i, i < j → (L.set j q).getD i 0 = l.getD i 0) ∧ val ((L.set j q).drop j) * d + r' = val (l.drop j) := by
  obtain ⟨h1, h2, h3, h4⟩ := h
  refine ⟨by simpa using h1, h2.set j hq, fun i hi => by rw [getD_set_ne _ (by omega)]; exact h3 i (by omega), ?_⟩
  rw [drop_set_self q (by omega), drop_getD (l := l) (by omega), hx, val_cons, val_cons, ← h4]
  grind
/-- One limb of a difference of a number and a multiple of another. -/
theorem subt_step {L l r : List Nat} {k N c br d br' x y t s : Nat} (hk : k < N) (hl : l.length = N) (h : L.length = N ∧ Lim L ∧ (∀ i, k ≤ i → L.getD i 0 = l.getD i 0) ∧ val (L.take k) + t * val (r.take k) = val (l.take k) + P k * (c + br))
    (hx : l.getD k 0 = x) (hy : r.getD k 0 = y) (hd : d < 4294967296) (hs : s = c + y * t) (he : d + s % 4294967296 + br = x + 4294967296 * br') :
    (L.set k d).length = N ∧ Lim (L.set k d) ∧ (∀ i, k + 1 ≤ i → (L.set k d).getD i 0 = l.getD i 0) ∧ val ((L.set k d).take (k + 1)) + t * val (r.take (k + 1)) = val (l.take (k + 1)) + P (k + 1) * (s / 4294967296 + br') := by
  obtain ⟨h1, h2, h3, h4⟩ := h
  refine ⟨by simpa using h1, h2.set k hd, fun i hi => by rw [getD_set_ne _ (by omega)]; exact h3 i (by omega), ?_⟩
  rw [val_take_set _ (by omega), val_take_succ' l k, val_take_succ' r k, P_succ, hx, hy]
  have hs2 := Nat.mod_add_div s 4294967296
  have e : d + t * y + c + br = x + 4294967296 * (s / 4294967296 + br') := by rw [Nat.mul_comm t y]; omega
  have e2 : P k * d + P k * (t * y) + P k * (c + br) = P k * x + P k * 4294967296 * (s / 4294967296 + br') := by
    rw [Nat.mul_assoc (P k) 4294967296, ← Nat.mul_add, ← Nat.mul_add, ← Nat.mul_add, ← e, Nat.add_assoc (d + t * y)]
  rw [Nat.mul_add t, Nat.mul_left_comm t (P k) y]
  omega
/-- One limb of a sum of two numbers. -/
theorem addt_step {L l r : List Nat} {k N c d c' x y : Nat} (hk : k < N) (h : L.length = N ∧ Lim L ∧ (∀ i, k ≤ i → L.getD i 0 = l.getD i 0) ∧ val (L.take k) + P k * c = val (l.take k) + val (r.take k))
    (hx : l.getD k 0 = x) (hy : r.getD k 0 = y) (hd : d < 4294967296) (he : d + 4294967296 * c' = x + y + c) :
    (L.set k d).length = N ∧ Lim (L.set k d) ∧ (∀ i, k + 1 ≤ i → (L.set k d).getD i 0 = l.getD i 0) ∧ val ((L.set k d).take (k + 1)) + P (k + 1) * c' = val (l.take (k + 1)) + val (r.take (k + 1)) := by
  obtain ⟨h1, h2, h3, h4⟩ := h
  refine ⟨by simpa using h1, h2.set k hd, fun i hi => by rw [getD_set_ne _ (by omega)]; exact h3 i (by omega), ?_⟩
  rw [val_take_set _ (by omega), val_take_succ' l k, val_take_succ' r k, P_succ, hx, hy]
  have e2 : P k * d + P k * 4294967296 * c' = P k * x + P k * y + P k * c := by
    rw [Nat.mul_assoc (P k) 4294967296, ← Nat.mul_add, ← Nat.mul_add, ← Nat.mul_add, he]
  omega
theorem top_two {l : List Nat} {j : Nat} (h : Lim l) (hlen : l.length = j + 2) : ∃ a, a < P j ∧ val l = a + P j * (l.getD j 0 + 4294967296 * l.getD (j + 1) 0) := by
  refine ⟨val (l.take j), ?_, ?_⟩
  · have := val_lt (h.take j); rwa [List.length_take, Nat.min_eq_left (by omega)] at this
  · have h1 := val_take_drop l j (by omega)
    rw [drop_getD (by omega), drop_getD (by omega), List.drop_of_length_le (by omega)] at h1
    simpa [val] using h1
theorem top_three {l : List Nat} {j : Nat} (h : Lim l) (hlen : l.length = j + 3) : ∃ a, a < P j ∧ val l = a + P j * (l.getD j 0 + 4294967296 * (l.getD (j + 1) 0 + 4294967296 * l.getD (j + 2) 0)) := by
  refine ⟨val (l.take j), ?_, ?_⟩
  · have := val_lt (h.take j); rwa [List.length_take, Nat.min_eq_left (by omega)] at this
  · have h1 := val_take_drop l j (by omega)
    rw [drop_getD (by omega), drop_getD (by omega), drop_getD (by omega), List.drop_of_length_le (by omega)] at h1
    simpa [val] using h1
/-- A guess from leading parts is not too small. -/
theorem guess_lo {X Y top y1 R q : Nat} (hq : q * Y ≤ X) (hY : y1 * R ≤ Y) (hX : X < (top + 1) * R) : q * y1 ≤ top := by
  have h1 : q * y1 * R ≤ q * Y := by rw [Nat.mul_assoc]; exact Nat.mul_le_mul_left _ hY
  have h2 : q * y1 * R < (top + 1) * R := by omega
  have := Nat.lt_of_mul_lt_mul_right h2
  omega
/-- .. and too great by 1 at most. -/
theorem guess_hi {X Y U V R g q : Nat} (hgV : g * V ≤ U) (hU : U * R ≤ X) (hX : X < (q + 1) * Y) (hY : Y < (V + 1) * R) (hg : g ≤ V) : g ≤ q + 1 := by
  rcases Nat.lt_or_ge (q + 1) g with h | h
  · exfalso
    obtain ⟨k, rfl⟩ : ∃ k, g = k + 1 := ⟨g - 1, by omega⟩
    have h1 : (q + 1) * Y ≤ k * Y := Nat.mul_le_mul_right _ (by omega)
    have h2 : k * Y ≤ k * ((V + 1) * R) := Nat.mul_le_mul_left _ (by omega)
    have h3 : (k + 1) * V * R ≤ U * R := Nat.mul_le_mul_right _ hgV
    have h4 : (k + 1) * V * R < k * (V + 1) * R := by rw [Nat.mul_assoc k]; omega
    have h5 := Nat.lt_of_mul_lt_mul_right h4
    rw [Nat.add_mul, Nat.mul_add] at h5
    omega
  · exact h
/-- The two limbs of a limb that is moved up by s places. -/
theorem shl_parts {x t s d : Nat} (hx : x < 4294967296) (hs : s ≤ 32) (ht : 2 ^ s = t) (hd : d < t) : x * t % 4294967296 % t = 0 ∧ x * t % 4294967296 + d < 4294967296 ∧ x * t / 4294967296 < t := by
  obtain ⟨u, hu⟩ : ∃ u, 2 ^ (32 - s) = u := ⟨_, rfl⟩
  have hst : t * u = 4294967296 := by rw [← ht, ← hu, ← Nat.pow_add, show s + (32 - s) = 32 from by omega]
  have hu0 : 0 < u := by rw [← hu]; exact Nat.pow_pos (by decide)
  have ht0 : 0 < t := by rw [← ht]; exact Nat.pow_pos (by decide)
  have h1 : x * t % 4294967296 = t * (x % u) := by rw [← hst, Nat.mul_comm x t, Nat.mul_mod_mul_left]
  have h2 : t * (x % u) + t ≤ t * u := by
    have := Nat.mul_le_mul_left t (Nat.mod_lt x hu0)
    rw [Nat.mul_succ] at this; exact this
  refine ⟨by rw [h1, Nat.mul_mod_right], by omega, ?_⟩
  rw [Nat.div_lt_iff_lt_mul (by decide), Nat.mul_comm]
  exact Nat.mul_lt_mul_of_pos_left hx ht0
theorem limbs_length_eq {n k : Nat} (h1 : P k ≤ n) (h2 : n < P (k + 1)) : (limbs n).length = k + 1 := by
  have h3 := limbs_length_le h2
  rcases Nat.lt_or_ge (limbs n).length (k + 1) with h | h
  · have h4 := lt_P_length n
    have h5 : P (limbs n).length ≤ P k := P_le (by omega)
    omega
  · omega
theorem val_padded {l : List Nat} (k : Nat) : val (l ++ List.replicate k 0) = val l := by rw [val_append, val_zeros]; simp
/-- The part of the rest that one digit looks at. -/
theorem knuth_part {R : List Nat} {i m D : Nat} (hR : Lim R) (hlen : i + m + 1 ≤ R.length) (hD : D < P m) (hlt : val (R.drop (i + 1)) < D) :
    val ((R.drop i).take (m + 1)) = val (R.drop i) ∧ val ((R.drop i).take (m + 1)) < D * 4294967296 ∧ val (R.drop (i + (m + 1))) = 0 ∧ ((R.drop i).take (m + 1)).length = m + 1 := by
  have h1 : R.drop i = R.getD i 0 :: R.drop (i + 1) := drop_getD (by omega)
  have h2 := hR.getD i
  have h3 : val (R.drop i) < D * 4294967296 := by rw [h1, val_cons]; omega
  have h4 := val_take_drop (R.drop i) (m + 1) (by rw [List.length_drop]; omega)
  rw [List.drop_drop] at h4
  have h5 : val (R.drop (i + (m + 1))) = 0 := by
    rcases Nat.eq_zero_or_pos (val (R.drop (i + (m + 1)))) with h | h
    · exact h
    · have h6 : P (m + 1) * 1 ≤ P (m + 1) * val (R.drop (i + (m + 1))) := Nat.mul_le_mul_left _ h
      rw [P_succ] at h4 h6
      omega
  rw [h5, Nat.mul_zero, Nat.add_zero] at h4
  exact ⟨h4.symm, by rw [← h4]; exact h3, h5, by rw [List.length_take, List.length_drop]; omega⟩
/-- One digit of a quotient of numbers. -/
theorem knuth_step {R L Q : List Nat} {i m D N X q : Nat} (hR : Lim R) (hlen : i + m + 1 ≤ R.length) (hD : D < P m) (hD0 : 0 < D) (hlt : val (R.drop (i + 1)) < D)
    (hQ : i < Q.length) (hX : X = P (i + 1) * val (Q.drop (i + 1)) * D + val R) (hL : L.length = m + 1) (hLim : Lim L) (hq : q = val ((R.drop i).take (m + 1)) / D) (hLv : val L = val ((R.drop i).take (m + 1)) % D) (hN : R.length = N) :
    (R.take i ++ (L ++ R.drop (i + (m + 1)))).length = N ∧ Lim (R.take i ++ (L ++ R.drop (i + (m + 1)))) ∧ val ((R.take i ++ (L ++ R.drop (i + (m + 1)))).drop i) < D ∧
      X = P i * val ((Q.set i q).drop i) * D + val (R.take i ++ (L ++ R.drop (i + (m + 1)))) ∧ q < 4294967296 := by
  obtain ⟨h1, h2, h3, h4⟩ := knuth_part hR hlen hD hlt
  have hti : (R.take i).length = i := by rw [List.length_take]; omega
  have hm : val ((R.drop i).take (m + 1)) % D < D := Nat.mod_lt _ hD0
  have hv1 : val (L ++ R.drop (i + (m + 1))) = val L := by rw [val_append, h3]; simp
  refine ⟨?_, (hR.take i).append (hLim.append (hR.drop _)), ?_, ?_, ?_⟩
  · simp only [List.length_append, List.length_drop, hti, hL]; omega
  · rw [List.drop_append_of_le_length (by omega), List.drop_of_length_le (by omega), List.nil_append, hv1, hLv]; exact hm
  · rw [drop_set_self q hQ, val_cons, val_append, hti, hv1, hLv, hX, val_take_drop R i (by omega), ← h1, P_succ]
    have h5 := Nat.div_add_mod (val ((R.drop i).take (m + 1))) D
    rw [← hq] at h5
    generalize val ((R.drop i).take (m + 1)) % D = r at *
    rw [← h5]
    grind
  · rw [hq, Nat.div_lt_iff_lt_mul hD0, Nat.mul_comm]; exact h2
/-- A divisor that is moved up so that its top bit is set. -/
theorem norm_parts {b j s yt : Nat} (hlen : (limbs b).length = j + 2) (hyt : (limbs b).getD (j + 1) 0 = yt) (hs : s < 32) (h1 : 2147483648 ≤ yt * 2 ^ s) (h2 : yt * 2 ^ s < 4294967296) :
    (limbs (b * 2 ^ s)).length = j + 2 ∧ 2147483648 ≤ (limbs (b * 2 ^ s)).getD (j + 1) 0 ∧ b * 2 ^ s < P (j + 2) ∧ 2147483648 * P (j + 1) ≤ b * 2 ^ s := by
  obtain ⟨u, hu⟩ : ∃ u, 2 ^ (32 - s) = u := ⟨_, rfl⟩
  obtain ⟨t, ht⟩ : ∃ t, 2 ^ s = t := ⟨_, rfl⟩
  have htu : u * t = 4294967296 := by rw [← ht, ← hu, ← Nat.pow_add, show 32 - s + s = 32 from by omega]
  rw [ht] at h1 h2 ⊢
  have hyu : yt < u := by rw [← htu] at h2; exact Nat.lt_of_mul_lt_mul_right h2
  have hv := val_take_drop (limbs b) (j + 1) (by omega)
  have hlt : val ((limbs b).take (j + 1)) < P (j + 1) := by
    have := val_lt ((lim_limbs b).take (j + 1)); rwa [List.length_take, Nat.min_eq_left (by omega)] at this
  rw [drop_getD (by omega), List.drop_of_length_le (by omega), hyt, val_limbs] at hv
  simp only [val, Nat.mul_zero, Nat.add_zero] at hv
  have hlo : 2147483648 * P (j + 1) ≤ b * t := by
    have h3 : yt * t * P (j + 1) ≤ b * t := by
      rw [Nat.mul_right_comm]
      exact Nat.mul_le_mul_right _ (by rw [Nat.mul_comm]; omega)
    exact Nat.le_trans (Nat.mul_le_mul_right _ h1) h3
  have hhi : b * t < P (j + 2) := by
    have h3 : b < (yt + 1) * P (j + 1) := by rw [Nat.add_mul, Nat.one_mul, Nat.mul_comm yt]; omega
    have h4 : b * t < (yt + 1) * P (j + 1) * t := Nat.mul_lt_mul_of_pos_right h3 (by rw [← ht]; exact Nat.pow_pos (by decide))
    have h5 : (yt + 1) * P (j + 1) * t ≤ u * P (j + 1) * t := Nat.mul_le_mul_right _ (Nat.mul_le_mul_right _ hyu)
    have h6 : u * P (j + 1) * t = P (j + 2) := by rw [Nat.mul_right_comm, htu, P_succ (j + 1), Nat.mul_comm]
    omega
  have hl := limbs_length_eq (k := j + 1) (n := b * t) (Nat.le_trans (Nat.le_mul_of_pos_left _ (by decide)) hlo) hhi
  refine ⟨hl, ?_, hhi, hlo⟩
  rw [val_getD (lim_limbs _), val_limbs]
  have h7 : 2147483648 ≤ b * t / P (j + 1) := (Nat.le_div_iff_mul_le (P_pos _)).2 hlo
  have h8 : b * t / P (j + 1) < 4294967296 := (Nat.div_lt_iff_lt_mul (P_pos _)).2 (by rw [P_succ (j + 1)] at hhi; rw [Nat.mul_comm 4294967296]; exact hhi)
  rw [Nat.mod_eq_of_lt h8]; exact h7
theorem norm_start {a n j s D : Nat} (ha : a < P n) (hs : s < 32) (hn : j + 2 ≤ n) (hD : 2147483648 * P (j + 1) ≤ D) : a * 2 ^ s < D * P (n - (j + 2) + 1) ∧ a * 2 ^ s < P (n + 1) := by
  have h1 : (2 : Nat) ^ s ≤ 2147483648 := by rw [show (2147483648 : Nat) = 2 ^ 31 from rfl]; exact Nat.pow_le_pow_right (by decide) (by omega)
  have h2 : a * 2 ^ s < P n * 2 ^ s := Nat.mul_lt_mul_of_pos_right ha (Nat.pow_pos (by decide))
  have h3 : P n * 2 ^ s ≤ P n * 2147483648 := Nat.mul_le_mul_left _ h1
  have h4 : P n = P (j + 1) * P (n - (j + 2) + 1) := by rw [← P_add]; congr 1; omega
  have h5 : P n * 2147483648 ≤ D * P (n - (j + 2) + 1) := by
    rw [h4, Nat.mul_comm, ← Nat.mul_assoc]
    exact Nat.mul_le_mul_right _ hD
  refine ⟨by omega, ?_⟩
  rw [P_succ]
  omega
theorem norm_end {a b s Q R : Nat} (hb : 0 < b) (h : a * 2 ^ s = Q * (b * 2 ^ s) + R) (hR : R < b * 2 ^ s) : Q = a / b ∧ R / 2 ^ s = a % b := by
  have ht : 0 < 2 ^ s := Nat.pow_pos (by decide)
  have h1 : a * 2 ^ s / (b * 2 ^ s) = Q := by
    rw [h, Nat.mul_comm, Nat.mul_add_div (by omega), Nat.div_eq_of_lt hR, Nat.add_zero]
  have h2 : a * 2 ^ s % (b * 2 ^ s) = R := by
    rw [h, Nat.mul_comm, Nat.mul_add_mod, Nat.mod_eq_of_lt hR]
  rw [Nat.mul_div_mul_right _ _ ht] at h1
  rw [Nat.mul_mod_mul_right] at h2
  refine ⟨h1.symm, ?_⟩
  rw [← h2, Nat.mul_div_cancel _ ht]
end Go.Proofs.YtdlmhgijpgnilaaGreatDoor
