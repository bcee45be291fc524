/- Plain: words, their order, the next word, ranks. -/
import Derived.Below
set_option linter.unusedVariables false
set_option linter.unusedSimpArgs false
namespace Go.Proofs.YtdlmhgijpgnilaaGreatDoor

/-- A word over s symbols. -/
def wok (l : List Int) (s : Int) : Bool := decide (1 ≤ s) && decide (s ≤ 32) && decide (l.length ≤ 256) && l.all fun x => decide (1 ≤ x ∧ x ≤ s)
theorem wok_out {l : List Int} {s : Int} (h : wok l s = true) : 1 ≤ s ∧ s ≤ 32 ∧ l.length ≤ 256 ∧ ∀ x ∈ l, 1 ≤ x ∧ x ≤ s := by
  unfold wok at h
  simp only [Bool.and_eq_true, decide_eq_true_eq, List.all_eq_true] at h
  exact ⟨h.1.1.1, h.1.1.2, h.1.2, fun x hx => h.2 x hx⟩
theorem wok_mk {l : List Int} {s : Int} (h1 : 1 ≤ s) (h2 : s ≤ 32) (h3 : l.length ≤ 256) (h4 : ∀ x ∈ l, 1 ≤ x ∧ x ≤ s) : wok l s = true := by
  unfold wok
  simp only [Bool.and_eq_true, decide_eq_true_eq, List.all_eq_true]
  exact ⟨⟨⟨h1, h2⟩, h3⟩, fun x hx => h4 x hx⟩
theorem wok_low {l : List Int} {s : Int} (h : ¬ 1 ≤ s) : wok l s = false := by
  unfold wok; rw [decide_eq_false h]; rfl
theorem wok_high {l : List Int} {s : Int} (h : ¬ s ≤ 32) : wok l s = false := by
  unfold wok; rw [decide_eq_false h]; simp
theorem wok_long {l : List Int} {s : Int} (h : ¬ l.length ≤ 256) : wok l s = false := by
  unfold wok; rw [decide_eq_false h]; simp
theorem mem_getD {l : List Int} {k : Nat} (hk : k < l.length) : l.getD k 0 ∈ l := by
  rw [List.getD_eq_getElem?_getD, List.getElem?_eq_getElem hk]; exact List.getElem_mem _
theorem wok_bad {l : List Int} {s : Int} {k : Nat} (hk : k < l.length) (h : ¬ (1 ≤ l.getD k 0 ∧ l.getD k 0 ≤ s)) : wok l s = false := by
  cases hb : wok l s
  · rfl
  · exact absurd ((wok_out hb).2.2.2 _ (mem_getD hk)) h
theorem wok_at {l : List Int} {s : Int} (h1 : 1 ≤ s) (h2 : s ≤ 32) (h3 : l.length ≤ 256) (h4 : ∀ j, j < l.length → 1 ≤ l.getD j 0 ∧ l.getD j 0 ≤ s) : wok l s = true :=
  wok_mk h1 h2 h3 fun x hx => by
    obtain ⟨j, hj, rfl⟩ := List.getElem_of_mem hx
    have := h4 j hj
    rwa [List.getD_eq_getElem?_getD, List.getElem?_eq_getElem hj, Option.getD_some] at this

/-- The order of lists, letter by letter. -/
def lexc : List Int → List Int → Int
  | [], [] => 0
  | [], _ :: _ => -1
  | _ :: _, [] => 1
  | x :: l, y :: r => if x < y then -1 else if y < x then 1 else lexc l r
theorem lexc_self (l : List Int) : lexc l l = 0 := by
  induction l with
  | nil => rfl
  | cons x l ih => rw [lexc, if_neg (by omega), if_neg (by omega), ih]
theorem lexc_at {l r : List Int} {k : Nat} (hk : k < l.length) (hk' : k < r.length) (he : ∀ j, j < k → l.getD j 0 = r.getD j 0) :
    (l.getD k 0 < r.getD k 0 → lexc l r = -1) ∧ (r.getD k 0 < l.getD k 0 → lexc l r = 1) := by
  induction k generalizing l r with
  | zero =>
    match l, r with
    | x :: l, y :: r =>
      simp only [List.getD_cons_zero]
      constructor
      · intro h; rw [lexc, if_pos h]
      · intro h; rw [lexc, if_neg (by omega), if_pos h]
  | succ k ih =>
    match l, r with
    | x :: l, y :: r =>
      have h0 : x = y := by simpa using he 0 (by omega)
      subst h0
      have := ih (l := l) (r := r) (by simpa using hk) (by simpa using hk') (fun j hj => by simpa using he (j + 1) (by omega))
      simp only [List.getD_cons_succ]
      rw [lexc, if_neg (by omega), if_neg (by omega)]
      exact this
theorem ints_eq {l r : List Int} (hl : l.length = r.length) (h : ∀ j, j < l.length → l.getD j 0 = r.getD j 0) : l = r := by
  apply List.ext_getElem hl
  intro j h1 h2
  have := h j h1
  rw [List.getD_eq_getElem?_getD, List.getD_eq_getElem?_getD, List.getElem?_eq_getElem h1, List.getElem?_eq_getElem h2] at this
  exact this
def cmpW (v w : List Int) : Int := if v.length < w.length then -1 else if w.length < v.length then 1 else lexc v w
theorem cmpW_self (v : List Int) : cmpW v v = 0 := by
  unfold cmpW; rw [if_neg (by omega), if_neg (by omega), lexc_self]
theorem cmpW_same {v w : List Int} (h : v.length = w.length) : cmpW v w = lexc v w := by
  unfold cmpW; rw [if_neg (by omega), if_neg (by omega)]
theorem cmpW_three (v w : List Int) : cmpW v w = -1 ∨ cmpW v w = 0 ∨ cmpW v w = 1 := by
  unfold cmpW
  split
  · exact .inl rfl
  · split
    · exact .inr (.inr rfl)
    · have : ∀ l r : List Int, lexc l r = -1 ∨ lexc l r = 0 ∨ lexc l r = 1 := by
        intro l
        induction l with
        | nil => intro r; cases r <;> simp [lexc]
        | cons x l ih =>
          intro r
          cases r with
          | nil => simp [lexc]
          | cons y r =>
            rw [lexc]
            split
            · simp
            · split
              · simp
              · exact ih r
      exact this v w
theorem lexc_zero {l r : List Int} (h : lexc l r = 0) : l = r := by
  induction l generalizing r with
  | nil => cases r with
    | nil => rfl
    | cons y r => rw [lexc] at h; exact absurd h (by decide)
  | cons x l ih => cases r with
    | nil => rw [lexc] at h; exact absurd h (by decide)
    | cons y r =>
      rw [lexc] at h
      split at h
      · exact absurd h (by decide)
      · split at h
        · exact absurd h (by decide)
        · rw [ih h, show x = y by omega]
theorem cmpW_zero {v w : List Int} : cmpW v w = 0 ↔ v = w := by
  constructor
  · intro h
    unfold cmpW at h
    split at h
    · exact absurd h (by decide)
    · split at h
      · exact absurd h (by decide)
      · exact lexc_zero h
  · rintro rfl; exact cmpW_self v

/-- The next word, last letter first. -/
def nxtR (s : Int) : List Int → List Int
  | [] => [1]
  | x :: r => if x < s then (x + 1) :: r else 1 :: nxtR s r
def nxt (s : Int) (l : List Int) : List Int := (nxtR s l.reverse).reverse
theorem nxtR_skip (s : Int) (p r : List Int) (h : ∀ y ∈ p, ¬ y < s) : nxtR s (p ++ r) = List.replicate p.length 1 ++ nxtR s r := by
  induction p with
  | nil => rfl
  | cons y p ih =>
    rw [List.cons_append, nxtR, if_neg (h y (List.mem_cons_self ..)), ih (fun z hz => h z (List.mem_cons_of_mem _ hz))]
    rfl
/-- The letters from place m on are the last one, so that they are 1 again. -/
def rolled (l : List Int) (m : Nat) : List Int := l.take m ++ List.replicate (l.length - m) 1
theorem rolled_length (l : List Int) (m : Nat) (hm : m ≤ l.length) : (rolled l m).length = l.length := by
  unfold rolled; simp; omega
theorem rolled_all (l : List Int) : rolled l l.length = l := by unfold rolled; simp
theorem rolled_get (l : List Int) {m j : Nat} (hj : j < m) (hm : m ≤ l.length) : (rolled l m).getD j 0 = l.getD j 0 := by
  unfold rolled
  rw [List.getD_eq_getElem?_getD, List.getElem?_append_left (by rw [List.length_take]; omega), List.getElem?_take, if_pos hj, ← List.getD_eq_getElem?_getD]
theorem rolled_step (l : List Int) {m : Nat} (hm : m < l.length) : (rolled l (m + 1)).set m 1 = rolled l m := by
  unfold rolled
  rw [List.take_succ_eq_append_getElem hm, List.append_assoc, List.set_append_right _ _ (by rw [List.length_take]; omega)]
  have e : m - (l.take m).length = 0 := by rw [List.length_take]; omega
  rw [e, List.singleton_append, List.set_cons_zero]
  have e2 : l.length - m = (l.length - (m + 1)) + 1 := by omega
  rw [e2, List.replicate_succ]
theorem nxt_at {s : Int} {l : List Int} {m : Nat} (hm : m < l.length) (h : ∀ j, m < j → j < l.length → ¬ l.getD j 0 < s) (hx : l.getD m 0 < s) :
    nxt s l = (rolled l (m + 1)).set m (l.getD m 0 + 1) := by
  have hl : l = l.take m ++ l.getD m 0 :: l.drop (m + 1) := by
    rw [List.getD_eq_getElem?_getD, List.getElem?_eq_getElem hm, Option.getD_some, ← List.drop_eq_getElem_cons hm, List.take_append_drop]
  have hq : ∀ y ∈ (l.drop (m + 1)).reverse, ¬ y < s := by
    intro y hy
    rw [List.mem_reverse] at hy
    obtain ⟨j, hj, rfl⟩ := List.getElem_of_mem hy
    rw [List.length_drop] at hj
    have := h (m + 1 + j) (by omega) (by omega)
    rw [List.getD_eq_getElem?_getD, List.getElem?_eq_getElem (by omega), Option.getD_some] at this
    rw [List.getElem_drop]
    exact this
  generalize hy : l.getD m 0 = x at *
  have e1 : nxt s l = l.take m ++ (x + 1) :: List.replicate (l.length - (m + 1)) 1 := by
    unfold nxt
    rw [show l.reverse = (l.drop (m + 1)).reverse ++ x :: (l.take m).reverse from by
      conv => lhs; rw [hl]
      simp]
    rw [nxtR_skip s _ _ hq, nxtR, if_pos hx]
    simp
  rw [e1]
  unfold rolled
  rw [List.take_succ_eq_append_getElem hm, List.append_assoc, List.set_append_right _ _ (by rw [List.length_take]; omega)]
  have e : m - (l.take m).length = 0 := by rw [List.length_take]; omega
  rw [e, List.singleton_append, List.set_cons_zero]
theorem nxt_all {s : Int} {l : List Int} (h : ∀ j, j < l.length → ¬ l.getD j 0 < s) : nxt s l = rolled l 0 ++ [1] := by
  have hq : ∀ y ∈ l.reverse, ¬ y < s := by
    intro y hy
    rw [List.mem_reverse] at hy
    obtain ⟨j, hj, rfl⟩ := List.getElem_of_mem hy
    have := h j hj
    rwa [List.getD_eq_getElem?_getD, List.getElem?_eq_getElem hj, Option.getD_some] at this
  have := nxtR_skip s _ [] hq
  unfold nxt
  rw [List.append_nil] at this
  rw [this]
  unfold rolled
  rw [List.take_zero, List.nil_append, Nat.sub_zero, nxtR, List.length_reverse, List.reverse_append, List.reverse_replicate, ← List.replicate_succ', List.replicate_succ]
  rfl
theorem nxtR_length (s : Int) (l : List Int) : (nxtR s l).length ≤ l.length + 1 ∧ l.length ≤ (nxtR s l).length := by
  induction l with
  | nil => simp [nxtR]
  | cons x l ih => rw [nxtR]; split <;> simp <;> omega
theorem nxt_length (s : Int) (l : List Int) : (nxt s l).length ≤ l.length + 1 ∧ l.length ≤ (nxt s l).length := by
  have := nxtR_length s l.reverse
  unfold nxt; simpa using this
theorem nxtR_mem {s : Int} (hs : 1 ≤ s) {l : List Int} (h : ∀ x ∈ l, 1 ≤ x ∧ x ≤ s) : ∀ x ∈ nxtR s l, 1 ≤ x ∧ x ≤ s := by
  induction l with
  | nil => intro x hx; simp [nxtR] at hx; omega
  | cons y l ih =>
    have hy := h y (List.mem_cons_self ..)
    have hl := ih (fun x hx => h x (List.mem_cons_of_mem _ hx))
    intro x hx
    rw [nxtR] at hx
    split at hx
    · rcases List.mem_cons.1 hx with rfl | hx
      · omega
      · exact h x (List.mem_cons_of_mem _ hx)
    · rcases List.mem_cons.1 hx with rfl | hx
      · omega
      · exact hl x hx
theorem nxt_mem {s : Int} (hs : 1 ≤ s) {l : List Int} (h : ∀ x ∈ l, 1 ≤ x ∧ x ≤ s) : ∀ x ∈ nxt s l, 1 ≤ x ∧ x ≤ s := by
  intro x hx
  unfold nxt at hx
  exact nxtR_mem hs (fun y hy => h y (List.mem_reverse.1 hy)) x (List.mem_reverse.1 hx)
/-- What Next answers: a word and an error. -/
def nextA (l : List Int) (s : Int) : List Int × Int := if wok l s = true then (if (nxt s l).length ≤ 256 then (nxt s l, 0) else ([], 2)) else ([], 9)

/-- The number of words before a word. -/
def rkF (s : Int) (a : Int) (l : List Int) : Int := l.foldl (fun r x => r * s + x) a
def rk (s : Int) (l : List Int) : Int := rkF s 0 l
theorem rkF_snoc (s a : Int) (l : List Int) (x : Int) : rkF s a (l ++ [x]) = rkF s a l * s + x := by unfold rkF; rw [List.foldl_append]; rfl
theorem rk_snoc (s : Int) (l : List Int) (x : Int) : rk s (l ++ [x]) = rk s l * s + x := rkF_snoc s 0 l x
theorem rk_take (s : Int) (l : List Int) {k : Nat} (hk : k < l.length) : rk s (l.take (k + 1)) = rk s (l.take k) * s + l.getD k 0 := by
  rw [List.take_succ_eq_append_getElem hk, rk_snoc, List.getD_eq_getElem?_getD, List.getElem?_eq_getElem hk, Option.getD_some]
theorem ints_snoc_ind {P : List Int → Prop} (h0 : P []) (hs : ∀ l x, P l → P (l ++ [x])) (l : List Int) : P l := by
  have : ∀ r : List Int, P r.reverse := fun r => by
    induction r with
    | nil => exact h0
    | cons x r ih => rw [List.reverse_cons]; exact hs _ _ ih
  simpa using this l.reverse
theorem rkF_nonneg {s : Int} (hs : 1 ≤ s) (l : List Int) : ∀ a, 0 ≤ a → (∀ x ∈ l, 1 ≤ x ∧ x ≤ s) → a ≤ rkF s a l := by
  induction l with
  | nil => intro a h _; exact Int.le_refl _
  | cons x l ih =>
    intro a ha h
    have hx := h x (List.mem_cons_self ..)
    have h1 : a * 1 ≤ a * s := Int.mul_le_mul_of_nonneg_left hs ha
    have := ih (a * s + x) (by omega) (fun y hy => h y (List.mem_cons_of_mem _ hy))
    show a ≤ rkF s (a * s + x) l
    omega
theorem rk_nonneg {s : Int} (hs : 1 ≤ s) {l : List Int} (h : ∀ x ∈ l, 1 ≤ x ∧ x ≤ s) : 0 ≤ rk s l := rkF_nonneg hs l 0 (Int.le_refl _) h
theorem rk_pos {s : Int} (hs : 1 ≤ s) {l : List Int} (h : ∀ x ∈ l, 1 ≤ x ∧ x ≤ s) (hn : l ≠ []) : 1 ≤ rk s l := by
  match l, hn with
  | x :: l, _ =>
    have hx := h x (List.mem_cons_self ..)
    have := rkF_nonneg hs l (0 * s + x) (by omega) (fun y hy => h y (List.mem_cons_of_mem _ hy))
    show 1 ≤ rkF s (0 * s + x) l
    omega
theorem rkF_lt {s : Int} (hs : 1 ≤ s) : ∀ (l r : List Int) (a b : Int), l.length = r.length → (∀ x ∈ l, 1 ≤ x ∧ x ≤ s) → (∀ x ∈ r, 1 ≤ x ∧ x ≤ s) → a < b → rkF s a l < rkF s b r := by
  intro l
  induction l with
  | nil => intro r a b hl _ _ h; cases r with
    | nil => exact h
    | cons _ _ => simp at hl
  | cons x l ih => intro r a b hl h1 h2 h; cases r with
    | nil => simp at hl
    | cons y r =>
      have hx := h1 x (List.mem_cons_self ..)
      have hy := h2 y (List.mem_cons_self ..)
      refine ih r (a * s + x) (b * s + y) (by simpa using hl) (fun z hz => h1 z (List.mem_cons_of_mem _ hz)) (fun z hz => h2 z (List.mem_cons_of_mem _ hz)) ?_
      have : (a + 1) * s ≤ b * s := Int.mul_le_mul_of_nonneg_right (by omega) (by omega)
      rw [Int.add_mul, Int.one_mul] at this
      omega
theorem rkF_lex {s : Int} (hs : 1 ≤ s) : ∀ (l r : List Int) (a : Int), l.length = r.length → (∀ x ∈ l, 1 ≤ x ∧ x ≤ s) → (∀ x ∈ r, 1 ≤ x ∧ x ≤ s) → lexc l r = (rkF s a l - rkF s a r).sign := by
  intro l
  induction l with
  | nil => intro r a hl _ _; cases r with
    | nil => rw [Int.sub_self]; rfl
    | cons _ _ => simp at hl
  | cons x l ih => intro r a hl h1 h2; cases r with
    | nil => simp at hl
    | cons y r =>
      have hl' : l.length = r.length := by simpa using hl
      have g1 : ∀ z ∈ l, 1 ≤ z ∧ z ≤ s := fun z hz => h1 z (List.mem_cons_of_mem _ hz)
      have g2 : ∀ z ∈ r, 1 ≤ z ∧ z ≤ s := fun z hz => h2 z (List.mem_cons_of_mem _ hz)
      show lexc _ _ = (rkF s (a * s + x) l - rkF s (a * s + y) r).sign
      rw [lexc]
      split
      · have := rkF_lt hs l r (a * s + x) (a * s + y) hl' g1 g2 (by omega)
        rw [Int.sign_eq_neg_one_of_neg (by omega)]
      · split
        · have := rkF_lt hs r l (a * s + y) (a * s + x) hl'.symm g2 g1 (by omega)
          rw [Int.sign_eq_one_of_pos (by omega)]
        · rw [show x = y by omega]; exact ih r _ hl' g1 g2
theorem rk_long {s : Int} (hs : 1 ≤ s) {l r : List Int} (hl : l.length < r.length) (h1 : ∀ x ∈ l, 1 ≤ x ∧ x ≤ s) (h2 : ∀ x ∈ r, 1 ≤ x ∧ x ≤ s) : rk s l < rk s r := by
  have hr : r = r.take (r.length - l.length) ++ r.drop (r.length - l.length) := (List.take_append_drop _ _).symm
  have h3 : 1 ≤ rk s (r.take (r.length - l.length)) := rk_pos hs (fun x hx => h2 x (List.mem_of_mem_take hx)) (by
    intro h
    have := congrArg List.length h
    rw [List.length_take, List.length_nil] at this
    omega)
  have e : rk s r = rkF s (rk s (r.take (r.length - l.length))) (r.drop (r.length - l.length)) := by
    conv => lhs; rw [hr]
    unfold rk rkF
    rw [List.foldl_append]
  rw [e]
  exact rkF_lt hs _ _ 0 _ (by rw [List.length_drop]; omega) h1 (fun x hx => h2 x (List.mem_of_mem_drop hx)) (by omega)
/-- The order of words is that of their ranks. -/
theorem cmp_rk {s : Int} (hs : 1 ≤ s) {l r : List Int} (h1 : ∀ x ∈ l, 1 ≤ x ∧ x ≤ s) (h2 : ∀ x ∈ r, 1 ≤ x ∧ x ≤ s) : cmpW l r = (rk s l - rk s r).sign := by
  unfold cmpW
  split
  · next h =>
    have := rk_long hs h h1 h2
    rw [Int.sign_eq_neg_one_of_neg (by omega)]
  · split
    · next h =>
      have := rk_long hs h h2 h1
      rw [Int.sign_eq_one_of_pos (by omega)]
    · exact rkF_lex hs l r 0 (by omega) h1 h2
theorem rk_nxt {s : Int} (hs : 1 ≤ s) {l : List Int} (h : ∀ x ∈ l, 1 ≤ x ∧ x ≤ s) : rk s (nxt s l) = rk s l + 1 := by
  have key : ∀ r : List Int, (∀ x ∈ r, 1 ≤ x ∧ x ≤ s) → rk s (nxtR s r).reverse = rk s r.reverse + 1 := by
    intro r
    induction r with
    | nil => intro _; simp [nxtR, rk, rkF]
    | cons x r ih =>
      intro h
      have hx := h x (List.mem_cons_self ..)
      rw [nxtR]
      split
      · rw [List.reverse_cons, List.reverse_cons, rk_snoc, rk_snoc]; omega
      · rw [List.reverse_cons, List.reverse_cons, rk_snoc, rk_snoc, ih (fun y hy => h y (List.mem_cons_of_mem _ hy)), Int.add_mul, Int.one_mul]; omega
  have := key l.reverse (fun x hx => h x (List.mem_reverse.1 hx))
  rwa [List.reverse_reverse] at this

/-- The word with a rank. -/
def unr (s : Nat) (N : Nat) : List Int := if N = 0 then [] else unr s ((N - 1) / s) ++ [(((N - 1) % s + 1 : Nat) : Int)]
termination_by N
decreasing_by
  have := Nat.div_le_self (N - 1) s
  omega
theorem unr_zero (s : Nat) : unr s 0 = [] := by rw [unr, if_pos rfl]
theorem unr_pos (s : Nat) {N : Nat} (h : N ≠ 0) : unr s N = unr s ((N - 1) / s) ++ [(((N - 1) % s + 1 : Nat) : Int)] := by rw [unr, if_neg h]
theorem unr_mem {s : Nat} (hs : 1 ≤ s) (N : Nat) : ∀ x ∈ unr s N, 1 ≤ x ∧ x ≤ (s : Int) := by
  induction N using Nat.strongRecOn with
  | _ N ih =>
    by_cases h : N = 0
    · subst h; rw [unr_zero]; simp
    · rw [unr_pos s h]
      intro x hx
      rcases List.mem_append.1 hx with hx | hx
      · exact ih _ (by have := Nat.div_le_self (N - 1) s; omega) x hx
      · rw [List.mem_singleton] at hx
        subst hx
        have := Nat.mod_lt (N - 1) (show 0 < s by omega)
        omega
theorem rk_unr {s : Nat} (N : Nat) : rk (s : Int) (unr s N) = (N : Int) := by
  induction N using Nat.strongRecOn with
  | _ N ih =>
    by_cases h : N = 0
    · subst h; rw [unr_zero]; rfl
    · rw [unr_pos s h, rk_snoc, ih _ (by have := Nat.div_le_self (N - 1) s; omega)]
      have := Nat.div_add_mod (N - 1) s
      rw [← Int.natCast_mul, ← Int.natCast_add, Nat.mul_comm]
      omega
theorem rk_inj {s : Int} (hs : 1 ≤ s) {l r : List Int} (h1 : ∀ x ∈ l, 1 ≤ x ∧ x ≤ s) (h2 : ∀ x ∈ r, 1 ≤ x ∧ x ≤ s) (h : rk s l = rk s r) : l = r := by
  rw [← cmpW_zero, cmp_rk hs h1 h2, h, Int.sub_self]; rfl
theorem unr_rk {s : Nat} (hs : 1 ≤ s) {l : List Int} (h : ∀ x ∈ l, 1 ≤ x ∧ x ≤ (s : Int)) {N : Nat} (hN : rk s l = (N : Int)) : unr s N = l :=
  rk_inj (s := (s : Int)) (by omega) (unr_mem hs N) h (by rw [rk_unr, hN])
/-- The number of words of at most so many letters. -/
def cnt (s : Nat) : Nat → Nat
  | 0 => 1
  | k + 1 => cnt s k * s + 1
theorem unr_len {s : Nat} (hs : 1 ≤ s) (L N : Nat) : (unr s N).length ≤ L ↔ N < cnt s L := by
  induction L generalizing N with
  | zero =>
    by_cases h : N = 0
    · subst h; rw [unr_zero, cnt]; simp
    · rw [unr_pos s h, cnt]; simp; omega
  | succ L ih =>
    by_cases h : N = 0
    · subst h; rw [unr_zero, cnt]; simp
    · rw [unr_pos s h, cnt, List.length_append, List.length_singleton, Nat.add_le_add_iff_right, ih, Nat.div_lt_iff_lt_mul (by omega)]
      omega
theorem cnt_mono {s : Nat} (hs : 1 ≤ s) {j k : Nat} (h : j ≤ k) : cnt s j ≤ cnt s k := by
  induction k with
  | zero => rw [show j = 0 by omega]; exact Nat.le_refl _
  | succ k ih =>
    rcases Nat.lt_or_eq_of_le h with h' | rfl
    · have h1 := ih (by omega)
      have h2 : cnt s k * 1 ≤ cnt s k * s := Nat.mul_le_mul_left _ hs
      rw [cnt]; omega
    · exact Nat.le_refl _
theorem unr_len_at {s : Nat} (hs : 1 ≤ s) {L N : Nat} (h1 : N < cnt s L) (h2 : ∀ j, j < L → ¬ N < cnt s j) : (unr s N).length = L := by
  have h3 := (unr_len hs L N).2 h1
  rcases Nat.lt_or_eq_of_le h3 with h | h
  · exact absurd ((unr_len hs _ N).1 (Nat.le_refl _)) (h2 _ h)
  · exact h
/-- What is left of a rank when the last k letters have been taken. -/
def lft (s : Nat) (N : Nat) : Nat → Nat
  | 0 => N
  | k + 1 => (lft s N k - 1) / s
theorem unr_left {s : Nat} (N k : Nat) (hk : k ≤ (unr s N).length) : (unr s N).take ((unr s N).length - k) = unr s (lft s N k) ∧ (k < (unr s N).length → lft s N k ≠ 0 ∧ (unr s N).getD ((unr s N).length - 1 - k) 0 = (((lft s N k - 1) % s + 1 : Nat) : Int)) := by
  induction k with
  | zero =>
    refine ⟨by simp [lft], fun h => ?_⟩
    have h0 : N ≠ 0 := by rintro rfl; rw [unr_zero] at h; simp at h
    refine ⟨h0, ?_⟩
    have e := unr_pos s h0
    show _ = (((N - 1) % s + 1 : Nat) : Int)
    rw [e]
    simp [List.getD_eq_getElem?_getD]
  | succ k ih =>
    obtain ⟨h1, h2⟩ := ih (by omega)
    obtain ⟨h3, h4⟩ := h2 (by omega)
    have e := unr_pos s h3
    have h5 : (unr s N).take ((unr s N).length - (k + 1)) = unr s (lft s N (k + 1)) := by
      have : (unr s N).take ((unr s N).length - (k + 1)) = ((unr s N).take ((unr s N).length - k)).take ((unr s N).length - (k + 1)) := by
        rw [List.take_take, Nat.min_eq_left (by omega)]
      rw [this, h1, e]
      have hl : (unr s N).length - k = (unr s ((lft s N k - 1) / s)).length + 1 := by
        have := congrArg List.length h1
        rw [e, List.length_take, List.length_append, List.length_singleton] at this
        omega
      rw [show (unr s N).length - (k + 1) = (unr s ((lft s N k - 1) / s)).length by omega]
      simp [lft]
    refine ⟨h5, fun h => ?_⟩
    have hne : lft s N (k + 1) ≠ 0 := by
      intro h0
      rw [h0, unr_zero] at h5
      have := congrArg List.length h5
      rw [List.length_take, List.length_nil] at this
      omega
    refine ⟨hne, ?_⟩
    have e2 := unr_pos s hne
    have : (unr s N).getD ((unr s N).length - 1 - (k + 1)) 0 = ((unr s N).take ((unr s N).length - (k + 1))).getD ((unr s N).length - 1 - (k + 1)) 0 := by
      rw [List.getD_eq_getElem?_getD, List.getD_eq_getElem?_getD, List.getElem?_take, if_pos (by omega)]
    rw [this, h5]
    have hl : (unr s N).length - (k + 1) = (unr s ((lft s N (k + 1) - 1) / s)).length + 1 := by
      have := congrArg List.length h5
      rw [e2, List.length_take, List.length_append, List.length_singleton] at this
      omega
    rw [e2, show (unr s N).length - 1 - (k + 1) = (unr s ((lft s N (k + 1) - 1) / s)).length by omega]
    simp [List.getD_eq_getElem?_getD]
end Go.Proofs.YtdlmhgijpgnilaaGreatDoor
