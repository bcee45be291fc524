/- Plain arithmetic of greatest common divisors: powers of 2, the binary algorithm, the steps of Lehmer. -/
import Derived.Test.YtdlmhgijpgnilaaGreatDoorQ07
import Derived.Lib.TrailingZeros
set_option linter.unusedVariables false
set_option linter.unusedSimpArgs false
namespace Go.Proofs.YtdlmhgijpgnilaaGreatDoor

/-- z is the number of zeros at the low end of n. -/
def IsTz (n z : Nat) : Prop := ∃ m, n = 2 ^ z * (2 * m + 1)
theorem isTz_ctz {f n : Nat} (h0 : 0 < n) (h : n < 2 ^ f) : IsTz n (Lib.ctz f n) ∧ Lib.ctz f n < f := by
  obtain ⟨m, h1, h2⟩ := Lib.ctzFrom_spec f n h0 h
  unfold Lib.ctz
  rw [if_neg (by omega)]
  exact ⟨⟨m, h1⟩, h2⟩
theorem IsTz.le {n z : Nat} (h : IsTz n z) (h0 : 0 < n) : 2 ^ z ≤ n := by
  obtain ⟨m, rfl⟩ := h
  exact Nat.le_mul_of_pos_right _ (by omega)
theorem IsTz.odd {n z : Nat} (h : IsTz n z) : n / 2 ^ z % 2 = 1 := by
  obtain ⟨m, rfl⟩ := h
  rw [Nat.mul_div_cancel_left _ (Nat.pow_pos (by decide))]; omega
theorem IsTz.back {n z : Nat} (h : IsTz n z) : n / 2 ^ z * 2 ^ z = n := by
  obtain ⟨m, rfl⟩ := h
  rw [Nat.mul_div_cancel_left _ (Nat.pow_pos (by decide)), Nat.mul_comm]
theorem isTz_of {n z : Nat} (hd : n % 2 ^ z = 0) (ho : n / 2 ^ z % 2 = 1) : IsTz n z := by
  refine ⟨n / 2 ^ z / 2, ?_⟩
  have h1 := Nat.div_add_mod n (2 ^ z)
  have h2 : 2 * (n / 2 ^ z / 2) + 1 = n / 2 ^ z := by omega
  rw [h2]; omega
theorem isTz_unique {n z z' : Nat} (h : IsTz n z) (h' : IsTz n z') : z = z' := by
  have key : ∀ {a b : Nat}, IsTz n a → IsTz n b → a < b → False := by
    intro a b ⟨m, h1⟩ ⟨m', h2⟩ hab
    obtain ⟨k, rfl⟩ : ∃ k, b = a + (k + 1) := ⟨b - a - 1, by omega⟩
    rw [h1, Nat.pow_add, Nat.mul_assoc] at h2
    have h3 := Nat.eq_of_mul_eq_mul_left (Nat.pow_pos (by decide)) h2
    rw [Nat.pow_succ, Nat.mul_right_comm, Nat.mul_comm _ 2] at h3
    omega
  rcases Nat.lt_trichotomy z z' with h1 | h1 | h1
  · exact (key h h' h1).elim
  · exact h1
  · exact (key h' h h1).elim
theorem isTz_or {x y i k : Nat} (hx : IsTz x i) (hy : IsTz y k) : IsTz (x ||| y) (min i k) := by
  have hmod : ∀ {n z m : Nat}, IsTz n z → m ≤ z → n % 2 ^ m = 0 := by
    intro n z m ⟨t, h⟩ hm
    rw [h, show z = m + (z - m) from by omega, Nat.pow_add, Nat.mul_assoc, Nat.mul_mod_right]
  apply isTz_of
  · rw [Nat.or_mod_two_pow, hmod hx (Nat.min_le_left _ _), hmod hy (Nat.min_le_right _ _)]; rfl
  · have h1 : (x ||| y) / 2 ^ min i k = x / 2 ^ min i k ||| y / 2 ^ min i k := by
      rw [← Nat.shiftRight_eq_div_pow, ← Nat.shiftRight_eq_div_pow, ← Nat.shiftRight_eq_div_pow, Nat.shiftRight_or_distrib]
    rw [h1, show (2 : Nat) = 2 ^ 1 from rfl, Nat.or_mod_two_pow]
    have h2 : ∀ a b : Nat, a % 2 = 1 ∨ b % 2 = 1 → (a % 2 ^ 1 ||| b % 2 ^ 1) = 1 := by
      intro a b h
      rw [show (2 : Nat) ^ 1 = 2 from rfl]
      rcases Nat.mod_two_eq_zero_or_one a with ha | ha <;> rcases Nat.mod_two_eq_zero_or_one b with hb | hb <;> rw [ha, hb] <;> first | rfl | omega
    apply h2
    rcases Nat.le_total i k with h | h
    · left; rw [Nat.min_eq_left h]; exact hx.odd
    · right; rw [Nat.min_eq_right h]; exact hy.odd
theorem odd_coprime {a : Nat} (h : a % 2 = 1) (k : Nat) : Nat.Coprime (2 ^ k) a := by
  apply Nat.Coprime.pow_left
  unfold Nat.Coprime
  rw [Nat.gcd_rec, h]; rfl
theorem gcd_odd_right {a : Nat} (h : a % 2 = 1) (k b : Nat) : Nat.gcd a (2 ^ k * b) = Nat.gcd a b := Nat.Coprime.gcd_mul_left_cancel_right b (odd_coprime h k)
theorem gcd_odd_tz {a y z : Nat} (h : a % 2 = 1) (hy : IsTz y z) : Nat.gcd a (y / 2 ^ z) = Nat.gcd a y := by
  conv => rhs; rw [← hy.back, Nat.mul_comm]
  rw [gcd_odd_right h]
theorem gcd_tz {x y i k : Nat} (hx : IsTz x i) (hy : IsTz y k) : Nat.gcd x y = 2 ^ min i k * Nat.gcd (x / 2 ^ i) (y / 2 ^ k) := by
  have key : ∀ {x y i k : Nat}, IsTz x i → IsTz y k → i ≤ k → Nat.gcd x y = 2 ^ i * Nat.gcd (x / 2 ^ i) (y / 2 ^ k) := by
    intro x y i k hx hy h
    conv => lhs; rw [← hx.back, ← hy.back]
    rw [show k = i + (k - i) from by omega, Nat.pow_add, Nat.mul_comm _ (2 ^ i), Nat.mul_comm _ (2 ^ i * _), Nat.mul_assoc, Nat.gcd_mul_left, gcd_odd_right (by have := hx.odd; omega)]
  rcases Nat.le_total i k with h | h
  · rw [Nat.min_eq_left h]; exact key hx hy h
  · rw [Nat.min_eq_right h, Nat.gcd_comm, key hy hx h, Nat.gcd_comm]
/-- What the binary algorithm multiplies at its end. -/
theorem gcd_binary {x y i k : Nat} (hx : IsTz x i) (hy : IsTz y k) : Nat.gcd (x / 2 ^ i) y * 2 ^ min i k = Nat.gcd x y := by
  rw [gcd_tz hx hy, gcd_odd_tz hx.odd hy, Nat.mul_comm]
theorem gcd_sub_step {p r : Nat} (h : p ≤ r) : Nat.gcd p (r - p) = Nat.gcd p r := by
  conv => rhs; rw [show r = r - p + p from by omega]
  rw [Nat.gcd_add_self_right]
/-- The zeros at the low end of a number whose first limb that is not 0 is known. -/
theorem isTz_limb {a k v z : Nat} (hk : k < (limbs a).length) (h0 : ∀ j, j < k → (limbs a).getD j 0 = 0) (hv : (limbs a).getD k 0 = v) (hz : IsTz v z) (hz32 : z < 32) : IsTz a (32 * k + z) := by
  have h1 := val_take_drop (limbs a) k (by omega)
  have h2 : val ((limbs a).take k) = 0 := by
    have : ∀ j, j ≤ k → val ((limbs a).take j) = 0 := by
      intro j
      induction j with
      | zero => intro _; rfl
      | succ j ih => intro hj; rw [val_take_succ' _ j, ih (by omega), h0 j (by omega)]; simp
    exact this k (Nat.le_refl _)
  rw [h2, Nat.zero_add, val_limbs, drop_getD hk, val_cons, hv] at h1
  obtain ⟨m, hm⟩ := hz
  generalize val ((limbs a).drop (k + 1)) = r at h1
  have e1 : 2 ^ (32 * k + z) = P k * 2 ^ z := by rw [Nat.pow_add, Nat.pow_mul]; rfl
  obtain ⟨u, hu⟩ : ∃ u, 2 ^ (31 - z) = u := ⟨_, rfl⟩
  have e2 : 4294967296 = 2 ^ z * (2 * u) := by rw [← hu, ← Nat.mul_assoc, Nat.mul_right_comm, ← Nat.pow_add, ← Nat.pow_succ, show z + (31 - z) = 31 from by omega]
  refine ⟨m + u * r, ?_⟩
  rw [e1, h1, hm, e2]
  grind
/-- 64 bits of a number from the limb j + 2 down, behind the first s. -/
theorem window_math {l : List Nat} {j s : Nat} (hl : Lim l) (hlen : l.length ≤ j + 3) (hs : s ≤ 32) :
    val l / (P j * 2 ^ (32 - s)) = (l.getD (j + 2) 0 * 4294967296 + l.getD (j + 1) 0) * 2 ^ s + l.getD j 0 / 2 ^ (32 - s) := by
  have h1 : val l = val (l.take (j + 3)) := by rw [List.take_of_length_le hlen]
  rw [val_take_succ' l (j + 2), val_take_succ' l (j + 1), val_take_succ' l j] at h1
  have hlt : val (l.take j) < P j := by
    have h2 := val_lt (hl.take j)
    exact Nat.lt_of_lt_of_le h2 (P_le (by rw [List.length_take]; omega))
  generalize l.getD (j + 2) 0 = x2 at *
  generalize l.getD (j + 1) 0 = x1 at *
  generalize l.getD j 0 = x0 at *
  obtain ⟨u, hu⟩ : ∃ u, 2 ^ (32 - s) = u := ⟨_, rfl⟩
  obtain ⟨t, ht⟩ : ∃ t, 2 ^ s = t := ⟨_, rfl⟩
  have htu : u * t = 4294967296 := by rw [← ht, ← hu, ← Nat.pow_add, show 32 - s + s = 32 from by omega]
  have hu0 : 0 < u := by rw [← hu]; exact Nat.pow_pos (by decide)
  rw [hu, ht, ← Nat.div_div_eq_div_mul]
  have h3 : val l = val (l.take j) + P j * (x0 + u * ((x2 * 4294967296 + x1) * t)) := by
    rw [h1, P_succ (j + 1), P_succ j]
    have e : u * ((x2 * 4294967296 + x1) * t) = 4294967296 * (x2 * 4294967296 + x1) := by rw [← htu]; grind
    rw [e]
    grind
  rw [h3, Nat.add_mul_div_left _ _ (P_pos j), Nat.div_eq_of_lt hlt, Nat.zero_add, Nat.add_mul_div_left _ _ hu0]
  omega
/-- One limb of a difference of two multiples. -/
theorem comb_step {L l r : List Nat} {k N a b p m br d br' v w Pk Mk : Nat} (hk : k < N) (h : L.length = N ∧ Lim L ∧ (∀ i, k ≤ i → L.getD i 0 = l.getD i 0) ∧ val (L.take k) + b * val (r.take k) + P k * p = a * val (l.take k) + P k * (br + m))
    (hv : l.getD k 0 = v) (hw : r.getD k 0 = w) (hd : d < 4294967296) (hP : Pk = a * v + p) (hM : Mk = b * w + m) (he : d + Mk % 4294967296 + br = Pk % 4294967296 + 4294967296 * br') :
    (L.set k d).length = N ∧ Lim (L.set k d) ∧ (∀ i, k + 1 ≤ i → (L.set k d).getD i 0 = l.getD i 0) ∧
      val ((L.set k d).take (k + 1)) + b * val (r.take (k + 1)) + P (k + 1) * (Pk / 4294967296) = a * val (l.take (k + 1)) + P (k + 1) * (br' + Mk / 4294967296) := by
  obtain ⟨h1, h2, h3, h4⟩ := h
  refine ⟨by simpa using h1, h2.set k hd, fun i hi => by rw [getD_set_ne _ (by omega)]; exact h3 i (by omega), ?_⟩
  rw [val_take_set _ (by omega), val_take_succ' l k, val_take_succ' r k, P_succ, hv, hw]
  have e1 := Nat.mod_add_div Pk 4294967296
  have e2 := Nat.mod_add_div Mk 4294967296
  have e : d + b * w + 4294967296 * (Pk / 4294967296) + br + m = a * v + p + 4294967296 * (br' + Mk / 4294967296) := by omega
  have e3 : P k * d + P k * (b * w) + P k * 4294967296 * (Pk / 4294967296) + P k * (br + m) = P k * (a * v) + P k * p + P k * 4294967296 * (br' + Mk / 4294967296) := by
    have := congrArg (P k * ·) e
    simp only [Nat.mul_add] at this ⊢
    simp only [Nat.mul_assoc] at this ⊢
    omega
  rw [Nat.mul_add b, Nat.mul_add a, Nat.mul_left_comm b (P k) w, Nat.mul_left_comm a (P k) v]
  omega
/-- What the steps of Euclid have made of H and N: x and y, by the numbers a, b, c, d; cnt steps. -/
def Rel (H N x y a b c d cnt : Nat) : Prop :=
  (cnt % 2 = 0 ∧ x + b * N = a * H ∧ y + c * H = d * N ∧ a * d = b * c + 1) ∨ (cnt % 2 = 1 ∧ x + a * H = b * N ∧ y + d * N = c * H ∧ b * c = a * d + 1)
theorem Rel.start (H N : Nat) : Rel H N H N 1 0 0 1 0 := .inl ⟨rfl, by omega, by omega, rfl⟩
theorem Rel.step {H N x y a b c d cnt q y' : Nat} (h : Rel H N x y a b c d cnt) (hq : x = q * y + y') : Rel H N y y' c d (a + q * c) (b + q * d) (cnt + 1) := by
  rcases h with ⟨h0, h1, h2, h3⟩ | ⟨h0, h1, h2, h3⟩
  · refine .inr ⟨by omega, h2, ?_, ?_⟩
    · have e : q * (y + c * H) = q * (d * N) := by rw [h2]
      rw [Nat.add_mul, Nat.add_mul, Nat.mul_assoc, Nat.mul_assoc]
      rw [Nat.mul_add] at e
      omega
    · rw [Nat.mul_add, Nat.mul_add, Nat.mul_comm d a, h3, Nat.mul_comm c b, Nat.mul_left_comm c q d, Nat.mul_left_comm d q c, Nat.mul_comm d c]; omega
  · refine .inl ⟨by omega, h2, ?_, ?_⟩
    · have e : q * (y + d * N) = q * (c * H) := by rw [h2]
      rw [Nat.add_mul, Nat.add_mul, Nat.mul_assoc, Nat.mul_assoc]
      rw [Nat.mul_add] at e
      omega
    · rw [Nat.mul_add, Nat.mul_add, Nat.mul_comm c b, h3, Nat.mul_comm d a, Nat.mul_left_comm c q d, Nat.mul_left_comm d q c, Nat.mul_comm d c]; omega
theorem Rel.weight {H N x y a b c d cnt : Nat} (h : Rel H N x y a b c d cnt) : d * x + b * y = H := by
  rcases h with ⟨_, h1, h2, h3⟩ | ⟨_, h1, h2, h3⟩
  · have e1 : d * (x + b * N) = d * (a * H) := by rw [h1]
    have e2 : b * (y + c * H) = b * (d * N) := by rw [h2]
    rw [Nat.mul_add] at e1 e2
    have e3 : d * (a * H) = b * (c * H) + H := by rw [← Nat.mul_assoc, Nat.mul_comm d a, h3, Nat.add_mul, Nat.one_mul, Nat.mul_assoc]
    have e4 : d * (b * N) = b * (d * N) := Nat.mul_left_comm ..
    omega
  · have e1 : d * (x + a * H) = d * (b * N) := by rw [h1]
    have e2 : b * (y + d * N) = b * (c * H) := by rw [h2]
    rw [Nat.mul_add] at e1 e2
    have e3 : b * (c * H) = d * (a * H) + H := by rw [← Nat.mul_assoc, h3, Nat.add_mul, Nat.one_mul, Nat.mul_comm a d, Nat.mul_assoc]
    have e4 : d * (b * N) = b * (d * N) := Nat.mul_left_comm ..
    omega
theorem Rel.weight' {H N x y a b c d cnt : Nat} (h : Rel H N x y a b c d cnt) : c * x + a * y = N := by
  rcases h with ⟨_, h1, h2, h3⟩ | ⟨_, h1, h2, h3⟩
  · have e1 : c * (x + b * N) = c * (a * H) := by rw [h1]
    have e2 : a * (y + c * H) = a * (d * N) := by rw [h2]
    rw [Nat.mul_add] at e1 e2
    have e3 : a * (d * N) = c * (b * N) + N := by rw [← Nat.mul_assoc, h3, Nat.add_mul, Nat.one_mul, Nat.mul_comm b c, Nat.mul_assoc]
    have e4 : c * (a * H) = a * (c * H) := Nat.mul_left_comm ..
    omega
  · have e1 : c * (x + a * H) = c * (b * N) := by rw [h1]
    have e2 : a * (y + d * N) = a * (c * H) := by rw [h2]
    rw [Nat.mul_add] at e1 e2
    have e3 : c * (b * N) = a * (d * N) + N := by rw [← Nat.mul_assoc, Nat.mul_comm c b, h3, Nat.add_mul, Nat.one_mul, Nat.mul_assoc]
    have e4 : c * (a * H) = a * (c * H) := Nat.mul_left_comm ..
    omega
/-- The steps keep the greatest common divisor. -/
theorem Rel.gcd {X Y x y a b c d cnt : Nat} (h : Rel X Y x y a b c d cnt) : Nat.gcd x y = Nat.gcd X Y := by
  have hw := h.weight
  have hw' := h.weight'
  apply Nat.dvd_antisymm
  · have h1 := Nat.gcd_dvd_left x y
    have h2 := Nat.gcd_dvd_right x y
    apply Nat.dvd_gcd
    · conv => rhs; rw [← hw]
      exact Nat.dvd_add (Nat.dvd_mul_left_of_dvd h1 _) (Nat.dvd_mul_left_of_dvd h2 _)
    · conv => rhs; rw [← hw']
      exact Nat.dvd_add (Nat.dvd_mul_left_of_dvd h1 _) (Nat.dvd_mul_left_of_dvd h2 _)
  · have h1 := Nat.gcd_dvd_left X Y
    have h2 := Nat.gcd_dvd_right X Y
    have key : ∀ {u v r : Nat}, r + v = u → Nat.gcd X Y ∣ u → Nat.gcd X Y ∣ v → Nat.gcd X Y ∣ r := fun {u v r} e hu hv => by
      have : r = u - v := by omega
      rw [this]; exact Nat.dvd_sub hu hv
    rcases h with ⟨_, e1, e2, _⟩ | ⟨_, e1, e2, _⟩
    · exact Nat.dvd_gcd (key e1 (Nat.dvd_mul_left_of_dvd h1 _) (Nat.dvd_mul_left_of_dvd h2 _)) (key e2 (Nat.dvd_mul_left_of_dvd h2 _) (Nat.dvd_mul_left_of_dvd h1 _))
    · exact Nat.dvd_gcd (key e1 (Nat.dvd_mul_left_of_dvd h2 _) (Nat.dvd_mul_left_of_dvd h1 _)) (key e2 (Nat.dvd_mul_left_of_dvd h1 _) (Nat.dvd_mul_left_of_dvd h2 _))
/-- A difference of multiples of leading parts that is great enough shows that the difference of the multiples of the numbers is not negative. -/
theorem lead_le {u v U V E eu ev r : Nat} (h : r + v * V = u * U) (hv : v ≤ r) (he : ev < E) : v * (V * E + ev) ≤ u * (U * E + eu) := by
  have h1 : v * ev ≤ v * E := Nat.mul_le_mul_left _ (Nat.le_of_lt he)
  have h2 : (v * V + v) * E ≤ u * U * E := Nat.mul_le_mul_right _ (by omega)
  rw [Nat.mul_add, Nat.mul_add, ← Nat.mul_assoc, ← Nat.mul_assoc]
  rw [Nat.add_mul] at h2
  omega
theorem lead_lt {u v U V E eu ev r : Nat} (h : r + v * V = u * U) (hv : v ≤ r) (hv0 : 0 < v) (he : ev < E) : v * (V * E + ev) < u * (U * E + eu) := by
  have h1 : v * ev < v * E := Nat.mul_lt_mul_of_pos_left he hv0
  have h2 : (v * V + v) * E ≤ u * U * E := Nat.mul_le_mul_right _ (by omega)
  rw [Nat.mul_add, Nat.mul_add, ← Nat.mul_assoc, ← Nat.mul_assoc]
  rw [Nat.add_mul] at h2
  omega
/-- The cofactors while the steps are made. -/
def Cof (a b c d cnt : Nat) : Prop := (cnt = 0 ∧ a = 1 ∧ b = 0 ∧ c = 0 ∧ d = 1) ∨ (1 ≤ cnt ∧ a ≤ b ∧ 1 ≤ b ∧ 1 ≤ c ∧ c ≤ d ∧ b ≤ d ∧ cnt ≤ d)
theorem Cof.start : Cof 1 0 0 1 0 := .inl ⟨rfl, rfl, rfl, rfl, rfl⟩
theorem Cof.step {a b c d cnt q : Nat} (h : Cof a b c d cnt) (hq : 1 ≤ q) : Cof c d (a + q * c) (b + q * d) (cnt + 1) := by
  rcases h with ⟨rfl, rfl, rfl, rfl, rfl⟩ | ⟨h1, h2, h3, h4, h5, h6, h7⟩
  · refine .inr ⟨by omega, by omega, by omega, by omega, by omega, by omega, by omega⟩
  · have e1 : q * c ≤ q * d := Nat.mul_le_mul_left _ h5
    have e2 : d ≤ q * d := Nat.le_mul_of_pos_left _ hq
    have e3 : c ≤ q * c := Nat.le_mul_of_pos_left _ hq
    refine .inr ⟨by omega, by omega, by omega, by omega, by omega, by omega, by omega⟩
theorem Cof.le {a b c d cnt : Nat} (h : Cof a b c d cnt) : c ≤ d ∧ b ≤ d ∧ 1 ≤ d ∧ a ≤ d ∧ cnt ≤ d := by
  rcases h with ⟨rfl, rfl, rfl, rfl, rfl⟩ | ⟨h1, h2, h3, h4, h5, h6, h7⟩
  · omega
  · omega
/-- A state that the test accepts is one of the numbers themselves. -/
theorem accept {H N X Y E eX eY hi ne a b c d cnt : Nat} (hX : X = H * E + eX) (hY : Y = N * E + eY) (heX : eX < E) (heY : eY < E) (hR : Rel H N hi ne a b c d cnt) (hC : Cof a b c d cnt) (h1 : d ≤ ne) (h2 : b + d ≤ hi - ne) (h3 : ne ≤ hi) :
    ∃ x y, Rel X Y x y a b c d cnt ∧ y < x := by
  have hC' := hC.le
  rcases hR with ⟨h0, e1, e2, e3⟩ | ⟨h0, e1, e2, e3⟩
  · have f1 : b * Y ≤ a * X := by rw [hX, hY]; exact lead_le e1 (by omega) heY
    have f2 : c * X ≤ d * Y := by rw [hX, hY]; exact lead_le e2 (by omega) heX
    have f3 : (b + d) * Y < (a + c) * X := by
      rw [hX, hY]
      refine lead_lt (r := hi - ne) ?_ h2 (by omega) heY
      rw [Nat.add_mul, Nat.add_mul]; omega
    rw [Nat.add_mul, Nat.add_mul] at f3
    exact ⟨a * X - b * Y, d * Y - c * X, .inl ⟨h0, by omega, by omega, e3⟩, by omega⟩
  · have hC2 : 1 ≤ cnt ∧ a ≤ b ∧ 1 ≤ b ∧ 1 ≤ c ∧ c ≤ d ∧ b ≤ d ∧ cnt ≤ d := by
      rcases hC with ⟨rfl, _⟩ | h
      · omega
      · exact h
    have f1 : a * X ≤ b * Y := by rw [hX, hY]; exact lead_le e1 (by omega) heX
    have f2 : d * Y ≤ c * X := by rw [hX, hY]; exact lead_le e2 (by omega) heY
    have f3 : (a + c) * X < (b + d) * Y := by
      rw [hX, hY]
      refine lead_lt (r := hi - ne) ?_ (by omega) (by omega) heX
      rw [Nat.add_mul, Nat.add_mul]; omega
    rw [Nat.add_mul, Nat.add_mul] at f3
    exact ⟨b * Y - a * X, c * X - d * Y, .inr ⟨h0, by omega, by omega, e3⟩, by omega⟩
/-- .. whose cofactors are limbs. -/
theorem accept_small {H N hi ne a b c d cnt : Nat} (hR : Rel H N hi ne a b c d cnt) (hC : Cof a b c d cnt) (h1 : d ≤ ne) (h3 : ne ≤ hi) (hH : H < 18446744073709551616) : d < 4294967296 := by
  have hw := hR.weight
  rcases Nat.lt_or_ge d 4294967296 with h | h
  · exact h
  · exfalso
    have e1 : 4294967296 * 4294967296 ≤ d * hi := Nat.mul_le_mul h (by omega)
    omega
/-- The first number of a state is the second one of the state before. -/
theorem Rel.first {X Y x y x' y' a b c d cnt p q r s : Nat} (h : Rel X Y x y a b c d cnt) (h' : Rel X Y x' y' c d p q (cnt + 1)) : x' = y := by
  rcases h with ⟨h0, _, e2, _⟩ | ⟨h0, _, e2, _⟩ <;> rcases h' with ⟨g0, f1, _, _⟩ | ⟨g0, f1, _, _⟩ <;> omega
end Go.Proofs.YtdlmhgijpgnilaaGreatDoor

namespace Go.Proofs.YtdlmhgijpgnilaaGreatDoor

def sgn (neg : Bool) (a : Nat) : Int := if neg then -(a : Int) else (a : Int)
theorem sgn_abs (neg : Bool) (a : Nat) : (sgn neg a).natAbs = a := by unfold sgn; cases neg <;> simp
theorem sgn_neg (neg : Bool) (a : Nat) : decide (sgn neg a < 0) = (neg && decide (a ≠ 0)) := by
  unfold sgn
  cases neg
  · simp
  · simp only [if_true, Bool.true_and]
    exact decide_eq_decide.2 (by omega)
theorem sgn_zero (neg : Bool) : sgn neg 0 = 0 := by cases neg <;> rfl
theorem sgn_mul (x y : Bool) (a b : Nat) : sgn x a * sgn y b = sgn (x != y) (a * b) := by
  unfold sgn; cases x <;> cases y <;> simp <;> grind
theorem sgn_not (x : Bool) (a : Nat) : sgn (!x) a = - sgn x a := by unfold sgn; cases x <;> simp
theorem sgn_cast_mul (x : Bool) (a b : Nat) : sgn x a * (b : Int) = sgn x (a * b) := by unfold sgn; cases x <;> simp <;> grind
theorem sgn_self (v : Int) : sgn (decide (v < 0)) v.natAbs = v := by
  unfold sgn
  by_cases h : v < 0
  · simp only [h, decide_true, if_true]; omega
  · simp only [h, decide_false, Bool.false_eq_true, if_false]; omega

/-- The value of a fraction. -/
def qv (neg : Bool) (a d : Nat) : Rat := mkRat (sgn neg a) d
theorem qv_low {neg : Bool} {a d : Nat} (hd : d ≠ 0) (hg : Nat.gcd a d = 1) : (qv neg a d).num = sgn neg a ∧ (qv neg a d).den = d := by
  unfold qv
  rw [Rat.num_mkRat, Rat.den_mkRat, if_neg hd, if_neg hd, sgn_abs, Nat.gcd_comm, hg]
  simp
theorem qv_self (q : Rat) : qv (decide (q.num < 0)) q.num.natAbs q.den = q := by
  unfold qv; rw [sgn_self, Rat.mkRat_self]
theorem qv_zero (neg : Bool) (d : Nat) : qv neg 0 d = 0 := by unfold qv; rw [sgn_zero, Rat.zero_mkRat]
theorem qv_scale (neg : Bool) {a d k : Nat} (hk : k ≠ 0) : qv neg (a * k) (d * k) = qv neg a d := by
  unfold qv; rw [← sgn_cast_mul, Rat.mkRat_mul_right hk]
theorem qv_reduce (neg : Bool) {a d : Nat} (hd : d ≠ 0) : qv neg (a / Nat.gcd a d) (d / Nat.gcd a d) = qv neg a d ∧ d / Nat.gcd a d ≠ 0 ∧ Nat.gcd (a / Nat.gcd a d) (d / Nat.gcd a d) = 1 := by
  have hg : 0 < Nat.gcd a d := Nat.gcd_pos_of_pos_right _ (Nat.pos_of_ne_zero hd)
  refine ⟨?_, ?_, ?_⟩
  · rw [← qv_scale neg (Nat.pos_iff_ne_zero.1 hg), Nat.div_mul_cancel (Nat.gcd_dvd_left _ _), Nat.div_mul_cancel (Nat.gcd_dvd_right _ _)]
  · exact Nat.pos_iff_ne_zero.1 (Nat.div_gcd_pos_of_pos_right _ (Nat.pos_of_ne_zero hd))
  · exact Nat.gcd_div_gcd_div_gcd_of_pos_right (Nat.pos_of_ne_zero hd)

/-- Cancelling crosswise. -/
theorem qv_cross {x : Bool} {a b c d : Nat} (hb : b ≠ 0) (hd : d ≠ 0) (h1 : Nat.gcd a b = 1) (h2 : Nat.gcd c d = 1) :
    qv x ((a / Nat.gcd a d) * (c / Nat.gcd c b)) ((b / Nat.gcd c b) * (d / Nat.gcd a d)) = qv x (a * c) (b * d) ∧
    (b / Nat.gcd c b) * (d / Nat.gcd a d) ≠ 0 ∧ Nat.gcd ((a / Nat.gcd a d) * (c / Nat.gcd c b)) ((b / Nat.gcd c b) * (d / Nat.gcd a d)) = 1 := by
  have hg1 : 0 < Nat.gcd a d := Nat.gcd_pos_of_pos_right _ (Nat.pos_of_ne_zero hd)
  have hg2 : 0 < Nat.gcd c b := Nat.gcd_pos_of_pos_right _ (Nat.pos_of_ne_zero hb)
  obtain ⟨_, n1, c1⟩ := qv_reduce x (a := a) hd
  obtain ⟨_, n2, c2⟩ := qv_reduce x (a := c) hb
  generalize hga : Nat.gcd a d = g1 at *
  generalize hgc : Nat.gcd c b = g2 at *
  have ea : a / g1 * g1 = a := Nat.div_mul_cancel (hga ▸ Nat.gcd_dvd_left _ _)
  have ed : d / g1 * g1 = d := Nat.div_mul_cancel (hga ▸ Nat.gcd_dvd_right _ _)
  have ec : c / g2 * g2 = c := Nat.div_mul_cancel (hgc ▸ Nat.gcd_dvd_left _ _)
  have eb : b / g2 * g2 = b := Nat.div_mul_cancel (hgc ▸ Nat.gcd_dvd_right _ _)
  generalize a / g1 = a' at *
  generalize d / g1 = d' at *
  generalize c / g2 = c' at *
  generalize b / g2 = b' at *
  refine ⟨?_, Nat.mul_ne_zero n2 n1, ?_⟩
  · have := qv_scale x (a := a' * c') (d := b' * d') (k := g1 * g2) (Nat.mul_ne_zero (by omega) (by omega))
    rw [← this]
    congr 1
    · rw [← ea, ← ec]; grind
    · rw [← eb, ← ed]; grind
  · have c3 : Nat.Coprime a' b' := by
      have : Nat.Coprime (a' * g1) (b' * g2) := by rw [ea, eb]; exact h1
      exact (this.coprime_mul_right).coprime_mul_right_right
    have c4 : Nat.Coprime c' d' := by
      have : Nat.Coprime (c' * g2) (d' * g1) := by rw [ec, ed]; exact h2
      exact (this.coprime_mul_right).coprime_mul_right_right
    exact Nat.Coprime.mul_left (Nat.Coprime.mul_right c3 c1) (Nat.Coprime.mul_right c2 c4)
theorem qv_mul (x y : Bool) (a b c d : Nat) : qv x a b * qv y c d = qv (x != y) (a * c) (b * d) := by
  unfold qv; rw [Rat.mkRat_mul_mkRat, sgn_mul]
theorem qv_inv (y : Bool) {c d : Nat} (hc : c ≠ 0) : (qv y c d)⁻¹ = qv y d c := by
  unfold qv
  rw [← Rat.divInt_ofNat, Rat.inv_divInt, ← Rat.divInt_ofNat]
  cases y
  · rfl
  · show Rat.divInt (d : Int) (-(c : Int)) = Rat.divInt (-(d : Int)) (c : Int)
    rw [Rat.divInt_neg']
theorem qv_div (x y : Bool) (a b : Nat) {c d : Nat} (hc : c ≠ 0) : qv x a b / qv y c d = qv (x != y) (a * d) (b * c) := by
  rw [Rat.div_def, qv_inv y hc, qv_mul]
theorem qv_neg (x : Bool) (a b : Nat) : - qv x a b = qv (!x) a b := by
  unfold qv; rw [Rat.neg_mkRat, sgn_not]

/-- A sum over the common divisor of the denominators; t is its sign and size. -/
theorem qv_add {x y : Bool} {a b c d g t : Nat} {z : Bool} (hb : b ≠ 0) (hd : d ≠ 0) (h1 : Nat.gcd a b = 1) (h2 : Nat.gcd c d = 1) (hg : Nat.gcd b d = g)
    (ht : sgn z t = sgn x (a * (d / g)) + sgn y (c * (b / g))) :
    qv z (t / Nat.gcd t g) ((b / g) * (d / g) * (g / Nat.gcd t g)) = qv x a b + qv y c d ∧ (b / g) * (d / g) * (g / Nat.gcd t g) ≠ 0 ∧ Nat.gcd (t / Nat.gcd t g) ((b / g) * (d / g) * (g / Nat.gcd t g)) = 1 := by
  obtain ⟨n1, m1⟩ := qv_low (neg := x) hb h1
  obtain ⟨n2, m2⟩ := qv_low (neg := y) hd h2
  have hsum := Rat.add_def' (qv x a b) (qv y c d)
  have haux := Rat.add.aux (qv x a b) (qv y c d) (g := g) (ad := b / g) (bd := d / g) (by rw [m1, m2, hg]) (by rw [m1]) (by rw [m2])
  rw [n1, m1, n2, m2] at hsum
  simp only [n1, n2, m2] at haux
  have hg0 : 0 < g := hg ▸ Nat.gcd_pos_of_pos_right _ (Nat.pos_of_ne_zero hd)
  have eb : b / g * g = b := Nat.div_mul_cancel (hg ▸ Nat.gcd_dvd_left _ _)
  have ed : d / g * g = d := Nat.div_mul_cancel (hg ▸ Nat.gcd_dvd_right _ _)
  rw [sgn_cast_mul, sgn_cast_mul, ← ht, sgn_abs] at haux
  generalize b / g = b' at *
  generalize d / g = d' at *
  have hgt : 0 < Nat.gcd t g := Nat.gcd_pos_of_pos_right _ hg0
  have eg : g / Nat.gcd t g * Nat.gcd t g = g := Nat.div_mul_cancel (Nat.gcd_dvd_right _ _)
  have hden : b' * d' * (g / Nat.gcd t g) = (b' * d) / Nat.gcd t g := by
    rw [← ed, ← Nat.mul_assoc, Nat.mul_div_assoc _ (Nat.gcd_dvd_right _ _)]
  have hbd : b' * d ≠ 0 := Nat.mul_ne_zero (fun h => hb (by rw [← eb, h, Nat.zero_mul])) hd
  have hkey := qv_reduce z (a := t) hbd
  rw [← haux] at hkey
  rw [hden]
  refine ⟨?_, hkey.2.1, hkey.2.2⟩
  rw [hkey.1, hsum]
  unfold qv
  rw [← Rat.mkRat_mul_right (n := sgn z t) (d := b' * d) (Nat.pos_iff_ne_zero.1 hg0), ht]
  congr 1
  · rw [Int.add_mul, sgn_cast_mul, sgn_cast_mul, sgn_cast_mul, sgn_cast_mul]
    congr 2
    · rw [← ed]; grind
    · rw [← eb]; grind
  · rw [← eb]; grind

/-- The multiple of 2^-p at or below q; at or above it. -/
def down (q : Rat) (p : Nat) : Rat := mkRat ((q.num * ((2 ^ p : Nat) : Int)) / (q.den : Int)) (2 ^ p)
def up (q : Rat) (p : Nat) : Rat := - down (-q) p
/-- The number of steps of 2^-p, away from 0 or towards it. -/
def steps (a d p : Nat) (away : Bool) : Nat := a * 2 ^ p / d + if away && decide (a * 2 ^ p % d ≠ 0) then 1 else 0
theorem steps_floor (neg : Bool) (a d p : Nat) (hd : d ≠ 0) : sgn neg (steps a d p neg) = (sgn neg a * ((2 ^ p : Nat) : Int)) / (d : Int) := by
  rw [sgn_cast_mul]
  unfold steps
  have hdm := Nat.div_add_mod (a * 2 ^ p) d
  have hlt := Nat.mod_lt (a * 2 ^ p) (Nat.pos_of_ne_zero hd)
  generalize a * 2 ^ p = N at *
  generalize N / d = k at *
  generalize N % d = r at *
  cases neg
  · simp only [sgn, Bool.false_and, Bool.false_eq_true, if_false, Nat.add_zero]
    refine ((Int.ediv_emod_unique (r := (r : Int)) (by omega)).2 ⟨?_, by omega, by omega⟩).1.symm
    rw [← hdm]; push_cast; grind
  · simp only [sgn, if_true, Bool.true_and]
    by_cases hr : r = 0
    · subst hr
      simp only [ne_eq, not_true, decide_false, Bool.false_eq_true, if_false, Nat.add_zero]
      refine ((Int.ediv_emod_unique (r := 0) (by omega)).2 ⟨?_, by omega, by omega⟩).1.symm
      rw [← hdm]; push_cast; grind
    · simp only [ne_eq, hr, not_false_eq_true, decide_true, if_true]
      refine ((Int.ediv_emod_unique (r := (d : Int) - r) (by omega)).2 ⟨?_, by omega, by omega⟩).1.symm
      rw [← hdm]; push_cast; grind
theorem steps_not (neg : Bool) (a d p : Nat) (hd : d ≠ 0) : sgn neg (steps a d p (!neg)) = -((sgn (!neg) a * ((2 ^ p : Nat) : Int)) / (d : Int)) := by
  rw [← steps_floor (!neg) a d p hd, ← sgn_not, Bool.not_not]
theorem qv_down {neg : Bool} {a d p : Nat} (hd : d ≠ 0) (hg : Nat.gcd a d = 1) : qv neg (steps a d p neg) (2 ^ p) = down (qv neg a d) p := by
  unfold down
  rw [(qv_low hd hg).1, (qv_low hd hg).2, ← steps_floor neg a d p hd]; rfl
theorem qv_up {neg : Bool} {a d p : Nat} (hd : d ≠ 0) (hg : Nat.gcd a d = 1) : qv neg (steps a d p (!neg)) (2 ^ p) = up (qv neg a d) p := by
  unfold up
  rw [qv_neg, ← qv_down hd hg, qv_neg, Bool.not_not]
/-- Shifting zeros off. -/
theorem qv_shift {neg : Bool} {k p s z : Nat} (hz : (k = 0 ∧ z = 0) ∨ IsTz k z) (hs : min z p = s) : k / 2 ^ s = 0 ∧ k = 0 ∨ qv neg (k / 2 ^ s) (2 ^ (p - s)) = qv neg k (2 ^ p) ∧ Nat.gcd (k / 2 ^ s) (2 ^ (p - s)) = 1 := by
  rcases hz with ⟨h, _⟩ | ⟨m, h⟩
  · left; rw [h]; simp
  · right
    have hsz : s ≤ z := by omega
    have hsp : s ≤ p := by omega
    have h2 : 0 < 2 ^ s := Nat.pow_pos (by decide)
    have hk : k / 2 ^ s = 2 ^ (z - s) * (2 * m + 1) := by
      rw [h]
      apply Nat.div_eq_of_eq_mul_left h2
      have : 2 ^ z = 2 ^ (z - s) * 2 ^ s := by rw [← Nat.pow_add]; congr 1; omega
      rw [this]; grind
    refine ⟨?_, ?_⟩
    · rw [← qv_scale neg (k := 2 ^ s) (by omega), Nat.div_mul_cancel, ← Nat.pow_add]
      · congr 2; omega
      · rw [h]; exact Nat.dvd_trans (Nat.pow_dvd_pow 2 hsz) (Nat.dvd_mul_right _ _)
    · rw [hk]
      by_cases hp : p - s = 0
      · rw [hp, Nat.pow_zero, Nat.gcd_one_right]
      · have : z - s = 0 := by omega
        rw [this, Nat.pow_zero, Nat.one_mul]
        exact Nat.Coprime.pow_right _ (by rw [Nat.coprime_comm]; show Nat.gcd 2 (2 * m + 1) = 1; rw [Nat.gcd_rec]; simp [Nat.add_mod])
/-- The value of three fields: 0 if they are not Valid. -/
def fields (ok neg : Bool) (ln ld : List Nat) : Rat := if ok then qv neg (val ln) (if ld = [] then 1 else val ld) else 0
end Go.Proofs.YtdlmhgijpgnilaaGreatDoor
