/- Rational numbers in plain terms: sign, size, lowest terms; sums, products and roundings as the program forms them. -/
import Derived.Test.YtohbelnfjomcdaaGreatDoorQ03
set_option linter.unusedVariables false
set_option linter.unusedSimpArgs false
namespace Go.Proofs.YtohbelnfjomcdaaGreatDoor

def sgn (neg : Bool) (a : Nat) : Int := if neg then -(a : Int) else (a : Int)
theorem sgn_abs (neg : Bool) (a : Nat) : (sgn neg a).natAbs = a := by unfold sgn; cases neg <;> simp
theorem sgn_neg (neg : Bool) (a : Nat) : decide (sgn neg a < 0) = (neg && decide (a ≠ 0)) := by
  unfold sgn
  cases neg
  · simp
  · simp only [if_true, Bool.true_and]
    exact decide_eq_decide.2 (by omega)
theorem sgn_zero (neg : Bool) : sgn neg 0 = 0 := by cases neg <;> rfl
theorem sgn_mul (x y : Bool) (a b : Nat) : sgn x a * sgn y b = sgn (x != y) (a * b) := by
  unfold sgn; cases x <;> cases y <;> simp <;> grind
theorem sgn_not (x : Bool) (a : Nat) : sgn (!x) a = - sgn x a := by unfold sgn; cases x <;> simp
theorem sgn_cast_mul (x : Bool) (a b : Nat) : sgn x a * (b : Int) = sgn x (a * b) := by unfold sgn; cases x <;> simp <;> grind
theorem sgn_self (v : Int) : sgn (decide (v < 0)) v.natAbs = v := by
  unfold sgn
  by_cases h : v < 0
  · simp only [h, decide_true, if_true]; omega
  · simp only [h, decide_false, Bool.false_eq_true, if_false]; omega

/-- The value of a fraction. -/
def qv (neg : Bool) (a d : Nat) : Rat := mkRat (sgn neg a) d
theorem qv_low {neg : Bool} {a d : Nat} (hd : d ≠ 0) (hg : Nat.gcd a d = 1) : (qv neg a d).num = sgn neg a ∧ (qv neg a d).den = d := by
  unfold qv
  rw [Rat.num_mkRat, Rat.den_mkRat, if_neg hd, if_neg hd, sgn_abs, Nat.gcd_comm, hg]
  simp
theorem qv_self (q : Rat) : qv (decide (q.num < 0)) q.num.natAbs q.den = q := by
  unfold qv; rw [sgn_self, Rat.mkRat_self]
theorem qv_zero (neg : Bool) (d : Nat) : qv neg 0 d = 0 := by unfold qv; rw [sgn_zero, Rat.zero_mkRat]
theorem qv_scale (neg : Bool) {a d k : Nat} (hk : k ≠ 0) : qv neg (a * k) (d * k) = qv neg a d := by
  unfold qv; rw [← sgn_cast_mul, Rat.mkRat_mul_right hk]
theorem qv_reduce (neg : Bool) {a d : Nat} (hd : d ≠ 0) : qv neg (a / Nat.gcd a d) (d / Nat.gcd a d) = qv neg a d ∧ d / Nat.gcd a d ≠ 0 ∧ Nat.gcd (a / Nat.gcd a d) (d / Nat.gcd a d) = 1 := by
  have hg : 0 < Nat.gcd a d := Nat.gcd_pos_of_pos_right _ (Nat.pos_of_ne_zero hd)
  refine ⟨?_, ?_, ?_⟩
  · rw [← qv_scale neg (Nat.pos_iff_ne_zero.1 hg), Nat.div_mul_cancel (Nat.gcd_dvd_left _ _), Nat.div_mul_cancel (Nat.gcd_dvd_right _ _)]
  · exact Nat.pos_iff_ne_zero.1 (Nat.div_gcd_pos_of_pos_right _ (Nat.pos_of_ne_zero hd))
  · exact Nat.gcd_div_gcd_div_gcd_of_pos_right (Nat.pos_of_ne_zero hd)

/-- Cancelling crosswise. -/
theorem qv_cross {x : Bool} {a b c d : Nat} (hb : b ≠ 0) (hd : d ≠ 0) (h1 : Nat.gcd a b = 1) (h2 : Nat.gcd c d = 1) :
    qv x ((a / Nat.gcd a d) * (c / Nat.gcd c b)) ((b / Nat.gcd c b) * (d / Nat.gcd a d)) = qv x (a * c) (b * d) ∧
    (b / Nat.gcd c b) * (d / Nat.gcd a d) ≠ 0 ∧ Nat.gcd ((a / Nat.gcd a d) * (c / Nat.gcd c b)) ((b / Nat.gcd c b) * (d / Nat.gcd a d)) = 1 := by
  have hg1 : 0 < Nat.gcd a d := Nat.gcd_pos_of_pos_right _ (Nat.pos_of_ne_zero hd)
  have hg2 : 0 < Nat.gcd c b := Nat.gcd_pos_of_pos_right _ (Nat.pos_of_ne_zero hb)
  obtain ⟨_, n1, c1⟩ := qv_reduce x (a := a) hd
  obtain ⟨_, n2, c2⟩ := qv_reduce x (a := c) hb
  generalize hga : Nat.gcd a d = g1 at *
  generalize hgc : Nat.gcd c b = g2 at *
  have ea : a / g1 * g1 = a := Nat.div_mul_cancel (hga ▸ Nat.gcd_dvd_left _ _)
  have ed : d / g1 * g1 = d := Nat.div_mul_cancel (hga ▸ Nat.gcd_dvd_right _ _)
  have ec : c / g2 * g2 = c := Nat.div_mul_cancel (hgc ▸ Nat.gcd_dvd_left _ _)
  have eb : b / g2 * g2 = b := Nat.div_mul_cancel (hgc ▸ Nat.gcd_dvd_right _ _)
  generalize a / g1 = a' at *
  generalize d / g1 = d' at *
  generalize c / g2 = c' at *
  generalize b / g2 = b' at *
  refine ⟨?_, Nat.mul_ne_zero n2 n1, ?_⟩
  · have := qv_scale x (a := a' * c') (d := b' * d') (k := g1 * g2) (Nat.mul_ne_zero (by omega) (by omega))
    rw [← this]
    congr 1
    · rw [← ea, ← ec]; grind
    · rw [← eb, ← ed]; grind
  · have c3 : Nat.Coprime a' b' := by
      have : Nat.Coprime (a' * g1) (b' * g2) := by rw [ea, eb]; exact h1
      exact (this.coprime_mul_right).coprime_mul_right_right
    have c4 : Nat.Coprime c' d' := by
      have : Nat.Coprime (c' * g2) (d' * g1) := by rw [ec, ed]; exact h2
      exact (this.coprime_mul_right).coprime_mul_right_right
    exact Nat.Coprime.mul_left (Nat.Coprime.mul_right c3 c1) (Nat.Coprime.mul_right c2 c4)
theorem qv_mul (x y : Bool) (a b c d : Nat) : qv x a b * qv y c d = qv (x != y) (a * c) (b * d) := by
  unfold qv; rw [Rat.mkRat_mul_mkRat, sgn_mul]
theorem qv_inv (y : Bool) {c d : Nat} (hc : c ≠ 0) : (qv y c d)⁻¹ = qv y d c := by
  unfold qv
  rw [← Rat.divInt_ofNat, Rat.inv_divInt, ← Rat.divInt_ofNat]
  cases y
  · rfl
  · show Rat.divInt (d : Int) (-(c : Int)) = Rat.divInt (-(d : Int)) (c : Int)
    rw [Rat.divInt_neg']
theorem qv_div (x y : Bool) (a b : Nat) {c d : Nat} (hc : c ≠ 0) : qv x a b / qv y c d = qv (x != y) (a * d) (b * c) := by
  rw [Rat.div_def, qv_inv y hc, qv_mul]
theorem qv_neg (x : Bool) (a b : Nat) : - qv x a b = qv (!x) a b := by
  unfold qv; rw [Rat.neg_mkRat, sgn_not]

/-- A sum over the common divisor of the denominators; t is its sign and size. -/
theorem qv_add {x y : Bool} {a b c d g t : Nat} {z : Bool} (hb : b ≠ 0) (hd : d ≠ 0) (h1 : Nat.gcd a b = 1) (h2 : Nat.gcd c d = 1) (hg : Nat.gcd b d = g)
    (ht : sgn z t = sgn x (a * (d / g)) + sgn y (c * (b / g))) :
    qv z (t / Nat.gcd t g) ((b / g) * (d / g) * (g / Nat.gcd t g)) = qv x a b + qv y c d ∧ (b / g) * (d / g) * (g / Nat.gcd t g) ≠ 0 ∧ Nat.gcd (t / Nat.gcd t g) ((b / g) * (d / g) * (g / Nat.gcd t g)) = 1 := by
  obtain ⟨n1, m1⟩ := qv_low (neg := x) hb h1
  obtain ⟨n2, m2⟩ := qv_low (neg := y) hd h2
  have hsum := Rat.add_def' (qv x a b) (qv y c d)
  have haux := Rat.add.aux (qv x a b) (qv y c d) (g := g) (ad := b / g) (bd := d / g) (by rw [m1, m2, hg]) (by rw [m1]) (by rw [m2])
  rw [n1, m1, n2, m2] at hsum
  simp only [n1, n2, m2] at haux
  have hg0 : 0 < g := hg ▸ Nat.gcd_pos_of_pos_right _ (Nat.pos_of_ne_zero hd)
  have eb : b / g * g = b := Nat.div_mul_cancel (hg ▸ Nat.gcd_dvd_left _ _)
  have ed : d / g * g = d := Nat.div_mul_cancel (hg ▸ Nat.gcd_dvd_right _ _)
  rw [sgn_cast_mul, sgn_cast_mul, ← ht, sgn_abs] at haux
  generalize b / g = b' at *
  generalize d / g = d' at *
  have hgt : 0 < Nat.gcd t g := Nat.gcd_pos_of_pos_right _ hg0
  have eg : g / Nat.gcd t g * Nat.gcd t g = g := Nat.div_mul_cancel (Nat.gcd_dvd_right _ _)
  have hden : b' * d' * (g / Nat.gcd t g) = (b' * d) / Nat.gcd t g := by
    rw [← ed, ← Nat.mul_assoc, Nat.mul_div_assoc _ (Nat.gcd_dvd_right _ _)]
  have hbd : b' * d ≠ 0 := Nat.mul_ne_zero (fun h => hb (by rw [← eb, h, Nat.zero_mul])) hd
  have hkey := qv_reduce z (a := t) hbd
  rw [← haux] at hkey
  rw [hden]
  refine ⟨?_, hkey.2.1, hkey.2.2⟩
  rw [hkey.1, hsum]
  unfold qv
  rw [← Rat.mkRat_mul_right (n := sgn z t) (d := b' * d) (Nat.pos_iff_ne_zero.1 hg0), ht]
  congr 1
  · rw [Int.add_mul, sgn_cast_mul, sgn_cast_mul, sgn_cast_mul, sgn_cast_mul]
    congr 2
    · rw [← ed]; grind
    · rw [← eb]; grind
  · rw [← eb]; grind

/-- The multiple of 2^-p at or below q; at or above it. -/
def down (q : Rat) (p : Nat) : Rat := mkRat ((q.num * ((2 ^ p : Nat) : Int)) / (q.den : Int)) (2 ^ p)
def up (q : Rat) (p : Nat) : Rat := - down (-q) p
/-- The number of steps of 2^-p, away from 0 or towards it. -/
def steps (a d p : Nat) (away : Bool) : Nat := a * 2 ^ p / d + if away && decide (a * 2 ^ p % d ≠ 0) then 1 else 0
theorem steps_floor (neg : Bool) (a d p : Nat) (hd : d ≠ 0) : sgn neg (steps a d p neg) = (sgn neg a * ((2 ^ p : Nat) : Int)) / (d : Int) := by
  rw [sgn_cast_mul]
  unfold steps
  have hdm := Nat.div_add_mod (a * 2 ^ p) d
  have hlt := Nat.mod_lt (a * 2 ^ p) (Nat.pos_of_ne_zero hd)
  generalize a * 2 ^ p = N at *
  generalize N / d = k at *
  generalize N % d = r at *
  cases neg
  · simp only [sgn, Bool.false_and, Bool.false_eq_true, if_false, Nat.add_zero]
    refine ((Int.ediv_emod_unique (r := (r : Int)) (by omega)).2 ⟨?_, by omega, by omega⟩).1.symm
    rw [← hdm]; push_cast; grind
  · simp only [sgn, if_true, Bool.true_and]
    by_cases hr : r = 0
    · subst hr
      simp only [ne_eq, not_true, decide_false, Bool.false_eq_true, if_false, Nat.add_zero]
      refine ((Int.ediv_emod_unique (r := 0) (by omega)).2 ⟨?_, by omega, by omega⟩).1.symm
      rw [← hdm]; push_cast; grind
    · simp only [ne_eq, hr, not_false_eq_true, decide_true, if_true]
      refine ((Int.ediv_emod_unique (r := (d : Int) - r) (by omega)).2 ⟨?_, by omega, by omega⟩).1.symm
      rw [← hdm]; push_cast; grind
theorem steps_not (neg : Bool) (a d p : Nat) (hd : d ≠ 0) : sgn neg (steps a d p (!neg)) = -((sgn (!neg) a * ((2 ^ p : Nat) : Int)) / (d : Int)) := by
  rw [← steps_floor (!neg) a d p hd, ← sgn_not, Bool.not_not]
theorem qv_down {neg : Bool} {a d p : Nat} (hd : d ≠ 0) (hg : Nat.gcd a d = 1) : qv neg (steps a d p neg) (2 ^ p) = down (qv neg a d) p := by
  unfold down
  rw [(qv_low hd hg).1, (qv_low hd hg).2, ← steps_floor neg a d p hd]; rfl
theorem qv_up {neg : Bool} {a d p : Nat} (hd : d ≠ 0) (hg : Nat.gcd a d = 1) : qv neg (steps a d p (!neg)) (2 ^ p) = up (qv neg a d) p := by
  unfold up
  rw [qv_neg, ← qv_down hd hg, qv_neg, Bool.not_not]
/-- Shifting zeros off. -/
theorem qv_shift {neg : Bool} {k p s z : Nat} (hz : (k = 0 ∧ z = 0) ∨ IsTz k z) (hs : min z p = s) : k / 2 ^ s = 0 ∧ k = 0 ∨ qv neg (k / 2 ^ s) (2 ^ (p - s)) = qv neg k (2 ^ p) ∧ Nat.gcd (k / 2 ^ s) (2 ^ (p - s)) = 1 := by
  rcases hz with ⟨h, _⟩ | ⟨m, h⟩
  · left; rw [h]; simp
  · right
    have hsz : s ≤ z := by omega
    have hsp : s ≤ p := by omega
    have h2 : 0 < 2 ^ s := Nat.pow_pos (by decide)
    have hk : k / 2 ^ s = 2 ^ (z - s) * (2 * m + 1) := by
      rw [h]
      apply Nat.div_eq_of_eq_mul_left h2
      have : 2 ^ z = 2 ^ (z - s) * 2 ^ s := by rw [← Nat.pow_add]; congr 1; omega
      rw [this]; grind
    refine ⟨?_, ?_⟩
    · rw [← qv_scale neg (k := 2 ^ s) (by omega), Nat.div_mul_cancel, ← Nat.pow_add]
      · congr 2; omega
      · rw [h]; exact Nat.dvd_trans (Nat.pow_dvd_pow 2 hsz) (Nat.dvd_mul_right _ _)
    · rw [hk]
      by_cases hp : p - s = 0
      · rw [hp, Nat.pow_zero, Nat.gcd_one_right]
      · have : z - s = 0 := by omega
        rw [this, Nat.pow_zero, Nat.one_mul]
        exact Nat.Coprime.pow_right _ (by rw [Nat.coprime_comm]; show Nat.gcd 2 (2 * m + 1) = 1; rw [Nat.gcd_rec]; simp [Nat.add_mod])
/-- The value of three fields: 0 if they are not Valid. -/
def fields (ok neg : Bool) (ln ld : List Nat) : Rat := if ok then qv neg (val ln) (if ld = [] then 1 else val ld) else 0
end Go.Proofs.YtohbelnfjomcdaaGreatDoor
