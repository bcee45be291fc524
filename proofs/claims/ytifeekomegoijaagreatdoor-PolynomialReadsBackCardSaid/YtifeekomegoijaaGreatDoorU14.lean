/- texts -/
import Derived.Test.YtifeekomegoijaaGreatDoorU13
import Derived.Test.YtifeekomegoijaaGreatDoorU11
import Derived.Deep.RegionHeld
set_option linter.unusedVariables false
set_option linter.unusedSimpArgs false
namespace Go.Proofs.YtifeekomegoijaaGreatDoor
open Go.RowKit

theorem sz_qv {neg : Bool} {a d L : Nat} (hd : d ≠ 0) (hg : Nat.gcd a d = 1) (ha : (limbs a).length ≤ L) (hdl : (limbs d).length ≤ L) : Sz (qv neg a d) L := by
 unfold Sz
 rw [(qv_low hd hg).1, (qv_low hd hg).2, sgn_abs]
 exact ⟨ha, hdl⟩
theorem small_len {n : Nat} (h : n < 4294967296) : (limbs n).length ≤ 1 := limbs_length_le (by unfold P; omega)

structure Fld (w : World) (v : Value) (neg : Bool) (ln ld : List Nat) : Prop where
 out : ∃ A n c A' m c', v = .agg #[.bool neg, .slice A n c, .slice A' m c'] ∧ Num w ln A n c ∧ Num w ld A' m c'
theorem Fld.below {w w' : World} {v : Value} {neg : Bool} {ln ld : List Nat} (h : Fld w v neg ln ld) (hb : Below w.heap.size w w') : Fld w' v neg ln ld := by
 obtain ⟨A, n, c, A', m, c', e, h1, h2⟩ := h.out
 exact ⟨A, n, c, A', m, c', e, h1.below hb, h2.below hb⟩
theorem Fld.agg {w : World} {v : Value} {neg : Bool} {ln ld : List Nat} (h : Fld w v neg ln ld) : ∃ A n c A' m c', v = .agg #[.bool neg, .slice A n c, .slice A' m c'] := by
 obtain ⟨A, n, c, A', m, c', e, _⟩ := h.out
 exact ⟨A, n, c, A', m, c', e⟩
theorem mk_le (n : Int) {d : Nat} (hd : d ≠ 0) : (mkRat n d).num.natAbs ≤ n.natAbs ∧ (mkRat n d).den ≤ d := by
 rw [Rat.num_mkRat, Rat.den_mkRat, if_neg hd, if_neg hd]
 refine ⟨?_, Nat.div_le_self _ _⟩
 exact Int.natAbs_ediv_le_natAbs _ _
theorem len_sum {a b p q : Nat} (h1 : (limbs a).length ≤ p) (h2 : (limbs b).length ≤ q) : (limbs (a + b)).length ≤ max p q + 1 := Nat.le_trans (length_plus a b) (by omega)
theorem len_prod {a b p q : Nat} (h1 : (limbs a).length ≤ p) (h2 : (limbs b).length ≤ q) : (limbs (a * b)).length ≤ p + q := Nat.le_trans (length_mul a b) (by omega)
theorem sz_le {n : Int} {d L : Nat} (hd : d ≠ 0) (h1 : (limbs n.natAbs).length ≤ L) (h2 : (limbs d).length ≤ L) : Sz (mkRat n d) L :=
 ⟨Nat.le_trans (length_mono (mk_le n hd).1) h1, Nat.le_trans (length_mono (mk_le n hd).2) h2⟩
theorem sz_mul {x y : Rat} {p q L : Nat} (hx : Sz x p) (hy : Sz y q) (hL : p + q ≤ L) : Sz (x * y) L := by
 rw [Rat.mul_def']
 refine sz_le (Nat.mul_ne_zero x.den_nz y.den_nz) ?_ ?_
 ·rw [Int.natAbs_mul]; exact Nat.le_trans (len_prod hx.1 hy.1) hL
 ·exact Nat.le_trans (len_prod hx.2 hy.2) hL
theorem sz_add {x y : Rat} {p q L : Nat} (hx : Sz x p) (hy : Sz y q) (hL : p + q + 1 ≤ L) : Sz (x + y) L := by
 rw [Rat.add_def']
 refine sz_le (Nat.mul_ne_zero x.den_nz y.den_nz) ?_ ?_
 ·refine Nat.le_trans (length_mono (Int.natAbs_add_le _ _)) ?_
  rw [Int.natAbs_mul, Int.natAbs_mul, Int.natAbs_natCast, Int.natAbs_natCast]
  exact Nat.le_trans (len_sum (len_prod hx.1 hy.2) (len_prod hy.1 hx.2)) (by omega)
 ·exact Nat.le_trans (len_prod hx.2 hy.2) (by omega)
theorem sz_neg {x : Rat} {p : Nat} (hx : Sz x p) : Sz (-x) p := by
 unfold Sz
 rw [Rat.neg_num, Rat.neg_den, Int.natAbs_neg]
 exact hx
theorem sz_sub {x y : Rat} {p q L : Nat} (hx : Sz x p) (hy : Sz y q) (hL : p + q + 1 ≤ L) : Sz (x - y) L := by
 rw [Rat.sub_eq_add_neg]
 exact sz_add hx (sz_neg hy) hL
theorem sz_zero (L : Nat) (h : 1 ≤ L) : Sz 0 L := ⟨by show (limbs 0).length ≤ L; rw [limbs_zero]; simp, by show (limbs 1).length ≤ L; rw [limbs_one]; exact h⟩
theorem RatQ.drew1 {w : World} {v : Value} {q : Rat} (h : RatQ w v q) : RatQ w.drew v q := by
 obtain ⟨A, n, c, A', m, c', e, h1, h2⟩ := h
 exact ⟨A, n, c, A', m, c', e, h1.drew, h2.drew⟩
theorem RatQ.inr {w : World} {v : Value} {q : Rat} {L : Nat} (h : RatQ w v q) (hs : Sz q L) (hL : L ≤ 1000000) : Inr w v q := by
 obtain ⟨A, n, c, A', m, c', e, h1, h2⟩ := h
 refine ⟨_, A, n, c, A', m, c', _, _, e, h1, h2, ?_, ?_, ?_⟩
 ·rw [h1.len]; have := hs.1; omega
 ·rw [h2.len]; have := dl_length q.den; have := hs.2; omega
 ·exact fq_canon q
end Go.Proofs.YtifeekomegoijaaGreatDoor
