/- Sizes of sums, products, quotients. -/
import Derived.Test.YtafoplnpnoedfaaGreatDoorQ34
import Derived.Test.YtafoplnpnoedfaaGreatDoorQ14
import Derived.Deep.RegionHeld
import Derived.Deep.CutRange
set_option linter.unusedVariables false
set_option linter.unusedSimpArgs false
namespace Go.Proofs.YtafoplnpnoedfaaGreatDoor
open Go.RowKit

theorem mk_le (n : Int) {d : Nat} (hd : d ≠ 0) : (mkRat n d).num.natAbs ≤ n.natAbs ∧ (mkRat n d).den ≤ d := by
  rw [Rat.num_mkRat, Rat.den_mkRat, if_neg hd, if_neg hd]
  refine ⟨?_, Nat.div_le_self _ _⟩
  exact Int.natAbs_ediv_le_natAbs _ _
theorem len_sum {a b p q : Nat} (h1 : (limbs a).length ≤ p) (h2 : (limbs b).length ≤ q) : (limbs (a + b)).length ≤ max p q + 1 := Nat.le_trans (length_plus a b) (by omega)
theorem len_prod {a b p q : Nat} (h1 : (limbs a).length ≤ p) (h2 : (limbs b).length ≤ q) : (limbs (a * b)).length ≤ p + q := Nat.le_trans (length_mul a b) (by omega)
theorem sz_le {n : Int} {d L : Nat} (hd : d ≠ 0) (h1 : (limbs n.natAbs).length ≤ L) (h2 : (limbs d).length ≤ L) : Sz (mkRat n d) L :=
  ⟨Nat.le_trans (length_mono (mk_le n hd).1) h1, Nat.le_trans (length_mono (mk_le n hd).2) h2⟩
theorem sz_mul {x y : Rat} {p q L : Nat} (hx : Sz x p) (hy : Sz y q) (hL : p + q ≤ L) : Sz (x * y) L := by
  rw [Rat.mul_def']
  refine sz_le (Nat.mul_ne_zero x.den_nz y.den_nz) ?_ ?_
  · rw [Int.natAbs_mul]; exact Nat.le_trans (len_prod hx.1 hy.1) hL
  · exact Nat.le_trans (len_prod hx.2 hy.2) hL
theorem sz_add {x y : Rat} {p q L : Nat} (hx : Sz x p) (hy : Sz y q) (hL : p + q + 1 ≤ L) : Sz (x + y) L := by
  rw [Rat.add_def']
  refine sz_le (Nat.mul_ne_zero x.den_nz y.den_nz) ?_ ?_
  · refine Nat.le_trans (length_mono (Int.natAbs_add_le _ _)) ?_
    rw [Int.natAbs_mul, Int.natAbs_mul, Int.natAbs_natCast, Int.natAbs_natCast]
    exact Nat.le_trans (len_sum (len_prod hx.1 hy.2) (len_prod hy.1 hx.2)) (by omega)
  · exact Nat.le_trans (len_prod hx.2 hy.2) (by omega)
theorem sz_neg {x : Rat} {p : Nat} (hx : Sz x p) : Sz (-x) p := by
  unfold Sz
  rw [Rat.neg_num, Rat.neg_den, Int.natAbs_neg]
  exact hx
theorem sz_sub {x y : Rat} {p q L : Nat} (hx : Sz x p) (hy : Sz y q) (hL : p + q + 1 ≤ L) : Sz (x - y) L := by
  rw [Rat.sub_eq_add_neg]
  exact sz_add hx (sz_neg hy) hL
theorem sz_zero (L : Nat) (h : 1 ≤ L) : Sz 0 L := ⟨by show (limbs 0).length ≤ L; rw [limbs_zero]; simp, by show (limbs 1).length ≤ L; rw [limbs_one]; exact h⟩
theorem r_Same_true (v v' : Value) (x y : Rat) (w : World) (L : Nat) (h : RatQ w v x) (h' : RatQ w v' y) (sx : Sz x L) (hL : L ≤ 100000000) (e : x = y) :
    Calls Tryz.prog 21 #[v, v'] w (RetV w (.bool true)) := by
  subst e
  have := r_Same v v' x x w h h' (sx.mono hL) (sx.mono hL)
  rwa [decide_eq_true rfl] at this
theorem cell_alc {w : World} {a : Addr} {v : Value} (o : Obj) (h : w.cell? a = some v) : (w.alloc o).cell? a = some v := (World.cell?_alloc_some w a o (by rw [h]; rfl)).trans h
theorem RatQ.drew1 {w : World} {v : Value} {q : Rat} (h : RatQ w v q) : RatQ w.drew v q := by
  obtain ⟨A, n, c, A', m, c', e, h1, h2⟩ := h
  exact ⟨A, n, c, A', m, c', e, h1.drew, h2.drew⟩
/-- A light and valid number. -/
theorem fair_rat {w : World} {v : Value} {neg : Bool} {ln ld : List Nat} (h : Fld w v neg ln ld) (hv : lgt ln ld = true ∧ vld neg ln ld = true) : ∃ q, RatQ w v q ∧ Sz q 6 := by
  obtain ⟨A, n, c, A', m, c', rfl, h1, h2⟩ := h.out
  have hl := hv.1
  unfold lgt at hl
  simp only [Bool.and_eq_true, decide_eq_true_eq] at hl
  have hq := ratq_of hv.2 h1 h2
  refine ⟨_, hq, ?_⟩
  obtain ⟨e1, e2, e3, e4, e5⟩ := vld_true h1.lim h2.lim hv.2
  have hf : fq neg ln ld = qv neg (val ln) (dv ld) := by unfold fq; rw [if_pos hv.2]
  rw [hf]
  refine sz_qv e3 e4 (by rw [← e1]; exact hl.1) ?_
  by_cases h1 : dv ld = 1
  · rw [h1, limbs_one]; decide
  · rw [← dl_ne h1, ← e2]; exact hl.2
theorem frr_at {x y z : Bool × List Nat × List Nat} (h : frr x y z = true) : (lgt x.2.1 x.2.2 = true ∧ vld x.1 x.2.1 x.2.2 = true) ∧ (lgt y.2.1 y.2.2 = true ∧ vld y.1 y.2.1 y.2.2 = true) ∧ (lgt z.2.1 z.2.2 = true ∧ vld z.1 z.2.1 z.2.2 = true) := by
  unfold frr at h
  simp only [Bool.and_eq_true] at h
  obtain ⟨⟨⟨⟨⟨a, b⟩, c⟩, d⟩, e⟩, f⟩ := h
  exact ⟨⟨a, d⟩, ⟨b, e⟩, ⟨c, f⟩⟩
/-- What a law hands back: true; what was there has not turned. -/
abbrev Yes (w : World) : Ending → World → Prop := RetV w (.bool true)
theorem mul_div_same {x y : Rat} (hy : y ≠ 0) : x * y / y = x := by
  rw [Rat.div_def, Rat.mul_assoc, Rat.mul_inv_cancel _ hy, Rat.mul_one]
theorem sign_zero_iff (y : Rat) : y.num.sign = 0 ↔ y = 0 := by
  rw [Int.sign_eq_zero_iff_zero]
  exact ⟨fun h => Rat.num_eq_zero.1 h, fun h => by rw [h]; rfl⟩

theorem Sign_zero (v : Value) (L : Nat) (w : World) (hT : Tab w) (h : Inp w v 0 L) : Calls Tryz.prog 144 #[v] w (RetV w (.int .i64 0)) := Sign_any v 0 L w hT h
theorem RatQ.inr {w : World} {v : Value} {q : Rat} {L : Nat} (h : RatQ w v q) (hs : Sz q L) (hL : L ≤ 1000000) : Inr w v q := by
  obtain ⟨A, n, c, A', m, c', e, h1, h2⟩ := h
  refine ⟨_, A, n, c, A', m, c', _, _, e, h1, h2, ?_, ?_, ?_⟩
  · rw [h1.len]; have := hs.1; omega
  · rw [h2.len]; have := dl_length q.den; have := hs.2; omega
  · exact fq_canon q
end Go.Proofs.YtafoplnpnoedfaaGreatDoor

namespace Go.Proofs.YtafoplnpnoedfaaGreatDoor
open Go.RowKit

theorem rat_tr {x y z : Rat} (a : x < y) (b : y < z) : x < z := by grind
theorem cmpQ_swap (x y : Rat) : cmpQ y x = - cmpQ x y := by
  unfold cmpQ
  by_cases h1 : x < y
  · rw [if_neg (show ¬ y < x by grind), if_pos h1, if_pos h1]; rfl
  · by_cases h2 : y < x
    · rw [if_pos h2, if_neg h1, if_pos h2]
    · rw [if_neg h2, if_neg h1, if_neg h1, if_neg h2]; rfl
theorem cmpQ_zero (x y : Rat) : cmpQ x y = 0 ↔ x = y := by
  unfold cmpQ
  by_cases h1 : x < y
  · rw [if_pos h1]; constructor <;> intro h <;> grind
  · by_cases h2 : y < x
    · rw [if_neg h1, if_pos h2]; constructor <;> intro h <;> grind
    · rw [if_neg h1, if_neg h2]; constructor <;> intro h <;> grind
theorem cmpQ_ltz (x y : Rat) : cmpQ x y < 0 ↔ x < y := by
  unfold cmpQ
  by_cases h1 : x < y
  · rw [if_pos h1]; constructor <;> intro h <;> first | exact h1 | decide
  · by_cases h2 : y < x
    · rw [if_neg h1, if_pos h2]; constructor <;> intro h <;> grind
    · rw [if_neg h1, if_neg h2]; constructor <;> intro h <;> grind
theorem cmpQ_bound (x y : Rat) : -1 ≤ cmpQ x y ∧ cmpQ x y ≤ 1 := by
  unfold cmpQ
  split
  · decide
  · split <;> decide
theorem cmpQ_add (x y z : Rat) : cmpQ (x + z) (y + z) = cmpQ x y := by
  unfold cmpQ
  simp only [Rat.add_lt_add_right]
theorem cmpQ_mul (x y z : Rat) : cmpQ (x * z) (y * z) = cmpQ x y * z.num.sign := by
  by_cases hz : 0 < z
  · have hs : z.num.sign = 1 := Int.sign_eq_one_of_pos (by have := (Rat.lt_iff 0 z).1 hz; simpa using this)
    rw [hs, Int.mul_one]
    unfold cmpQ
    simp only [Rat.mul_lt_mul_right hz]
  · by_cases hz0 : z = 0
    · subst hz0
      rw [Rat.mul_zero, Rat.mul_zero]
      unfold cmpQ
      simp
    · have hn : z < 0 := by grind
      have hp : 0 < -z := by grind
      have hs : z.num.sign = -1 := Int.sign_eq_neg_one_of_neg (by have := (Rat.lt_iff z 0).1 hn; simpa using this)
      have h1 : ∀ a b : Rat, (a * z < b * z ↔ b < a) := fun a b => by
        have h := Rat.mul_lt_mul_right (a := b) (b := a) hp
        rw [Rat.mul_neg, Rat.mul_neg] at h
        rw [← h]
        constructor <;> intro hh <;> grind
      rw [hs]
      unfold cmpQ
      simp only [h1]
      by_cases h2 : x < y
      · rw [if_neg (show ¬ y < x by grind), if_pos h2, if_pos h2]; rfl
      · by_cases h3 : y < x
        · rw [if_pos h3, if_neg h2, if_pos h3]; rfl
        · rw [if_neg h3, if_neg h2, if_neg h2, if_neg h3]; rfl
theorem r_Same_v (v v' : Value) (x y : Rat) (sb : Bool) (w : World) (L : Nat) (h : RatQ w v x) (h' : RatQ w v' y) (sx : Sz x L) (sy : Sz y L) (hL : L ≤ 100000000) (H : Hid (decide (x = y) = sb)) :
    Calls Tryz.prog 21 #[v, v'] w (RetV w (.bool sb)) := by
  rw [← H.out]
  exact r_Same v v' x y w h h' (sx.mono hL) (sy.mono hL)
theorem Sign_v (v : Value) (q : Rat) (L : Nat) (s : Int) (w : World) (hT : Tab w) (h : Inp w v q L) (H : Hid (q.num.sign = s)) : Calls Tryz.prog 144 #[v] w (RetV w (.int .i64 s)) := by
  rw [← H.out]
  exact Sign_any v q L w hT h
end Go.Proofs.YtafoplnpnoedfaaGreatDoor
