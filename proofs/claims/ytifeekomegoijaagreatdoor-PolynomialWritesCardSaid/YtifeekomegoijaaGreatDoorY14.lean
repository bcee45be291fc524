import Derived.Test.YtifeekomegoijaaGreatDoorY13
import Derived.Deep.RegionHeld
set_option linter.unusedVariables false
set_option linter.unusedSimpArgs false
set_option maxRecDepth 20000
set_option maxHeartbeats 4000000
namespace Go.Proofs.YtifeekomegoijaaGreatDoor
open Go.RowKit
theorem sz_qv {neg : Bool} {a d L : Nat} (hd : d ≠ 0) (hg : Nat.gcd a d = 1) (ha : (limbs a).length <= L) (hdl : (limbs d).length <= L) : Sz (qv neg a d) L := by
 unfold Sz
 rw [(qv_low hd hg).1, (qv_low hd hg).2, sgn_abs]
 exact ⟨ha, hdl⟩
theorem small_len {n : Nat} (h : n < 4294967296) : (limbs n).length <= 1 := limbs_length_le (by unfold P; omega)
structure Fld (w : World) (v : Value) (neg : Bool) (ln ld : List Nat) : Prop where
 out : ∃ A n c A' m c', v = .agg #[.bool neg, .slice A n c, .slice A' m c'] /\ Num w ln A n c /\ Num w ld A' m c'
theorem Fld.below {w w' : World} {v : Value} {neg : Bool} {ln ld : List Nat} (h : Fld w v neg ln ld) (hb : Below w.heap.size w w') : Fld w' v neg ln ld := by
 obtain ⟨A, n, c, A', m, c', e, h1, h2⟩ := h.out
 exact ⟨A, n, c, A', m, c', e, h1.below hb, h2.below hb⟩
theorem Fld.agg {w : World} {v : Value} {neg : Bool} {ln ld : List Nat} (h : Fld w v neg ln ld) : ∃ A n c A' m c', v = .agg #[.bool neg, .slice A n c, .slice A' m c'] := by
 obtain ⟨A, n, c, A', m, c', e, _⟩ := h.out
 exact ⟨A, n, c, A', m, c', e⟩
theorem mk_le (n : Int) {d : Nat} (hd : d ≠ 0) : (mkRat n d).num.natAbs <= n.natAbs /\ (mkRat n d).den <= d := by
 rw [Rat.num_mkRat, Rat.den_mkRat, if_neg hd, if_neg hd]
 refine ⟨?_, Nat.div_le_self _ _⟩
 exact Int.natAbs_ediv_le_natAbs _ _
theorem len_sum {a b p q : Nat} (h1 : (limbs a).length <= p) (h2 : (limbs b).length <= q) : (limbs (a + b)).length <= max p q + 1 := Nat.le_trans (length_plus a b) (by omega)
theorem len_prod {a b p q : Nat} (h1 : (limbs a).length <= p) (h2 : (limbs b).length <= q) : (limbs (a * b)).length <= p + q := Nat.le_trans (length_mul a b) (by omega)
theorem sz_le {n : Int} {d L : Nat} (hd : d ≠ 0) (h1 : (limbs n.natAbs).length <= L) (h2 : (limbs d).length <= L) : Sz (mkRat n d) L :=
 ⟨Nat.le_trans (length_mono (mk_le n hd).1) h1, Nat.le_trans (length_mono (mk_le n hd).2) h2⟩
theorem sz_mul {x y : Rat} {p q L : Nat} (hx : Sz x p) (hy : Sz y q) (hL : p + q <= L) : Sz (x * y) L := by
 rw [Rat.mul_def']
 refine sz_le (Nat.mul_ne_zero x.den_nz y.den_nz) ?_ ?_
 ·rw [Int.natAbs_mul]; exact Nat.le_trans (len_prod hx.1 hy.1) hL
 ·exact Nat.le_trans (len_prod hx.2 hy.2) hL
theorem sz_add {x y : Rat} {p q L : Nat} (hx : Sz x p) (hy : Sz y q) (hL : p + q + 1 <= L) : Sz (x + y) L := by
 rw [Rat.add_def']
 refine sz_le (Nat.mul_ne_zero x.den_nz y.den_nz) ?_ ?_
 ·refine Nat.le_trans (length_mono (Int.natAbs_add_le _ _)) ?_
  rw [Int.natAbs_mul, Int.natAbs_mul, Int.natAbs_natCast, Int.natAbs_natCast]
  exact Nat.le_trans (len_sum (len_prod hx.1 hy.2) (len_prod hy.1 hx.2)) (by omega)
 ·exact Nat.le_trans (len_prod hx.2 hy.2) (by omega)
theorem sz_neg {x : Rat} {p : Nat} (hx : Sz x p) : Sz (-x) p := by
 unfold Sz
 rw [Rat.neg_num, Rat.neg_den, Int.natAbs_neg]
 exact hx
theorem sz_sub {x y : Rat} {p q L : Nat} (hx : Sz x p) (hy : Sz y q) (hL : p + q + 1 <= L) : Sz (x - y) L := by
 rw [Rat.sub_eq_add_neg]
 exact sz_add hx (sz_neg hy) hL
theorem sz_zero (L : Nat) (h : 1 <= L) : Sz 0 L := ⟨by show (limbs 0).length <= L; rw [limbs_zero]; simp, by show (limbs 1).length <= L; rw [limbs_one]; exact h⟩
theorem RatQ.drew1 {w : World} {v : Value} {q : Rat} (h : RatQ w v q) : RatQ w.drew v q := by
 obtain ⟨A, n, c, A', m, c', e, h1, h2⟩ := h
 exact ⟨A, n, c, A', m, c', e, h1.drew, h2.drew⟩
theorem RatQ.inr {w : World} {v : Value} {q : Rat} {L : Nat} (h : RatQ w v q) (hs : Sz q L) (hL : L <= 1000000) : Inr w v q := by
 obtain ⟨A, n, c, A', m, c', e, h1, h2⟩ := h
 refine ⟨_, A, n, c, A', m, c', _, _, e, h1, h2, ?_, ?_, ?_⟩
 ·rw [h1.len]; have := hs.1; omega
 ·rw [h2.len]; have := dl_length q.den; have := hs.2; omega
 ·exact fq_canon q
theorem r_den (neg : Bool) (A A' : Option Addr) (n c m c' d : Nat) (w : World) (hy : Num w (dl d) A' m c') (hd : d ≠ 0) :
 Calls Tryz.prog 87 #[.agg #[.bool neg, .slice A n c, .slice A' m c']] w (RetNum w d) := by
 have hbA : Below w.heap.size w (w.alloc (R1 (.bool neg) (.slice A n c) (.slice A' m c'))) := (Below.refl _ _).alloc (Nat.le_refl _) _
 by_cases h1 : d = 1
 ·have hm : m = 0 := by rw [hy.len, h1, dl_one]; rfl
  subst hm
  have H1 := Lib.hid h1; clear h1 hd
  have hbo : Below w.heap.size w ((w.alloc (R1 (.bool neg) (.slice A n c) (.slice A' 0 c'))).alloc (.cells #[.int .u32 1] 78)) := hbA.alloc hbA.size _
  have hone : Num ((w.alloc (R1 (.bool neg) (.slice A n c) (.slice A' 0 c'))).alloc (.cells #[.int .u32 1] 78)) [1] (some ⟨w.heap.size + 1, 0, none⟩) 1 1 := by
   have := (show Row _ _ [1] from heap_alloc_new (w.alloc (R1 (.bool neg) (.slice A n c) (.slice A' 0 c'))) _).num (Lim.cons (by decide) Lim.nil) (n := 1) (c := 1) rfl (Nat.le_refl _)
   rwa [World.size_alloc] at this
  go_enter Tryz.func87, Tryz.ntmps87
  go_wp2_with fail
  go_ret
  exact ⟨_, _, _, rfl, by rw [H1.out, limbs_one]; exact hone, hbo⟩
 ·have hy2 : Num w (limbs d) A' m c' := by rw [<- dl_ne h1]; exact hy
  have hm : m ≠ 0 := by
   rw [hy2.len]
   exact fun e => hd (limbs_length_zero.1 e)
  have hm0 : ((m : Int) == 0) = false := by simp; omega
  clear h1 hd hy
  go_enter Tryz.func87, Tryz.ntmps87
  go_wp2_with fail
  go_ret
  exact ⟨_, _, _, rfl, hy2.below hbA, hbA⟩
theorem Num.set1 {w : World} {l : List Nat} {A : Option Addr} {n c : Nat} (h : Num w l A n c) {g : Nat} (hA : 0 < n -> ∀ a, A = some a -> a.block ≠ g) (u0 : Value) : Num (w.setCell ⟨g, 0, none⟩ u0) l A n c :=
 ⟨h.len, h.cap, h.lim, fun hn => by
  obtain ⟨b, o, hA', hb, hc⟩ := h.cells hn
  have hne := hA hn _ hA'
  refine ⟨b, o, hA', by simpa [World.setCell] using hb, fun k x hx => ?_⟩
  rw [World.cell?_setCell_other _ _ _ _ (fun e => hne (by injection e with e1; exact e1.symm))]
  exact hc k x hx⟩
theorem ratq_neg {w : World} {A B : Option Addr} {n c m e : Nat} {q : Rat} (hN : Num w (limbs q.num.natAbs) A n c) (hD : Num w (dl q.den) B m e) {nb : Bool} (hb : nb = decide ((-q).num < 0)) : RatQ w (.agg #[.bool nb, .slice A n c, .slice B m e]) (-q) := by
 refine ⟨A, n, c, B, m, e, by rw [hb], ?_, ?_⟩
 ·rw [Rat.neg_num, Int.natAbs_neg]; exact hN
 ·rw [Rat.neg_den]; exact hD
theorem neg_bool (q : Rat) : decide ((-q).num < 0) = (decide (q.num ≠ 0) && !decide (q.num < 0)) := by
 rw [Rat.neg_num, Bool.eq_iff_iff]
 simp only [Bool.and_eq_true, decide_eq_true_iff, Bool.not_eq_true', decide_eq_false_iff_not]
 omega
theorem r_Neg (v : Value) (q : Rat) (w : World) (h : Inr w v q) : Calls Tryz.prog 73 #[v] w (RetRat w (-q)) := by
 obtain ⟨z0, Z, zn, zc, Z', zm, ze, rfl⟩ := h.agg
 obtain ⟨hbA, hrx, hrr⟩ := blocks2 w (.bool z0) (.slice Z zn zc) (.slice Z' zm ze) (.bool false) (.slice none 0 0) (.slice none 0 0)
 go_enter Tryz.func73, Tryz.ntmps73
 go_wp2_with fail
 refine (r_Take _ q _ (h.below hbA)).mono ?_
 rintro e w1 ⟨v1, rfl, h1, hb1⟩
 have hrx1 := hrx.below hb1 hrx.lt
 have hrr1 := hrr.below hb1 hrr.lt
 obtain ⟨nb, A, n, c, B, m, e, rfl⟩ := h1.agg
 obtain ⟨k0, k1, k2⟩ := hrx1.cells
 obtain ⟨f0, f1, f2⟩ := hrx1.frozen
 obtain ⟨hnb, hN, hD⟩ := h1.parts
 have HNB := Lib.hid hnb
 have hb01 := hbA.trans (hb1.mono hbA.size)
 have hrx2 := hrx1.set (.bool nb) (.slice A n c) (.slice B m e)
 have hrr2 := hrr1.far3 (g' := w.heap.size) (by omega) (.bool nb) (.slice A n c) (.slice B m e)
 have hN2 := hN.set3 (hN.ne_rc hrx1) (.bool nb) (.slice A n c) (.slice B m e)
 have hD2 := hD.set3 (hD.ne_rc hrx1) (.bool nb) (.slice A n c) (.slice B m e)
 have hb02 := below_set3 hb01 (Nat.le_refl _) (.bool nb) (.slice A n c) (.slice B m e)
 have HN : Hid (decide (q.num ≠ 0) = decide (0 < n)) := by
  show _ = _
  rw [hN.len]
  have h2 : (limbs q.num.natAbs).length = 0 ↔ q.num.natAbs = 0 := limbs_length_zero
  exact decide_eq_decide.2 (by omega)
 clear hnb h1
 go_upto_region 2 with (fail)
 generalize (((w1.setCell ⟨w.heap.size, 0, none⟩ (.bool nb)).setCell ⟨w.heap.size, 1, none⟩ (.slice A n c)).setCell ⟨w.heap.size, 2, none⟩ (.slice B m e)) = W2 at *
 clear k0 k1 k2 f0 f1 f2
 obtain ⟨k0, k1, k2⟩ := hrx2.cells
 obtain ⟨f0, f1, f2⟩ := hrx2.frozen
 obtain ⟨r0, r1, r2⟩ := hrr2.cells
 obtain ⟨g0, g1, g2⟩ := hrr2.frozen
 have hwne : ¬ w.heap.size = w.heap.size + 1 := by omega
 have hb3 : ∀ (x : Bool) (u0 u1 u2 : Value), Below w.heap.size w ((((W2.setCell ⟨w.heap.size, 0, none⟩ (.bool x)).setCell ⟨w.heap.size + 1, 0, none⟩ u0).setCell ⟨w.heap.size + 1, 1, none⟩ u1).setCell ⟨w.heap.size + 1, 2, none⟩ u2) := fun x u0 u1 u2 => below_set3 (hb02.setCell (p := ⟨w.heap.size, 0, none⟩) (Nat.le_refl _) _) (by omega) _ _ _
 have hrr3 : ∀ x : Bool, Rc (W2.setCell ⟨w.heap.size, 0, none⟩ (.bool x)) (w.heap.size + 1) (.bool false) (.slice none 0 0) (.slice none 0 0) := fun x => hrr2.far (p := ⟨w.heap.size, 0, none⟩) (show w.heap.size + 1 ≠ w.heap.size from by omega) _
 have hrx3 : ∀ x : Bool, Rc (W2.setCell ⟨w.heap.size, 0, none⟩ (.bool x)) w.heap.size (.bool x) (.slice A n c) (.slice B m e) := fun x => hrx2.set0 (.bool x)
 have hN3 : ∀ x : Bool, Num (W2.setCell ⟨w.heap.size, 0, none⟩ (.bool x)) (limbs q.num.natAbs) A n c := fun x => hN2.set1 (hN2.ne_rc hrx2) _
 have hD3 : ∀ x : Bool, Num (W2.setCell ⟨w.heap.size, 0, none⟩ (.bool x)) (dl q.den) B m e := fun x => hD2.set1 (hD2.ne_rc hrx2) _
 have HB3 := Lib.hid hb3
 have HRR := Lib.hid hrr3
 have HRX := Lib.hid hrx3
 have HN3 := Lib.hid hN3
 have HD3 := Lib.hid hD3
 clear hb3 hrr3 hrx3 hN3 hD3 hN2 hD2 hN hD hb02 hb01 hbA hb1
 have hnn : n = 0 \/ 0 < n := Nat.eq_zero_or_pos n
 have hfin : ∀ x : Bool, x = decide ((-q).num < 0) -> ∀ W', W' = ((((W2.setCell ⟨w.heap.size, 0, none⟩ (.bool x)).setCell ⟨w.heap.size + 1, 0, none⟩ (.bool x)).setCell ⟨w.heap.size + 1, 1, none⟩ (.slice A n c)).setCell ⟨w.heap.size + 1, 2, none⟩ (.slice B m e)) ->
  RetRat w (-q) (.returned (.agg #[.bool x, .slice A n c, .slice B m e])) W' /\ Rc W' (w.heap.size + 1) (.bool x) (.slice A n c) (.slice B m e) := by
  intro x hx W' hW
  subst hW
  refine ⟨⟨_, rfl, ratq_neg ((HN3.out x).set3 ((HN3.out x).ne_rc (HRR.out x)) _ _ _) ((HD3.out x).set3 ((HD3.out x).ne_rc (HRR.out x)) _ _ _) hx, HB3.out x _ _ _⟩, (HRR.out x).set _ _ _⟩
 have HF := Lib.hid hfin
 have HNE := Lib.hid (neg_bool q)
 clear hfin
 cases nb
 ·rcases hnn with hn0 | hn0
  ·subst hn0
   have hx : false = decide ((-q).num < 0) := by rw [HNE.out, HN.out]; rfl
   have HX := Lib.hid hx
   clear hx
   go_wp2_with fail
   refine ret_rc Tryz.results73 rfl (HF.out false HX.out _ rfl).2 rfl (HF.out false HX.out _ rfl).1
  ·have hx : true = decide ((-q).num < 0) := by rw [HNE.out, HN.out, <- HNB.out, decide_eq_true hn0]; rfl
   have HX := Lib.hid hx
   have hd : decide ((0 : Int) < (n : Int)) = true := decide_eq_true (by omega)
   clear hx
   go_wp2_with fail
   refine ret_rc Tryz.results73 rfl (HF.out true HX.out _ rfl).2 rfl (HF.out true HX.out _ rfl).1
 ·rcases hnn with hn0 | hn0
  ·subst hn0
   have hx : false = decide ((-q).num < 0) := by rw [HNE.out, HN.out]; rfl
   have HX := Lib.hid hx
   clear hx
   go_wp2_with fail
   refine ret_rc Tryz.results73 rfl (HF.out false HX.out _ rfl).2 rfl (HF.out false HX.out _ rfl).1
  ·have hx : false = decide ((-q).num < 0) := by rw [HNE.out, HN.out, <- HNB.out, decide_eq_true hn0]; rfl
   have HX := Lib.hid hx
   have hd : decide ((0 : Int) < (n : Int)) = true := decide_eq_true (by omega)
   clear hx
   go_wp2_with fail
   refine ret_rc Tryz.results73 rfl (HF.out false HX.out _ rfl).2 rfl (HF.out false HX.out _ rfl).1
theorem abs_num (q : Rat) : q.abs.num = (q.num.natAbs : Int) := by
 unfold Rat.abs
 split
 ·rename_i h
  have := Rat.num_nonneg.2 h
  omega
 ·rename_i h
  have h2 : ¬ 0 <= q.num := fun h2 => h (Rat.num_nonneg.1 h2)
  rw [Rat.neg_num]; omega
theorem abs_den (q : Rat) : q.abs.den = q.den := by
 unfold Rat.abs
 split
 ·rfl
 ·exact Rat.neg_den _
theorem ratq_abs {w : World} {A B : Option Addr} {n c m e : Nat} {q : Rat} (hN : Num w (limbs q.num.natAbs) A n c) (hD : Num w (dl q.den) B m e) : RatQ w (.agg #[.bool false, .slice A n c, .slice B m e]) q.abs := by
 refine ⟨A, n, c, B, m, e, ?_, ?_, ?_⟩
 ·rw [abs_num, decide_eq_false (by omega)]
 ·rw [abs_num, Int.natAbs_natCast]; exact hN
 ·rw [abs_den]; exact hD
theorem r_Abs (v : Value) (q : Rat) (w : World) (h : Inr w v q) : Calls Tryz.prog 41 #[v] w (RetRat w q.abs) := by
 obtain ⟨z0, Z, zn, zc, Z', zm, ze, rfl⟩ := h.agg
 obtain ⟨hbA, hrx, hrr⟩ := blocks2 w (.bool z0) (.slice Z zn zc) (.slice Z' zm ze) (.bool false) (.slice none 0 0) (.slice none 0 0)
 go_enter Tryz.func41, Tryz.ntmps41
 go_wp2_with fail
 refine (r_Take _ q _ (h.below hbA)).mono ?_
 rintro e w1 ⟨v1, rfl, h1, hb1⟩
 have hrx1 := hrx.below hb1 hrx.lt
 have hrr1 := hrr.below hb1 hrr.lt
 obtain ⟨nb, A, n, c, B, m, e, rfl⟩ := h1.agg
 obtain ⟨k0, k1, k2⟩ := hrx1.cells
 obtain ⟨f0, f1, f2⟩ := hrx1.frozen
 obtain ⟨hnb, hN, hD⟩ := h1.parts
 have hb01 := hbA.trans (hb1.mono hbA.size)
 have hrx2 := hrx1.set (.bool nb) (.slice A n c) (.slice B m e)
 have hrr2 := hrr1.far3 (g' := w.heap.size) (by omega) (.bool nb) (.slice A n c) (.slice B m e)
 have hN2 := hN.set3 (hN.ne_rc hrx1) (.bool nb) (.slice A n c) (.slice B m e)
 have hD2 := hD.set3 (hD.ne_rc hrx1) (.bool nb) (.slice A n c) (.slice B m e)
 have hb02 := below_set3 hb01 (Nat.le_refl _) (.bool nb) (.slice A n c) (.slice B m e)
 clear hnb h1
 go_upto_region 2 with (fail)
 generalize (((w1.setCell ⟨w.heap.size, 0, none⟩ (.bool nb)).setCell ⟨w.heap.size, 1, none⟩ (.slice A n c)).setCell ⟨w.heap.size, 2, none⟩ (.slice B m e)) = W2 at *
 clear k0 k1 k2 f0 f1 f2
 obtain ⟨k0, k1, k2⟩ := hrx2.cells
 obtain ⟨f0, f1, f2⟩ := hrx2.frozen
 obtain ⟨r0, r1, r2⟩ := hrr2.cells
 obtain ⟨g0, g1, g2⟩ := hrr2.frozen
 have hwne : ¬ w.heap.size = w.heap.size + 1 := by omega
 have hb3 : Below w.heap.size w ((((W2.setCell ⟨w.heap.size, 0, none⟩ (.bool false)).setCell ⟨w.heap.size + 1, 0, none⟩ (.bool false)).setCell ⟨w.heap.size + 1, 1, none⟩ (.slice A n c)).setCell ⟨w.heap.size + 1, 2, none⟩ (.slice B m e)) := below_set3 (hb02.setCell (p := ⟨w.heap.size, 0, none⟩) (Nat.le_refl _) _) (by omega) _ _ _
 have hrr3 : Rc (W2.setCell ⟨w.heap.size, 0, none⟩ (.bool false)) (w.heap.size + 1) (.bool false) (.slice none 0 0) (.slice none 0 0) := hrr2.far (p := ⟨w.heap.size, 0, none⟩) (show w.heap.size + 1 ≠ w.heap.size from by omega) _
 have hN3 : Num (W2.setCell ⟨w.heap.size, 0, none⟩ (.bool false)) (limbs q.num.natAbs) A n c := hN2.set1 (hN2.ne_rc hrx2) _
 have hD3 : Num (W2.setCell ⟨w.heap.size, 0, none⟩ (.bool false)) (dl q.den) B m e := hD2.set1 (hD2.ne_rc hrx2) _
 have hrr4 := hrr3.set (.bool false) (.slice A n c) (.slice B m e)
 have hfin : RetRat w q.abs (.returned (.agg #[.bool false, .slice A n c, .slice B m e])) ((((W2.setCell ⟨w.heap.size, 0, none⟩ (.bool false)).setCell ⟨w.heap.size + 1, 0, none⟩ (.bool false)).setCell ⟨w.heap.size + 1, 1, none⟩ (.slice A n c)).setCell ⟨w.heap.size + 1, 2, none⟩ (.slice B m e)) :=
  ⟨_, rfl, ratq_abs (hN3.set3 (hN3.ne_rc hrr3) _ _ _) (hD3.set3 (hD3.ne_rc hrr3) _ _ _), hb3⟩
 have HF := Lib.hid hfin
 have HRR := Lib.hid hrr4
 clear hfin hrr4 hb3 hrr3 hN3 hD3 hN2 hD2 hN hD hb02 hb01 hbA hb1
 go_wp2_with fail
 exact ret_rc Tryz.results41 rfl HRR.out rfl HF.out
theorem sgn_plus (s : Bool) (a b : Nat) : sgn s (a + b) = sgn s a + sgn s b := by unfold sgn; cases s <;> simp <;> omega
theorem sgn_minus (s : Bool) {a b : Nat} (h : b <= a) : sgn s (a - b) = sgn s a + sgn (!s) b := by unfold sgn; cases s <;> simp <;> omega
theorem sgn_minus' (s : Bool) {a b : Nat} (h : a <= b) : sgn s (b - a) = sgn (!s) a + sgn s b := by unfold sgn; cases s <;> simp <;> omega
theorem r_Add (v v' : Value) (x y : Rat) (w : World) (h : Inr w v x) (h' : Inr w v' y) (sx : Sz x 400000) (sy : Sz y 400000) : Calls Tryz.prog 43 #[v, v'] w (RetRat w (x + y)) := by
 obtain ⟨z0, Z, zn, zc, Z', zm, ze, rfl⟩ := h.agg
 obtain ⟨y0, Y, yn, yc, Y', ym, ye, rfl⟩ := h'.agg
 obtain ⟨hbA, hrx, hry, hrr⟩ := blocks3 w (.bool z0) (.slice Z zn zc) (.slice Z' zm ze) (.bool y0) (.slice Y yn yc) (.slice Y' ym ye) (.bool false) (.slice none 0 0) (.slice none 0 0)
 go_enter Tryz.func43, Tryz.ntmps43
 have hI := h.below hbA
 have hI' := h'.below hbA
 go_wp2_with fail
 generalize (((w.alloc (R1 (.bool z0) (.slice Z zn zc) (.slice Z' zm ze))).alloc (R1 (.bool y0) (.slice Y yn yc) (.slice Y' ym ye))).alloc (R1 (.bool false) (.slice none 0 0) (.slice none 0 0))) = W at *
 have hgx : w.heap.size < W.drew.heap.size := hrx.lt
 have hgy : w.heap.size + 1 < W.drew.heap.size := hry.lt
 have hgr : w.heap.size + 1 + 1 < W.drew.heap.size := hrr.lt
 replace hrx := hrx.drew
 replace hry := hry.drew
 replace hrr := hrr.drew
 replace hI : Inr W.drew _ x := hI.below (Below.refl _ _).drew
 replace hI' : Inr W.drew _ y := hI'.below (Below.refl _ _).drew
 replace hbA := hbA.drew
 obtain ⟨k0, k1, k2⟩ := hrx.cells
 obtain ⟨l0, l1, l2⟩ := hry.cells
 go_cut [] from 8 to 11 (fun wx => Clean2 w x y wx /\ Rc wx (w.heap.size + 1 + 1) (.bool false) (.slice none 0 0) (.slice none 0 0))
 case first =>
  go_region_with (first
   | (have _g := hb1; go_at_call 62; refine (r_Take _ y _ (hI'.below hb1)).mono ?_; rintro e w2 ⟨v2, rfl, h2, hb2⟩; have hb12 := hb1.trans (hb2.mono hb1.size); obtain ⟨k0, k1, k2⟩ := (hrx.below hb12 hgx).cells; obtain ⟨l0, l1, l2⟩ := (hry.below hb12 hgy).cells; obtain ⟨f0, f1, f2⟩ := (hrx.below hb12 hgx).frozen; obtain ⟨g0, g1, g2⟩ := (hry.below hb12 hgy).frozen; obtain ⟨nb2, A2, n2, c2, B2, m2, e2, rfl⟩ := h2.agg)
   | (go_at_call 62; refine (r_Take _ x _ hI).mono ?_; rintro e w1 ⟨v1, rfl, h1, hb1⟩; obtain ⟨k0, k1, k2⟩ := (hrx.below hb1 hgx).cells; obtain ⟨l0, l1, l2⟩ := (hry.below hb1 hgy).cells; obtain ⟨nb1, A1, n1, c1, B1, m1, e1, rfl⟩ := h1.agg))
  all_goals
   go_wp2_with fail
   go_meet
   exact ⟨Clean2.of (h1.below hb2) h2 (hrx.below hb12 hgx) (hry.below hb12 hgy) (hbA.trans (hb12.mono hbA.size)), ((hrr.below hb12 hgr).far3 (by omega) _ _ _).far3 (by omega) _ _ _⟩
 case rest =>
 obtain ⟨⟨nb1, A1, n1, c1, B1, m1, e1, nb2, A2, n2, c2, B2, m2, e2, h1, h2, hrx1, hry1, hb1⟩, hrr1⟩ := hcut
 clear hrx hry hrr hgx hgy hgr hI hI' hbA k0 k1 k2 l0 l1 l2
 obtain ⟨p1, p2, p3⟩ := h1.parts
 obtain ⟨q1, q2, q3⟩ := h2.parts
 have HP1 := Lib.hid p1
 have HQ1 := Lib.hid q1
 have HLX := Lib.hid sx.2
 have HLY := Lib.hid sy.2
 clear p1 q1
 have hs1 : n1 <= 1000000 := by rw [p2.len]; exact Nat.le_trans sx.1 (by decide)
 have hs2 : m1 <= 1000000 := by rw [p3.len]; exact Nat.le_trans (Nat.le_trans (dl_length _) sx.2) (by decide)
 have hs3 : n2 <= 1000000 := by rw [q2.len]; exact Nat.le_trans sy.1 (by decide)
 have hs4 : m2 <= 1000000 := by rw [q3.len]; exact Nat.le_trans (Nat.le_trans (dl_length _) sy.2) (by decide)
 go_wp2_with fail
 replace hrx1 := hrx1.drew
 replace hry1 := hry1.drew
 replace hrr1 := hrr1.drew
 replace p2 := p2.drew
 replace p3 := p3.drew
 replace q2 := q2.drew
 replace q3 := q3.drew
 replace hb1 := hb1.drew
 clear h1 h2 h h'
 have hgx := hrx1.lt
 have hgy := hry1.lt
 have hgr := hrr1.lt
 have hsx := hrx1.cells
 have hsy := hry1.cells
 go_region_held3 (fun w' => (w'.cell? ⟨w.heap.size, 0, none⟩ = some (.bool nb1) /\ w'.cell? ⟨w.heap.size, 1, none⟩ = some (.slice A1 n1 c1) /\ w'.cell? ⟨w.heap.size, 2, none⟩ = some (.slice B1 m1 e1)) /\ (w'.cell? ⟨w.heap.size + 1, 0, none⟩ = some (.bool nb2) /\ w'.cell? ⟨w.heap.size + 1, 1, none⟩ = some (.slice A2 n2 c2) /\ w'.cell? ⟨w.heap.size + 1, 2, none⟩ = some (.slice B2 m2 e2)))
  (first | exact ⟨hsx, hsy⟩ | exact ⟨⟨cell_set3 (by omega) hsx.1, cell_set3 (by omega) hsx.2.1, cell_set3 (by omega) hsx.2.2⟩, ⟨cell_set3 (by omega) hsy.1, cell_set3 (by omega) hsy.2.1, cell_set3 (by omega) hsy.2.2⟩⟩)
  (first
   | (have _g := hb7; go_at_call 86; refine (r_times _ _ _ _ _ _ x.den y.den _ (g6.below hb7) g7 ?_ ?_).mono ?_; (have := g6.len; have := HLX.out; omega); (have := g7.len; have := HLY.out; omega); rintro e w8 ⟨Q8, k8, d8, rfl, g8, hb8⟩; have hb18 := hb17.trans (hb8.mono hb17.size); have hsx := (hrx1.below hb18 hgx).cells; have hsy := (hry1.below hb18 hgy).cells)
   | (have _g := hb6; go_at_call 87; refine (r_den nb2 A2 B2 n2 c2 m2 e2 y.den _ (q3.below hb16) y.den_nz).mono ?_; rintro e w7 ⟨Q7, k7, d7, rfl, g7, hb7⟩; have hb17 := hb16.trans (hb7.mono hb16.size); have hsx := (hrx1.below hb17 hgx).cells; have hsy := (hry1.below hb17 hgy).cells)
   | (have _g := hb5; go_at_call 87; refine (r_den nb1 A1 B1 n1 c1 m1 e1 x.den _ (p3.below hb15) x.den_nz).mono ?_; rintro e w6 ⟨Q6, k6, d6, rfl, g6, hb6⟩; have hb16 := hb15.trans (hb6.mono hb15.size); have hsx := (hrx1.below hb16 hgx).cells; have hsy := (hry1.below hb16 hgy).cells)
   | (have _g := hb4; go_at_call 86; refine (r_times _ _ _ _ _ _ y.num.natAbs x.den _ (q2.below hb14) g4 ?_ ?_).mono ?_; omega; (have := g4.len; have := HLX.out; omega); rintro e w5 ⟨Q5, k5, d5, rfl, g5, hb5⟩; have hb15 := hb14.trans (hb5.mono hb14.size); have hsx := (hrx1.below hb15 hgx).cells; have hsy := (hry1.below hb15 hgy).cells)
   | (have _g := hb3; go_at_call 87; refine (r_den nb1 A1 B1 n1 c1 m1 e1 x.den _ (p3.below hb13) x.den_nz).mono ?_; rintro e w4 ⟨Q4, k4, d4, rfl, g4, hb4⟩; have hb14 := hb13.trans (hb4.mono hb13.size); have hsx := (hrx1.below hb14 hgx).cells; have hsy := (hry1.below hb14 hgy).cells)
   | (have _g := hb2; go_at_call 86; refine (r_times _ _ _ _ _ _ x.num.natAbs y.den _ (p2.below hb12) g2 ?_ ?_).mono ?_; omega; (have := g2.len; have := HLY.out; omega); rintro e w3 ⟨Q3, k3, d3, rfl, g3, hb3⟩; have hb13 := hb12.trans (hb3.mono hb12.size); have hsx := (hrx1.below hb13 hgx).cells; have hsy := (hry1.below hb13 hgy).cells)
   | (go_at_call 87; refine (r_den nb2 A2 B2 n2 c2 m2 e2 y.den _ q3 y.den_nz).mono ?_; rintro e w2 ⟨Q2, k2, d2, rfl, g2, hb2⟩; have hb12 := hb2; have hsx := (hrx1.below hb12 hgx).cells; have hsy := (hry1.below hb12 hgy).cells))
 have e1 := hb4.trans (hb5.mono hb4.size)
 have e2 := e1.trans (hb6.mono e1.size)
 have e3 := e2.trans (hb7.mono e2.size)
 have e4 := e3.trans (hb8.mono e3.size)
 have i1 := hb6.trans (hb7.mono hb6.size)
 have i2 := i1.trans (hb8.mono i1.size)
 have ga := g3.num.below e4
 have gb := g5.num.below i2
 have gd := g8.num
 have HRX := hrx1.below hb18 hgx
 have HRY := hry1.below hb18 hgy
 have HRR := hrr1.below hb18 hgr
 have hbw := hb1.trans (hb18.mono hb1.size)
 have hval : mkRat (sgn nb1 (x.num.natAbs * y.den) + sgn nb2 (y.num.natAbs * x.den)) (x.den * y.den) = x + y := by
  rw [Rat.add_def', <- sgn_cast_mul, <- sgn_cast_mul, HP1.out, HQ1.out, sgn_self, sgn_self]
 have HLA := Lib.hid (Nat.le_trans (length_mul x.num.natAbs y.den) (Nat.add_le_add sx.1 sy.2))
 have HLB := Lib.hid (Nat.le_trans (length_mul y.num.natAbs x.den) (Nat.add_le_add sy.1 sx.2))
 have HLD := Lib.hid (Nat.le_trans (length_mul x.den y.den) (Nat.add_le_add sx.2 sy.2))
 have HDN := Lib.hid (Nat.mul_ne_zero x.den_nz y.den_nz)
 clear e1 e2 e3 e4 i1 i2 g2 g3 g4 g5 g6 g7 g8 hb2 hb3 hb4 hb5 hb6 hb7 hb8 hb12 hb13 hb14 hb15 hb16 hb17 hb18 p2 p3 q2 q3 hrx1 hry1 hrr1 hgx hgy hgr hb1 HP1 HQ1 HLX HLY hs1 hs2 hs3 hs4 sx sy
 generalize x.num.natAbs * y.den = a at *
 generalize y.num.natAbs * x.den = b at *
 generalize x.den * y.den = d at *
 generalize x + y = r at *
 have HV := Lib.hid hval
 clear hval
 obtain ⟨cx0, cx1, cx2⟩ := HRX.cells
 obtain ⟨cy0, cy1, cy2⟩ := HRY.cells
 cases nb1 <;> cases nb2
 ·have hq : qv false (a + b) d = r := by rw [<- HV.out]; unfold qv; rw [sgn_plus]
  have HSZ := Lib.hid (show (limbs (a + b)).length <= 800001 by have := HLA.out; have := HLB.out; have := length_plus a b; omega)
  obtain ⟨j1, j2, j3⟩ := qv_reduce false (a := a + b) HDN.out
  rw [hq] at j1
  have HJ := Lib.hid (And.intro j1 (And.intro j2 j3))
  clear hq j1 j2 j3
  go_wp2_with fail
  replace HRX := HRX.drew
  replace HRY := HRY.drew
  replace HRR := HRR.drew
  replace ga := ga.drew
  replace gb := gb.drew
  replace gd := gd.drew
  replace hbw := hbw.drew
  have hgx := HRX.lt
  have hgy := HRY.lt
  have hgr := HRR.lt
  have hsx := HRX.cells
  have hsy := HRY.cells
  go_region_held3 (fun w' => (w'.cell? ⟨w.heap.size, 0, none⟩ = some (.bool false) /\ w'.cell? ⟨w.heap.size, 1, none⟩ = some (.slice A1 n1 c1) /\ w'.cell? ⟨w.heap.size, 2, none⟩ = some (.slice B1 m1 e1)) /\ (w'.cell? ⟨w.heap.size + 1, 0, none⟩ = some (.bool false) /\ w'.cell? ⟨w.heap.size + 1, 1, none⟩ = some (.slice A2 n2 c2) /\ w'.cell? ⟨w.heap.size + 1, 2, none⟩ = some (.slice B2 m2 e2)))
   (first | exact ⟨hsx, hsy⟩ | exact ⟨⟨cell_set3 (by omega) hsx.1, cell_set3 (by omega) hsx.2.1, cell_set3 (by omega) hsx.2.2⟩, ⟨cell_set3 (by omega) hsy.1, cell_set3 (by omega) hsy.2.1, cell_set3 (by omega) hsy.2.2⟩⟩)
   (first
    | (have _g := hb9; go_at_call 88; refine (r_over _ _ _ _ _ _ _ (a + b) d _ g9.num (gd.below hb9) ?_ ?_ HDN.out).mono ?_; (have := g9.len; have := HSZ.out; omega); (have := gd.len; have := HLD.out; omega); rintro e w10 hr; obtain ⟨v10, rfl, h10, hb10⟩ := RetFrac.rat HJ.out.2.1 HJ.out.2.2 HJ.out.1 hr; have hb19 := hb9.trans (hb10.mono hb9.size); have hsx := (HRX.below hb19 hgx).cells; have hsy := (HRY.below hb19 hgy).cells; have hrr9 := HRR.below hb19 hgr; obtain ⟨nb, A, n, c, B, m, e, rfl⟩ := h10.agg; obtain ⟨r0, r1, r2⟩ := hrr9.cells; obtain ⟨f0, f1, f2⟩ := hrr9.frozen)
    | (go_at_call 89; refine (r_plus _ _ _ _ _ _ a b _ ga gb ?_ ?_).mono ?_; (have := ga.len; have := HLA.out; omega); (have := gb.len; have := HLB.out; omega); rintro e w9 ⟨A9, n9, c9, rfl, g9, hb9⟩; have hsx := (HRX.below hb9 hgx).cells; have hsy := (HRY.below hb9 hgy).cells))
  go_wp2_with fail
  refine ret_rc Tryz.results43 rfl (hrr9.set _ _ _) rfl ?_
  exact ⟨_, rfl, h10.set3 hrr9 _ _ _, below_set3 (hbw.trans (hb19.mono hbw.size)) (by omega) _ _ _⟩
 ·go_wp2_with fail
  rcases Nat.lt_or_ge a b with hab | hab
  ·have HLE := Lib.hid (Nat.le_of_lt hab)
   obtain ⟨cv, hcv, hc0⟩ : ∃ cv : Int, cmpI a b = cv /\ decide (0 <= cv) = false := ⟨_, rfl, by unfold cmpI; rw [if_pos (by omega)]; decide⟩
   have HCV := Lib.hid hcv
   clear hcv
   have hq : qv true (b - a) d = r := by rw [<- HV.out]; unfold qv; rw [sgn_minus' _ HLE.out]; rfl
   have HSZ := Lib.hid (show (limbs (b - a)).length <= 800001 by have := HLA.out; have := HLB.out; have := length_mono (Nat.sub_le b a); omega)
   obtain ⟨j1, j2, j3⟩ := qv_reduce true (a := b - a) HDN.out
   rw [hq] at j1
   have HJ := Lib.hid (And.intro j1 (And.intro j2 j3))
   clear hq j1 j2 j3 hab
   refine (r_compare _ _ _ _ _ _ a b _ cv ga gb (by have := ga.len; have := HLA.out; omega) (by have := gb.len; have := HLB.out; omega) HCV).mono ?_
   rintro e w' ⟨rfl, q, rfl⟩
   replace HRX := HRX.drewN q
   replace HRY := HRY.drewN q
   replace HRR := HRR.drewN q
   replace ga := ga.drewN q
   replace gb := gb.drewN q
   replace gd := gd.drewN q
   replace hbw := below_drewN hbw q
   obtain ⟨cx0, cx1, cx2⟩ := HRX.cells
   obtain ⟨cy0, cy1, cy2⟩ := HRY.cells
   go_wp2_with fail
   replace HRX := HRX.drew
   replace HRY := HRY.drew
   replace HRR := HRR.drew
   replace ga := ga.drew
   replace gb := gb.drew
   replace gd := gd.drew
   replace hbw := hbw.drew
   have hgx := HRX.lt
   have hgy := HRY.lt
   have hgr := HRR.lt
   have hsx := HRX.cells
   have hsy := HRY.cells
   go_region_held3 (fun w' => (w'.cell? ⟨w.heap.size, 0, none⟩ = some (.bool false) /\ w'.cell? ⟨w.heap.size, 1, none⟩ = some (.slice A1 n1 c1) /\ w'.cell? ⟨w.heap.size, 2, none⟩ = some (.slice B1 m1 e1)) /\ (w'.cell? ⟨w.heap.size + 1, 0, none⟩ = some (.bool true) /\ w'.cell? ⟨w.heap.size + 1, 1, none⟩ = some (.slice A2 n2 c2) /\ w'.cell? ⟨w.heap.size + 1, 2, none⟩ = some (.slice B2 m2 e2)))
    (first | exact ⟨hsx, hsy⟩ | exact ⟨⟨cell_set3 (by omega) hsx.1, cell_set3 (by omega) hsx.2.1, cell_set3 (by omega) hsx.2.2⟩, ⟨cell_set3 (by omega) hsy.1, cell_set3 (by omega) hsy.2.1, cell_set3 (by omega) hsy.2.2⟩⟩)
    (first
     | (have _g := hb9; go_at_call 88; refine (r_over _ _ _ _ _ _ _ (b - a) d _ g9.num (gd.below hb9) ?_ ?_ HDN.out).mono ?_; (have := g9.len; have := HSZ.out; omega); (have := gd.len; have := HLD.out; omega); rintro e w10 hr; obtain ⟨v10, rfl, h10, hb10⟩ := RetFrac.rat HJ.out.2.1 HJ.out.2.2 HJ.out.1 hr; have hb19 := hb9.trans (hb10.mono hb9.size); have hsx := (HRX.below hb19 hgx).cells; have hsy := (HRY.below hb19 hgy).cells; have hrr9 := HRR.below hb19 hgr; obtain ⟨nb, A, n, c, B, m, e, rfl⟩ := h10.agg; obtain ⟨r0, r1, r2⟩ := hrr9.cells; obtain ⟨f0, f1, f2⟩ := hrr9.frozen)
     | (go_at_call 91; refine (r_minus _ _ _ _ _ _ b a _ gb ga ?_ HLE.out).mono ?_; (have := gb.len; have := HLB.out; omega); rintro e w9 ⟨A9, n9, c9, rfl, g9, hb9⟩; have hsx := (HRX.below hb9 hgx).cells; have hsy := (HRY.below hb9 hgy).cells))
   go_wp2_with fail
   refine ret_rc Tryz.results43 rfl (hrr9.set _ _ _) rfl ?_
   exact ⟨_, rfl, h10.set3 hrr9 _ _ _, below_set3 (hbw.trans (hb19.mono hbw.size)) (by omega) _ _ _⟩
  ·have HLE := Lib.hid (hab)
   obtain ⟨cv, hcv, hc0⟩ : ∃ cv : Int, cmpI a b = cv /\ decide (0 <= cv) = true := ⟨_, rfl, by unfold cmpI; rw [if_neg (by omega)]; split <;> decide⟩
   have HCV := Lib.hid hcv
   clear hcv
   have hq : qv false (a - b) d = r := by rw [<- HV.out]; unfold qv; rw [sgn_minus _ HLE.out]; rfl
   have HSZ := Lib.hid (show (limbs (a - b)).length <= 800001 by have := HLA.out; have := HLB.out; have := length_mono (Nat.sub_le a b); omega)
   obtain ⟨j1, j2, j3⟩ := qv_reduce false (a := a - b) HDN.out
   rw [hq] at j1
   have HJ := Lib.hid (And.intro j1 (And.intro j2 j3))
   clear hq j1 j2 j3 hab
   refine (r_compare _ _ _ _ _ _ a b _ cv ga gb (by have := ga.len; have := HLA.out; omega) (by have := gb.len; have := HLB.out; omega) HCV).mono ?_
   rintro e w' ⟨rfl, q, rfl⟩
   replace HRX := HRX.drewN q
   replace HRY := HRY.drewN q
   replace HRR := HRR.drewN q
   replace ga := ga.drewN q
   replace gb := gb.drewN q
   replace gd := gd.drewN q
   replace hbw := below_drewN hbw q
   obtain ⟨cx0, cx1, cx2⟩ := HRX.cells
   obtain ⟨cy0, cy1, cy2⟩ := HRY.cells
   go_wp2_with fail
   replace HRX := HRX.drew
   replace HRY := HRY.drew
   replace HRR := HRR.drew
   replace ga := ga.drew
   replace gb := gb.drew
   replace gd := gd.drew
   replace hbw := hbw.drew
   have hgx := HRX.lt
   have hgy := HRY.lt
   have hgr := HRR.lt
   have hsx := HRX.cells
   have hsy := HRY.cells
   go_region_held3 (fun w' => (w'.cell? ⟨w.heap.size, 0, none⟩ = some (.bool false) /\ w'.cell? ⟨w.heap.size, 1, none⟩ = some (.slice A1 n1 c1) /\ w'.cell? ⟨w.heap.size, 2, none⟩ = some (.slice B1 m1 e1)) /\ (w'.cell? ⟨w.heap.size + 1, 0, none⟩ = some (.bool true) /\ w'.cell? ⟨w.heap.size + 1, 1, none⟩ = some (.slice A2 n2 c2) /\ w'.cell? ⟨w.heap.size + 1, 2, none⟩ = some (.slice B2 m2 e2)))
    (first | exact ⟨hsx, hsy⟩ | exact ⟨⟨cell_set3 (by omega) hsx.1, cell_set3 (by omega) hsx.2.1, cell_set3 (by omega) hsx.2.2⟩, ⟨cell_set3 (by omega) hsy.1, cell_set3 (by omega) hsy.2.1, cell_set3 (by omega) hsy.2.2⟩⟩)
    (first
     | (have _g := hb9; go_at_call 88; refine (r_over _ _ _ _ _ _ _ (a - b) d _ g9.num (gd.below hb9) ?_ ?_ HDN.out).mono ?_; (have := g9.len; have := HSZ.out; omega); (have := gd.len; have := HLD.out; omega); rintro e w10 hr; obtain ⟨v10, rfl, h10, hb10⟩ := RetFrac.rat HJ.out.2.1 HJ.out.2.2 HJ.out.1 hr; have hb19 := hb9.trans (hb10.mono hb9.size); have hsx := (HRX.below hb19 hgx).cells; have hsy := (HRY.below hb19 hgy).cells; have hrr9 := HRR.below hb19 hgr; obtain ⟨nb, A, n, c, B, m, e, rfl⟩ := h10.agg; obtain ⟨r0, r1, r2⟩ := hrr9.cells; obtain ⟨f0, f1, f2⟩ := hrr9.frozen)
     | (go_at_call 91; refine (r_minus _ _ _ _ _ _ a b _ ga gb ?_ HLE.out).mono ?_; (have := ga.len; have := HLA.out; omega); rintro e w9 ⟨A9, n9, c9, rfl, g9, hb9⟩; have hsx := (HRX.below hb9 hgx).cells; have hsy := (HRY.below hb9 hgy).cells))
   go_wp2_with fail
   refine ret_rc Tryz.results43 rfl (hrr9.set _ _ _) rfl ?_
   exact ⟨_, rfl, h10.set3 hrr9 _ _ _, below_set3 (hbw.trans (hb19.mono hbw.size)) (by omega) _ _ _⟩
 ·go_wp2_with fail
  rcases Nat.lt_or_ge a b with hab | hab
  ·have HLE := Lib.hid (Nat.le_of_lt hab)
   obtain ⟨cv, hcv, hc0⟩ : ∃ cv : Int, cmpI a b = cv /\ decide (0 <= cv) = false := ⟨_, rfl, by unfold cmpI; rw [if_pos (by omega)]; decide⟩
   have HCV := Lib.hid hcv
   clear hcv
   have hq : qv false (b - a) d = r := by rw [<- HV.out]; unfold qv; rw [sgn_minus' _ HLE.out]; rfl
   have HSZ := Lib.hid (show (limbs (b - a)).length <= 800001 by have := HLA.out; have := HLB.out; have := length_mono (Nat.sub_le b a); omega)
   obtain ⟨j1, j2, j3⟩ := qv_reduce false (a := b - a) HDN.out
   rw [hq] at j1
   have HJ := Lib.hid (And.intro j1 (And.intro j2 j3))
   clear hq j1 j2 j3 hab
   refine (r_compare _ _ _ _ _ _ a b _ cv ga gb (by have := ga.len; have := HLA.out; omega) (by have := gb.len; have := HLB.out; omega) HCV).mono ?_
   rintro e w' ⟨rfl, q, rfl⟩
   replace HRX := HRX.drewN q
   replace HRY := HRY.drewN q
   replace HRR := HRR.drewN q
   replace ga := ga.drewN q
   replace gb := gb.drewN q
   replace gd := gd.drewN q
   replace hbw := below_drewN hbw q
   obtain ⟨cx0, cx1, cx2⟩ := HRX.cells
   obtain ⟨cy0, cy1, cy2⟩ := HRY.cells
   go_wp2_with fail
   replace HRX := HRX.drew
   replace HRY := HRY.drew
   replace HRR := HRR.drew
   replace ga := ga.drew
   replace gb := gb.drew
   replace gd := gd.drew
   replace hbw := hbw.drew
   have hgx := HRX.lt
   have hgy := HRY.lt
   have hgr := HRR.lt
   have hsx := HRX.cells
   have hsy := HRY.cells
   go_region_held3 (fun w' => (w'.cell? ⟨w.heap.size, 0, none⟩ = some (.bool true) /\ w'.cell? ⟨w.heap.size, 1, none⟩ = some (.slice A1 n1 c1) /\ w'.cell? ⟨w.heap.size, 2, none⟩ = some (.slice B1 m1 e1)) /\ (w'.cell? ⟨w.heap.size + 1, 0, none⟩ = some (.bool false) /\ w'.cell? ⟨w.heap.size + 1, 1, none⟩ = some (.slice A2 n2 c2) /\ w'.cell? ⟨w.heap.size + 1, 2, none⟩ = some (.slice B2 m2 e2)))
    (first | exact ⟨hsx, hsy⟩ | exact ⟨⟨cell_set3 (by omega) hsx.1, cell_set3 (by omega) hsx.2.1, cell_set3 (by omega) hsx.2.2⟩, ⟨cell_set3 (by omega) hsy.1, cell_set3 (by omega) hsy.2.1, cell_set3 (by omega) hsy.2.2⟩⟩)
    (first
     | (have _g := hb9; go_at_call 88; refine (r_over _ _ _ _ _ _ _ (b - a) d _ g9.num (gd.below hb9) ?_ ?_ HDN.out).mono ?_; (have := g9.len; have := HSZ.out; omega); (have := gd.len; have := HLD.out; omega); rintro e w10 hr; obtain ⟨v10, rfl, h10, hb10⟩ := RetFrac.rat HJ.out.2.1 HJ.out.2.2 HJ.out.1 hr; have hb19 := hb9.trans (hb10.mono hb9.size); have hsx := (HRX.below hb19 hgx).cells; have hsy := (HRY.below hb19 hgy).cells; have hrr9 := HRR.below hb19 hgr; obtain ⟨nb, A, n, c, B, m, e, rfl⟩ := h10.agg; obtain ⟨r0, r1, r2⟩ := hrr9.cells; obtain ⟨f0, f1, f2⟩ := hrr9.frozen)
     | (go_at_call 91; refine (r_minus _ _ _ _ _ _ b a _ gb ga ?_ HLE.out).mono ?_; (have := gb.len; have := HLB.out; omega); rintro e w9 ⟨A9, n9, c9, rfl, g9, hb9⟩; have hsx := (HRX.below hb9 hgx).cells; have hsy := (HRY.below hb9 hgy).cells))
   go_wp2_with fail
   refine ret_rc Tryz.results43 rfl (hrr9.set _ _ _) rfl ?_
   exact ⟨_, rfl, h10.set3 hrr9 _ _ _, below_set3 (hbw.trans (hb19.mono hbw.size)) (by omega) _ _ _⟩
  ·have HLE := Lib.hid (hab)
   obtain ⟨cv, hcv, hc0⟩ : ∃ cv : Int, cmpI a b = cv /\ decide (0 <= cv) = true := ⟨_, rfl, by unfold cmpI; rw [if_neg (by omega)]; split <;> decide⟩
   have HCV := Lib.hid hcv
   clear hcv
   have hq : qv true (a - b) d = r := by rw [<- HV.out]; unfold qv; rw [sgn_minus _ HLE.out]; rfl
   have HSZ := Lib.hid (show (limbs (a - b)).length <= 800001 by have := HLA.out; have := HLB.out; have := length_mono (Nat.sub_le a b); omega)
   obtain ⟨j1, j2, j3⟩ := qv_reduce true (a := a - b) HDN.out
   rw [hq] at j1
   have HJ := Lib.hid (And.intro j1 (And.intro j2 j3))
   clear hq j1 j2 j3 hab
   refine (r_compare _ _ _ _ _ _ a b _ cv ga gb (by have := ga.len; have := HLA.out; omega) (by have := gb.len; have := HLB.out; omega) HCV).mono ?_
   rintro e w' ⟨rfl, q, rfl⟩
   replace HRX := HRX.drewN q
   replace HRY := HRY.drewN q
   replace HRR := HRR.drewN q
   replace ga := ga.drewN q
   replace gb := gb.drewN q
   replace gd := gd.drewN q
   replace hbw := below_drewN hbw q
   obtain ⟨cx0, cx1, cx2⟩ := HRX.cells
   obtain ⟨cy0, cy1, cy2⟩ := HRY.cells
   go_wp2_with fail
   replace HRX := HRX.drew
   replace HRY := HRY.drew
   replace HRR := HRR.drew
   replace ga := ga.drew
   replace gb := gb.drew
   replace gd := gd.drew
   replace hbw := hbw.drew
   have hgx := HRX.lt
   have hgy := HRY.lt
   have hgr := HRR.lt
   have hsx := HRX.cells
   have hsy := HRY.cells
   go_region_held3 (fun w' => (w'.cell? ⟨w.heap.size, 0, none⟩ = some (.bool true) /\ w'.cell? ⟨w.heap.size, 1, none⟩ = some (.slice A1 n1 c1) /\ w'.cell? ⟨w.heap.size, 2, none⟩ = some (.slice B1 m1 e1)) /\ (w'.cell? ⟨w.heap.size + 1, 0, none⟩ = some (.bool false) /\ w'.cell? ⟨w.heap.size + 1, 1, none⟩ = some (.slice A2 n2 c2) /\ w'.cell? ⟨w.heap.size + 1, 2, none⟩ = some (.slice B2 m2 e2)))
    (first | exact ⟨hsx, hsy⟩ | exact ⟨⟨cell_set3 (by omega) hsx.1, cell_set3 (by omega) hsx.2.1, cell_set3 (by omega) hsx.2.2⟩, ⟨cell_set3 (by omega) hsy.1, cell_set3 (by omega) hsy.2.1, cell_set3 (by omega) hsy.2.2⟩⟩)
    (first
     | (have _g := hb9; go_at_call 88; refine (r_over _ _ _ _ _ _ _ (a - b) d _ g9.num (gd.below hb9) ?_ ?_ HDN.out).mono ?_; (have := g9.len; have := HSZ.out; omega); (have := gd.len; have := HLD.out; omega); rintro e w10 hr; obtain ⟨v10, rfl, h10, hb10⟩ := RetFrac.rat HJ.out.2.1 HJ.out.2.2 HJ.out.1 hr; have hb19 := hb9.trans (hb10.mono hb9.size); have hsx := (HRX.below hb19 hgx).cells; have hsy := (HRY.below hb19 hgy).cells; have hrr9 := HRR.below hb19 hgr; obtain ⟨nb, A, n, c, B, m, e, rfl⟩ := h10.agg; obtain ⟨r0, r1, r2⟩ := hrr9.cells; obtain ⟨f0, f1, f2⟩ := hrr9.frozen)
     | (go_at_call 91; refine (r_minus _ _ _ _ _ _ a b _ ga gb ?_ HLE.out).mono ?_; (have := ga.len; have := HLA.out; omega); rintro e w9 ⟨A9, n9, c9, rfl, g9, hb9⟩; have hsx := (HRX.below hb9 hgx).cells; have hsy := (HRY.below hb9 hgy).cells))
   go_wp2_with fail
   refine ret_rc Tryz.results43 rfl (hrr9.set _ _ _) rfl ?_
   exact ⟨_, rfl, h10.set3 hrr9 _ _ _, below_set3 (hbw.trans (hb19.mono hbw.size)) (by omega) _ _ _⟩
 ·have hq : qv true (a + b) d = r := by rw [<- HV.out]; unfold qv; rw [sgn_plus]
  have HSZ := Lib.hid (show (limbs (a + b)).length <= 800001 by have := HLA.out; have := HLB.out; have := length_plus a b; omega)
  obtain ⟨j1, j2, j3⟩ := qv_reduce true (a := a + b) HDN.out
  rw [hq] at j1
  have HJ := Lib.hid (And.intro j1 (And.intro j2 j3))
  clear hq j1 j2 j3
  go_wp2_with fail
  replace HRX := HRX.drew
  replace HRY := HRY.drew
  replace HRR := HRR.drew
  replace ga := ga.drew
  replace gb := gb.drew
  replace gd := gd.drew
  replace hbw := hbw.drew
  have hgx := HRX.lt
  have hgy := HRY.lt
  have hgr := HRR.lt
  have hsx := HRX.cells
  have hsy := HRY.cells
  go_region_held3 (fun w' => (w'.cell? ⟨w.heap.size, 0, none⟩ = some (.bool true) /\ w'.cell? ⟨w.heap.size, 1, none⟩ = some (.slice A1 n1 c1) /\ w'.cell? ⟨w.heap.size, 2, none⟩ = some (.slice B1 m1 e1)) /\ (w'.cell? ⟨w.heap.size + 1, 0, none⟩ = some (.bool true) /\ w'.cell? ⟨w.heap.size + 1, 1, none⟩ = some (.slice A2 n2 c2) /\ w'.cell? ⟨w.heap.size + 1, 2, none⟩ = some (.slice B2 m2 e2)))
   (first | exact ⟨hsx, hsy⟩ | exact ⟨⟨cell_set3 (by omega) hsx.1, cell_set3 (by omega) hsx.2.1, cell_set3 (by omega) hsx.2.2⟩, ⟨cell_set3 (by omega) hsy.1, cell_set3 (by omega) hsy.2.1, cell_set3 (by omega) hsy.2.2⟩⟩)
   (first
    | (have _g := hb9; go_at_call 88; refine (r_over _ _ _ _ _ _ _ (a + b) d _ g9.num (gd.below hb9) ?_ ?_ HDN.out).mono ?_; (have := g9.len; have := HSZ.out; omega); (have := gd.len; have := HLD.out; omega); rintro e w10 hr; obtain ⟨v10, rfl, h10, hb10⟩ := RetFrac.rat HJ.out.2.1 HJ.out.2.2 HJ.out.1 hr; have hb19 := hb9.trans (hb10.mono hb9.size); have hsx := (HRX.below hb19 hgx).cells; have hsy := (HRY.below hb19 hgy).cells; have hrr9 := HRR.below hb19 hgr; obtain ⟨nb, A, n, c, B, m, e, rfl⟩ := h10.agg; obtain ⟨r0, r1, r2⟩ := hrr9.cells; obtain ⟨f0, f1, f2⟩ := hrr9.frozen)
    | (go_at_call 89; refine (r_plus _ _ _ _ _ _ a b _ ga gb ?_ ?_).mono ?_; (have := ga.len; have := HLA.out; omega); (have := gb.len; have := HLB.out; omega); rintro e w9 ⟨A9, n9, c9, rfl, g9, hb9⟩; have hsx := (HRX.below hb9 hgx).cells; have hsy := (HRY.below hb9 hgy).cells))
  go_wp2_with fail
  refine ret_rc Tryz.results43 rfl (hrr9.set _ _ _) rfl ?_
  exact ⟨_, rfl, h10.set3 hrr9 _ _ _, below_set3 (hbw.trans (hb19.mono hbw.size)) (by omega) _ _ _⟩
theorem r_Sub (v v' : Value) (x y : Rat) (w : World) (h : Inr w v x) (h' : Inr w v' y) (sx : Sz x 400000) (sy : Sz y 400000) : Calls Tryz.prog 72 #[v, v'] w (RetRat w (x - y)) := by
 obtain ⟨z0, Z, zn, zc, Z', zm, ze, rfl⟩ := h.agg
 obtain ⟨y0, Y, yn, yc, Y', ym, ye, rfl⟩ := h'.agg
 obtain ⟨hbA, hrx, hry, hrr⟩ := blocks3 w (.bool z0) (.slice Z zn zc) (.slice Z' zm ze) (.bool y0) (.slice Y yn yc) (.slice Y' ym ye) (.bool false) (.slice none 0 0) (.slice none 0 0)
 have HR := Lib.hid (Rat.sub_eq_add_neg x y)
 go_enter Tryz.func72, Tryz.ntmps72
 have hI := h.below hbA
 have hI' := h'.below hbA
 go_wp2_with fail
 generalize (((w.alloc (R1 (.bool z0) (.slice Z zn zc) (.slice Z' zm ze))).alloc (R1 (.bool y0) (.slice Y yn yc) (.slice Y' ym ye))).alloc (R1 (.bool false) (.slice none 0 0) (.slice none 0 0))) = W at *
 have hgx : w.heap.size < W.drew.heap.size := hrx.lt
 have hgy : w.heap.size + 1 < W.drew.heap.size := hry.lt
 have hgr : w.heap.size + 1 + 1 < W.drew.heap.size := hrr.lt
 replace hrx := hrx.drew
 replace hry := hry.drew
 replace hrr := hrr.drew
 replace hI : Inr W.drew _ x := hI.below (Below.refl _ _).drew
 replace hI' : Inr W.drew _ y := hI'.below (Below.refl _ _).drew
 replace hbA := hbA.drew
 have hsx := hrx.cells
 have hsy := hry.cells
 go_region_held3 (fun w' => (w'.cell? ⟨w.heap.size, 0, none⟩ = some (.bool z0) /\ w'.cell? ⟨w.heap.size, 1, none⟩ = some (.slice Z zn zc) /\ w'.cell? ⟨w.heap.size, 2, none⟩ = some (.slice Z' zm ze)) /\ (w'.cell? ⟨w.heap.size + 1, 0, none⟩ = some (.bool y0) /\ w'.cell? ⟨w.heap.size + 1, 1, none⟩ = some (.slice Y yn yc) /\ w'.cell? ⟨w.heap.size + 1, 2, none⟩ = some (.slice Y' ym ye)))
  (first | exact ⟨hsx, hsy⟩ | exact ⟨⟨cell_set3 (by omega) hsx.1, cell_set3 (by omega) hsx.2.1, cell_set3 (by omega) hsx.2.2⟩, ⟨cell_set3 (by omega) hsy.1, cell_set3 (by omega) hsy.2.1, cell_set3 (by omega) hsy.2.2⟩⟩)
  (first
   | (have _g := hb4; go_at_call 43; refine (r_Add _ _ x (-y) _ (hI.below hb4) (h4.inr (sz_neg sy) (by decide)) sx (sz_neg sy)).mono ?_; rintro e' w5 ⟨v5, rfl, h5, hb5⟩; have hb45 := hb4.trans (hb5.mono hb4.size); have hsx := (hrx.below hb45 hgx).cells; have hsy := (hry.below hb45 hgy).cells; have hrr5 := hrr.below hb45 hgr; obtain ⟨nb5, A5, n5, c5, B5, m5, e5, rfl⟩ := h5.agg; obtain ⟨r0, r1, r2⟩ := hrr5.cells; obtain ⟨g0, g1, g2⟩ := hrr5.frozen)
   | (go_at_call 73; refine (r_Neg _ y _ hI').mono ?_; rintro e' w4 ⟨v4, rfl, h4, hb4⟩; have hsx := (hrx.below hb4 hgx).cells; have hsy := (hry.below hb4 hgy).cells))
 go_wp2_with fail
 refine ret_rc Tryz.results72 rfl (hrr5.set _ _ _) rfl ?_
 rw [HR.out]
 exact ⟨_, rfl, h5.set3 hrr5 _ _ _, below_set3 (hbA.trans (hb45.mono hbA.size)) (by omega) _ _ _⟩
theorem r_Compare (v v' : Value) (x y : Rat) (w : World) (h : Inr w v x) (h' : Inr w v' y) (sx : Sz x 400000) (sy : Sz y 400000) : Calls Tryz.prog 85 #[v, v'] w (RetV w (.int .i64 (x - y).num.sign)) := by
 obtain ⟨z0, Z, zn, zc, Z', zm, ze, rfl⟩ := h.agg
 obtain ⟨y0, Y, yn, yc, Y', ym, ye, rfl⟩ := h'.agg
 obtain ⟨hbA, hrx, hry⟩ := blocks2 w (.bool z0) (.slice Z zn zc) (.slice Z' zm ze) (.bool y0) (.slice Y yn yc) (.slice Y' ym ye)
 go_enter Tryz.func85, Tryz.ntmps85
 have hI := h.below hbA
 have hI' := h'.below hbA
 go_wp2_with fail
 refine (r_Sub _ _ x y _ hI hI' sx sy).mono ?_
 rintro e w1 ⟨v1, rfl, h1, hb1⟩
 go_wp2_with fail
 refine (r_Sign _ (x - y) _ (h1.inr (sz_sub sx sy (Nat.le_refl _)) (by decide))).mono ?_
 rintro e w2 ⟨rfl, hb2⟩
 go_wp2_with fail
 go_ret
 exact ⟨rfl, hbA.trans ((hb1.trans (hb2.mono hb1.size)).mono hbA.size)⟩
end Go.Proofs.YtifeekomegoijaaGreatDoor
