/- texts -/
import Derived.Test.YtifeekomegoijaaGreatDoorU35
import Derived.Deep.CutRange
set_option linter.unusedVariables false
set_option linter.unusedSimpArgs false
namespace Go.Proofs.YtifeekomegoijaaGreatDoor
open Go.RowKit

def RetStar (w0 : World) (l : List Mon) (E : Int) (e : Ending) (w' : World) : Prop := ∃ v, e = .returned (.tuple #[v, .int .i64 E]) ∧ Pol w' v l ∧ Below w0.heap.size w0 w'

theorem sz_low {p : List Mon} (hv : VP p) {L : Nat} (h : SzL p L) : Sz (lowL p) (L + 1) := by
 by_cases hm : ∃ m ∈ p, m.1 = (0, 0, 0)
 ·obtain ⟨m, hm, h0⟩ := hm
  have := co_mem hv hm
  rw [h0] at this
  show Sz (co p (0, 0, 0)) _
  rw [this]
  exact (h m hm).mono (by omega)
 ·show Sz (co p (0, 0, 0)) _
  rw [co_absent (fun m h1 h2 => hm ⟨m, h1, h2⟩)]
  exact sz_zero _ (by omega)
theorem sz_abs {q a : Rat} {L : Nat} (h : Sz q L) (ha : qv false q.num.natAbs q.den = a) : Sz a L := by
 rw [← ha]
 exact sz_qv q.den_nz q.reduced h.1 h.2

theorem heap_s3 {w : World} {g k : Nat} (h : k ≠ g) (u0 u1 u2 : Value) : (((w.setCell ⟨g, 0, none⟩ u0).setCell ⟨g, 1, none⟩ u1).setCell ⟨g, 2, none⟩ u2).heap[k]? = w.heap[k]? :=
 (Below.heap_setCell _ ⟨g, 2, none⟩ u2 k h).trans ((Below.heap_setCell _ ⟨g, 1, none⟩ u1 k h).trans (Below.heap_setCell w ⟨g, 0, none⟩ u0 k h))
theorem grown_s3 {a w : World} {row : Option Nat} {g : Nat} (h : a.grownBy w row) (hg : a.heap.size ≤ g) (u0 u1 u2 : Value) : a.grownBy (((w.setCell ⟨g, 0, none⟩ u0).setCell ⟨g, 1, none⟩ u1).setCell ⟨g, 2, none⟩ u2) row := by
 have b := below_s3 (B := g) (Below.refl g w) (Nat.le_refl _) u0 u1 u2
 exact ⟨b.os.trans h.os, b.tape.trans h.tape, b.output.trans h.output, Nat.le_trans h.size b.size, fun i hi hne => (heap_s3 (by omega) _ _ _).trans (h.block i hi hne)⟩
theorem RatQ.s3c {w : World} {v : Value} {q : Rat} (h : RatQ w v q) {g : Nat} {l : List Value} {t : TypeId} (hr : Cs w g l t) (hl : ∀ v ∈ l, ∀ x : Nat, v ≠ .int .u32 (x : Int)) (u0 u1 u2 : Value) : RatQ (((w.setCell ⟨g, 0, none⟩ u0).setCell ⟨g, 1, none⟩ u1).setCell ⟨g, 2, none⟩ u2) v q := by
 obtain ⟨A, n, c, A', m, c', e, h1, h2⟩ := h
 exact ⟨A, n, c, A', m, c', e, num_s3 h1 (h1.ne_cs hr hl) _ _ _, num_s3 h2 (h2.ne_cs hr hl) _ _ _⟩
theorem Sums.s3c {w : World} {b n : Nat} {c : Co} (h : Sums w b n c) {g : Nat} {l : List Value} {t : TypeId} (hr : Cs w g l t) (hl : ∀ v ∈ l, ∀ x : Nat, v ≠ .int .u32 (x : Int)) (u0 u1 u2 : Value) : Sums (((w.setCell ⟨g, 0, none⟩ u0).setCell ⟨g, 1, none⟩ u1).setCell ⟨g, 2, none⟩ u2) b n c := by
 obtain ⟨D, ⟨es, ck, h1, h2⟩, h3, h4⟩ := h.own
 have hne : b ≠ g := fun e => by
  subst e
  have := hr.symm.trans h1
  cases this
 refine ⟨D, ⟨es, ck, (heap_s3 hne _ _ _).trans h1, h2⟩, h3, fun e he => ?_⟩
 obtain ⟨v, hv, hq⟩ := h4 e he
 exact ⟨v, hv, hq.s3c hr hl _ _ _⟩
theorem starTo_next (rest : List Mon) (r : Rat) {i : Nat} (h : i < 56) {ex : Ex} (he : asc i = ex) : addM (setAt (starTo rest r i) ex (starTo rest r i ex * r)) rest ex (starTo rest r i ex * r) = starTo rest r (i + 1) := by
 rw [starTo_succ rest r h, he]; rfl
theorem szC_setAt {c : Co} {B : Nat} (h : SzC c B) {e : Ex} {x : Rat} (hx : Sz x B) : SzC (setAt c e x) B := fun f hf => by
 unfold setAt
 by_cases hfe : f = e
 ·rw [if_pos hfe]; exact hx
 ·rw [if_neg hfe]; exact h f hf
theorem setAt_same (c : Co) (e : Ex) (x : Rat) : setAt c e x e = x := if_pos rfl
def ascPos (e : Ex) : Nat := allE.reverse.idxOf e
theorem ascPos_all : ((List.range 56).all fun i => ascPos (asc i) == i) = true := by decide +kernel
theorem ascPos_asc {i : Nat} (h : i < 56) : ascPos (asc i) = i := eq_of_beq (List.all_eq_true.1 ascPos_all i (List.mem_range.2 h))
def starLeft (pv mv : Value) (w : World) : Nat :=
 match mv, pv with
 | .bool true, .pointer (some a) =>
  match w.cell? ⟨a.block, 0, none⟩, w.cell? ⟨a.block, 1, none⟩, w.cell? ⟨a.block, 2, none⟩ with
  | some (.int _ x), some (.int _ y), some (.int _ z) => 56 - ascPos (x.toNat, y.toNat, z.toNat)
  | _, _, _ => 0
 | _, _ => 0
theorem starLeft_at {w : World} {g i : Nat} (h : Cs w g (e3 (asc i).1 (asc i).2.1 (asc i).2.2) 73) (hi : i < 56) : starLeft (.pointer (some ⟨g, 0, none⟩)) (.bool true) w = 56 - i := by
 obtain ⟨h0, h1, h2⟩ := h.c3
 unfold starLeft
 simp only [h0, h1, h2, Int.toNat_natCast]
 rw [show ((asc i).1, (asc i).2.1, (asc i).2.2) = asc i from rfl, ascPos_asc hi]
theorem starLeft_false (pv : Value) (w : World) : starLeft pv (.bool false) w = 0 := by unfold starLeft; rfl

set_option maxRecDepth 20000 in
set_option maxHeartbeats 8000000 in
theorem Star_ok (v : Value) (p : List Mon) (L U : Nat) (a s r : Rat) (V : Int) (w : World) (hT : Tab w) (h : PI w v p L) (hL : L + 1 ≤ U) (hU : U ≤ 300) (ha : Hid (qv false (lowL p).num.natAbs (lowL p).den = a)) (hV : Hid (cmpQ a 1 = V)) (h0 : V < 0) (HS : Hid (1 - lowL p = s)) (HS0 : Hid (s ≠ 0)) (HR : Hid (1 / s = r)) (hr : Sz r U) : Calls Tryz.prog 32 #[v] w (RetStar w (listOf (starC (restL p) r)) 0) := by
 obtain ⟨_, _, _, rfl⟩ := h.slice
 have hvp := h.vp
 have hsp := h.szl
 have hSl := sz_low hvp hsp
 have hSa := (sz_abs hSl ha.out).mono (show L + 1 ≤ 1000000 by omega)
 have hSl6 := hSl.mono (show L + 1 ≤ 1000000 by omega)
 have hS1 : Sz 1 1000000 := sz_one _ (by decide)
 have hSs : Sz s 1000000 := by rw [← HS.out]; exact sz_sub (sz_one 1 (by decide)) hSl (by omega)
 have hC1 := clean_p _ p L w hT h
 have HC1 := Lib.hid hC1
 clear hC1 h
 go_enter Tryz.func32, Tryz.ntmps32
 go_wp2_with fail
 refine HC1.out.mono ?_
 rintro e1 w1 ⟨v1, rfl, hp1, hb1⟩
 have hT1 := hT.below hb1
 obtain ⟨A1, c1, rfl⟩ := hp1.slice
 have hC2 := split_p A1 p.length c1 p w1 hp1 hvp
 have HC2 := Lib.hid hC2
 clear hC2 HC1
 go_wp2_with fail
 refine HC2.out.mono ?_
 rintro e2 w2 ⟨A2, cc2, nb, A, n, c, B, m, e, rfl, hr2, hq2, hb2⟩
 have hT2 := hT1.below hb2
 obtain ⟨hb3, c3⟩ := blk1 w2 [.bool nb, .slice A n c, .slice B m e] 25
 have hB3 := (hb1.trans (hb2.mono hb1.size))
 have hw2 := hB3.size
 replace hB3 := hB3.trans (hb3.mono hB3.size)
 replace hT2 := hT2.below hb3
 replace hq2 := hq2.below hb3
 replace hr2 := hr2.below hb3
 have y3 := c3.c3
 clear HC2 hb1 hb2 hp1 hT1 hT hb3
 go_wp2_with fail
 refine (Abs_any _ _ a (L + 1) _ hT2 (hq2.inp hSl (by omega)) (hSl.mono (by omega)) ha.out).mono ?_
 rintro e4 w4 ⟨v4, rfl, h4, hb4⟩
 replace hT2 := hT2.below hb4
 replace hq2 := hq2.below hb4
 replace hr2 := hr2.below hb4
 replace c3 := c3.below hb4 c3.lt
 replace hB3 := hB3.trans (hb4.mono hB3.size)
 clear hb4 y3
 go_wp2_with fail
 refine (pone_any _).mono ?_
 rintro e5 w5 ⟨v5, rfl, h5, hb5⟩
 replace hT2 := hT2.below hb5
 replace hq2 := hq2.below hb5
 replace hr2 := hr2.below hb5
 replace c3 := c3.below hb5 c3.lt
 replace hB3 := hB3.trans (hb5.mono hB3.size)
 replace h4 := h4.below hb5
 clear hb5
 go_wp2_with fail
 refine (Compare_any _ _ a 1 1000000 V _ hT2 (h4.inp hSa (by decide)) (h5.inp hS1 (by decide)) hSa hS1 hV).mono ?_
 rintro e6 W0 ⟨rfl, hb6⟩
 replace hT2 := hT2.below hb6
 replace hq2 := hq2.below hb6
 replace hr2 := hr2.below hb6
 replace c3 := c3.below hb6 c3.lt
 replace hB3 := hB3.trans (hb6.mono hB3.size)
 clear hb6 h4 h5
 have hrl : (W0.drew.cell? ⟨w2.heap.size, 0, none⟩ = some (.bool nb) ∧ W0.drew.cell? ⟨w2.heap.size, 1, none⟩ = some (.slice A n c) ∧ W0.drew.cell? ⟨w2.heap.size, 2, none⟩ = some (.slice B m e)) := ⟨c3.cell rfl, c3.cell rfl, c3.cell rfl⟩
 go_wp2_with fail
 replace hq2 : RatQ W0.drew _ (lowL p) := hq2.below (Below.refl _ _).drew
 replace hT2 : Tab W0.drew := hT2.drew
 replace hr2 : Pol W0.drew _ _ := hr2.below (Below.refl _ _).drew
 replace c3 := c3.drew
 have hb9 := hB3.drew
 have hb0 : Below W0.drew.heap.size W0.drew W0.drew := Below.refl _ _
 have hz0 := hb9.size
 have hdz1 : W0.drew.heap.size ≤ W0.heap.size := Nat.le_refl _
 have hdz2 : W0.heap.size ≤ W0.drew.heap.size := Nat.le_refl _
 have l0 := c3.lt
 clear hB3
 have HR2 := Lib.hid hr2
 have HT2 := Lib.hid hT2
 go_cut [6, 7] from 22 to 30 (fun p u wx => QRel W0.drew r p wx)
 case first =>
  clear HR2 HT2
  go_region_held3 (fun w' => (w'.cell? ⟨w2.heap.size, 0, none⟩ = some (.bool nb) ∧ w'.cell? ⟨w2.heap.size, 1, none⟩ = some (.slice A n c) ∧ w'.cell? ⟨w2.heap.size, 2, none⟩ = some (.slice B m e)))
    (first | with_reducible exact hrl | ((with_reducible refine ⟨?_, ?_, ?_⟩) <;> (repeat' (first | (with_reducible exact hrl.1) | (with_reducible exact hrl.2.1) | (with_reducible exact hrl.2.2) | (with_reducible refine cell_alc7 _ ?_) | (with_reducible refine cell_alc_d _ ?_) | (with_reducible refine cell_st ?_ ?_) | omega))) | fail)
    (first
     | (have _g := m3; (with_reducible change Calls _ _ _ (x3) _); go_at_call 68; refine (Div_any _ _ 1 s r 1000000 0 _ hT2 (h1.inp hS1 (by decide)) (h3.inp hSs (by decide)) hS1 hSs (.inr ⟨HS0.out, HR.out, rfl⟩)).mono ?_; rintro e x4 ⟨y4, rfl, h4, hbk⟩; replace hb0 := hb0.trans (hbk.mono hb0.size); replace c3 := c3.below hbk c3.lt; replace hq2 := hq2.below hbk; replace hT2 := hT2.below hbk; replace hr2 := hr2.below hbk; replace h1 := h1.below hbk; replace h2 := h2.below hbk; replace h3 := h3.below hbk; (try replace rA := rA.below hbk rA.lt); have m4 := Lib.hid (rfl : 1 = 1); have hz4 := hb0.size; have l4c3 := c3.lt; have hrl : (x4.cell? ⟨w2.heap.size, 0, none⟩ = some (.bool nb) ∧ x4.cell? ⟨w2.heap.size, 1, none⟩ = some (.slice A n c) ∧ x4.cell? ⟨w2.heap.size, 2, none⟩ = some (.slice B m e)) := ⟨c3.cell rfl, c3.cell rfl, c3.cell rfl⟩; obtain ⟨nr, Ar, nr1, cr, Br, mr, er, rfl⟩ := h4.agg; (try (have e0 := rA.at 0 (by decide); have q0 := rA.frozen 0; have e1 := rA.at 1 (by decide); have q1 := rA.frozen 1; have e2 := rA.at 2 (by decide); have q2 := rA.frozen 2; have lA := rA.lt)))
     | (have _g := m3; (with_reducible change Calls _ _ _ ((x3.alloc (.cells #[.bool false, .slice none 0 0, .slice none 0 0] 25))) _); go_at_call 68; have hal : Below (x3).heap.size (x3) ((x3.alloc (.cells #[.bool false, .slice none 0 0, .slice none 0 0] 25))) := (Below.refl _ _).alloc (Nat.le_refl _) _; have rA : Cs ((x3.alloc (.cells #[.bool false, .slice none 0 0, .slice none 0 0] 25))) x3.heap.size [.bool false, .slice none 0 0, .slice none 0 0] 25 := Cs.new x3 _ _; replace hb0 := hb0.trans (hal.mono hb0.size); replace c3 := c3.below hal c3.lt; replace hq2 := hq2.below hal; replace hT2 := hT2.below hal; replace hr2 := hr2.below hal; replace h1 := h1.below hal; replace h2 := h2.below hal; replace h3 := h3.below hal; refine (Div_any _ _ 1 s r 1000000 0 _ hT2 (h1.inp hS1 (by decide)) (h3.inp hSs (by decide)) hS1 hSs (.inr ⟨HS0.out, HR.out, rfl⟩)).mono ?_; rintro e x4 ⟨y4, rfl, h4, hbk⟩; replace hb0 := hb0.trans (hbk.mono hb0.size); replace c3 := c3.below hbk c3.lt; replace hq2 := hq2.below hbk; replace hT2 := hT2.below hbk; replace hr2 := hr2.below hbk; replace h1 := h1.below hbk; replace h2 := h2.below hbk; replace h3 := h3.below hbk; replace rA := rA.below hbk rA.lt; have m4 := Lib.hid (rfl : 1 = 1); have hz4 := hb0.size; have l4c3 := c3.lt; have hrl : (x4.cell? ⟨w2.heap.size, 0, none⟩ = some (.bool nb) ∧ x4.cell? ⟨w2.heap.size, 1, none⟩ = some (.slice A n c) ∧ x4.cell? ⟨w2.heap.size, 2, none⟩ = some (.slice B m e)) := ⟨c3.cell rfl, c3.cell rfl, c3.cell rfl⟩; obtain ⟨nr, Ar, nr1, cr, Br, mr, er, rfl⟩ := h4.agg; (try (have e0 := rA.at 0 (by decide); have q0 := rA.frozen 0; have e1 := rA.at 1 (by decide); have q1 := rA.frozen 1; have e2 := rA.at 2 (by decide); have q2 := rA.frozen 2; have lA := rA.lt)))
     | (have _g := m2; (with_reducible change Calls _ _ _ (x2) _); go_at_call 69; refine (Sub_any _ _ 1 (lowL p) s 1000000 _ hT2 (h2.inp hS1 (by decide)) (hq2.inp hSl6 (by decide)) hS1 hSl6 HS.out).mono ?_; rintro e x3 ⟨y3, rfl, h3, hbk⟩; replace hb0 := hb0.trans (hbk.mono hb0.size); replace c3 := c3.below hbk c3.lt; replace hq2 := hq2.below hbk; replace hT2 := hT2.below hbk; replace hr2 := hr2.below hbk; replace h1 := h1.below hbk; replace h2 := h2.below hbk; (try replace rA := rA.below hbk rA.lt); have m3 := Lib.hid (rfl : 1 = 1); have hz3 := hb0.size; have l3c3 := c3.lt; have hrl : (x3.cell? ⟨w2.heap.size, 0, none⟩ = some (.bool nb) ∧ x3.cell? ⟨w2.heap.size, 1, none⟩ = some (.slice A n c) ∧ x3.cell? ⟨w2.heap.size, 2, none⟩ = some (.slice B m e)) := ⟨c3.cell rfl, c3.cell rfl, c3.cell rfl⟩)
     | (have _g := m2; (with_reducible change Calls _ _ _ ((x2.alloc (.cells #[.bool false, .slice none 0 0, .slice none 0 0] 25))) _); go_at_call 69; have hal : Below (x2).heap.size (x2) ((x2.alloc (.cells #[.bool false, .slice none 0 0, .slice none 0 0] 25))) := (Below.refl _ _).alloc (Nat.le_refl _) _; have rA : Cs ((x2.alloc (.cells #[.bool false, .slice none 0 0, .slice none 0 0] 25))) x2.heap.size [.bool false, .slice none 0 0, .slice none 0 0] 25 := Cs.new x2 _ _; replace hb0 := hb0.trans (hal.mono hb0.size); replace c3 := c3.below hal c3.lt; replace hq2 := hq2.below hal; replace hT2 := hT2.below hal; replace hr2 := hr2.below hal; replace h1 := h1.below hal; replace h2 := h2.below hal; refine (Sub_any _ _ 1 (lowL p) s 1000000 _ hT2 (h2.inp hS1 (by decide)) (hq2.inp hSl6 (by decide)) hS1 hSl6 HS.out).mono ?_; rintro e x3 ⟨y3, rfl, h3, hbk⟩; replace hb0 := hb0.trans (hbk.mono hb0.size); replace c3 := c3.below hbk c3.lt; replace hq2 := hq2.below hbk; replace hT2 := hT2.below hbk; replace hr2 := hr2.below hbk; replace h1 := h1.below hbk; replace h2 := h2.below hbk; replace rA := rA.below hbk rA.lt; have m3 := Lib.hid (rfl : 1 = 1); have hz3 := hb0.size; have l3c3 := c3.lt; have hrl : (x3.cell? ⟨w2.heap.size, 0, none⟩ = some (.bool nb) ∧ x3.cell? ⟨w2.heap.size, 1, none⟩ = some (.slice A n c) ∧ x3.cell? ⟨w2.heap.size, 2, none⟩ = some (.slice B m e)) := ⟨c3.cell rfl, c3.cell rfl, c3.cell rfl⟩)
     | (have _g := m1; (with_reducible change Calls _ _ _ (x1) _); go_at_call 63; refine (pone_any _).mono ?_; rintro e x2 ⟨y2, rfl, h2, hbk⟩; replace hb0 := hb0.trans (hbk.mono hb0.size); replace c3 := c3.below hbk c3.lt; replace hq2 := hq2.below hbk; replace hT2 := hT2.below hbk; replace hr2 := hr2.below hbk; replace h1 := h1.below hbk; (try replace rA := rA.below hbk rA.lt); have m2 := Lib.hid (rfl : 1 = 1); have hz2 := hb0.size; have l2c3 := c3.lt; have hrl : (x2.cell? ⟨w2.heap.size, 0, none⟩ = some (.bool nb) ∧ x2.cell? ⟨w2.heap.size, 1, none⟩ = some (.slice A n c) ∧ x2.cell? ⟨w2.heap.size, 2, none⟩ = some (.slice B m e)) := ⟨c3.cell rfl, c3.cell rfl, c3.cell rfl⟩)
     | (have _g := m1; (with_reducible change Calls _ _ _ ((x1.alloc (.cells #[.bool false, .slice none 0 0, .slice none 0 0] 25))) _); go_at_call 63; have hal : Below (x1).heap.size (x1) ((x1.alloc (.cells #[.bool false, .slice none 0 0, .slice none 0 0] 25))) := (Below.refl _ _).alloc (Nat.le_refl _) _; have rA : Cs ((x1.alloc (.cells #[.bool false, .slice none 0 0, .slice none 0 0] 25))) x1.heap.size [.bool false, .slice none 0 0, .slice none 0 0] 25 := Cs.new x1 _ _; replace hb0 := hb0.trans (hal.mono hb0.size); replace c3 := c3.below hal c3.lt; replace hq2 := hq2.below hal; replace hT2 := hT2.below hal; replace hr2 := hr2.below hal; replace h1 := h1.below hal; refine (pone_any _).mono ?_; rintro e x2 ⟨y2, rfl, h2, hbk⟩; replace hb0 := hb0.trans (hbk.mono hb0.size); replace c3 := c3.below hbk c3.lt; replace hq2 := hq2.below hbk; replace hT2 := hT2.below hbk; replace hr2 := hr2.below hbk; replace h1 := h1.below hbk; replace rA := rA.below hbk rA.lt; have m2 := Lib.hid (rfl : 1 = 1); have hz2 := hb0.size; have l2c3 := c3.lt; have hrl : (x2.cell? ⟨w2.heap.size, 0, none⟩ = some (.bool nb) ∧ x2.cell? ⟨w2.heap.size, 1, none⟩ = some (.slice A n c) ∧ x2.cell? ⟨w2.heap.size, 2, none⟩ = some (.slice B m e)) := ⟨c3.cell rfl, c3.cell rfl, c3.cell rfl⟩)
     | ((with_reducible change Calls _ _ _ (W0.drew) _); go_at_call 63; refine (pone_any _).mono ?_; rintro e x1 ⟨y1, rfl, h1, hbk⟩; replace hb0 := hb0.trans (hbk.mono hb0.size); replace c3 := c3.below hbk c3.lt; replace hq2 := hq2.below hbk; replace hT2 := hT2.below hbk; replace hr2 := hr2.below hbk; (try replace rA := rA.below hbk rA.lt); have m1 := Lib.hid (rfl : 1 = 1); have hz1 := hb0.size; have l1c3 := c3.lt; have hrl : (x1.cell? ⟨w2.heap.size, 0, none⟩ = some (.bool nb) ∧ x1.cell? ⟨w2.heap.size, 1, none⟩ = some (.slice A n c) ∧ x1.cell? ⟨w2.heap.size, 2, none⟩ = some (.slice B m e)) := ⟨c3.cell rfl, c3.cell rfl, c3.cell rfl⟩)
     | ((with_reducible change Calls _ _ _ ((W0.alloc (.cells #[.bool false, .slice none 0 0, .slice none 0 0] 25)).drew) _); go_at_call 63; have hal : Below (W0.drew).heap.size (W0.drew) ((W0.alloc (.cells #[.bool false, .slice none 0 0, .slice none 0 0] 25)).drew) := (Below.refl _ _).alloc (Nat.le_refl _) _; have rA : Cs ((W0.alloc (.cells #[.bool false, .slice none 0 0, .slice none 0 0] 25)).drew) W0.heap.size [.bool false, .slice none 0 0, .slice none 0 0] 25 := Cs.new W0 _ _; replace hb0 := hb0.trans (hal.mono hb0.size); replace c3 := c3.below hal c3.lt; replace hq2 := hq2.below hal; replace hT2 := hT2.below hal; replace hr2 := hr2.below hal; refine (pone_any _).mono ?_; rintro e x1 ⟨y1, rfl, h1, hbk⟩; replace hb0 := hb0.trans (hbk.mono hb0.size); replace c3 := c3.below hbk c3.lt; replace hq2 := hq2.below hbk; replace hT2 := hT2.below hbk; replace hr2 := hr2.below hbk; replace rA := rA.below hbk rA.lt; have m1 := Lib.hid (rfl : 1 = 1); have hz1 := hb0.size; have l1c3 := c3.lt; have hrl : (x1.cell? ⟨w2.heap.size, 0, none⟩ = some (.bool nb) ∧ x1.cell? ⟨w2.heap.size, 1, none⟩ = some (.slice A n c) ∧ x1.cell? ⟨w2.heap.size, 2, none⟩ = some (.slice B m e)) := ⟨c3.cell rfl, c3.cell rfl, c3.cell rfl⟩))
  all_goals
   (try clear e0 e1 e2 q0 q1 q2)
   go_wp2_with fail
   go_meet
   case rel => first | with_reducible exact qrel1 hb0 h4 | with_reducible exact qrel2 hb0 (by omega) rA h4 | fail
 case rest =>
  obtain ⟨g, nr, Ar, nr1, cr, Br, mr, er, rfl, rA, hg, hq, hbq⟩ := hcut
  have hmm := @run_makeMap Tryz.prog
  have hb11 := hb9.trans (hbq.mono hz0)
  have HT3 := Lib.hid (HT2.out.below hbq)
  have HR3 := Lib.hid (HR2.out.below hbq)
  clear HR2 HT2 c3 hrl hb0 l0 hdz1 hdz2 hq2
  go_wp2_with fail
  have hm1 : Below wc.heap.size wc (wc.alloc (.map #[] 0)) := (Below.refl _ _).alloc (Nat.le_refl _) _
  have hS1' := Sums.made wc
  refine (pone_any _).mono ?_
  rintro e7 w7 ⟨v7, rfl, h7, hb7⟩
  have hS7 := hS1'.below hb7
  replace hb7 := hm1.trans (hb7.mono hm1.size)
  obtain ⟨w8, hput, hS8, hg8⟩ := hS7.put (by decide) (e := (0, 0, 0)) (by decide) h7
  replace hput : Sem.run Tryz.prog (Instr.mapUpdate 67 (.map (some wc.heap.size)) (.agg #[.int .i64 0, .int .i64 0, .int .i64 0]) v7) w7 = .ok () w8 := hput
  replace hS8 : Sums w8 wc.heap.size 1 (starTo (restL p) r 0) := hS8.congr (fun e _ => rfl)
  go_wp2_with fail
  obtain ⟨hbE, dE⟩ := new3 w8 0 0 0
  have hS9 := hS8.below hbE
  obtain ⟨es7, ck7, hm7⟩ := hS7.map
  obtain ⟨es0, ck0, hm0⟩ := hS9.map
  have hT9 := (((HT3.out.below hb7).grm hg8 hm7).below hbE)
  have hr9 := (((HR3.out.below hb7).grm hg8 hm7).below hbE)
  have hq9 := (((hq.below hb7).grm hg8 hm7).below hbE)
  have hgne : some g ≠ some wc.heap.size := fun h => by have := rA.lt; cases h; omega
  have rA9 := (((rA.below hb7 rA.lt).grw hg8 hgne).below hbE ((rA.below hb7 rA.lt).grw hg8 hgne).lt)
  have hne9 : w8.heap.size ≠ wc.heap.size := by have := hS8.lt; omega
  have hB9 : Below w.heap.size w (w8.alloc (E3 0 0 0)) := hb11.trans ((Below.grown (hb7.mono (Nat.le_refl _)) hg8 hb7.size (fun j e => by cases e; exact Nat.le_refl _)).mono hb11.size |>.trans (hbE.mono (Nat.le_trans hb11.size (Nat.le_trans hb7.size hg8.size))))
  have hmbw : w.heap.size ≤ wc.heap.size := hb11.size
  have hgmb : g ≠ wc.heap.size := fun h => hgne (congrArg some h)
  clear hS1' hS7 hS8 hg8 hm7 hbE hm1 hput hb7 h7 HT3 HR3 hq rA hgne hbq hb11 hb9 hmm es7 ck7
  replace dE : Cs (w8.alloc (E3 0 0 0)) w8.heap.size (e3 (asc 0).1 (asc 0).2.1 (asc 0).2.2) 73 := by rw [asc_zero]; exact dE
  generalize hW9 : (w8.alloc (E3 0 0 0)) = W9 at *
  generalize w8.heap.size = g9 at *
  generalize wc.heap.size = mb at *
  clear hW9
  go_loopw [9, 10] (fun pv mv wr => ∃ i n' gk, i ≤ 56 ∧ pv = .pointer (some ⟨gk, 0, none⟩) ∧ mv = .bool (decide (i < 56)) ∧ gk ≠ mb ∧ n' ≤ 1 + i * (1 + (restL p).length) ∧ Cs wr gk (e3 (asc i).1 (asc i).2.1 (asc i).2.2) 73 ∧ Sums wr mb n' (starTo (restL p) r i) ∧ W9.grownBy wr (some mb)) (fun pv mv wr => starLeft pv mv wr)
  case atStart => exact ⟨0, 1, g9, by decide, rfl, rfl, hne9, by omega, dE, hS9, World.grownBy.refl _ _⟩
  case round =>
   obtain ⟨i, n', gk, hi, rfl, rfl, hne, hn', dk, hSk, hgk⟩ := hrel
   by_cases hlt : i < 56
   ·rw [decide_eq_true hlt]
    obtain ⟨ex, hex⟩ : ∃ ex, asc i = ex := ⟨_, rfl⟩
    have hdx : deg ex ≤ 5 := hex ▸ asc_deg hi
    have hsc := szC_starTo (vp_rest hvp) rest_ne (rest_szl hsp) hr hL hi
    have HM0 := Lib.hid (starLeft_at dk hlt)
    rw [hex] at dk
    have t1 := hT9.grm hgk hm0
    have r1 := hr9.grm hgk hm0
    have q1 := hq9.grm hgk hm0
    have k1 := rA9.grw hgk (fun h => hgmb (Option.some.inj h))
    have HEX := Lib.hid hex
    have HLT := Lib.hid hlt
    have HN := Lib.hid hn'
    have HSC := Lib.hid hsc
    have n1 : some gk ≠ some mb := fun h => hne (Option.some.inj h)
    have n2 : some g ≠ some mb := fun h => hgmb (Option.some.inj h)
    clear hex hn' hsc dE hS9 hi hlt
    go_wp2_with fail
    replace t1 : Tab wr.drew := t1.drew
    replace r1 : Pol wr.drew _ _ := r1.below (Below.refl _ _).drew
    replace q1 : RatQ wr.drew _ r := q1.below (Below.refl _ _).drew
    replace k1 := k1.drew
    replace dk := dk.drew
    replace hSk : Sums wr.drew mb n' _ := hSk.below (Below.refl _ _).drew
    replace hgk : W9.grownBy wr.drew (some mb) := grown_back hgk (Below.refl _ _).drew
    have hgx : gk < wr.drew.heap.size := dk.lt
    have hgy : g < wr.drew.heap.size := k1.lt
    obtain ⟨u, hlook, hu⟩ := hSk.look hdx
    obtain ⟨y0, Y, yn, yc, Y', ym, ye, rfl⟩ := hu.agg
    obtain ⟨hs0, hs1, hs2⟩ := dk.c3
    have hsx := k1.c3
    have sc6 : Sz (starTo (restL p) r i ex) 1000000 := (HSC.out ex hdx).mono (by omega)
    have sr6 : Sz r 1000000 := hr.mono (by omega)
    have HNn : Hid (n' ≤ 1000000) := by
     show _ ≤ _
     have h1 := HN.out
     have h2 := HLT.out
     have h3 : (restL p).length ≤ 56 := vp_length (vp_rest hvp)
     have h4 : i * (1 + (restL p).length) ≤ 56 * 57 := Nat.mul_le_mul (by omega) (by omega)
     omega
    go_region_held3 (fun w' => (w'.cell? ⟨gk, 0, none⟩ = some (.int .i64 (ex.1 : Int)) ∧ w'.cell? ⟨gk, 1, none⟩ = some (.int .i64 (ex.2.1 : Int)) ∧ w'.cell? ⟨gk, 2, none⟩ = some (.int .i64 (ex.2.2 : Int))) ∧ (w'.cell? ⟨g, 0, none⟩ = some (.bool nr) ∧ w'.cell? ⟨g, 1, none⟩ = some (.slice Ar nr1 cr) ∧ w'.cell? ⟨g, 2, none⟩ = some (.slice Br mr er)))
     (first | with_reducible exact ⟨⟨hs0, hs1, hs2⟩, hsx⟩ | with_reducible exact ⟨⟨hk0, hk1, hk2⟩, hkx⟩ | fail)
     (first
      | (go_at_call 64; refine (Mul_any _ _ (starTo (restL p) r i ex) r _ 1000000 _ t1 (hu.inp sc6 (by omega)) (q1.inp sr6 (by omega)) sc6 sr6 rfl).mono ?_; rintro e2 x2 ⟨v2, rfl, h2, hb2⟩; have hs0 := (dk.below hb2 hgx).cell (k := 0) rfl; have hs1 := (dk.below hb2 hgx).cell (k := 1) rfl; have hs2 := (dk.below hb2 hgx).cell (k := 2) rfl; have hsx := (k1.below hb2 hgy).c3; obtain ⟨x3, hput, hS3, hg3⟩ := (hSk.below hb2).put HNn.out hdx h2; have hk0 := ((dk.below hb2 hgx).grw hg3 n1).cell (k := 0) rfl; have hk1 := ((dk.below hb2 hgx).grw hg3 n1).cell (k := 1) rfl; have hk2 := ((dk.below hb2 hgx).grw hg3 n1).cell (k := 2) rfl; have hkx := ((k1.below hb2 hgy).grw hg3 n2).c3)
      | fail)
    obtain ⟨esk, ckk, hmk⟩ := (hSk.below hb2).map
    replace t1 := (t1.below hb2).grm hg3 hmk
    replace r1 := (r1.below hb2).grm hg3 hmk
    replace dk := (dk.below hb2 hgx).grw hg3 n1
    replace hgk := grown_trans (grown_back hgk hb2) hg3
    have hzx : Sz (starTo (restL p) r i ex * r) (1494 * U) := sz_mul (HSC.out ex hdx) hr (by omega)
    clear hs0 hs1 hs2 hsx hk0 hk1 hk2 hkx hmk q1 k1 hu h2 hlook hput hSk hb2 hg3 hgx hgy
    obtain ⟨x, hx⟩ : ∃ x, starTo (restL p) r i ex * r = x := ⟨_, rfl⟩
    rw [hx] at hS3 hzx
    have HX := Lib.hid hx
    have HZX := Lib.hid hzx
    clear hx hzx
    go_wp2_with fail
    replace t1 : Tab x3.drew := t1.drew
    replace r1 : Pol x3.drew _ _ := r1.below (Below.refl _ _).drew
    replace dk := dk.drew
    replace hS3 : Sums x3.drew mb (n' + 1) _ := hS3.below (Below.refl _ _).drew
    replace hgk : W9.grownBy x3.drew (some mb) := grown_back hgk (Below.refl _ _).drew
    have hgx : gk < x3.drew.heap.size := dk.lt
    obtain ⟨u, hlook, hu⟩ := hS3.look hdx
    obtain ⟨y5, Y5, yn5, yc5, Y6, ym5, ye5, rfl⟩ := hu.agg
    obtain ⟨hs0, hs1, hs2⟩ := dk.c3
    rw [setAt_same] at hu
    have HADD := Lib.hid (sums_addM mb (n' + 1) _ (restL p) ex _ x _ (1494 * U) (1494 * U) L x3.drew t1 hS3 r1 (vp_nodup (vp_rest hvp)) (fun m hm => ((vp_rest hvp).1 m hm).1) (by have := HNn.out; have h3 : (restL p).length ≤ 56 := vp_length (vp_rest hvp); have h1 := HN.out; have h2 := HLT.out; have h4 : i * (1 + (restL p).length) ≤ 56 * 57 := Nat.mul_le_mul (by omega) (by omega); omega) hdx (hu.inp HZX.out (by omega)) (szC_setAt (HSC.out.mono (by omega)) HZX.out) (rest_szl hsp) (by omega))
    go_region_held3 (fun w' => (w'.cell? ⟨gk, 0, none⟩ = some (.int .i64 (ex.1 : Int)) ∧ w'.cell? ⟨gk, 1, none⟩ = some (.int .i64 (ex.2.1 : Int)) ∧ w'.cell? ⟨gk, 2, none⟩ = some (.int .i64 (ex.2.2 : Int))))
     (first | with_reducible exact ⟨hs0, hs1, hs2⟩ | with_reducible exact ⟨hk0, hk1, hk2⟩ | fail)
     (first
      | (go_at_call 58; refine HADD.out.mono ?_; rintro e4 x4 ⟨rfl, ⟨n4, hn4, hS4⟩, hg4⟩; have hk0 := (dk.grw hg4 n1).cell (k := 0) rfl; have hk1 := (dk.grw hg4 n1).cell (k := 1) rfl; have hk2 := (dk.grw hg4 n1).cell (k := 2) rfl)
      | fail)
    replace dk := dk.grw hg4 n1
    replace hgk := grown_trans hgk hg4
    have hS5 : Sums x4 mb n4 (starTo (restL p) r (i + 1)) := by
     have e1 := starTo_next (restL p) r HLT.out HEX.out
     rw [HX.out] at e1
     rw [e1] at hS4
     exact hS4
    obtain ⟨hbn, dn⟩ := new3 x4 (ex.1 : Int) (ex.2.1 : Int) (ex.2.2 : Int)
    have hS6 := hS5.below hbn
    have hgn := grown_back hgk hbn
    have hszn : W9.heap.size ≤ x4.heap.size := hgk.size
    have hnen : x4.heap.size ≠ mb := by have := hS5.lt; omega
    have hnx := next_nat ex.1 ex.2.1 ex.2.2 (x4.alloc (E3 (ex.1 : Int) (ex.2.1 : Int) (ex.2.2 : Int))) hdx (asc (i + 1)).1 (asc (i + 1)).2.1 (asc (i + 1)).2.2 (decide (i < 55)) (by show _ = _; have := asc_next HLT.out; rw [HEX.out] at this; exact this)
    have HNX := Lib.hid hnx
    have v' := dn.c3
    clear hs0 hs1 hs2 hlook hu hS3 HADD hg4 hS4 hS5 hgk hbn dk t1 r1 hnx hk0 hk1 hk2
    go_wp2_with fail
    refine HNX.out.mono ?_
    rintro e5 x5 ⟨rfl, hb5⟩
    replace hS6 := hS6.below hb5
    replace hgn := grown_back hgn hb5
    replace dn := dn.below hb5 dn.lt
    have f0 := dn.frozen 0
    have f1 := dn.frozen 1
    have f2 := dn.frozen 2
    clear v' hb5 HNX
    have v' := dn.c3
    go_wp2_with fail
    have hS7 := hS6.s3c dn (by simp) (.int .i64 ((asc (i + 1)).1 : Int)) (.int .i64 ((asc (i + 1)).2.1 : Int)) (.int .i64 ((asc (i + 1)).2.2 : Int))
    have hg7 := grown_s3 hgn hszn (.int .i64 ((asc (i + 1)).1 : Int)) (.int .i64 ((asc (i + 1)).2.1 : Int)) (.int .i64 ((asc (i + 1)).2.2 : Int))
    have d7 := cs_own3 dn rfl (.int .i64 ((asc (i + 1)).1 : Int)) (.int .i64 ((asc (i + 1)).2.1 : Int)) (.int .i64 ((asc (i + 1)).2.2 : Int))
    go_roundw
    case rel =>
     refine ⟨i + 1, n4, x4.heap.size, HLT.out, rfl, ?_, hnen, ?_, d7, hS7, hg7⟩
     ·congr 1
      exact decide_eq_decide.2 (by omega)
     ·have h1 := HN.out
      rw [Nat.add_mul, Nat.one_mul]
      omega
    case measure =>
     rw [HM0.out]
     by_cases h55 : i < 55
     ·rw [decide_eq_true h55, starLeft_at d7 (by omega)]
      omega
     ·rw [decide_eq_false h55, starLeft_false]
      have := HLT.out
      omega
   ·obtain rfl : i = 56 := by omega
    rw [decide_eq_false (show ¬ 56 < 56 by omega)]
    rw [starTo_all] at hSk
    have hsc : SzC (starC (restL p) r) 1000000 := by
     rw [← starTo_all]
     exact (szC_starTo (vp_rest hvp) rest_ne (rest_szl hsp) hr hL (Nat.le_refl _)).mono (by omega)
    have h3 : (restL p).length ≤ 56 := vp_length (vp_rest hvp)
    have hbr : Below w.heap.size w wr := hB9.grown hgk hB9.size (fun j e => by cases e; exact hmbw)
    have HL5 := Lib.hid (sums_list mb n' _ wr (hT9.grm hgk hm0) hSk (by omega) hsc)
    clear hSk hgk hsc hT9 hr9 hq9 rA9 hB9 dE hS9 hm0 dk
    go_wp2_with fail
    refine HL5.out.mono ?_
    rintro e6 w6 ⟨v6, rfl, hp6, hb6⟩
    go_wp2_with fail
    refine bodyPost_ret (results_tmp2 rfl _ _ _) rfl ?_
    exact ⟨v6, rfl, hp6, hbr.trans (hb6.mono hbr.size)⟩
end Go.Proofs.YtifeekomegoijaaGreatDoor
