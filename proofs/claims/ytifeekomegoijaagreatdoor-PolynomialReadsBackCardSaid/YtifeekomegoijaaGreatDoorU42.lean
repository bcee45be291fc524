/- texts -/
import Derived.Test.YtifeekomegoijaaGreatDoorU41
import Derived.Test.YtifeekomegoijaaGreatDoorU10
import Derived.Test.YtifeekomegoijaaGreatDoorU14
import Derived.Deep.CutRange
import Derived.Test.YtifeekomegoijaaGreatDoorU12
import Derived.Test.YtifeekomegoijaaGreatDoorU11
set_option linter.unusedVariables false
set_option linter.unusedSimpArgs false
namespace Go.Proofs.YtifeekomegoijaaGreatDoor
open Go.RowKit

theorem Inr.ratq {w : World} {v : Value} {q : Rat} (h : Inr w v q) (h0 : q ≠ 0) : RatQ w v q := by
 obtain ⟨neg, A, n, c, A', m, c', ln, ld, rfl, h1, h2, _, _, h5⟩ := h
 subst h5
 by_cases hv : vld neg ln ld = true
 ·exact ratq_of hv h1 h2
 ·exact absurd (by unfold fq; rw [if_neg hv]) h0
theorem Inr.sz {w : World} {v : Value} {q : Rat} (h : Inr w v q) : Sz q 1000000 := by
 by_cases h0 : q = 0
 ·rw [h0]; exact sz_zero _ (by omega)
 ·obtain ⟨A, n, c, A', m, c', e, h1, h2⟩ := h.ratq h0
  obtain ⟨neg, A1, n1, c1, A2, m1, c2, ln, ld, e', g1, g2, g3, g4, g5⟩ := h
  rw [e] at e'
  simp only [Value.agg.injEq, Array.mk.injEq, List.cons.injEq, and_true, Value.bool.injEq, Value.slice.injEq] at e'
  obtain ⟨_, ⟨_, rfl, _⟩, _, rfl, _⟩ := e'
  refine ⟨by rw [← h1.len]; exact g3, ?_⟩
  have hl := h2.len
  unfold dl at hl
  split at hl
  ·next h => rw [h, limbs_one]; show 1 ≤ 1000000; omega
  ·rw [← hl]; exact g4
theorem PRe.pol {w : World} {v : Value} {l : List RawM} (h : PRe w v l) (hv : vraw l) : Pol w v (cleanL l) := by
 rw [cleanL_pos hv]
 unfold Pol
 rw [vraw_raw hv]
 obtain ⟨⟨A, n, c, xs, e, h1, h2, h3⟩, _⟩ := h
 refine ⟨A, n, c, xs, e, h1, h2, fun i e q hi => ?_⟩
 obtain ⟨z0, z1, z2, hx, hr⟩ := h3 i e q hi
 exact ⟨z0, z1, z2, hx, hr.ratq (hv i (List.getElem?_eq_some_iff.1 hi).1 _ hi).2.1⟩
theorem PRe.szl {w : World} {v : Value} {l : List RawM} (h : PRe w v l) : SzL (cleanL l) 1000000 := by
 classical
 by_cases hv : vraw l
 ·rw [cleanL_pos hv]
  intro m hm
  obtain ⟨r, hr, rfl⟩ := List.mem_map.1 hm
  obtain ⟨i, hi, rfl⟩ := List.getElem_of_mem hr
  obtain ⟨⟨A, n, c, xs, e, h1, h2, h3⟩, _⟩ := h
  obtain ⟨z0, z1, z2, hx, hr⟩ := h3 i _ _ (List.getElem?_eq_getElem hi)
  exact hr.sz
 ·rw [cleanL_neg hv]; intro m hm; cases hm
end Go.Proofs.YtifeekomegoijaaGreatDoor

namespace Go.Proofs.YtifeekomegoijaaGreatDoor
open Go.RowKit

theorem Num.set1 {w : World} {l : List Nat} {A : Option Addr} {n c : Nat} (h : Num w l A n c) {g : Nat} (hA : 0 < n → ∀ a, A = some a → a.block ≠ g) (u0 : Value) : Num (w.setCell ⟨g, 0, none⟩ u0) l A n c :=
 ⟨h.len, h.cap, h.lim, fun hn => by
  obtain ⟨b, o, hA', hb, hc⟩ := h.cells hn
  have hne := hA hn _ hA'
  refine ⟨b, o, hA', by simpa [World.setCell] using hb, fun k x hx => ?_⟩
  rw [World.cell?_setCell_other _ _ _ _ (fun e => hne (by injection e with e1; exact e1.symm))]
  exact hc k x hx⟩
end Go.Proofs.YtifeekomegoijaaGreatDoor

namespace Go.Proofs.YtifeekomegoijaaGreatDoor
open Go.RowKit

theorem abs_num (q : Rat) : q.abs.num = (q.num.natAbs : Int) := by
 unfold Rat.abs
 split
 ·rename_i h
  have := Rat.num_nonneg.2 h
  omega
 ·rename_i h
  have h2 : ¬ 0 ≤ q.num := fun h2 => h (Rat.num_nonneg.1 h2)
  rw [Rat.neg_num]; omega
theorem abs_den (q : Rat) : q.abs.den = q.den := by
 unfold Rat.abs
 split
 ·rfl
 ·exact Rat.neg_den _
end Go.Proofs.YtifeekomegoijaaGreatDoor

namespace Go.Proofs.YtifeekomegoijaaGreatDoor
open Go.RowKit

def PIr (w : World) (v : Value) (p : List Mon) (L : Nat) : Prop := ∃ raw, PRe w v raw ∧ cleanL raw = p ∧ SzL p L
theorem PIr.below {w w' : World} {v : Value} {p : List Mon} {L : Nat} (h : PIr w v p L) (hb : Below w.heap.size w w') : PIr w' v p L := by
 obtain ⟨raw, h1, h2, h3⟩ := h
 exact ⟨raw, h1.below hb, h2, h3⟩
theorem PIr.vp {w : World} {v : Value} {p : List Mon} {L : Nat} (h : PIr w v p L) : VP p := by
 obtain ⟨raw, _, rfl, _⟩ := h
 exact vp_cleanL raw
theorem PIr.szl {w : World} {v : Value} {p : List Mon} {L : Nat} (h : PIr w v p L) : SzL p L := h.choose_spec.2.2
theorem Pol.pre {w : World} {v : Value} {l : List Mon} {L : Nat} (h : Pol w v l) (hs : SzL l L) (hL : L ≤ 1000000) (hn : l.length ≤ 1000000) : PRe w v (l.map rawOf) := by
 refine ⟨?_, by rw [List.length_map]; exact hn⟩
 obtain ⟨A, n, c, xs, e, h1, h2, h3⟩ := h
 refine ⟨A, n, c, xs, e, h1, h2, fun i e q hi => ?_⟩
 obtain ⟨z0, z1, z2, hx, hr⟩ := h3 i e q hi
 refine ⟨z0, z1, z2, hx, hr.inr ?_ hL⟩
 rw [List.getElem?_map] at hi
 obtain ⟨m, hm, he⟩ := Option.map_eq_some_iff.1 hi
 have := hs m (List.mem_of_getElem? hm)
 rw [show m.2 = q from congrArg Prod.snd he] at this
 exact this
theorem Pol.pir {w : World} {v : Value} {p : List Mon} {L : Nat} (h : Pol w v p) (hv : VP p) (hs : SzL p L) (hL : L ≤ 1000000) : PIr w v p L :=
 ⟨p.map rawOf, h.pre hs hL (by have := vp_length hv; omega), cleanL_raw hv, hs⟩
theorem szL_listOf {c : Co} {L : Nat} (h : SzC c L) : SzL (listOf c) L := fun m hm => by
 obtain ⟨h1, _, h3⟩ := mem_listOf.1 hm
 rw [h3]; exact h m.1 h1
end Go.Proofs.YtifeekomegoijaaGreatDoor

namespace Go.Proofs.YtifeekomegoijaaGreatDoor
open Go.RowKit

theorem szL_const {x : Rat} {L : Nat} (h : Sz x L) (hL : 1 ≤ L) : SzL (listOf (constC x)) L := szL_listOf (szC_const h hL)
theorem co_const (x : Rat) : co (listOf (constC x)) = constC x := co_of_listOf (low_const x)

set_option maxRecDepth 20000 in
set_option maxHeartbeats 2000000 in
theorem Parameter_in (i : Nat) (w : World) (h : i < 3) : Calls Tryz.prog 28 #[.int .i64 (i : Int)] w (RetPol w [(uE i, 1)]) := by
 match i, h with
 | 0, _ =>
  go_enter Tryz.func28, Tryz.ntmps28
  go_wp2_with fail
  refine (pone_any _).mono ?_
  rintro e1 w1 ⟨v1, rfl, hq, hb⟩
  obtain ⟨nb, A, n, c, B, m, k, rfl⟩ := hq.agg
  obtain ⟨hb6, d6⟩ := new6 w1 (.int .i64 1) (.int .i64 0) (.int .i64 0) (.bool nb) (.slice A n c) (.slice B m k)
  obtain ⟨hb7, d7⟩ := new6 (w1.alloc (M6 (.int .i64 1) (.int .i64 0) (.int .i64 0) (.bool nb) (.slice A n c) (.slice B m k))) (.int .i64 1) (.int .i64 0) (.int .i64 0) (.bool nb) (.slice A n c) (.slice B m k)
  obtain ⟨_, d5⟩ := new6 w1 (.int .i64 0) (.int .i64 0) (.int .i64 0) (.bool nb) (.slice A n c) (.slice B m k)
  have f0 := d5.frozen 0
  have y := d5.c6
  have y6 := d6.c6
  have hq7 := (hq.below hb6).below hb7
  have hB := hb.trans (hb6.mono hb.size)
  go_wp2_with fail
  refine bodyPost_ret (results_tmp rfl _ _ _) rfl ?_
  rw [World.size_alloc] at d7
  exact ⟨_, rfl, pol_one (e := uE 0) d7 hq7, hB.trans (hb7.mono hB.size)⟩
 | 1, _ =>
  go_enter Tryz.func28, Tryz.ntmps28
  go_wp2_with fail
  refine (pone_any _).mono ?_
  rintro e1 w1 ⟨v1, rfl, hq, hb⟩
  obtain ⟨nb, A, n, c, B, m, k, rfl⟩ := hq.agg
  obtain ⟨hb6, d6⟩ := new6 w1 (.int .i64 0) (.int .i64 1) (.int .i64 0) (.bool nb) (.slice A n c) (.slice B m k)
  obtain ⟨hb7, d7⟩ := new6 (w1.alloc (M6 (.int .i64 0) (.int .i64 1) (.int .i64 0) (.bool nb) (.slice A n c) (.slice B m k))) (.int .i64 0) (.int .i64 1) (.int .i64 0) (.bool nb) (.slice A n c) (.slice B m k)
  obtain ⟨_, d5⟩ := new6 w1 (.int .i64 0) (.int .i64 0) (.int .i64 0) (.bool nb) (.slice A n c) (.slice B m k)
  have f0 := d5.frozen 1
  have y := d5.c6
  have y6 := d6.c6
  have hq7 := (hq.below hb6).below hb7
  have hB := hb.trans (hb6.mono hb.size)
  go_wp2_with fail
  refine bodyPost_ret (results_tmp rfl _ _ _) rfl ?_
  rw [World.size_alloc] at d7
  exact ⟨_, rfl, pol_one (e := uE 1) d7 hq7, hB.trans (hb7.mono hB.size)⟩
 | 2, _ =>
  go_enter Tryz.func28, Tryz.ntmps28
  go_wp2_with fail
  refine (pone_any _).mono ?_
  rintro e1 w1 ⟨v1, rfl, hq, hb⟩
  obtain ⟨nb, A, n, c, B, m, k, rfl⟩ := hq.agg
  obtain ⟨hb6, d6⟩ := new6 w1 (.int .i64 0) (.int .i64 0) (.int .i64 1) (.bool nb) (.slice A n c) (.slice B m k)
  obtain ⟨hb7, d7⟩ := new6 (w1.alloc (M6 (.int .i64 0) (.int .i64 0) (.int .i64 1) (.bool nb) (.slice A n c) (.slice B m k))) (.int .i64 0) (.int .i64 0) (.int .i64 1) (.bool nb) (.slice A n c) (.slice B m k)
  obtain ⟨_, d5⟩ := new6 w1 (.int .i64 0) (.int .i64 0) (.int .i64 0) (.bool nb) (.slice A n c) (.slice B m k)
  have f0 := d5.frozen 2
  have y := d5.c6
  have y6 := d6.c6
  have hq7 := (hq.below hb6).below hb7
  have hB := hb.trans (hb6.mono hb.size)
  go_wp2_with fail
  refine bodyPost_ret (results_tmp rfl _ _ _) rfl ?_
  rw [World.size_alloc] at d7
  exact ⟨_, rfl, pol_one (e := uE 2) d7 hq7, hB.trans (hb7.mono hB.size)⟩
end Go.Proofs.YtifeekomegoijaaGreatDoor

namespace Go.Proofs.YtifeekomegoijaaGreatDoor

def pA : List Mon := [((1, 0, 0), 1)]
def pB : List Mon := [((0, 1, 0), 1)]
def pAB : List Mon := [((1, 0, 0), 1), ((0, 1, 0), 1)]
def pAH : List Mon := [((1, 0, 0), 1), ((0, 0, 0), mkRat 1 2)]
def pSq : List Mon := [((2, 0, 0), 1), ((1, 1, 0), 2), ((0, 2, 0), 1)]
def pSt : List Mon := [((5, 0, 0), 64), ((4, 0, 0), 32), ((3, 0, 0), 16), ((2, 0, 0), 8), ((1, 0, 0), 4), ((0, 0, 0), 2)]
theorem vpB_of {l : List Mon} (h : (l.all (fun m => decide (deg m.1 ≤ 5 ∧ m.2 ≠ 0)) && decide (l.Pairwise (fun m n => elt n.1 m.1 = true))) = true) : VP l := by
 simp only [Bool.and_eq_true, List.all_eq_true, decide_eq_true_eq] at h
 exact h
theorem vp_pA : VP pA := vpB_of (by decide +kernel)
theorem vp_pB : VP pB := vpB_of (by decide +kernel)
theorem vp_pAB : VP pAB := vpB_of (by decide +kernel)
theorem vp_pAH : VP pAH := vpB_of (by decide +kernel)
theorem vp_pSq : VP pSq := vpB_of (by decide +kernel)
theorem vp_pSt : VP pSt := vpB_of (by decide +kernel)
theorem ex_add : listOf (addC (co pA) (co pB)) = pAB := by decide +kernel
theorem ex_half : listOf (addC (co pA) (constC (mkRat 1 2))) = pAH := by decide +kernel
theorem ex_sq : listOf (mulC (co pAB) (co pAB)) = pSq := by
 rw [show listOf (mulC (co pAB) (co pAB)) = listOf (mulL pAB pAB) from listOf_congr (fun e he => (mulL_mulC vp_pAB vp_pAB he).symm)]
 decide +kernel
theorem ex_star : listOf (starC [((1, 0, 0), 1)] 2) = pSt := by decide +kernel
end Go.Proofs.YtifeekomegoijaaGreatDoor

namespace Go.Proofs.YtifeekomegoijaaGreatDoor
open Go.RowKit

theorem Pol.setL {w : World} {v : Value} {l : List Mon} (h : Pol w v l) {g k : Nat} {ls : List Value} {t : TypeId} (hr : Cs w g ls t) (hl : ∀ v ∈ ls, (∀ x : Nat, v ≠ .int .u32 (x : Int)) ∧ ∀ x : Int, v ≠ .int .i64 x) (us : List Value) : Pol (Go.Proofs.YtifeekomegoijaaGreatDoor.setL w g k us) v l := by
 obtain ⟨A, n, c, xs, rfl, hrd, hlen, hat⟩ := h
 refine ⟨A, n, c, xs, rfl, ⟨hrd.len, hrd.cap, fun hn => ?_⟩, hlen, fun i e q hi => ?_⟩
 ·obtain ⟨b, o, rfl, hb, hc⟩ := hrd.cells hn
  refine ⟨b, o, rfl, by rw [size_setL]; exact hb, ?_⟩
  have hne : b ≠ g := by
   rintro rfl
   obtain ⟨⟨e, q⟩, h0⟩ : ∃ m, (l.map rawOf)[0]? = some m := ⟨_, List.getElem?_eq_getElem (by have := hrd.len; omega)⟩
   obtain ⟨z0, z1, z2, hx, _⟩ := hat 0 e q h0
   have hc0 := hc 0 _ hx 0 _ rfl
   rw [cell_of_row w b _ _ _ _ hr, List.getElem?_toArray] at hc0
   exact (hl _ (List.mem_of_getElem? hc0)).2 _ rfl
  intro i x hx j u hu
  have h1 := hc i x hx j u hu
  unfold World.cell? at h1 ⊢
  simp only [] at h1 ⊢
  rw [heap_setL hne us k w]
  exact h1
 ·obtain ⟨z0, z1, z2, hx, hq⟩ := hat i e q hi
  exact ⟨z0, z1, z2, hx, hq.setL hr (fun v hv => (hl v hv).1) us⟩
abbrev A9 (z : Nat → Value) : List Value := [z 0, z 1, z 2, z 3, z 4, z 5, z 6, z 7, z 8]
theorem A9.at {w : World} {g : Nat} {z : Nat → Value} {t : TypeId} (h : Cs w g (A9 z) t) {i : Nat} (hi : i < 3) : w.cell? ⟨g, i * 3, none⟩ = some (z (i * 3)) ∧ w.cell? ⟨g, i * 3 + 1, none⟩ = some (z (i * 3 + 1)) ∧ w.cell? ⟨g, i * 3 + 2, none⟩ = some (z (i * 3 + 2)) := by
 match i, hi with
 | 0, _ => exact ⟨h.cell rfl, h.cell rfl, h.cell rfl⟩
 | 1, _ => exact ⟨h.cell rfl, h.cell rfl, h.cell rfl⟩
 | 2, _ => exact ⟨h.cell rfl, h.cell rfl, h.cell rfl⟩
end Go.Proofs.YtifeekomegoijaaGreatDoor
