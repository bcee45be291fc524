/- awake. -/
import Derived.Test.YtafoplnpnoedfaaGreatDoorQ31
import Derived.Test.YtafoplnpnoedfaaGreatDoorQ33
import Derived.Test.YtafoplnpnoedfaaGreatDoorQ34
set_option linter.unusedVariables false
set_option linter.unusedSimpArgs false
namespace Go.Proofs.YtafoplnpnoedfaaGreatDoor
open Go.RowKit

theorem small_len' {n : Nat} (h : n < 4294967296) : (limbs n).length ≤ 1 := limbs_length_le (by unfold P; omega)
theorem half_abs : qv false (qv false 1 2).num.natAbs (qv false 1 2).den = qv false 1 2 := by decide +kernel
theorem half_cmp : cmpQ (qv false 1 2) 1 = -1 := by decide +kernel
theorem half_sub : 1 - qv false 1 2 = qv false 1 2 := by decide +kernel
theorem half_ne : qv false 1 2 ≠ 0 := by decide +kernel
theorem half_inv : 1 / qv false 1 2 = qv false 2 1 := by decide +kernel
theorem half_sz (L : Nat) (h : 1 ≤ L) : Sz (qv false 1 2) L := by
  have e1 : (qv false 1 2).num.natAbs = 1 := by decide +kernel
  have e2 : (qv false 1 2).den = 2 := by decide +kernel
  refine ⟨?_, ?_⟩
  · rw [e1]; exact Nat.le_trans (small_len' (by decide)) h
  · rw [e2]; exact Nat.le_trans (small_len' (by decide)) h
theorem two_sz (L : Nat) (h : 1 ≤ L) : Sz (qv false 2 1) L := by
  have e1 : (qv false 2 1).num.natAbs = 2 := by decide +kernel
  have e2 : (qv false 2 1).den = 1 := by decide +kernel
  refine ⟨?_, ?_⟩
  · rw [e1]; exact Nat.le_trans (small_len' (by decide)) h
  · rw [e2]; exact Nat.le_trans (small_len' (by decide)) h
theorem two_fmt : (⟨(fmtQ (qv false 2 1)).toArray⟩ : ByteArray) = ⟨#[50]⟩ := by
  have f4 : fmtQ (qv false 2 1) = [50] := by rw [fmt_of (by decide) (by decide), dec_dig (by decide)]; rfl
  rw [f4]
def ARel (w0 : World) (r : Rat) (p b : Value) (wx : World) : Prop :=
  ∃ g go nr Ar kr cr Br mr er, p = .pointer (some ⟨g, 0, none⟩) ∧ b = .int .i64 0 ∧ Cs wx g [.bool false, .slice none 0 0, .slice none 0 0, .int .i64 0, .bool false, .int .u64 0, .slice none 0 0, .slice (some ⟨go, 0, none⟩) 2 2] 32 ∧ w0.heap.size ≤ g ∧ Cs wx go (pairL nr Ar kr cr Br mr er 0 false) 32 ∧ RatQ wx (.agg #[.bool nr, .slice Ar kr cr, .slice Br mr er]) r ∧ Below w0.heap.size w0 wx
theorem arel1 {w0 W : World} {r : Rat} {go : Nat} {nr : Bool} {Ar Br : Option Addr} {kr cr mr er : Nat} (hb : Below w0.heap.size w0 W) (hO : Cs W go (pairL nr Ar kr cr Br mr er 0 false) 32) (h : RatQ W (.agg #[.bool nr, .slice Ar kr cr, .slice Br mr er]) r) : ARel w0 r (.pointer (some ⟨W.heap.size, 0, none⟩)) (.int .i64 0) (W.alloc (.cells #[.bool false, .slice none 0 0, .slice none 0 0, .int .i64 0, .bool false, .int .u64 0, .slice none 0 0, .slice (some ⟨go, 0, none⟩) 2 2] 32)) := by
  have hx := blk1 W [.bool false, .slice none 0 0, .slice none 0 0, .int .i64 0, .bool false, .int .u64 0, .slice none 0 0, .slice (some ⟨go, 0, none⟩) 2 2] 32
  exact ⟨_, _, _, _, _, _, _, _, _, rfl, rfl, hx.2, hb.size, hO.alloc _, h.below hx.1, hb.trans (hx.1.mono hb.size)⟩
theorem arel2 {w0 W : World} {r : Rat} {go g : Nat} {nr : Bool} {Ar Br : Option Addr} {kr cr mr er : Nat} (hb : Below w0.heap.size w0 W) (hg : w0.heap.size ≤ g) (hA : Cs W g [.bool false, .slice none 0 0, .slice none 0 0, .int .i64 0, .bool false, .int .u64 0, .slice none 0 0, .slice none 0 0] 32) (hO : Cs W go (pairL nr Ar kr cr Br mr er 0 false) 32) (h : RatQ W (.agg #[.bool nr, .slice Ar kr cr, .slice Br mr er]) r) : ARel w0 r (.pointer (some ⟨g, 0, none⟩)) (.int .i64 0) ((((((((W.setCell ⟨g, 0, none⟩ (.bool false)).setCell ⟨g, 1, none⟩ (.slice none 0 0)).setCell ⟨g, 2, none⟩ (.slice none 0 0)).setCell ⟨g, 3, none⟩ (.int .i64 0)).setCell ⟨g, 4, none⟩ (.bool false)).setCell ⟨g, 5, none⟩ (.int .u64 0)).setCell ⟨g, 6, none⟩ (.slice none 0 0)).setCell ⟨g, 7, none⟩ (.slice (some ⟨go, 0, none⟩) 2 2)) :=
  ⟨_, _, _, _, _, _, _, _, _, rfl, rfl, cs_own8 hA rfl _ _ _ _ _ _ _ _, hg, cs_far8 hO (hO.ne_len hA (by simp)) _ _ _ _ _ _ _ _, h.s8 hA (by simp) _ _ _ _ _ _ _ _, below_s8 hb hg _ _ _ _ _ _ _ _⟩
set_option maxRecDepth 20000 in
set_option maxHeartbeats 8000000 in
theorem awake3_any (w : World) (hT : Txt w) : Calls Tryz.prog 7 #[] w (RetV w (.bool true)) := by
  have HT := Lib.hid hT
  clear hT
  obtain ⟨hb0, c1, cR, c2⟩ := blk3 w [.int .i64 2, .slice none 0 0] [.int .i64 1, .int .i64 2] [.int .i64 6, .slice (some ⟨w.heap.size + 1, 0, none⟩) 2 2] 24 3 24
  go_enter Tryz.func7, Tryz.ntmps7
  go_wp2_with fail
  generalize (((w.alloc (.cells #[.int .i64 2, .slice none 0 0] 24)).alloc (.cells #[.int .i64 1, .int .i64 2] 3)).alloc (.cells #[.int .i64 6, .slice (some ⟨w.heap.size + 1, 0, none⟩) 2 2] 24)) = W0 at *
  replace c1 := c1.drew
  replace cR := cR.drew
  replace c2 := c2.drew
  have hb9 := hb0.drew
  replace hb0 : Below W0.drew.heap.size W0.drew W0.drew := Below.refl _ _
  have hz0 := hb9.size
  have hdz1 : W0.drew.heap.size ≤ W0.heap.size := Nat.le_refl _
  have hdz2 : W0.heap.size ≤ W0.drew.heap.size := Nat.le_refl _
  have l0 := c2.lt
  have hcost7 : Cost 7 false := .inr ⟨rfl, by omega, by omega⟩
  have hrl : (W0.drew.cell? ⟨w.heap.size + 1 + 1, 0, none⟩ = some (.int .i64 6) ∧ W0.drew.cell? ⟨w.heap.size + 1 + 1, 1, none⟩ = some (.slice (some ⟨w.heap.size + 1, 0, none⟩) 2 2)) := ⟨c2.cell rfl, c2.cell rfl⟩
  go_cut [3, 4] from 8 to 17 (fun p b wx => ARel W0.drew (qv false 2 1) p b wx)
  case first =>
    go_region_held3 (fun w' => (w'.cell? ⟨w.heap.size + 1 + 1, 0, none⟩ = some (.int .i64 6) ∧ w'.cell? ⟨w.heap.size + 1 + 1, 1, none⟩ = some (.slice (some ⟨w.heap.size + 1, 0, none⟩) 2 2)))
      (first | with_reducible exact hrl | ((with_reducible refine ⟨?_, ?_⟩) <;> (repeat' (first | (with_reducible exact hrl.1) | (with_reducible exact hrl.2) | (with_reducible refine cell_alc _ ?_) | (with_reducible refine cell_alc_d _ ?_) | (with_reducible refine cell_st ?_ ?_) | omega))) | fail)
      (first
        | (have _g := m1; (with_reducible change Calls _ _ _ (x1.alloc (.cells #[.bool nb, .slice A n c, .slice B m e, .int .i64 0, .bool false, .int .u64 0, .slice none 0 0, .slice none 0 0, .bool false, .slice none 0 0, .slice none 0 0, .int .i64 7, .bool false, .int .u64 0, .slice none 0 0, .slice none 0 0] 32)) _); go_at_call 19; have hbl := blk1 x1 [.bool nb, .slice A n c, .slice B m e, .int .i64 0, .bool false, .int .u64 0, .slice none 0 0, .slice none 0 0, .bool false, .slice none 0 0, .slice none 0 0, .int .i64 7, .bool false, .int .u64 0, .slice none 0 0, .slice none 0 0] 32; have hal : Below x1.heap.size x1 (x1.alloc (.cells #[.bool nb, .slice A n c, .slice B m e, .int .i64 0, .bool false, .int .u64 0, .slice none 0 0, .slice none 0 0, .bool false, .slice none 0 0, .slice none 0 0, .int .i64 7, .bool false, .int .u64 0, .slice none 0 0, .slice none 0 0] 32)) := hbl.1; have hE : Cs (x1.alloc (.cells #[.bool nb, .slice A n c, .slice B m e, .int .i64 0, .bool false, .int .u64 0, .slice none 0 0, .slice none 0 0, .bool false, .slice none 0 0, .slice none 0 0, .int .i64 7, .bool false, .int .u64 0, .slice none 0 0, .slice none 0 0] 32)) (x1.heap.size) (pairL nb A n c B m e 7 false) 32 := hbl.2; replace hb0 := hb0.trans (hal.mono hb0.size); replace c1 := c1.below hal c1.lt; replace cR := cR.below hal cR.lt; replace c2 := c2.below hal c2.lt; replace h1 := h1.below hal; (try replace rA := rA.below hal rA.lt); refine (Star_prod (w.heap.size + 1) 2 (x1.heap.size) nb A B n c m e 7 false _ _ cR hE h1 (HT.out.keep (hb9.trans (hb0.mono hz0)).block).tab hcost7 (qv false 1 2) (qv false 1 2) (qv false 2 1) (half_sz _ (by decide)) (Lib.hid half_abs) (half_sz _ (by decide)) (Lib.hid half_cmp) (Lib.hid half_sub) (half_sz _ (by decide)) (Lib.hid half_ne) (Lib.hid half_inv)).mono ?_; rintro e0 x2 ⟨go, nr, Ar, kr, cr1, Br, mr, er, rfl, cO, hr, hbk⟩; replace hb0 := hb0.trans (hbk.mono hb0.size); replace c1 := c1.below hbk c1.lt; replace cR := cR.below hbk cR.lt; replace c2 := c2.below hbk c2.lt; (try replace rA := rA.below hbk rA.lt); have hz2 := hb0.size; have l2 := c2.lt; have hrl : (x2.cell? ⟨w.heap.size + 1 + 1, 0, none⟩ = some (.int .i64 6) ∧ x2.cell? ⟨w.heap.size + 1 + 1, 1, none⟩ = some (.slice (some ⟨w.heap.size + 1, 0, none⟩) 2 2)) := ⟨c2.cell rfl, c2.cell rfl⟩; (try (have e0 := rA.at 0 (by decide); have q0 := rA.frozen 0; have e1 := rA.at 1 (by decide); have q1 := rA.frozen 1; have e2 := rA.at 2 (by decide); have q2 := rA.frozen 2; have e3 := rA.at 3 (by decide); have q3 := rA.frozen 3; have e4 := rA.at 4 (by decide); have q4 := rA.frozen 4; have e5 := rA.at 5 (by decide); have q5 := rA.frozen 5; have e6 := rA.at 6 (by decide); have q6 := rA.frozen 6; have e7 := rA.at 7 (by decide); have q7 := rA.frozen 7; have lA := rA.lt)))
        | (have _g := m1; (with_reducible change Calls _ _ _ ((x1.alloc (.cells #[.bool false, .slice none 0 0, .slice none 0 0, .int .i64 0, .bool false, .int .u64 0, .slice none 0 0, .slice none 0 0] 32)).alloc (.cells #[.bool nb, .slice A n c, .slice B m e, .int .i64 0, .bool false, .int .u64 0, .slice none 0 0, .slice none 0 0, .bool false, .slice none 0 0, .slice none 0 0, .int .i64 7, .bool false, .int .u64 0, .slice none 0 0, .slice none 0 0] 32)) _); go_at_call 19; have hbl := blk2 x1 [.bool false, .slice none 0 0, .slice none 0 0, .int .i64 0, .bool false, .int .u64 0, .slice none 0 0, .slice none 0 0] [.bool nb, .slice A n c, .slice B m e, .int .i64 0, .bool false, .int .u64 0, .slice none 0 0, .slice none 0 0, .bool false, .slice none 0 0, .slice none 0 0, .int .i64 7, .bool false, .int .u64 0, .slice none 0 0, .slice none 0 0] 32 32; have hal : Below x1.heap.size x1 ((x1.alloc (.cells #[.bool false, .slice none 0 0, .slice none 0 0, .int .i64 0, .bool false, .int .u64 0, .slice none 0 0, .slice none 0 0] 32)).alloc (.cells #[.bool nb, .slice A n c, .slice B m e, .int .i64 0, .bool false, .int .u64 0, .slice none 0 0, .slice none 0 0, .bool false, .slice none 0 0, .slice none 0 0, .int .i64 7, .bool false, .int .u64 0, .slice none 0 0, .slice none 0 0] 32)) := hbl.1; have hE : Cs ((x1.alloc (.cells #[.bool false, .slice none 0 0, .slice none 0 0, .int .i64 0, .bool false, .int .u64 0, .slice none 0 0, .slice none 0 0] 32)).alloc (.cells #[.bool nb, .slice A n c, .slice B m e, .int .i64 0, .bool false, .int .u64 0, .slice none 0 0, .slice none 0 0, .bool false, .slice none 0 0, .slice none 0 0, .int .i64 7, .bool false, .int .u64 0, .slice none 0 0, .slice none 0 0] 32)) (x1.heap.size + 1) (pairL nb A n c B m e 7 false) 32 := hbl.2.2; have rA : Cs ((x1.alloc (.cells #[.bool false, .slice none 0 0, .slice none 0 0, .int .i64 0, .bool false, .int .u64 0, .slice none 0 0, .slice none 0 0] 32)).alloc (.cells #[.bool nb, .slice A n c, .slice B m e, .int .i64 0, .bool false, .int .u64 0, .slice none 0 0, .slice none 0 0, .bool false, .slice none 0 0, .slice none 0 0, .int .i64 7, .bool false, .int .u64 0, .slice none 0 0, .slice none 0 0] 32)) (x1.heap.size) [.bool false, .slice none 0 0, .slice none 0 0, .int .i64 0, .bool false, .int .u64 0, .slice none 0 0, .slice none 0 0] 32 := hbl.2.1; replace hb0 := hb0.trans (hal.mono hb0.size); replace c1 := c1.below hal c1.lt; replace cR := cR.below hal cR.lt; replace c2 := c2.below hal c2.lt; replace h1 := h1.below hal; refine (Star_prod (w.heap.size + 1) 2 (x1.heap.size + 1) nb A B n c m e 7 false _ _ cR hE h1 (HT.out.keep (hb9.trans (hb0.mono hz0)).block).tab hcost7 (qv false 1 2) (qv false 1 2) (qv false 2 1) (half_sz _ (by decide)) (Lib.hid half_abs) (half_sz _ (by decide)) (Lib.hid half_cmp) (Lib.hid half_sub) (half_sz _ (by decide)) (Lib.hid half_ne) (Lib.hid half_inv)).mono ?_; rintro e0 x2 ⟨go, nr, Ar, kr, cr1, Br, mr, er, rfl, cO, hr, hbk⟩; replace hb0 := hb0.trans (hbk.mono hb0.size); replace c1 := c1.below hbk c1.lt; replace cR := cR.below hbk cR.lt; replace c2 := c2.below hbk c2.lt; (try replace rA := rA.below hbk rA.lt); have hz2 := hb0.size; have l2 := c2.lt; have hrl : (x2.cell? ⟨w.heap.size + 1 + 1, 0, none⟩ = some (.int .i64 6) ∧ x2.cell? ⟨w.heap.size + 1 + 1, 1, none⟩ = some (.slice (some ⟨w.heap.size + 1, 0, none⟩) 2 2)) := ⟨c2.cell rfl, c2.cell rfl⟩; (try (have e0 := rA.at 0 (by decide); have q0 := rA.frozen 0; have e1 := rA.at 1 (by decide); have q1 := rA.frozen 1; have e2 := rA.at 2 (by decide); have q2 := rA.frozen 2; have e3 := rA.at 3 (by decide); have q3 := rA.frozen 3; have e4 := rA.at 4 (by decide); have q4 := rA.frozen 4; have e5 := rA.at 5 (by decide); have q5 := rA.frozen 5; have e6 := rA.at 6 (by decide); have q6 := rA.frozen 6; have e7 := rA.at 7 (by decide); have q7 := rA.frozen 7; have lA := rA.lt)))
        | (have _g := m1; (with_reducible change Calls _ _ _ ((x1.alloc (.cells #[.bool nb, .slice A n c, .slice B m e, .int .i64 0, .bool false, .int .u64 0, .slice none 0 0, .slice none 0 0, .bool false, .slice none 0 0, .slice none 0 0, .int .i64 7, .bool false, .int .u64 0, .slice none 0 0, .slice none 0 0] 32)).alloc (.cells #[.bool false, .slice none 0 0, .slice none 0 0, .int .i64 0, .bool false, .int .u64 0, .slice none 0 0, .slice none 0 0] 32)) _); go_at_call 19; have hbl := blk2 x1 [.bool nb, .slice A n c, .slice B m e, .int .i64 0, .bool false, .int .u64 0, .slice none 0 0, .slice none 0 0, .bool false, .slice none 0 0, .slice none 0 0, .int .i64 7, .bool false, .int .u64 0, .slice none 0 0, .slice none 0 0] [.bool false, .slice none 0 0, .slice none 0 0, .int .i64 0, .bool false, .int .u64 0, .slice none 0 0, .slice none 0 0] 32 32; have hal : Below x1.heap.size x1 ((x1.alloc (.cells #[.bool nb, .slice A n c, .slice B m e, .int .i64 0, .bool false, .int .u64 0, .slice none 0 0, .slice none 0 0, .bool false, .slice none 0 0, .slice none 0 0, .int .i64 7, .bool false, .int .u64 0, .slice none 0 0, .slice none 0 0] 32)).alloc (.cells #[.bool false, .slice none 0 0, .slice none 0 0, .int .i64 0, .bool false, .int .u64 0, .slice none 0 0, .slice none 0 0] 32)) := hbl.1; have hE : Cs ((x1.alloc (.cells #[.bool nb, .slice A n c, .slice B m e, .int .i64 0, .bool false, .int .u64 0, .slice none 0 0, .slice none 0 0, .bool false, .slice none 0 0, .slice none 0 0, .int .i64 7, .bool false, .int .u64 0, .slice none 0 0, .slice none 0 0] 32)).alloc (.cells #[.bool false, .slice none 0 0, .slice none 0 0, .int .i64 0, .bool false, .int .u64 0, .slice none 0 0, .slice none 0 0] 32)) (x1.heap.size) (pairL nb A n c B m e 7 false) 32 := hbl.2.1; have rA : Cs ((x1.alloc (.cells #[.bool nb, .slice A n c, .slice B m e, .int .i64 0, .bool false, .int .u64 0, .slice none 0 0, .slice none 0 0, .bool false, .slice none 0 0, .slice none 0 0, .int .i64 7, .bool false, .int .u64 0, .slice none 0 0, .slice none 0 0] 32)).alloc (.cells #[.bool false, .slice none 0 0, .slice none 0 0, .int .i64 0, .bool false, .int .u64 0, .slice none 0 0, .slice none 0 0] 32)) (x1.heap.size + 1) [.bool false, .slice none 0 0, .slice none 0 0, .int .i64 0, .bool false, .int .u64 0, .slice none 0 0, .slice none 0 0] 32 := hbl.2.2; replace hb0 := hb0.trans (hal.mono hb0.size); replace c1 := c1.below hal c1.lt; replace cR := cR.below hal cR.lt; replace c2 := c2.below hal c2.lt; replace h1 := h1.below hal; refine (Star_prod (w.heap.size + 1) 2 (x1.heap.size) nb A B n c m e 7 false _ _ cR hE h1 (HT.out.keep (hb9.trans (hb0.mono hz0)).block).tab hcost7 (qv false 1 2) (qv false 1 2) (qv false 2 1) (half_sz _ (by decide)) (Lib.hid half_abs) (half_sz _ (by decide)) (Lib.hid half_cmp) (Lib.hid half_sub) (half_sz _ (by decide)) (Lib.hid half_ne) (Lib.hid half_inv)).mono ?_; rintro e0 x2 ⟨go, nr, Ar, kr, cr1, Br, mr, er, rfl, cO, hr, hbk⟩; replace hb0 := hb0.trans (hbk.mono hb0.size); replace c1 := c1.below hbk c1.lt; replace cR := cR.below hbk cR.lt; replace c2 := c2.below hbk c2.lt; (try replace rA := rA.below hbk rA.lt); have hz2 := hb0.size; have l2 := c2.lt; have hrl : (x2.cell? ⟨w.heap.size + 1 + 1, 0, none⟩ = some (.int .i64 6) ∧ x2.cell? ⟨w.heap.size + 1 + 1, 1, none⟩ = some (.slice (some ⟨w.heap.size + 1, 0, none⟩) 2 2)) := ⟨c2.cell rfl, c2.cell rfl⟩; (try (have e0 := rA.at 0 (by decide); have q0 := rA.frozen 0; have e1 := rA.at 1 (by decide); have q1 := rA.frozen 1; have e2 := rA.at 2 (by decide); have q2 := rA.frozen 2; have e3 := rA.at 3 (by decide); have q3 := rA.frozen 3; have e4 := rA.at 4 (by decide); have q4 := rA.frozen 4; have e5 := rA.at 5 (by decide); have q5 := rA.frozen 5; have e6 := rA.at 6 (by decide); have q6 := rA.frozen 6; have e7 := rA.at 7 (by decide); have q7 := rA.frozen 7; have lA := rA.lt)))
        | ((with_reducible change Calls _ _ _ (W0.drew) _); go_at_call 13; refine (r_Of 1 2 _ (by decide) (qv false 1 2) rfl (by decide) (by decide) (by decide) (by decide)).mono ?_; rintro e0 x1 ⟨v1, rfl, h1, hbk⟩; replace hb0 := hb0.trans (hbk.mono hb0.size); replace c1 := c1.below hbk c1.lt; replace cR := cR.below hbk cR.lt; replace c2 := c2.below hbk c2.lt; (try replace rA := rA.below hbk rA.lt); obtain ⟨nb, A, n, c, B, m, e, rfl⟩ := h1.agg; have m1 := Lib.hid (rfl : 1 = 1); have hz1 := hb0.size; have l1 := c2.lt; have hrl : (x1.cell? ⟨w.heap.size + 1 + 1, 0, none⟩ = some (.int .i64 6) ∧ x1.cell? ⟨w.heap.size + 1 + 1, 1, none⟩ = some (.slice (some ⟨w.heap.size + 1, 0, none⟩) 2 2)) := ⟨c2.cell rfl, c2.cell rfl⟩)
        | ((with_reducible change Calls _ _ _ ((W0.alloc (.cells #[.bool false, .slice none 0 0, .slice none 0 0, .int .i64 0, .bool false, .int .u64 0, .slice none 0 0, .slice none 0 0] 32)).drew) _); go_at_call 13; have hal : Below W0.drew.heap.size W0.drew ((W0.alloc (.cells #[.bool false, .slice none 0 0, .slice none 0 0, .int .i64 0, .bool false, .int .u64 0, .slice none 0 0, .slice none 0 0] 32)).drew) := (Below.refl _ _).alloc (Nat.le_refl _) _; have rA : Cs ((W0.alloc (.cells #[.bool false, .slice none 0 0, .slice none 0 0, .int .i64 0, .bool false, .int .u64 0, .slice none 0 0, .slice none 0 0] 32)).drew) (W0.heap.size) [.bool false, .slice none 0 0, .slice none 0 0, .int .i64 0, .bool false, .int .u64 0, .slice none 0 0, .slice none 0 0] 32 := Cs.new W0 _ _; replace hb0 := hb0.trans (hal.mono hb0.size); replace c1 := c1.below hal c1.lt; replace cR := cR.below hal cR.lt; replace c2 := c2.below hal c2.lt; refine (r_Of 1 2 _ (by decide) (qv false 1 2) rfl (by decide) (by decide) (by decide) (by decide)).mono ?_; rintro e0 x1 ⟨v1, rfl, h1, hbk⟩; replace hb0 := hb0.trans (hbk.mono hb0.size); replace c1 := c1.below hbk c1.lt; replace cR := cR.below hbk cR.lt; replace c2 := c2.below hbk c2.lt; (try replace rA := rA.below hbk rA.lt); obtain ⟨nb, A, n, c, B, m, e, rfl⟩ := h1.agg; have m1 := Lib.hid (rfl : 1 = 1); have hz1 := hb0.size; have l1 := c2.lt; have hrl : (x1.cell? ⟨w.heap.size + 1 + 1, 0, none⟩ = some (.int .i64 6) ∧ x1.cell? ⟨w.heap.size + 1 + 1, 1, none⟩ = some (.slice (some ⟨w.heap.size + 1, 0, none⟩) 2 2)) := ⟨c2.cell rfl, c2.cell rfl⟩))
    all_goals
      (try clear e0 e1 e2 e3 e4 e5 e6 e7 q0 q1 q2 q3 q4 q5 q6 q7)
      go_wp2_with fail
      go_meet
      case rel => first | with_reducible exact arel1 hb0 cO hr | with_reducible exact arel2 hb0 (by omega) rA cO hr | fail
  case rest =>
    obtain ⟨g8, go, nr, Ar, kr, cr1, Br, mr, er, rfl, rfl, rA, hg8, cO, hr, hbq⟩ := hcut
    replace c1 := c1.below hbq c1.lt
    replace cR := cR.below hbq cR.lt
    replace c2 := c2.below hbq c2.lt
    replace hb0 := hb9.trans (hbq.mono hz0)
    clear hbq hrl hb9
    have k0 := c2.cell (k := 0) rfl
    have k1 := c2.cell (k := 1) rfl
    obtain ⟨x0, x1, x2, x3, x4, x5, x6, x7⟩ := rA.c8
    go_wp2_with fail
    refine (Format_prod (w.heap.size + 1) 2 go nr Ar Br kr cr1 mr er (qv false 2 1) ⟨#[50]⟩ ⟨#[50, 124, 48]⟩ _ cR cO hr (HT.out.keep hb0.block) (two_sz _ (by decide)) (Lib.hid two_fmt) (Lib.hid rfl) (Lib.hid (by decide))).mono ?_
    rintro e0 w2 ⟨rfl, hb1⟩
    replace hb0 := hb0.trans (hb1.mono hb0.size)
    replace c1 := c1.below hb1 c1.lt
    clear hb1 k0 k1 x0 x1 x2 x3 x4 x5 x6 x7 cR c2 rA cO hr
    have k0 := c1.cell (k := 0) rfl
    have k1 := c1.cell (k := 1) rfl
    have hf1 : ∀ w : World, (Instr.field 32 (tw 3 false) 1).run Tryz.prog w = .ok (.int .i64 3) w := fun _ => by kernel_rfl
    have hf2 : ∀ w : World, (Instr.field 32 (tw 0 true) 2).run Tryz.prog w = .ok (.bool true) w := fun _ => by kernel_rfl
    go_wp2_with fail
    refine (Plus_v 3 5 3 false false false _ (.inr ⟨rfl, by omega, by omega⟩) (.inr ⟨rfl, by omega, by omega⟩) (Lib.hid (by decide))).mono ?_
    rintro e0 w3 ⟨rfl, hb1⟩
    replace hb0 := hb0.trans (hb1.mono hb0.size)
    replace c1 := c1.below hb1 c1.lt
    clear hb1 k0 k1
    have k0 := c1.cell (k := 0) rfl
    have k1 := c1.cell (k := 1) rfl
    go_wp2_with fail
    refine (Times_v 1099511627776 1 0 false false true _ (.inr ⟨rfl, by omega, by omega⟩) (.inr ⟨rfl, by omega, by omega⟩) (Lib.hid (by decide))).mono ?_
    rintro e0 w4 ⟨rfl, hb1⟩
    replace hb0 := hb0.trans (hb1.mono hb0.size)
    go_wp2_with fail
    go_ret
    exact ⟨rfl, hb0⟩
end Go.Proofs.YtafoplnpnoedfaaGreatDoor
