/- Mul, Div. -/
import Derived.Test.YtohbelnfjomcdaaGreatDoorQ19
import Derived.Deep.RegionWith
import Derived.BigRegion
import Derived.Deep.CutRange
set_option linter.unusedVariables false
set_option linter.unusedSimpArgs false
namespace Go.Proofs.YtohbelnfjomcdaaGreatDoor
open Go.RowKit

/-- x and y, cleaned, in their variables. -/
def Clean2 (w : World) (x y : Rat) (wx : World) : Prop := ∃ nb1 A1 n1 c1 B1 m1 e1 nb2 A2 n2 c2 B2 m2 e2,
  RatQ wx (.agg #[.bool nb1, .slice A1 n1 c1, .slice B1 m1 e1]) x ∧ RatQ wx (.agg #[.bool nb2, .slice A2 n2 c2, .slice B2 m2 e2]) y ∧
  Rc wx w.heap.size (.bool nb1) (.slice A1 n1 c1) (.slice B1 m1 e1) ∧ Rc wx (w.heap.size + 1) (.bool nb2) (.slice A2 n2 c2) (.slice B2 m2 e2) ∧ Below w.heap.size w wx
theorem Clean2.of {w w2 : World} {x y : Rat} {nb1 nb2 u1 u2 : Bool} {A1 B1 A2 B2 C1 D1 C2 D2 : Option Addr} {n1 c1 m1 e1 n2 c2 m2 e2 i1 j1 k1 l1 i2 j2 k2 l2 : Nat}
    (h1 : RatQ w2 (.agg #[.bool nb1, .slice A1 n1 c1, .slice B1 m1 e1]) x) (h2 : RatQ w2 (.agg #[.bool nb2, .slice A2 n2 c2, .slice B2 m2 e2]) y)
    (hx : Rc w2 w.heap.size (.bool u1) (.slice C1 i1 j1) (.slice D1 k1 l1)) (hy : Rc w2 (w.heap.size + 1) (.bool u2) (.slice C2 i2 j2) (.slice D2 k2 l2)) (hb : Below w.heap.size w w2) :
    Clean2 w x y ((((((w2.setCell ⟨w.heap.size, 0, none⟩ (.bool nb1)).setCell ⟨w.heap.size, 1, none⟩ (.slice A1 n1 c1)).setCell ⟨w.heap.size, 2, none⟩ (.slice B1 m1 e1)).setCell ⟨w.heap.size + 1, 0, none⟩ (.bool nb2)).setCell ⟨w.heap.size + 1, 1, none⟩ (.slice A2 n2 c2)).setCell ⟨w.heap.size + 1, 2, none⟩ (.slice B2 m2 e2)) := by
  have hy1 := hy.far3 (g' := w.heap.size) (by omega) (.bool nb1) (.slice A1 n1 c1) (.slice B1 m1 e1)
  have hx1 := hx.set (.bool nb1) (.slice A1 n1 c1) (.slice B1 m1 e1)
  exact ⟨_, _, _, _, _, _, _, _, _, _, _, _, _, _, (h1.set3 hx _ _ _).set3 hy1 _ _ _, (h2.set3 hx _ _ _).set3 hy1 _ _ _, hx1.far3 (by omega) _ _ _, hy1.set _ _ _, below_set3 (below_set3 hb (Nat.le_refl _) _ _ _) (Nat.le_succ _) _ _ _⟩

set_option maxRecDepth 20000 in
set_option maxHeartbeats 2000000 in
theorem Mul_any (v v' : Value) (x y r : Rat) (L : Nat) (w : World) (hT : Tab w) (h : Inp w v x L) (h' : Inp w v' y L) (sx : Sz x 1000000) (sy : Sz y 1000000) (hr : x * y = r) : Calls Tryz.prog 179 #[v, v'] w (RetRat w r) := by
  have hr' : qv (decide (x.num < 0) != decide (y.num < 0)) (x.num.natAbs * y.num.natAbs) (x.den * y.den) = r := by rw [← qv_mul, qv_self, qv_self, hr]
  have HR := Lib.hid hr'; clear hr hr'
  obtain ⟨z0, Z, zn, zc, Z', zm, ze, rfl⟩ := h.agg
  obtain ⟨y0, Y, yn, yc, Y', ym, ye, rfl⟩ := h'.agg
  obtain ⟨hbA, hrx, hry, hrr⟩ := blocks3 w (.bool z0) (.slice Z zn zc) (.slice Z' zm ze) (.bool y0) (.slice Y yn yc) (.slice Y' ym ye) (.bool false) (.slice none 0 0) (.slice none 0 0)
  go_enter Tryz.func179, Tryz.ntmps179
  have hI := h.below hbA
  have hI' := h'.below hbA
  have hTW := hT.below hbA
  go_wp2_with fail
  generalize (((w.alloc (R1 (.bool z0) (.slice Z zn zc) (.slice Z' zm ze))).alloc (R1 (.bool y0) (.slice Y yn yc) (.slice Y' ym ye))).alloc (R1 (.bool false) (.slice none 0 0) (.slice none 0 0))) = W at *
  have hgx : w.heap.size < W.drew.heap.size := hrx.lt
  have hgy : w.heap.size + 1 < W.drew.heap.size := hry.lt
  have hgr : w.heap.size + 1 + 1 < W.drew.heap.size := hrr.lt
  replace hrx := hrx.drew
  replace hry := hry.drew
  replace hrr := hrr.drew
  replace hTW := hTW.drew
  replace hI : Inp W.drew _ x L := hI.below (Below.refl _ _).drew
  replace hI' : Inp W.drew _ y L := hI'.below (Below.refl _ _).drew
  replace hbA := hbA.drew
  obtain ⟨k0, k1, k2⟩ := hrx.cells
  obtain ⟨l0, l1, l2⟩ := hry.cells
  go_cut [] from 5 to 8 (fun wx => Clean2 w x y wx ∧ Rc wx (w.heap.size + 1 + 1) (.bool false) (.slice none 0 0) (.slice none 0 0))
  case first =>
    go_region_with (first
      | (have _g := hb1; go_at_call 180; refine (clean_i _ y L _ (hTW.below hb1) (hI'.below hb1)).mono ?_; rintro e w2 ⟨v2, rfl, h2, hb2⟩; have hb12 := hb1.trans (hb2.mono hb1.size); obtain ⟨k0, k1, k2⟩ := (hrx.below hb12 hgx).cells; obtain ⟨l0, l1, l2⟩ := (hry.below hb12 hgy).cells; obtain ⟨f0, f1, f2⟩ := (hrx.below hb12 hgx).frozen; obtain ⟨g0, g1, g2⟩ := (hry.below hb12 hgy).frozen; obtain ⟨nb2, A2, n2, c2, B2, m2, e2, rfl⟩ := h2.agg)
      | (go_at_call 180; refine (clean_i _ x L _ hTW hI).mono ?_; rintro e w1 ⟨v1, rfl, h1, hb1⟩; obtain ⟨k0, k1, k2⟩ := (hrx.below hb1 hgx).cells; obtain ⟨l0, l1, l2⟩ := (hry.below hb1 hgy).cells; obtain ⟨nb1, A1, n1, c1, B1, m1, e1, rfl⟩ := h1.agg))
    all_goals
      go_wp2_with fail
      go_meet
      exact ⟨Clean2.of (h1.below hb2) h2 (hrx.below hb12 hgx) (hry.below hb12 hgy) (hbA.trans (hb12.mono hbA.size)), ((hrr.below hb12 hgr).far3 (by omega) _ _ _).far3 (by omega) _ _ _⟩
  case rest =>
  obtain ⟨⟨nb1, A1, n1, c1, B1, m1, e1, nb2, A2, n2, c2, B2, m2, e2, h1, h2, hrx1, hry1, hb1⟩, hrr1⟩ := hcut
  clear hrx hry hrr hgx hgy hgr hTW hI hI' hbA k0 k1 k2 l0 l1 l2
  have hTw := hT.below hb1
  obtain ⟨p1, p2, p3⟩ := h1.parts
  obtain ⟨q1, q2, q3⟩ := h2.parts
  rw [← p1, ← q1] at HR
  clear p1 q1
  have hs1 : n1 ≤ 1000000 := by rw [p2.len]; exact sx.1
  have hs2 : m1 ≤ 1000000 := by rw [p3.len]; exact Nat.le_trans (dl_length _) sx.2
  have hs3 : n2 ≤ 1000000 := by rw [q2.len]; exact sy.1
  have hs4 : m2 ≤ 1000000 := by rw [q3.len]; exact Nat.le_trans (dl_length _) sy.2
  have v3 := sx.2
  have v4 := sy.2
  go_wp2_with fail
  replace hTw := hTw.drew
  replace hrx1 := hrx1.drew
  replace hry1 := hry1.drew
  replace hrr1 := hrr1.drew
  replace p2 := p2.drew
  replace p3 := p3.drew
  replace q2 := q2.drew
  replace q3 := q3.drew
  replace hb1 := hb1.drew
  clear h1 h2 h h' hT
  have hgx := hrx1.lt
  have hgy := hry1.lt
  have hgr := hrr1.lt
  have hsx := hrx1.cells
  have hsy := hry1.cells
  go_region_held3 (fun w' => (w'.cell? ⟨w.heap.size, 0, none⟩ = some (.bool nb1) ∧ w'.cell? ⟨w.heap.size, 1, none⟩ = some (.slice A1 n1 c1) ∧ w'.cell? ⟨w.heap.size, 2, none⟩ = some (.slice B1 m1 e1)) ∧ (w'.cell? ⟨w.heap.size + 1, 0, none⟩ = some (.bool nb2) ∧ w'.cell? ⟨w.heap.size + 1, 1, none⟩ = some (.slice A2 n2 c2) ∧ w'.cell? ⟨w.heap.size + 1, 2, none⟩ = some (.slice B2 m2 e2)))
    (first | exact ⟨hsx, hsy⟩ | exact ⟨⟨cell_set3 (by omega) hsx.1, cell_set3 (by omega) hsx.2.1, cell_set3 (by omega) hsx.2.2⟩, ⟨cell_set3 (by omega) hsy.1, cell_set3 (by omega) hsy.2.1, cell_set3 (by omega) hsy.2.2⟩⟩)
    (first
      | (have _g := hb3; go_at_call 224; refine (multiply_any (!(nb1 == nb2)) _ _ _ _ _ _ _ _ _ _ _ _ x.num.natAbs x.den y.num.natAbs y.den r _ (hTw.below hb13) (p2.below hb13) (g2.below hb3) (q2.below hb13) g3 ?_ ?_ ?_ ?_ x.den_nz y.den_nz x.reduced y.reduced HR.out).mono ?_; omega; (have := g2.len; omega); omega; (have := g3.len; omega); rintro e w4 ⟨v4, rfl, h4, hb4⟩; have hb14 := hb13.trans (hb4.mono hb13.size); have hsx := (hrx1.below hb14 hgx).cells; have hsy := (hry1.below hb14 hgy).cells; have hrr4 := hrr1.below hb14 hgr; obtain ⟨nb, A, n, c, B, m, e, rfl⟩ := h4.agg; obtain ⟨r0, r1, r2⟩ := hrr4.cells; obtain ⟨f0, f1, f2⟩ := hrr4.frozen)
      | (have _g := hb2; go_at_call 223; refine (denominator_any nb2 A2 B2 n2 c2 m2 e2 y.den _ (q3.below hb2) y.den_nz).mono ?_; rintro e w3 ⟨A4, n4, c4, rfl, g3, hb3⟩; have hb13 := hb2.trans (hb3.mono hb2.size); have hsx := (hrx1.below hb13 hgx).cells; have hsy := (hry1.below hb13 hgy).cells)
      | (go_at_call 223; refine (denominator_any nb1 A1 B1 n1 c1 m1 e1 x.den _ p3 x.den_nz).mono ?_; rintro e w2 ⟨A3, n3, c3, rfl, g2, hb2⟩; have hsx := (hrx1.below hb2 hgx).cells; have hsy := (hry1.below hb2 hgy).cells))
  go_wp2_with fail
  refine ret_rc Tryz.results179 rfl (hrr4.set _ _ _) rfl ?_
  exact ⟨_, rfl, h4.set3 hrr4 _ _ _, below_set3 (hb1.trans (hb14.mono hb1.size)) (by omega) _ _ _⟩
end Go.Proofs.YtohbelnfjomcdaaGreatDoor

namespace Go.Proofs.YtohbelnfjomcdaaGreatDoor
open Go.RowKit

def RetRatE (w0 : World) (q : Rat) (E : Int) (e : Ending) (w' : World) : Prop := ∃ v, e = .returned (.tuple #[v, .int .i64 E]) ∧ RatQ w' v q ∧ Below w0.heap.size w0 w'
/-- A struct in the variable of the first result, and a word beside it. -/
theorem ret_rc_tmp {fn : Func} {p u : Tmp} (hres : fn.results = #[.cell p 27, .tmp u]) {R : Ending → World → Prop} {a : Act} {w : World} {g : Nat} {z0 z1 z2 x : Value} (hp : a.tmps.getD p undef = .pointer (some ⟨g, 0, none⟩)) (hx : a.tmps.getD u undef = x) (h : Rc w g z0 z1 z2) (hd : a.defers = [])
    (hR : R (.returned (.tuple #[.agg #[z0, z1, z2], x])) w) : bodyPost Tryz.prog fn R .ret a w := by
  refine bodyPost_ret (v := .tuple #[.agg #[z0, z1, z2], x]) ?_ hd hR
  have hp' : a.tmps[p]?.getD undef = .pointer (some ⟨g, 0, none⟩) := by simpa using hp
  have hx' : a.tmps[u]?.getD undef = x := by simpa using hx
  simp [results, hres, hp', hx', asAddr, run_loadVar_row w g 27 27 #[z0, z1, z2] (0, 0) _ h Tryz.underlying27 rfl (by kernel_rfl)]

set_option maxRecDepth 20000 in
set_option maxHeartbeats 2000000 in
theorem Div_any (v v' : Value) (x y r : Rat) (L : Nat) (E : Int) (w : World) (hT : Tab w) (h : Inp w v x L) (h' : Inp w v' y L) (sx : Sz x 1000000) (sy : Sz y 1000000) (hr : (y = 0 ∧ r = 0 ∧ E = 11) ∨ (y ≠ 0 ∧ x / y = r ∧ E = 0)) : Calls Tryz.prog 194 #[v, v'] w (RetRatE w r E) := by
  have HR := Lib.hid hr; clear hr
  obtain ⟨z0, Z, zn, zc, Z', zm, ze, rfl⟩ := h.agg
  obtain ⟨y0, Y, yn, yc, Y', ym, ye, rfl⟩ := h'.agg
  obtain ⟨hbA, hrx, hry, hrr⟩ := blocks3 w (.bool z0) (.slice Z zn zc) (.slice Z' zm ze) (.bool y0) (.slice Y yn yc) (.slice Y' ym ye) (.bool false) (.slice none 0 0) (.slice none 0 0)
  go_enter Tryz.func194, Tryz.ntmps194
  have hI := h.below hbA
  have hI' := h'.below hbA
  have hTW := hT.below hbA
  go_wp2_with fail
  generalize (((w.alloc (R1 (.bool z0) (.slice Z zn zc) (.slice Z' zm ze))).alloc (R1 (.bool y0) (.slice Y yn yc) (.slice Y' ym ye))).alloc (R1 (.bool false) (.slice none 0 0) (.slice none 0 0))) = W at *
  have hgx : w.heap.size < W.drew.heap.size := hrx.lt
  have hgy : w.heap.size + 1 < W.drew.heap.size := hry.lt
  have hgr : w.heap.size + 1 + 1 < W.drew.heap.size := hrr.lt
  replace hrx := hrx.drew
  replace hry := hry.drew
  replace hrr := hrr.drew
  replace hTW := hTW.drew
  replace hI : Inp W.drew _ x L := hI.below (Below.refl _ _).drew
  replace hI' : Inp W.drew _ y L := hI'.below (Below.refl _ _).drew
  replace hbA := hbA.drew
  obtain ⟨k0, k1, k2⟩ := hrx.cells
  obtain ⟨l0, l1, l2⟩ := hry.cells
  go_cut [] from 5 to 8 (fun wx => Clean2 w x y wx ∧ Rc wx (w.heap.size + 1 + 1) (.bool false) (.slice none 0 0) (.slice none 0 0))
  case first =>
    go_region_with (first
      | (have _g := hb1; go_at_call 180; refine (clean_i _ y L _ (hTW.below hb1) (hI'.below hb1)).mono ?_; rintro e w2 ⟨v2, rfl, h2, hb2⟩; have hb12 := hb1.trans (hb2.mono hb1.size); obtain ⟨k0, k1, k2⟩ := (hrx.below hb12 hgx).cells; obtain ⟨l0, l1, l2⟩ := (hry.below hb12 hgy).cells; obtain ⟨f0, f1, f2⟩ := (hrx.below hb12 hgx).frozen; obtain ⟨g0, g1, g2⟩ := (hry.below hb12 hgy).frozen; obtain ⟨nb2, A2, n2, c2, B2, m2, e2, rfl⟩ := h2.agg)
      | (go_at_call 180; refine (clean_i _ x L _ hTW hI).mono ?_; rintro e w1 ⟨v1, rfl, h1, hb1⟩; obtain ⟨k0, k1, k2⟩ := (hrx.below hb1 hgx).cells; obtain ⟨l0, l1, l2⟩ := (hry.below hb1 hgy).cells; obtain ⟨nb1, A1, n1, c1, B1, m1, e1, rfl⟩ := h1.agg))
    all_goals
      go_wp2_with fail
      go_meet
      exact ⟨Clean2.of (h1.below hb2) h2 (hrx.below hb12 hgx) (hry.below hb12 hgy) (hbA.trans (hb12.mono hbA.size)), ((hrr.below hb12 hgr).far3 (by omega) _ _ _).far3 (by omega) _ _ _⟩
  case rest =>
  obtain ⟨⟨nb1, A1, n1, c1, B1, m1, e1, nb2, A2, n2, c2, B2, m2, e2, h1, h2, hrx1, hry1, hb1⟩, hrr1⟩ := hcut
  clear hrx hry hrr hgx hgy hgr hTW hI hI' hbA k0 k1 k2 l0 l1 l2
  have hTw := hT.below hb1
  obtain ⟨p1, p2, p3⟩ := h1.parts
  obtain ⟨q1, q2, q3⟩ := h2.parts
  have hs1 : n1 ≤ 1000000 := by rw [p2.len]; exact sx.1
  have hs2 : m1 ≤ 1000000 := by rw [p3.len]; exact Nat.le_trans (dl_length _) sx.2
  have hs3 : n2 ≤ 1000000 := by rw [q2.len]; exact sy.1
  have hs4 : m2 ≤ 1000000 := by rw [q3.len]; exact Nat.le_trans (dl_length _) sy.2
  have v3 := sx.2
  have v4 := sy.2
  have hz : y = 0 ↔ n2 = 0 := by
    rw [q2.len, limbs_length_zero, Int.natAbs_eq_zero, Rat.num_eq_zero]
  rcases HR.out with ⟨hy, hr0, hE⟩ | ⟨hy, hr1, hE⟩
  · have hn2 : ((n2 : Int) == 0) = true := by simp; exact hz.1 hy
    subst hr0 hE
    obtain ⟨r0, r1, r2⟩ := hrr1.cells
    obtain ⟨f0, f1, f2⟩ := hrr1.frozen
    obtain ⟨k0, k1, k2⟩ := hrx1.cells
    obtain ⟨l0, l1, l2⟩ := hry1.cells
    clear hz hy HR
    go_wp2_with fail
    refine ret_rc_tmp Tryz.results194 rfl rfl (hrr1.set _ _ _) rfl ?_
    exact ⟨_, rfl, ratq_zero _, below_set3 hb1 (by omega) _ _ _⟩
  · have hn2 : ((n2 : Int) == 0) = false := by simp; exact fun h => hy (hz.2 h)
    have hN : y.num.natAbs ≠ 0 := fun h => hy (Rat.num_eq_zero.1 (Int.natAbs_eq_zero.1 h))
    have HN := Lib.hid hN
    have hr' : qv (decide (x.num < 0) != decide (y.num < 0)) (x.num.natAbs * y.den) (x.den * y.num.natAbs) = r := by rw [← qv_div _ _ _ _ hN, qv_self, qv_self, hr1]
    have HR' := Lib.hid hr'
    rw [← p1, ← q1] at HR'
    have HE := Lib.hid hE
    obtain ⟨k0, k1, k2⟩ := hrx1.cells
    obtain ⟨l0, l1, l2⟩ := hry1.cells
    clear hr' hr1 hN hz hy HR hE p1 q1
    go_wp2_with fail
    replace hTw := hTw.drew
    replace hrx1 := hrx1.drew
    replace hry1 := hry1.drew
    replace hrr1 := hrr1.drew
    replace p2 := p2.drew
    replace p3 := p3.drew
    replace q2 := q2.drew
    replace q3 := q3.drew
    replace hb1 := hb1.drew
    clear h1 h2 h h' hT
    have hgx := hrx1.lt
    have hgy := hry1.lt
    have hgr := hrr1.lt
    have hsx := hrx1.cells
    have hsy := hry1.cells
    go_region_held3 (fun w' => (w'.cell? ⟨w.heap.size, 0, none⟩ = some (.bool nb1) ∧ w'.cell? ⟨w.heap.size, 1, none⟩ = some (.slice A1 n1 c1) ∧ w'.cell? ⟨w.heap.size, 2, none⟩ = some (.slice B1 m1 e1)) ∧ (w'.cell? ⟨w.heap.size + 1, 0, none⟩ = some (.bool nb2) ∧ w'.cell? ⟨w.heap.size + 1, 1, none⟩ = some (.slice A2 n2 c2) ∧ w'.cell? ⟨w.heap.size + 1, 2, none⟩ = some (.slice B2 m2 e2)))
      (first | exact ⟨hsx, hsy⟩ | exact ⟨⟨cell_set3 (by omega) hsx.1, cell_set3 (by omega) hsx.2.1, cell_set3 (by omega) hsx.2.2⟩, ⟨cell_set3 (by omega) hsy.1, cell_set3 (by omega) hsy.2.1, cell_set3 (by omega) hsy.2.2⟩⟩)
      (first
        | (have _g := hb3; go_at_call 224; refine (multiply_any (!(nb1 == nb2)) _ _ _ _ _ _ _ _ _ _ _ _ x.num.natAbs x.den y.den y.num.natAbs r _ (hTw.below hb13) (p2.below hb13) (g2.below hb3) g3 (q2.below hb13) ?_ ?_ ?_ ?_ x.den_nz HN.out x.reduced y.reduced.symm HR'.out).mono ?_; omega; (have := g2.len; omega); (have := g3.len; omega); omega; rintro e w4 ⟨v4, rfl, h4, hb4⟩; have hb14 := hb13.trans (hb4.mono hb13.size); have hsx := (hrx1.below hb14 hgx).cells; have hsy := (hry1.below hb14 hgy).cells; have hrr4 := hrr1.below hb14 hgr; obtain ⟨nb, A, n, c, B, m, e, rfl⟩ := h4.agg; obtain ⟨r0, r1, r2⟩ := hrr4.cells; obtain ⟨f0, f1, f2⟩ := hrr4.frozen)
        | (have _g := hb2; go_at_call 223; refine (denominator_any nb2 A2 B2 n2 c2 m2 e2 y.den _ (q3.below hb2) y.den_nz).mono ?_; rintro e w3 ⟨A4, n4, c4, rfl, g3, hb3⟩; have hb13 := hb2.trans (hb3.mono hb2.size); have hsx := (hrx1.below hb13 hgx).cells; have hsy := (hry1.below hb13 hgy).cells)
        | (go_at_call 223; refine (denominator_any nb1 A1 B1 n1 c1 m1 e1 x.den _ p3 x.den_nz).mono ?_; rintro e w2 ⟨A3, n3, c3, rfl, g2, hb2⟩; have hsx := (hrx1.below hb2 hgx).cells; have hsy := (hry1.below hb2 hgy).cells))
    go_wp2_with fail
    refine ret_rc_tmp Tryz.results194 rfl rfl (hrr4.set _ _ _) rfl ?_
    rw [HE.out]
    exact ⟨_, rfl, h4.set3 hrr4 _ _ _, below_set3 (hb1.trans (hb14.mono hb1.size)) (by omega) _ _ _⟩
end Go.Proofs.YtohbelnfjomcdaaGreatDoor
