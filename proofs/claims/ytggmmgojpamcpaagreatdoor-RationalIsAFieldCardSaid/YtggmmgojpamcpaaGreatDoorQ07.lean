/- Mul, Div. -/
import Derived.Test.YtggmmgojpamcpaaGreatDoorQ06
import Derived.Deep.RegionWith
import Derived.BigRegion
import Derived.Deep.CutRange
import Derived.Test.YtggmmgojpamcpaaGreatDoorQ05
import Derived.Deep.RegionLaw
namespace Go.Proofs.YtggmmgojpamcpaaGreatDoor
open Go.RowKit

/-- x and y, cleaned, in their variables. -/
def Clean2 (w : World) (x y : Rat) (wx : World) : Prop := ∃ nb1 A1 n1 c1 B1 m1 e1 nb2 A2 n2 c2 B2 m2 e2,
  RatQ wx (.agg #[.bool nb1, .slice A1 n1 c1, .slice B1 m1 e1]) x ∧ RatQ wx (.agg #[.bool nb2, .slice A2 n2 c2, .slice B2 m2 e2]) y ∧
  Rc wx w.heap.size (.bool nb1) (.slice A1 n1 c1) (.slice B1 m1 e1) ∧ Rc wx (w.heap.size + 1) (.bool nb2) (.slice A2 n2 c2) (.slice B2 m2 e2) ∧ Below w.heap.size w wx
theorem Clean2.of {w w2 : World} {x y : Rat} {nb1 nb2 u1 u2 : Bool} {A1 B1 A2 B2 C1 D1 C2 D2 : Option Addr} {n1 c1 m1 e1 n2 c2 m2 e2 i1 j1 k1 l1 i2 j2 k2 l2 : Nat}
    (h1 : RatQ w2 (.agg #[.bool nb1, .slice A1 n1 c1, .slice B1 m1 e1]) x) (h2 : RatQ w2 (.agg #[.bool nb2, .slice A2 n2 c2, .slice B2 m2 e2]) y)
    (hx : Rc w2 w.heap.size (.bool u1) (.slice C1 i1 j1) (.slice D1 k1 l1)) (hy : Rc w2 (w.heap.size + 1) (.bool u2) (.slice C2 i2 j2) (.slice D2 k2 l2)) (hb : Below w.heap.size w w2) :
    Clean2 w x y ((((((w2.setCell ⟨w.heap.size, 0, none⟩ (.bool nb1)).setCell ⟨w.heap.size, 1, none⟩ (.slice A1 n1 c1)).setCell ⟨w.heap.size, 2, none⟩ (.slice B1 m1 e1)).setCell ⟨w.heap.size + 1, 0, none⟩ (.bool nb2)).setCell ⟨w.heap.size + 1, 1, none⟩ (.slice A2 n2 c2)).setCell ⟨w.heap.size + 1, 2, none⟩ (.slice B2 m2 e2)) := by
  have hy1 := hy.far3 (g' := w.heap.size) (by omega) (.bool nb1) (.slice A1 n1 c1) (.slice B1 m1 e1)
  have hx1 := hx.set (.bool nb1) (.slice A1 n1 c1) (.slice B1 m1 e1)
  exact ⟨_, _, _, _, _, _, _, _, _, _, _, _, _, _, (h1.set3 hx _ _ _).set3 hy1 _ _ _, (h2.set3 hx _ _ _).set3 hy1 _ _ _, hx1.far3 (by omega) _ _ _, hy1.set _ _ _, below_set3 (below_set3 hb (Nat.le_refl _) _ _ _) (Nat.le_succ _) _ _ _⟩

set_option maxRecDepth 20000 in
set_option maxHeartbeats 2000000 in
theorem Mul_any (v v' : Value) (x y r : Rat) (L : Nat) (w : World) (hT : Tab w) (h : Inp w v x L) (h' : Inp w v' y L) (sx : Sz x 1000000) (sy : Sz y 1000000) (hr : x * y = r) : Calls Tryz.prog 34 #[v, v'] w (RetRat w r) := by
  have hr' : qv (decide (x.num < 0) != decide (y.num < 0)) (x.num.natAbs * y.num.natAbs) (x.den * y.den) = r := by rw [← qv_mul, qv_self, qv_self, hr]
  have HR := Lib.hid hr'; clear hr hr'
  obtain ⟨z0, Z, zn, zc, Z', zm, ze, rfl⟩ := h.agg
  obtain ⟨y0, Y, yn, yc, Y', ym, ye, rfl⟩ := h'.agg
  obtain ⟨hbA, hrx, hry, hrr⟩ := blocks3 w (.bool z0) (.slice Z zn zc) (.slice Z' zm ze) (.bool y0) (.slice Y yn yc) (.slice Y' ym ye) (.bool false) (.slice none 0 0) (.slice none 0 0)
  go_enter Tryz.func34, Tryz.ntmps34
  have hI := h.below hbA
  have hI' := h'.below hbA
  have hTW := hT.below hbA
  go_wp2_with fail
  generalize (((w.alloc (R1 (.bool z0) (.slice Z zn zc) (.slice Z' zm ze))).alloc (R1 (.bool y0) (.slice Y yn yc) (.slice Y' ym ye))).alloc (R1 (.bool false) (.slice none 0 0) (.slice none 0 0))) = W at *
  have hgx : w.heap.size < W.drew.heap.size := hrx.lt
  have hgy : w.heap.size + 1 < W.drew.heap.size := hry.lt
  have hgr : w.heap.size + 1 + 1 < W.drew.heap.size := hrr.lt
  replace hrx := hrx.drew
  replace hry := hry.drew
  replace hrr := hrr.drew
  replace hTW := hTW.drew
  replace hI : Inp W.drew _ x L := hI.below (Below.refl _ _).drew
  replace hI' : Inp W.drew _ y L := hI'.below (Below.refl _ _).drew
  replace hbA := hbA.drew
  obtain ⟨k0, k1, k2⟩ := hrx.cells
  obtain ⟨l0, l1, l2⟩ := hry.cells
  go_cut [] from 5 to 8 (fun wx => Clean2 w x y wx ∧ Rc wx (w.heap.size + 1 + 1) (.bool false) (.slice none 0 0) (.slice none 0 0))
  case first =>
    go_region_with (first
      | (have _g := hb1; go_at_call 54; refine (clean_i _ y L _ (hTW.below hb1) (hI'.below hb1)).mono ?_; rintro e w2 ⟨v2, rfl, h2, hb2⟩; have hb12 := hb1.trans (hb2.mono hb1.size); obtain ⟨k0, k1, k2⟩ := (hrx.below hb12 hgx).cells; obtain ⟨l0, l1, l2⟩ := (hry.below hb12 hgy).cells; obtain ⟨f0, f1, f2⟩ := (hrx.below hb12 hgx).frozen; obtain ⟨g0, g1, g2⟩ := (hry.below hb12 hgy).frozen; obtain ⟨nb2, A2, n2, c2, B2, m2, e2, rfl⟩ := h2.agg)
      | (go_at_call 54; refine (clean_i _ x L _ hTW hI).mono ?_; rintro e w1 ⟨v1, rfl, h1, hb1⟩; obtain ⟨k0, k1, k2⟩ := (hrx.below hb1 hgx).cells; obtain ⟨l0, l1, l2⟩ := (hry.below hb1 hgy).cells; obtain ⟨nb1, A1, n1, c1, B1, m1, e1, rfl⟩ := h1.agg))
    all_goals
      go_wp2_with fail
      go_meet
      exact ⟨Clean2.of (h1.below hb2) h2 (hrx.below hb12 hgx) (hry.below hb12 hgy) (hbA.trans (hb12.mono hbA.size)), ((hrr.below hb12 hgr).far3 (by omega) _ _ _).far3 (by omega) _ _ _⟩
  case rest =>
  obtain ⟨⟨nb1, A1, n1, c1, B1, m1, e1, nb2, A2, n2, c2, B2, m2, e2, h1, h2, hrx1, hry1, hb1⟩, hrr1⟩ := hcut
  clear hrx hry hrr hgx hgy hgr hTW hI hI' hbA k0 k1 k2 l0 l1 l2
  have hTw := hT.below hb1
  obtain ⟨p1, p2, p3⟩ := h1.parts
  obtain ⟨q1, q2, q3⟩ := h2.parts
  rw [← p1, ← q1] at HR
  clear p1 q1
  have hs1 : n1 ≤ 1000000 := by rw [p2.len]; exact sx.1
  have hs2 : m1 ≤ 1000000 := by rw [p3.len]; exact Nat.le_trans (dl_length _) sx.2
  have hs3 : n2 ≤ 1000000 := by rw [q2.len]; exact sy.1
  have hs4 : m2 ≤ 1000000 := by rw [q3.len]; exact Nat.le_trans (dl_length _) sy.2
  have v3 := sx.2
  have v4 := sy.2
  go_wp2_with fail
  replace hTw := hTw.drew
  replace hrx1 := hrx1.drew
  replace hry1 := hry1.drew
  replace hrr1 := hrr1.drew
  replace p2 := p2.drew
  replace p3 := p3.drew
  replace q2 := q2.drew
  replace q3 := q3.drew
  replace hb1 := hb1.drew
  clear h1 h2 h h' hT
  have hgx := hrx1.lt
  have hgy := hry1.lt
  have hgr := hrr1.lt
  have hsx := hrx1.cells
  have hsy := hry1.cells
  go_region_held3 (fun w' => (w'.cell? ⟨w.heap.size, 0, none⟩ = some (.bool nb1) ∧ w'.cell? ⟨w.heap.size, 1, none⟩ = some (.slice A1 n1 c1) ∧ w'.cell? ⟨w.heap.size, 2, none⟩ = some (.slice B1 m1 e1)) ∧ (w'.cell? ⟨w.heap.size + 1, 0, none⟩ = some (.bool nb2) ∧ w'.cell? ⟨w.heap.size + 1, 1, none⟩ = some (.slice A2 n2 c2) ∧ w'.cell? ⟨w.heap.size + 1, 2, none⟩ = some (.slice B2 m2 e2)))
    (first | exact ⟨hsx, hsy⟩ | exact ⟨⟨cell_set3 (by omega) hsx.1, cell_set3 (by omega) hsx.2.1, cell_set3 (by omega) hsx.2.2⟩, ⟨cell_set3 (by omega) hsy.1, cell_set3 (by omega) hsy.2.1, cell_set3 (by omega) hsy.2.2⟩⟩)
    (first
      | (have _g := hb3; go_at_call 71; refine (multiply_any (!(nb1 == nb2)) _ _ _ _ _ _ _ _ _ _ _ _ x.num.natAbs x.den y.num.natAbs y.den r _ (hTw.below hb13) (p2.below hb13) (g2.below hb3) (q2.below hb13) g3 ?_ ?_ ?_ ?_ x.den_nz y.den_nz x.reduced y.reduced HR.out).mono ?_; omega; (have := g2.len; omega); omega; (have := g3.len; omega); rintro e w4 ⟨v4, rfl, h4, hb4⟩; have hb14 := hb13.trans (hb4.mono hb13.size); have hsx := (hrx1.below hb14 hgx).cells; have hsy := (hry1.below hb14 hgy).cells; have hrr4 := hrr1.below hb14 hgr; obtain ⟨nb, A, n, c, B, m, e, rfl⟩ := h4.agg; obtain ⟨r0, r1, r2⟩ := hrr4.cells; obtain ⟨f0, f1, f2⟩ := hrr4.frozen)
      | (have _g := hb2; go_at_call 69; refine (denominator_any nb2 A2 B2 n2 c2 m2 e2 y.den _ (q3.below hb2) y.den_nz).mono ?_; rintro e w3 ⟨A4, n4, c4, rfl, g3, hb3⟩; have hb13 := hb2.trans (hb3.mono hb2.size); have hsx := (hrx1.below hb13 hgx).cells; have hsy := (hry1.below hb13 hgy).cells)
      | (go_at_call 69; refine (denominator_any nb1 A1 B1 n1 c1 m1 e1 x.den _ p3 x.den_nz).mono ?_; rintro e w2 ⟨A3, n3, c3, rfl, g2, hb2⟩; have hsx := (hrx1.below hb2 hgx).cells; have hsy := (hry1.below hb2 hgy).cells))
  go_wp2_with fail
  refine ret_rc Tryz.results34 rfl (hrr4.set _ _ _) rfl ?_
  exact ⟨_, rfl, h4.set3 hrr4 _ _ _, below_set3 (hb1.trans (hb14.mono hb1.size)) (by omega) _ _ _⟩
end Go.Proofs.YtggmmgojpamcpaaGreatDoor

namespace Go.Proofs.YtggmmgojpamcpaaGreatDoor
open Go.RowKit

def RetRatE (w0 : World) (q : Rat) (E : Int) (e : Ending) (w' : World) : Prop := ∃ v, e = .returned (.tuple #[v, .int .i64 E]) ∧ RatQ w' v q ∧ Below w0.heap.size w0 w'
/-- A struct in the variable of the first result, and a word beside it. -/
theorem ret_rc_tmp {fn : Func} {p u : Tmp} (hres : fn.results = #[.cell p 24, .tmp u]) {R : Ending → World → Prop} {a : Act} {w : World} {g : Nat} {z0 z1 z2 x : Value} (hp : a.tmps.getD p undef = .pointer (some ⟨g, 0, none⟩)) (hx : a.tmps.getD u undef = x) (h : Rc w g z0 z1 z2) (hd : a.defers = [])
    (hR : R (.returned (.tuple #[.agg #[z0, z1, z2], x])) w) : bodyPost Tryz.prog fn R .ret a w := by
  refine bodyPost_ret (v := .tuple #[.agg #[z0, z1, z2], x]) ?_ hd hR
  have hp' : a.tmps[p]?.getD undef = .pointer (some ⟨g, 0, none⟩) := by simpa using hp
  have hx' : a.tmps[u]?.getD undef = x := by simpa using hx
  simp [results, hres, hp', hx', asAddr, run_loadVar_row w g 24 24 #[z0, z1, z2] (0, 0) _ h Tryz.underlying24 rfl (by kernel_rfl)]

set_option maxRecDepth 20000 in
set_option maxHeartbeats 2000000 in
theorem Div_any (v v' : Value) (x y r : Rat) (L : Nat) (E : Int) (w : World) (hT : Tab w) (h : Inp w v x L) (h' : Inp w v' y L) (sx : Sz x 1000000) (sy : Sz y 1000000) (hr : (y = 0 ∧ r = 0 ∧ E = 11) ∨ (y ≠ 0 ∧ x / y = r ∧ E = 0)) : Calls Tryz.prog 28 #[v, v'] w (RetRatE w r E) := by
  have HR := Lib.hid hr; clear hr
  obtain ⟨z0, Z, zn, zc, Z', zm, ze, rfl⟩ := h.agg
  obtain ⟨y0, Y, yn, yc, Y', ym, ye, rfl⟩ := h'.agg
  obtain ⟨hbA, hrx, hry, hrr⟩ := blocks3 w (.bool z0) (.slice Z zn zc) (.slice Z' zm ze) (.bool y0) (.slice Y yn yc) (.slice Y' ym ye) (.bool false) (.slice none 0 0) (.slice none 0 0)
  go_enter Tryz.func28, Tryz.ntmps28
  have hI := h.below hbA
  have hI' := h'.below hbA
  have hTW := hT.below hbA
  go_wp2_with fail
  generalize (((w.alloc (R1 (.bool z0) (.slice Z zn zc) (.slice Z' zm ze))).alloc (R1 (.bool y0) (.slice Y yn yc) (.slice Y' ym ye))).alloc (R1 (.bool false) (.slice none 0 0) (.slice none 0 0))) = W at *
  have hgx : w.heap.size < W.drew.heap.size := hrx.lt
  have hgy : w.heap.size + 1 < W.drew.heap.size := hry.lt
  have hgr : w.heap.size + 1 + 1 < W.drew.heap.size := hrr.lt
  replace hrx := hrx.drew
  replace hry := hry.drew
  replace hrr := hrr.drew
  replace hTW := hTW.drew
  replace hI : Inp W.drew _ x L := hI.below (Below.refl _ _).drew
  replace hI' : Inp W.drew _ y L := hI'.below (Below.refl _ _).drew
  replace hbA := hbA.drew
  obtain ⟨k0, k1, k2⟩ := hrx.cells
  obtain ⟨l0, l1, l2⟩ := hry.cells
  go_cut [] from 5 to 8 (fun wx => Clean2 w x y wx ∧ Rc wx (w.heap.size + 1 + 1) (.bool false) (.slice none 0 0) (.slice none 0 0))
  case first =>
    go_region_with (first
      | (have _g := hb1; go_at_call 54; refine (clean_i _ y L _ (hTW.below hb1) (hI'.below hb1)).mono ?_; rintro e w2 ⟨v2, rfl, h2, hb2⟩; have hb12 := hb1.trans (hb2.mono hb1.size); obtain ⟨k0, k1, k2⟩ := (hrx.below hb12 hgx).cells; obtain ⟨l0, l1, l2⟩ := (hry.below hb12 hgy).cells; obtain ⟨f0, f1, f2⟩ := (hrx.below hb12 hgx).frozen; obtain ⟨g0, g1, g2⟩ := (hry.below hb12 hgy).frozen; obtain ⟨nb2, A2, n2, c2, B2, m2, e2, rfl⟩ := h2.agg)
      | (go_at_call 54; refine (clean_i _ x L _ hTW hI).mono ?_; rintro e w1 ⟨v1, rfl, h1, hb1⟩; obtain ⟨k0, k1, k2⟩ := (hrx.below hb1 hgx).cells; obtain ⟨l0, l1, l2⟩ := (hry.below hb1 hgy).cells; obtain ⟨nb1, A1, n1, c1, B1, m1, e1, rfl⟩ := h1.agg))
    all_goals
      go_wp2_with fail
      go_meet
      exact ⟨Clean2.of (h1.below hb2) h2 (hrx.below hb12 hgx) (hry.below hb12 hgy) (hbA.trans (hb12.mono hbA.size)), ((hrr.below hb12 hgr).far3 (by omega) _ _ _).far3 (by omega) _ _ _⟩
  case rest =>
  obtain ⟨⟨nb1, A1, n1, c1, B1, m1, e1, nb2, A2, n2, c2, B2, m2, e2, h1, h2, hrx1, hry1, hb1⟩, hrr1⟩ := hcut
  clear hrx hry hrr hgx hgy hgr hTW hI hI' hbA k0 k1 k2 l0 l1 l2
  have hTw := hT.below hb1
  obtain ⟨p1, p2, p3⟩ := h1.parts
  obtain ⟨q1, q2, q3⟩ := h2.parts
  have hs1 : n1 ≤ 1000000 := by rw [p2.len]; exact sx.1
  have hs2 : m1 ≤ 1000000 := by rw [p3.len]; exact Nat.le_trans (dl_length _) sx.2
  have hs3 : n2 ≤ 1000000 := by rw [q2.len]; exact sy.1
  have hs4 : m2 ≤ 1000000 := by rw [q3.len]; exact Nat.le_trans (dl_length _) sy.2
  have v3 := sx.2
  have v4 := sy.2
  have hz : y = 0 ↔ n2 = 0 := by
    rw [q2.len, limbs_length_zero, Int.natAbs_eq_zero, Rat.num_eq_zero]
  rcases HR.out with ⟨hy, hr0, hE⟩ | ⟨hy, hr1, hE⟩
  · have hn2 : ((n2 : Int) == 0) = true := by simp; exact hz.1 hy
    subst hr0 hE
    obtain ⟨r0, r1, r2⟩ := hrr1.cells
    obtain ⟨f0, f1, f2⟩ := hrr1.frozen
    obtain ⟨k0, k1, k2⟩ := hrx1.cells
    obtain ⟨l0, l1, l2⟩ := hry1.cells
    clear hz hy HR
    go_wp2_with fail
    refine ret_rc_tmp Tryz.results28 rfl rfl (hrr1.set _ _ _) rfl ?_
    exact ⟨_, rfl, ratq_zero _, below_set3 hb1 (by omega) _ _ _⟩
  · have hn2 : ((n2 : Int) == 0) = false := by simp; exact fun h => hy (hz.2 h)
    have hN : y.num.natAbs ≠ 0 := fun h => hy (Rat.num_eq_zero.1 (Int.natAbs_eq_zero.1 h))
    have HN := Lib.hid hN
    have hr' : qv (decide (x.num < 0) != decide (y.num < 0)) (x.num.natAbs * y.den) (x.den * y.num.natAbs) = r := by rw [← qv_div _ _ _ _ hN, qv_self, qv_self, hr1]
    have HR' := Lib.hid hr'
    rw [← p1, ← q1] at HR'
    have HE := Lib.hid hE
    obtain ⟨k0, k1, k2⟩ := hrx1.cells
    obtain ⟨l0, l1, l2⟩ := hry1.cells
    clear hr' hr1 hN hz hy HR hE p1 q1
    go_wp2_with fail
    replace hTw := hTw.drew
    replace hrx1 := hrx1.drew
    replace hry1 := hry1.drew
    replace hrr1 := hrr1.drew
    replace p2 := p2.drew
    replace p3 := p3.drew
    replace q2 := q2.drew
    replace q3 := q3.drew
    replace hb1 := hb1.drew
    clear h1 h2 h h' hT
    have hgx := hrx1.lt
    have hgy := hry1.lt
    have hgr := hrr1.lt
    have hsx := hrx1.cells
    have hsy := hry1.cells
    go_region_held3 (fun w' => (w'.cell? ⟨w.heap.size, 0, none⟩ = some (.bool nb1) ∧ w'.cell? ⟨w.heap.size, 1, none⟩ = some (.slice A1 n1 c1) ∧ w'.cell? ⟨w.heap.size, 2, none⟩ = some (.slice B1 m1 e1)) ∧ (w'.cell? ⟨w.heap.size + 1, 0, none⟩ = some (.bool nb2) ∧ w'.cell? ⟨w.heap.size + 1, 1, none⟩ = some (.slice A2 n2 c2) ∧ w'.cell? ⟨w.heap.size + 1, 2, none⟩ = some (.slice B2 m2 e2)))
      (first | exact ⟨hsx, hsy⟩ | exact ⟨⟨cell_set3 (by omega) hsx.1, cell_set3 (by omega) hsx.2.1, cell_set3 (by omega) hsx.2.2⟩, ⟨cell_set3 (by omega) hsy.1, cell_set3 (by omega) hsy.2.1, cell_set3 (by omega) hsy.2.2⟩⟩)
      (first
        | (have _g := hb3; go_at_call 71; refine (multiply_any (!(nb1 == nb2)) _ _ _ _ _ _ _ _ _ _ _ _ x.num.natAbs x.den y.den y.num.natAbs r _ (hTw.below hb13) (p2.below hb13) (g2.below hb3) g3 (q2.below hb13) ?_ ?_ ?_ ?_ x.den_nz HN.out x.reduced y.reduced.symm HR'.out).mono ?_; omega; (have := g2.len; omega); (have := g3.len; omega); omega; rintro e w4 ⟨v4, rfl, h4, hb4⟩; have hb14 := hb13.trans (hb4.mono hb13.size); have hsx := (hrx1.below hb14 hgx).cells; have hsy := (hry1.below hb14 hgy).cells; have hrr4 := hrr1.below hb14 hgr; obtain ⟨nb, A, n, c, B, m, e, rfl⟩ := h4.agg; obtain ⟨r0, r1, r2⟩ := hrr4.cells; obtain ⟨f0, f1, f2⟩ := hrr4.frozen)
        | (have _g := hb2; go_at_call 69; refine (denominator_any nb2 A2 B2 n2 c2 m2 e2 y.den _ (q3.below hb2) y.den_nz).mono ?_; rintro e w3 ⟨A4, n4, c4, rfl, g3, hb3⟩; have hb13 := hb2.trans (hb3.mono hb2.size); have hsx := (hrx1.below hb13 hgx).cells; have hsy := (hry1.below hb13 hgy).cells)
        | (go_at_call 69; refine (denominator_any nb1 A1 B1 n1 c1 m1 e1 x.den _ p3 x.den_nz).mono ?_; rintro e w2 ⟨A3, n3, c3, rfl, g2, hb2⟩; have hsx := (hrx1.below hb2 hgx).cells; have hsy := (hry1.below hb2 hgy).cells))
    go_wp2_with fail
    refine ret_rc_tmp Tryz.results28 rfl rfl (hrr4.set _ _ _) rfl ?_
    rw [HE.out]
    exact ⟨_, rfl, h4.set3 hrr4 _ _ _, below_set3 (hb1.trans (hb14.mono hb1.size)) (by omega) _ _ _⟩
end Go.Proofs.YtggmmgojpamcpaaGreatDoor

namespace Go.Proofs.YtggmmgojpamcpaaGreatDoor
open Go.RowKit

set_option maxRecDepth 20000 in
set_option maxHeartbeats 1000000 in
theorem magnitude_any (v : Int) (m : Nat) (w : World) (H : Hid (v.natAbs = m ∧ -9223372036854775808 ≤ v ∧ v < 9223372036854775808)) :
    Calls Tryz.prog 50 #[.int .i64 v] w fun e w' => e = .returned (.int .u64 (m : Int)) ∧ w = w' := by
  obtain ⟨hm, h1, h2⟩ := H.out
  by_cases h0 : v < 0
  · have hd : decide (v < 0) = true := by simp [h0]
    have e1 : IntKind.u64.wrap (-IntKind.u64.wrap v) = (m : Int) := by
      rw [IntKind.wrap_u64, IntKind.wrap_u64]; omega
    clear hm h0 h1 h2
    go_enter Tryz.func50, Tryz.ntmps50
    go_wp2_with fail
    go_ret
    exact ⟨rfl, rfl⟩
  · have hd : decide (v < 0) = false := by simp; omega
    have e1 : IntKind.u64.wrap v = (m : Int) := by
      rw [IntKind.wrap_u64]; omega
    clear hm h0 h1 h2
    go_enter Tryz.func50, Tryz.ntmps50
    go_wp2_with fail
    go_ret
    exact ⟨rfl, rfl⟩

set_option maxRecDepth 20000 in
set_option maxHeartbeats 1000000 in
theorem Make_any (a b : Int) (w : World) (hT : Tab w) (hb : b ≠ 0) (r : Rat) (hr : qv (decide (a < 0) != decide (b < 0)) a.natAbs b.natAbs = r) (h1 : -9223372036854775808 ≤ a) (h2 : a < 9223372036854775808) (h3 : -9223372036854775808 ≤ b) (h4 : b < 9223372036854775808) :
    Calls Tryz.prog 13 #[.int .i64 a, .int .i64 b] w (RetRatE w r 0) := by
  have hb0 : (b == 0) = false := by simp [hb]
  obtain ⟨m, hm⟩ : ∃ m, a.natAbs = m := ⟨_, rfl⟩
  obtain ⟨k, hk⟩ : ∃ k, b.natAbs = k := ⟨_, rfl⟩
  obtain ⟨s, hs⟩ : ∃ s, (!(decide (a < 0) == decide (b < 0))) = s := ⟨_, rfl⟩
  have HM := Lib.hid (And.intro hm (And.intro h1 h2))
  have HK := Lib.hid (And.intro hk (And.intro h3 h4))
  have hk0 : k ≠ 0 := by omega
  have hkl : k < 18446744073709551616 := by omega
  have hml : m < 18446744073709551616 := by omega
  have hr' : qv s m k = r := by rw [← hr, hm, hk, ← hs]; rfl
  obtain ⟨j1, j2, j3⟩ := qv_reduce s (a := m) hk0
  rw [hr'] at j1
  have HJ := Lib.hid (And.intro j1 (And.intro j2 j3))
  have HK0 := Lib.hid hk0
  have HL := Lib.hid (And.intro hml hkl)
  have hlm := limbs_length_le (n := m) (k := 2) (by unfold P; omega)
  have hlk := limbs_length_le (n := k) (k := 2) (by unfold P; omega)
  clear hm hk hk0 hkl hml hr hr' j1 j2 j3 h1 h2 h3 h4 hb
  have hbA : Below w.heap.size w (w.alloc R0) := (Below.refl _ _).alloc (Nat.le_refl _) _
  have hrr := Rc.new w (.bool false) (.slice none 0 0) (.slice none 0 0)
  go_enter Tryz.func13, Tryz.ntmps13
  go_wp2_with fail
  refine (magnitude_any a m _ HM).mono ?_
  rintro e w' ⟨rfl, rfl⟩
  go_wp2_with fail
  refine (natural_l m _ HL.out.1).mono ?_
  rintro e w1 ⟨A1, n1, c1, rfl, g1, hb1⟩
  go_wp2_with fail
  refine (magnitude_any b k _ HK).mono ?_
  rintro e w' ⟨rfl, rfl⟩
  go_wp2_with fail
  refine (natural_l k _ HL.out.2).mono ?_
  rintro e w2 ⟨A2, n2, c2, rfl, g2, hb2⟩
  have hb12 := hb1.trans (hb2.mono hb1.size)
  go_wp2_with fail
  refine (reduced_any s _ _ _ _ _ _ m k _ ((hT.below hbA).below hb12) (g1.num.below hb2) g2.num (by have := g1.len; omega) (by have := g2.len; omega) HK0.out).mono ?_
  rintro e w3 hr
  obtain ⟨v3, rfl, h3, hb3⟩ := RetFrac.rat HJ.out.2.1 HJ.out.2.2 HJ.out.1 hr
  have hb13 := hb12.trans (hb3.mono hb12.size)
  have hrr3 := hrr.below hb13 hrr.lt
  obtain ⟨nb, A, n, c, B, m', e, rfl⟩ := h3.agg
  obtain ⟨r0, r1, r2⟩ := hrr3.cells
  obtain ⟨f0, f1, f2⟩ := hrr3.frozen
  go_wp2_with fail
  refine ret_rc_tmp Tryz.results13 rfl rfl (hrr3.set _ _ _) rfl ?_
  exact ⟨_, rfl, h3.set3 hrr3 _ _ _, below_set3 (hbA.trans (hb13.mono hbA.size)) (by omega) _ _ _⟩

set_option maxRecDepth 20000 in
set_option maxHeartbeats 1000000 in
theorem Make_zero (a : Int) (w : World) :
    Calls Tryz.prog 13 #[.int .i64 a, .int .i64 0] w (RetRatE w 0 11) := by
  have hbA : Below w.heap.size w (w.alloc R0) := (Below.refl _ _).alloc (Nat.le_refl _) _
  have hrr := Rc.new w (.bool false) (.slice none 0 0) (.slice none 0 0)
  go_enter Tryz.func13, Tryz.ntmps13
  go_wp2_with fail
  refine ret_rc_tmp Tryz.results13 rfl rfl hrr rfl ?_
  exact ⟨_, rfl, ratq_zero _, hbA⟩
end Go.Proofs.YtggmmgojpamcpaaGreatDoor

namespace Go.Proofs.YtggmmgojpamcpaaGreatDoor
open Go.RowKit

theorem gcd_len {X Y n n' : Nat} (hn : n = (limbs X).length) (hn' : n' = (limbs Y).length) : (limbs (Nat.gcd X Y)).length ≤ max n n' := by
  rcases Nat.eq_zero_or_pos X with h | h
  · rw [h, Nat.gcd_zero_left]; omega
  · have := length_mono (Nat.le_of_dvd h (Nat.gcd_dvd_left X Y))
    omega

set_option maxRecDepth 20000 in
set_option maxHeartbeats 1000000 in
theorem r_over (neg : Bool) (A A' : Option Addr) (n c m c' a d : Nat) (w : World) (hx : Num w (limbs a) A n c) (hy : Num w (limbs d) A' m c') (hn : n ≤ 1000000) (hm : m ≤ 1000000) (hd : d ≠ 0) :
    Calls Tryz.prog 51 #[.bool neg, .slice A n c, .slice A' m c'] w (RetFrac w neg (a / Nat.gcd a d) (d / Nat.gcd a d)) := by
  have hbA : Below w.heap.size w (w.alloc (.cells #[.bool false, .slice none 0 0, .slice none 0 0] 24)) := (Below.refl _ _).alloc (Nat.le_refl _) _
  have hrc := Rc.new w (.bool false) (.slice none 0 0) (.slice none 0 0)
  by_cases h0 : n = 0
  · have ha : a = 0 := limbs_length_zero.1 (by rw [← hx.len]; exact h0)
    subst h0
    have HA := Lib.hid ha
    clear ha
    go_enter Tryz.func51, Tryz.ntmps51
    go_wp2_with fail
    refine ret_rc Tryz.results51 rfl hrc rfl ?_
    rw [HA.out]
    simp only [Nat.zero_div]
    exact ⟨_, rfl, ⟨none, 0, 0, none, 0, 0, by simp, by rw [limbs_zero]; exact Num.nil _ _ _, by rw [if_pos rfl]; exact Num.nil _ _ _⟩, hbA⟩
  · have ha : a ≠ 0 := fun h => h0 (by rw [hx.len, h, limbs_zero]; rfl)
    have hn0 : ((n : Int) == 0) = false := by simp; omega
    have HA := Lib.hid ha
    have HD := Lib.hid hd
    have HG : Hid (Nat.gcd a d ≠ 0) := fun h => ha (Nat.eq_zero_of_gcd_eq_zero_left h)
    have hgl := gcd_len hx.len hy.len
    have HQ : Hid (a / Nat.gcd a d ≠ 0) := by
      have := Nat.div_pos (Nat.le_of_dvd (Nat.pos_of_ne_zero ha) (Nat.gcd_dvd_left a d)) (Nat.pos_of_ne_zero HG.out)
      show _ ≠ _
      omega
    clear ha hd h0
    go_enter Tryz.func51, Tryz.ntmps51
    go_wp2_with fail
    refine (r_divisor _ _ _ _ _ _ a d _ (hx.below hbA) (hy.below hbA) hn hm).mono ?_
    rintro e w1 ⟨A1, n1, c1, rfl, h1, hb1⟩
    have hn1 : n1 ≤ 1000000 := by rw [h1.len]; omega
    have hb01 := hbA.trans (hb1.mono hbA.size)
    go_wp2_with fail
    refine (r_divide _ _ _ _ _ _ a (Nat.gcd a d) _ (hx.below hb01) h1 hn hn1 HG).mono ?_
    rintro e w2 ⟨A2, n2, c2, A3, n3, c3, rfl, h2, h3, hb2⟩
    have hb02 := hb01.trans (hb2.mono hb01.size)
    go_wp2_with fail
    refine (r_divide _ _ _ _ _ _ d (Nat.gcd a d) _ (hy.below hb02) (h1.below hb2) hm hn1 HG).mono ?_
    rintro e w4 ⟨A4, n4, c4, A5, n5, c5, rfl, h4, h5, hb4⟩
    have hb04 := hb02.trans (hb4.mono hb02.size)
    have hn4 : n4 ≤ 1000000 := by rw [h4.len]; have := length_mono (Nat.div_le_self d (Nat.gcd a d)); have := hy.len; omega
    have h2' := h2.num.below hb4
    have hrc4 := hrc.below ((hb1.trans (hb2.mono hb1.size)).trans (hb4.mono (by have := hb1.size; have := hb2.size; omega))) hrc.lt
    obtain ⟨k0, k1, k2⟩ := hrc4.cells
    obtain ⟨f0, f1, f2⟩ := hrc4.frozen
    have hne2 := h2'.ne_rc hrc4
    by_cases hone : d / Nat.gcd a d = 1
    · have HO : Hid (decide (limbs (d / Nat.gcd a d) = [1]) = true) := decide_eq_true (limbs_eq_one.2 hone)
      have HD1 := Lib.hid hone
      clear hone
      go_wp2_with fail
      refine (r_one _ _ _ _ _ true h4.num (by omega) HO).mono ?_
      rintro e w' ⟨rfl, rfl⟩
      go_wp2_with fail
      refine ret_rc Tryz.results51 rfl (hrc4.set _ _ _) rfl ?_
      refine ⟨_, rfl, ⟨A2, n2, c2, none, 0, 0, by rw [decide_eq_true HQ.out, Bool.and_true], h2'.set3 hne2 _ _ _, ?_⟩, below_set3 hb04 (Nat.le_refl _) _ _ _⟩
      rw [if_neg HQ.out, HD1.out]
      exact Num.nil _ _ _
    · have HO : Hid (decide (limbs (d / Nat.gcd a d) = [1]) = false) := decide_eq_false (fun h => hone (limbs_eq_one.1 h))
      have HD1 := Lib.hid hone
      clear hone
      have hne4 := h4.num.ne_rc hrc4
      go_wp2_with fail
      refine (r_one _ _ _ _ _ false h4.num (by omega) HO).mono ?_
      rintro e w' ⟨rfl, rfl⟩
      go_wp2_with fail
      refine ret_rc Tryz.results51 rfl (hrc4.set _ _ _) rfl ?_
      refine ⟨_, rfl, ⟨A2, n2, c2, A4, n4, c4, by rw [decide_eq_true HQ.out, Bool.and_true], h2'.set3 hne2 _ _ _, ?_⟩, below_set3 hb04 (Nat.le_refl _) _ _ _⟩
      rw [if_neg HQ.out, dl_ne HD1.out]
      exact h4.num.set3 hne4 _ _ _

set_option maxHeartbeats 400000 in
theorem r_absolute (a : Int) (m : Nat) (w : World) (H : Hid (a.natAbs = m ∧ -9223372036854775808 ≤ a ∧ a < 9223372036854775808)) :
    Calls Tryz.prog 53 #[.int .i64 a] w fun e w' => e = .returned (.int .u64 (m : Int)) ∧ w = w' := by
  obtain ⟨hm, h1, h2⟩ := H.out
  by_cases h : a < 0
  · have e1 : IntKind.i64.wrap (a + 1) = a + 1 := IntWalk.i64_in _ (by omega)
    have e2 : IntKind.i64.wrap (-(a + 1)) = -(a + 1) := IntWalk.i64_in _ (by omega)
    have e3 : IntKind.u64.wrap (-(a + 1)) = -(a + 1) := IntWalk.u64_in _ (by omega)
    have e4 : IntKind.u64.wrap (-(a + 1) + 1) = -(a + 1) + 1 := IntWalk.u64_in _ (by omega)
    have e5 : -(a + 1) + 1 = (m : Int) := by omega
    have e6 : IntKind.u64.wrap (m : Int) = (m : Int) := IntWalk.u64_in _ (by omega)
    clear hm h1 h2 H
    go_enter Tryz.func53, Tryz.ntmps53
    go_wp2
    go_ret
    first | exact ⟨rfl, rfl⟩ | exact ⟨ret_int (by omega), rfl⟩
  · have e3 : IntKind.u64.wrap a = a := IntWalk.u64_in _ (by omega)
    have e5 : a = (m : Int) := by omega
    have e6 : IntKind.u64.wrap (m : Int) = (m : Int) := IntWalk.u64_in _ (by omega)
    clear hm h1 h2 H
    go_enter Tryz.func53, Tryz.ntmps53
    go_wp2
    go_ret
    first | exact ⟨rfl, rfl⟩ | exact ⟨ret_int (by omega), rfl⟩

set_option maxRecDepth 20000 in
set_option maxHeartbeats 1000000 in
theorem r_Make (a b : Int) (w : World) (hb : b ≠ 0) (r : Rat) (hr : qv (decide (a < 0) != decide (b < 0)) a.natAbs b.natAbs = r) (h1 : -9223372036854775808 ≤ a) (h2 : a < 9223372036854775808) (h3 : -9223372036854775808 ≤ b) (h4 : b < 9223372036854775808) :
    Calls Tryz.prog 14 #[.int .i64 a, .int .i64 b] w (RetRatE w r 0) := by
  have hb0 : (b == 0) = false := by simp [hb]
  obtain ⟨m, hm⟩ : ∃ m, a.natAbs = m := ⟨_, rfl⟩
  obtain ⟨k, hk⟩ : ∃ k, b.natAbs = k := ⟨_, rfl⟩
  obtain ⟨s, hs⟩ : ∃ s, (!(decide (a < 0) == decide (b < 0))) = s := ⟨_, rfl⟩
  have HM := Lib.hid (And.intro hm (And.intro h1 h2))
  have HK := Lib.hid (And.intro hk (And.intro h3 h4))
  have hk0 : k ≠ 0 := by omega
  have hkl : k < 18446744073709551616 := by omega
  have hml : m < 18446744073709551616 := by omega
  have hr' : qv s m k = r := by rw [← hr, hm, hk, ← hs]; rfl
  obtain ⟨j1, j2, j3⟩ := qv_reduce s (a := m) hk0
  rw [hr'] at j1
  have HJ := Lib.hid (And.intro j1 (And.intro j2 j3))
  have HK0 := Lib.hid hk0
  have HL := Lib.hid (And.intro hml hkl)
  have hlm := limbs_length_le (n := m) (k := 2) (by unfold P; omega)
  have hlk := limbs_length_le (n := k) (k := 2) (by unfold P; omega)
  clear hm hk hk0 hkl hml hr hr' j1 j2 j3 h1 h2 h3 h4 hb
  have hbA : Below w.heap.size w (w.alloc R0) := (Below.refl _ _).alloc (Nat.le_refl _) _
  have hrr := Rc.new w (.bool false) (.slice none 0 0) (.slice none 0 0)
  go_enter Tryz.func14, Tryz.ntmps14
  go_wp2_with fail
  refine (r_absolute a m _ HM).mono ?_
  rintro e w' ⟨rfl, rfl⟩
  go_wp2_with fail
  refine (r_natural m _ HL.out.1).mono ?_
  rintro e w1 ⟨A1, n1, c1, rfl, g1, hb1⟩
  go_wp2_with fail
  refine (r_absolute b k _ HK).mono ?_
  rintro e w' ⟨rfl, rfl⟩
  go_wp2_with fail
  refine (r_natural k _ HL.out.2).mono ?_
  rintro e w2 ⟨A2, n2, c2, rfl, g2, hb2⟩
  have hb12 := hb1.trans (hb2.mono hb1.size)
  go_wp2_with fail
  refine (r_over s _ _ _ _ _ _ m k _ (g1.num.below hb2) g2.num (by have := g1.len; omega) (by have := g2.len; omega) HK0.out).mono ?_
  rintro e w3 hr
  obtain ⟨v3, rfl, h3, hb3⟩ := RetFrac.rat HJ.out.2.1 HJ.out.2.2 HJ.out.1 hr
  have hb13 := hb12.trans (hb3.mono hb12.size)
  have hrr3 := hrr.below hb13 hrr.lt
  obtain ⟨nb, A, n, c, B, m', e, rfl⟩ := h3.agg
  obtain ⟨r0, r1, r2⟩ := hrr3.cells
  obtain ⟨f0, f1, f2⟩ := hrr3.frozen
  go_wp2_with fail
  refine ret_rc_tmp Tryz.results14 rfl rfl (hrr3.set _ _ _) rfl ?_
  exact ⟨_, rfl, h3.set3 hrr3 _ _ _, below_set3 (hbA.trans (hb13.mono hbA.size)) (by omega) _ _ _⟩
set_option maxRecDepth 20000 in
set_option maxHeartbeats 1000000 in
theorem r_Make_zero (a : Int) (w : World) :
    Calls Tryz.prog 14 #[.int .i64 a, .int .i64 0] w (RetRatE w 0 11) := by
  have hbA : Below w.heap.size w (w.alloc R0) := (Below.refl _ _).alloc (Nat.le_refl _) _
  have hrr := Rc.new w (.bool false) (.slice none 0 0) (.slice none 0 0)
  go_enter Tryz.func14, Tryz.ntmps14
  go_wp2_with fail
  refine ret_rc_tmp Tryz.results14 rfl rfl hrr rfl ?_
  exact ⟨_, rfl, ratq_zero _, hbA⟩
set_option maxRecDepth 20000 in
set_option maxHeartbeats 1000000 in
theorem r_Of (a b : Int) (w : World) (hb : b ≠ 0) (r : Rat) (hr : qv (decide (a < 0) != decide (b < 0)) a.natAbs b.natAbs = r) (h1 : -9223372036854775808 ≤ a) (h2 : a < 9223372036854775808) (h3 : -9223372036854775808 ≤ b) (h4 : b < 9223372036854775808) :
    Calls Tryz.prog 46 #[.int .i64 a, .int .i64 b] w (RetRat w r) := by
  have hbA : Below w.heap.size w (w.alloc R0) := (Below.refl _ _).alloc (Nat.le_refl _) _
  have hrr := Rc.new w (.bool false) (.slice none 0 0) (.slice none 0 0)
  go_enter Tryz.func46, Tryz.ntmps46
  go_wp2_with fail
  refine (r_Make a b _ hb r hr h1 h2 h3 h4).mono ?_
  rintro e w1 ⟨v1, rfl, g1, hb1⟩
  have hrr1 := hrr.below hb1 hrr.lt
  obtain ⟨nb, A, n, c, B, m', e, rfl⟩ := g1.agg
  have hwl := hrr1.lt
  have hrr2 := (hrr1.set (.bool nb) (.slice A n c) (.slice B m' e)).alloc (R1 (.bool nb) (.slice A n c) (.slice B m' e))
  have g2 := g1.set3 hrr1 (.bool nb) (.slice A n c) (.slice B m' e)
  have g3 := g2.below ((Below.refl _ _).alloc (Nat.le_refl _) (R1 (.bool nb) (.slice A n c) (.slice B m' e)))
  have hb2 := (below_set3 (hbA.trans (hb1.mono hbA.size)) (Nat.le_refl w.heap.size) (.bool nb) (.slice A n c) (.slice B m' e)).alloc (by simp; omega) (R1 (.bool nb) (.slice A n c) (.slice B m' e))
  obtain ⟨r0, r1, r2⟩ := hrr1.cells
  obtain ⟨f0, f1, f2⟩ := hrr1.frozen
  clear hr h1 h2 h3 h4 hb
  go_wp2_with fail
  refine ret_rc Tryz.results46 rfl hrr2 rfl ?_
  exact ⟨_, rfl, g3, hb2⟩
end Go.Proofs.YtggmmgojpamcpaaGreatDoor

namespace Go.Proofs.YtggmmgojpamcpaaGreatDoor
open Go.RowKit

theorem pad_top {l : List Nat} {j : Nat} (h : l.length = j + 1) : pad l = decide (l.getD j 0 = 0) := by
  unfold pad
  rw [h, Nat.add_sub_cancel]
  simp
theorem pad_nil : pad [] = false := rfl
theorem beq_zero_false {x : Nat} (h : x ≠ 0) : ((x : Int) == 0) = false := by simp; exact h

/-- The top limb of a list, as it is looked at. -/
theorem num_top {w : World} {l : List Nat} {A : Option Addr} {n c : Nat} (h : Num w l A n c) : n = 0 ∨
    (∃ j b o, n = j + 1 ∧ A = some ⟨b, o, none⟩ ∧ l.getD j 0 = 0 ∧ w.cell? ⟨b, o + j, none⟩ = some (.int .u32 0)) ∨
    (∃ j b o x, n = j + 1 ∧ A = some ⟨b, o, none⟩ ∧ x ≠ 0 ∧ l.getD j 0 = x ∧ w.cell? ⟨b, o + j, none⟩ = some (.int .u32 ((x : Nat) : Int))) := by
  rcases Nat.eq_zero_or_pos n with h0 | h0
  · exact .inl h0
  · obtain ⟨j, rfl⟩ : ∃ j, n = j + 1 := ⟨n - 1, by omega⟩
    obtain ⟨b, o, x, hA, _, hxx, hx4, hcx⟩ := h.at_ (show j < j + 1 by omega)
    by_cases hx0 : x = 0
    · subst hx0
      exact .inr (.inl ⟨j, b, o, rfl, hA, hxx, hcx⟩)
    · exact .inr (.inr ⟨j, b, o, x, rfl, hA, hx0, hxx, hcx⟩)

set_option maxRecDepth 20000 in
set_option maxHeartbeats 2000000 in
theorem r_Valid (neg : Bool) (A A' : Option Addr) (n c m c' : Nat) (ln ld : List Nat) (w : World) (V : Bool) (hx : Num w ln A n c) (hy : Num w ld A' m c') (hn : n ≤ 1000000) (hm : m ≤ 1000000) (HV : Hid (vld neg ln ld = V)) :
    Calls Tryz.prog 18 #[.agg #[.bool neg, .slice A n c, .slice A' m c']] w (RetV w (.bool V)) := by
  have hbA : Below w.heap.size w (w.alloc (R1 (.bool neg) (.slice A n c) (.slice A' m c'))) := (Below.refl _ _).alloc (Nat.le_refl _) _
  have hrx := Rc.new w (.bool neg) (.slice A n c) (.slice A' m c')
  have hx1 := hx.below hbA
  have hy1 := hy.below hbA
  have HLX := Lib.hid hx.len
  have HLY := Lib.hid hy.len
  have HX := Lib.hid hx1
  have HY := Lib.hid hy1
  obtain ⟨t, ht⟩ : ∃ t, pad ln = t := ⟨_, rfl⟩
  obtain ⟨u, hu⟩ : ∃ u, pad ld = u := ⟨_, rfl⟩
  have HT := Lib.hid ht
  have HU := Lib.hid hu
  clear hx hy hx1 hy1 ht hu
  rcases num_top HX.out with hn0 | ⟨j, b, o, rfl, rfl, hxx, hcx⟩ | ⟨j, b, o, x, rfl, rfl, hx0, hxx, hcx⟩
  · have HLN : Hid (ln = []) := List.eq_nil_of_length_eq_zero (by have := HLX.out; omega)
    have HPX : Hid (pad ln = false) := by show _ = _; rw [HLN.out]; rfl
    subst hn0
    rcases num_top HY.out with hm0 | ⟨i, b', o', rfl, rfl, hyy, hcy⟩ | ⟨i, b', o', y, rfl, rfl, hy0, hyy, hcy⟩
    · have HLD : Hid (ld = []) := List.eq_nil_of_length_eq_zero (by have := HLY.out; omega)
      have HO : Hid (decide (ld = [1]) = false) := decide_eq_false (by rw [HLD.out]; simp)
      have HW : Hid (V = !neg) := by
        show _ = _
        rw [← HV.out]; unfold vld
        rw [HLN.out, HLD.out, pad_nil]; cases neg <;> rfl
      subst hm0
      cases neg
      all_goals
        go_enter Tryz.func18, Tryz.ntmps18
        go_wp2_with fail
        refine (r_one _ _ _ _ _ false HY.out (by omega) HO).mono ?_
        rintro e w' ⟨rfl, rfl⟩
        go_wp2_with fail
        go_ret
        rw [HW.out]
        exact ⟨rfl, hbA⟩
    · have HW : Hid (V = false) := by
        show _ = _
        rw [← HV.out]; unfold vld
        rw [HPX.out, pad_top HLY.out.symm, hyy]; rfl
      clear hyy
      go_enter Tryz.func18, Tryz.ntmps18
      go_wp2_with fail
      go_ret
      rw [HW.out]
      exact ⟨rfl, hbA⟩
    · have HLD : Hid (ld ≠ []) := by intro h; have := HLY.out; rw [h] at this; simp at this
      have HPY : Hid (pad ld = false) := by show _ = _; rw [pad_top HLY.out.symm, hyy, decide_eq_false hy0]
      have hy0' := beq_zero_false hy0
      clear hyy hy0
      by_cases hone : ld = [1]
      · have HO : Hid (decide (ld = [1]) = true) := decide_eq_true hone
        have HW : Hid (V = false) := by
          show _ = _
          rw [← HV.out]; unfold vld
          rw [HPX.out, HPY.out, if_pos hone]; rfl
        clear hone
        go_enter Tryz.func18, Tryz.ntmps18
        go_wp2_with fail
        refine (r_one _ _ _ _ _ true HY.out (by omega) HO).mono ?_
        rintro e w' ⟨rfl, rfl⟩
        go_wp2_with fail
        go_ret
        rw [HW.out]
        exact ⟨rfl, hbA⟩
      · have HO : Hid (decide (ld = [1]) = false) := decide_eq_false hone
        have HW : Hid (V = false) := by
          show _ = _
          rw [← HV.out]; unfold vld
          rw [HPX.out, HPY.out, if_neg hone, if_pos HLN.out, decide_eq_false HLD.out]; rfl
        clear hone
        cases neg
        all_goals
          go_enter Tryz.func18, Tryz.ntmps18
          go_wp2_with fail
          refine (r_one _ _ _ _ _ false HY.out (by omega) HO).mono ?_
          rintro e w' ⟨rfl, rfl⟩
          go_wp2_with fail
          go_ret
          rw [HW.out]
          exact ⟨rfl, hbA⟩
  · have HW : Hid (V = false) := by
      show _ = _
      rw [← HV.out]; unfold vld
      rw [pad_top HLX.out.symm, hxx]; rfl
    clear hxx
    go_enter Tryz.func18, Tryz.ntmps18
    go_wp2_with fail
    go_ret
    rw [HW.out]
    exact ⟨rfl, hbA⟩
  · have HLN : Hid (ln ≠ []) := by intro h; have := HLX.out; rw [h] at this; simp at this
    have HPX : Hid (pad ln = false) := by show _ = _; rw [pad_top HLX.out.symm, hxx, decide_eq_false hx0]
    have hx0' := beq_zero_false hx0
    clear hx0 hxx
    rcases num_top HY.out with hm0 | ⟨i, b', o', rfl, rfl, hyy, hcy⟩ | ⟨i, b', o', y, rfl, rfl, hy0, hyy, hcy⟩
    · have HLD : Hid (ld = []) := List.eq_nil_of_length_eq_zero (by have := HLY.out; omega)
      have HO : Hid (decide (ld = [1]) = false) := decide_eq_false (by rw [HLD.out]; simp)
      have HW : Hid (V = true) := by
        show _ = _
        rw [← HV.out]; unfold vld
        rw [HPX.out, HLD.out, pad_nil]
        simp [HLN.out]
      subst hm0
      go_enter Tryz.func18, Tryz.ntmps18
      go_wp2_with fail
      refine (r_one _ _ _ _ _ false HY.out (by omega) HO).mono ?_
      rintro e w' ⟨rfl, rfl⟩
      go_wp2_with fail
      go_ret
      rw [HW.out]
      exact ⟨rfl, hbA⟩
    · have HW : Hid (V = false) := by
        show _ = _
        rw [← HV.out]; unfold vld
        rw [HPX.out, pad_top HLY.out.symm, hyy]; rfl
      clear hyy
      go_enter Tryz.func18, Tryz.ntmps18
      go_wp2_with fail
      go_ret
      rw [HW.out]
      exact ⟨rfl, hbA⟩
    · have HLD : Hid (ld ≠ []) := by intro h; have := HLY.out; rw [h] at this; simp at this
      have HPY : Hid (pad ld = false) := by show _ = _; rw [pad_top HLY.out.symm, hyy, decide_eq_false hy0]
      have hy0' := beq_zero_false hy0
      clear hyy hy0
      by_cases hone : ld = [1]
      · have HO : Hid (decide (ld = [1]) = true) := decide_eq_true hone
        have HW : Hid (V = false) := by
          show _ = _
          rw [← HV.out]; unfold vld
          rw [HPX.out, HPY.out, if_pos hone]; rfl
        clear hone
        go_enter Tryz.func18, Tryz.ntmps18
        go_wp2_with fail
        refine (r_one _ _ _ _ _ true HY.out (by omega) HO).mono ?_
        rintro e w' ⟨rfl, rfl⟩
        go_wp2_with fail
        go_ret
        rw [HW.out]
        exact ⟨rfl, hbA⟩
      · have HO : Hid (decide (ld = [1]) = false) := decide_eq_false hone
        have HC : Hid (decide (limbs (Nat.gcd (val ln) (val ld)) = [1]) = V) := by
          show _ = _
          rw [← HV.out]; unfold vld
          rw [HPX.out, HPY.out, if_neg hone, if_neg HLN.out, decide_eq_false HLD.out]
          rw [Bool.eq_iff_iff, decide_eq_true_iff, limbs_eq_one]; simp
        have e1 := canon_of_pad HX.out.lim HPX.out
        have e2 := canon_of_pad HY.out.lim HPY.out
        have hx2 := HX.out
        have hy2 := HY.out
        rw [e1] at hx2
        rw [e2] at hy2
        have hgl := gcd_len hx2.len hy2.len
        have HX2 := Lib.hid hx2
        have HY2 := Lib.hid hy2
        clear hone e1 e2 hx2 hy2
        go_enter Tryz.func18, Tryz.ntmps18
        go_wp2_with fail
        refine (r_one _ _ _ _ _ false HY.out (by omega) HO).mono ?_
        rintro e w' ⟨rfl, rfl⟩
        go_wp2_with fail
        refine (r_divisor _ _ _ _ _ _ (val ln) (val ld) _ HX2.out HY2.out (by omega) (by omega)).mono ?_
        rintro e w2 ⟨A2, n2, c2, rfl, h2, hb2⟩
        have hn2 : n2 ≤ 1073741824 := by rw [h2.len]; omega
        go_wp2_with fail
        refine (r_one _ _ _ _ _ V h2 hn2 HC).mono ?_
        rintro e w' ⟨rfl, rfl⟩
        go_wp2_with fail
        go_ret
        exact ⟨rfl, hbA.trans (hb2.mono hbA.size)⟩
theorem OwnR.keep {w w' : World} {B : Nat} {v : Value} {l : List Nat} (h : OwnR w B v l) (hg : w.grownBy w' none) : OwnR w' B v l := by
  refine ⟨h.1, ?_⟩
  rcases h.2 with h1 | ⟨g, cap, cur, h1, h2, h3, h4⟩
  · exact .inl h1
  · exact .inr ⟨g, cap, cur, h1, h2, (hg.block g (heap_lt h3) (fun e => by cases e)).trans h3, h4⟩
/-- append of limbs, as a step of a region that draws. -/
theorem step_app {w : World} {ops : Array Oper} {o : Oper} {a : Act} {Q : Exit → Act → World → Prop} {K : Act → World → Prop} {E : Prop} (hgd : o.guard = none) (sl x : Operand)
    (ho : o.op = .call { callee := .builtin .append, args := #[sl, x], argTypes := #[22, 22] }) (hty : o.type = 22) (v v' u : Value) (w' : World) (hs : a.eval sl = v) (hx : a.eval x = u)
    (hrun : Hid ((Builtin.append_ #[22, 22] 22 #[v, u]).run Tryz.prog w = .ok v' w')) (hK : K (a.put o.dst v') w') :
    if Region.wanted o (yielded ops a.tmps) = true then Oper.wp Tryz.prog o a w K Q else E := by
  have hw : Region.wanted o (yielded ops a.tmps) = true := by simp [Region.wanted, hgd]
  have hr := hrun.out
  rw [if_pos hw]
  unfold Oper.wp
  simp [execOp, ho, hty, resolve, invoke, builtin, hs, hx, hr, Result.andThen]
  exact hK
set_option maxRecDepth 20000 in
set_option maxHeartbeats 2000000 in
theorem r_Take_any (neg : Bool) (A A' : Option Addr) (n c m c' : Nat) (ln ld : List Nat) (q : Rat) (w : World) (hx : Num w ln A n c) (hy : Num w ld A' m c') (hn : n ≤ 1000000) (hm : m ≤ 1000000) (hq : fq neg ln ld = q) :
    Calls Tryz.prog 56 #[.agg #[.bool neg, .slice A n c, .slice A' m c']] w (RetRat w q) := by
  obtain ⟨V, hV⟩ : ∃ V, vld neg ln ld = V := ⟨_, rfl⟩
  have HV := Lib.hid hV
  have HQ := Lib.hid hq
  clear hV hq
  obtain ⟨hbA, hrx, hrr⟩ := blocks2 w (.bool neg) (.slice A n c) (.slice A' m c') (.bool false) (.slice none 0 0) (.slice none 0 0)
  have hxW := hx.below hbA
  have hyW := hy.below hbA
  go_enter Tryz.func56, Tryz.ntmps56
  go_wp2_with fail
  generalize ((w.alloc (R1 (.bool neg) (.slice A n c) (.slice A' m c'))).alloc (R1 (.bool false) (.slice none 0 0) (.slice none 0 0))) = W at *
  refine (r_Valid neg _ _ _ _ _ _ ln ld _ V hxW hyW hn hm HV).mono ?_
  rintro e w1 ⟨rfl, hb1⟩
  have hrx1 := hrx.below hb1 hrx.lt
  have hrr1 := hrr.below hb1 hrr.lt
  have hx1 := hxW.below hb1
  have hy1 := hyW.below hb1
  obtain ⟨k0, k1, k2⟩ := hrx1.cells
  have hb01 := hbA.trans (hb1.mono hbA.size)
  cases V
  · have hq0 : q = 0 := by rw [← HQ.out]; unfold fq; rw [HV.out]; rfl
    subst hq0
    obtain ⟨r0, r1, r2⟩ := hrr1.cells
    obtain ⟨f0, f1, f2⟩ := hrr1.frozen
    go_wp2_with fail
    refine ret_rc Tryz.results56 rfl (hrr1.set _ _ _) rfl ?_
    exact ⟨_, rfl, ratq_zero _, below_set3 hb01 (by omega) _ _ _⟩
  · have hlx : ln.length ≤ 1000000 := by rw [← hx1.len]; exact hn
    have hly : ld.length ≤ 1000000 := by rw [← hy1.len]; exact hm
    have hwl := hrr1.lt
    obtain ⟨v2, w2, hrun2, ho2, hg2, _⟩ := app_run w1.drew w1.heap.size (.slice none 0 0) [] ln (OwnR.nil _ _) A n c hx1.drew (by simp; omega) (Nat.le_refl _)
    have hb2 : Below w1.heap.size w1.drew w2 := (Below.refl _ _).grown hg2 (Nat.le_refl _) (fun k hk => by cases hk)
    have hrx2 := (hrx1.drewN 1).below hb2 hrx1.lt
    have hrr2 := (hrr1.drewN 1).below hb2 hrr1.lt
    have hy2 : Num w2 ld A' m c' := hy1.drew.below hb2
    obtain ⟨v3, w3, hrun3, ho3, hg3, _⟩ := app_run w2 w1.heap.size (.slice none 0 0) [] ld (OwnR.nil _ _) A' m c' hy2 (by simp; omega) hb2.size
    have hb3 : Below w1.heap.size w2 w3 := (Below.refl _ _).grown hg3 hb2.size (fun k hk => by cases hk)
    have hb13 := hb2.trans hb3
    have hrr3 := hrr2.below hb3 hrr1.lt
    have ho2' := OwnR.keep ho2 hg3
    rw [List.nil_append] at ho2' ho3
    obtain ⟨A2, c2, rfl, h2⟩ := ho2'.own hx1.lim
    obtain ⟨A3, c3, rfl, h3⟩ := ho3.own hy1.lim
    have HR2 := Lib.hid hrun2
    have HR3 := Lib.hid hrun3
    have hne2 := h2.num.ne_rc hrr3
    have hne3 := h3.num.ne_rc hrr3
    obtain ⟨k0, k1, k2⟩ := (hrx1.drewN 1).cells
    obtain ⟨m0, m1, m2⟩ := hrx2.cells
    obtain ⟨p0, p1, p2⟩ := (hrx2.below hb3 hrx1.lt).cells
    obtain ⟨r0, r1, r2⟩ := hrr3.cells
    obtain ⟨f0, f1, f2⟩ := hrr3.frozen
    have hb03 := (hb01.trans (below_drewN (Below.refl _ w1) 1)).trans (hb13.mono hb01.size)
    clear hg2 hg3 ho2 ho3 ho2' hrun2 hrun3
    go_wp2_with fail
    go_region_law (first | (refine step_app rfl (.const (.slice none 0 0)) (.tmp 10) rfl rfl _ _ _ _ rfl rfl HR2 ?_) | (refine step_app rfl (.const (.slice none 0 0)) (.tmp 13) rfl rfl _ _ _ _ rfl rfl HR3 ?_))
    all_goals
      go_wp2_with fail
      refine ret_rc Tryz.results56 rfl (hrr3.set _ _ _) rfl ?_
      refine ⟨_, rfl, ?_, below_set3 hb03 (by omega) _ _ _⟩
      rw [← HQ.out]
      exact ratq_of HV.out (h2.num.set3 hne2 _ _ _) (h3.num.set3 hne3 _ _ _)
/-- What a function of the specification is given. -/
def Inr (w : World) (v : Value) (q : Rat) : Prop :=
  ∃ neg A n c A' m c' ln ld, v = .agg #[.bool neg, .slice A n c, .slice A' m c'] ∧ Num w ln A n c ∧ Num w ld A' m c' ∧ n ≤ 1000000 ∧ m ≤ 1000000 ∧ fq neg ln ld = q
theorem Inr.agg {w : World} {v : Value} {q : Rat} (h : Inr w v q) : ∃ nb A n c B m e, v = .agg #[.bool nb, .slice A n c, .slice B m e] := by
  obtain ⟨neg, A, n, c, A', m, c', ln, ld, e, _⟩ := h
  exact ⟨_, _, _, _, _, _, _, e⟩
theorem Inr.below {w w' : World} {v : Value} {q : Rat} (h : Inr w v q) (hb : Below w.heap.size w w') : Inr w' v q := by
  obtain ⟨neg, A, n, c, A', m, c', ln, ld, e, h1, h2, h3⟩ := h
  exact ⟨neg, A, n, c, A', m, c', ln, ld, e, h1.below hb, h2.below hb, h3⟩
theorem r_Take (v : Value) (q : Rat) (w : World) (h : Inr w v q) : Calls Tryz.prog 56 #[v] w (RetRat w q) := by
  obtain ⟨neg, A, n, c, A', m, c', ln, ld, rfl, h1, h2, h3, h4, h5⟩ := h
  exact r_Take_any neg A A' n c m c' ln ld q w h1 h2 h3 h4 h5
end Go.Proofs.YtggmmgojpamcpaaGreatDoor

namespace Go.Proofs.YtggmmgojpamcpaaGreatDoor
open Go.RowKit

set_option maxHeartbeats 1000000 in
theorem r_same (A A' : Option Addr) (n c m c' : Nat) (l r : List Nat) (w : World) (V : Bool) (hx : Num w l A n c) (hy : Num w r A' m c') (hn : n ≤ 1073741824) (hm : m ≤ 1073741824) (H : Hid (decide (l = r) = V)) :
    Calls Tryz.prog 63 #[.slice A n c, .slice A' m c'] w (RetQ w (.bool V)) := by
  by_cases hnm : n = m
  · subst hnm
    have h1 : ((n : Int) != n) = false := by simp
    go_enter Tryz.func63, Tryz.ntmps63
    go_wp2
    go_loopw [5] (fun i wr => ∃ k q : Nat, k ≤ n ∧ i = .int .i64 (k : Int) ∧ wr = w.drewN q ∧ Hid (∀ j, j < k → l.getD j 0 = r.getD j 0)) (fun i _ => (n - intOf i).toNat)
    case atStart => exact ⟨0, 0, Nat.zero_le _, rfl, rfl, show Hid _ from fun j h1 => by omega⟩
    case round =>
      obtain ⟨k, q, hk, rfl, rfl, HE⟩ := hrel
      rcases Nat.lt_or_ge k n with hkn | hkn
      · obtain ⟨b, o, x, rfl, _, hx', _, hcx⟩ := hx.at_ hkn
        obtain ⟨b', o', y, rfl, _, hy', _, hcy⟩ := hy.at_ hkn
        have hkn2 : (k : Int) < (n : Int) := by omega
        have HX := Lib.hid hx'; have HY := Lib.hid hy'
        have LX := Lib.hid hx; have LY := Lib.hid hy
        clear hx' hy' hx hy
        by_cases hxy : x = y
        · have hne : ((x : Int) != y) = false := by simp; omega
          have hne2 : ((y : Int) != y) = false := by simp
          subst hxy
          go_wp2_with fail
          go_quiet (fail)
          go_wp2_with fail
          go_roundw
          case rel => exact ⟨k + 1, _, by omega, congrArg (Value.int _) (by omega), rfl, show Hid _ from fun i hi1 => by
            rcases Nat.lt_or_eq_of_le (Nat.le_of_lt_succ hi1) with hi | hi
            · exact HE.out i hi
            · subst hi; rw [HX.out, HY.out]⟩
          case measure => simp [intOf]; omega
        · have hne : ((x : Int) != y) = true := by simp; omega
          go_wp2_with fail
          go_quiet (fail)
          go_wp2_with fail
          go_ret
          refine ⟨ret_bool ?_, draws2 ..⟩
          rw [← H.out]
          exact (decide_eq_false (fun h => hxy (by rw [← HX.out, ← HY.out, h]))).symm
      · have hlt : ¬ (k : Int) < (n : Int) := by omega
        go_wp2_with fail
        go_ret
        refine ⟨ret_bool ?_, q, rfl⟩
        rw [← H.out]
        exact (decide_eq_true (eq_of_getD (hx.len.symm.trans hy.len) (fun j hj => HE.out j (by have := hx.len; omega)))).symm
  · have h1 : ((n : Int) != m) = true := by simp; omega
    go_enter Tryz.func63, Tryz.ntmps63
    go_wp2
    go_ret
    refine ⟨ret_bool ?_, 0, rfl⟩
    rw [← H.out]
    exact (decide_eq_false (fun h => hnm (by rw [hx.len, hy.len, h]))).symm

set_option maxRecDepth 20000 in
set_option maxHeartbeats 1000000 in
theorem r_Sign (v : Value) (q : Rat) (w : World) (h : Inr w v q) : Calls Tryz.prog 23 #[v] w (RetV w (.int .i64 q.num.sign)) := by
  obtain ⟨z0, Z, zn, zc, Z', zm, ze, rfl⟩ := h.agg
  have hbA : Below w.heap.size w (w.alloc (R1 (.bool z0) (.slice Z zn zc) (.slice Z' zm ze))) := (Below.refl _ _).alloc (Nat.le_refl _) _
  have hrx := Rc.new w (.bool z0) (.slice Z zn zc) (.slice Z' zm ze)
  go_enter Tryz.func23, Tryz.ntmps23
  go_wp2_with fail
  refine (r_Take _ q _ (h.below hbA)).mono ?_
  rintro e w1 ⟨v1, rfl, h1, hb1⟩
  have hrx1 := hrx.below hb1 hrx.lt
  obtain ⟨nb, A, n, c, A', m, c', rfl⟩ := h1.agg
  obtain ⟨k0, k1, k2⟩ := hrx1.cells
  obtain ⟨f0, f1, f2⟩ := hrx1.frozen
  obtain ⟨hnb, hN, hD⟩ := h1.parts
  have hb2 := below_set3 (hbA.trans (hb1.mono hbA.size)) (Nat.le_refl w.heap.size) (.bool nb) (.slice A n c) (.slice A' m c')
  have HS : Hid ((q.num < 0 ∧ nb = true ∧ q.num.sign = -1) ∨ (nb = false ∧ (0 : Int) < (n : Int) ∧ q.num.sign = 1) ∨ (nb = false ∧ n = 0 ∧ q.num.sign = 0)) := by
    show _ ∨ _
    have l1 := hN.len
    by_cases h : q.num < 0
    · exact .inl ⟨h, by rw [hnb]; exact decide_eq_true h, Int.sign_eq_neg_one_of_neg h⟩
    · right
      have hb : nb = false := by rw [hnb]; exact decide_eq_false h
      by_cases h0 : q.num = 0
      · right
        exact ⟨hb, by rw [l1, h0]; rw [show (0 : Int).natAbs = 0 from rfl, limbs_zero]; rfl, by rw [h0]; rfl⟩
      · left
        have h3 : n ≠ 0 := fun e => h0 (by have := limbs_length_zero.1 (l1.symm.trans e); omega)
        exact ⟨hb, by omega, Int.sign_eq_one_of_pos (by omega)⟩
  have hs := HS.out
  clear hnb HS
  rcases hs with ⟨_, rfl, hs⟩ | ⟨rfl, hp, hs⟩ | ⟨rfl, rfl, hs⟩
  all_goals
    have HS2 := Lib.hid hs
    clear hs
    go_wp2_with fail
    go_ret
    rw [HS2.out]
    exact ⟨rfl, hb2⟩

set_option maxRecDepth 20000 in
set_option maxHeartbeats 2000000 in
/-- Same, of whatever fields. -/
theorem r_Same_any (neg neg' : Bool) (A A' D D' : Option Addr) (n c m e n' c' m' e' : Nat) (ln ld ln' ld' : List Nat) (w : World) (V : Bool) (hx : Num w ln A n c) (hy : Num w ld A' m e) (hx' : Num w ln' D n' c') (hy' : Num w ld' D' m' e') (h1 : n ≤ 100000000) (h2 : m ≤ 100000000) (h3 : n' ≤ 100000000) (h4 : m' ≤ 100000000) (H : Hid (decide (neg = neg' ∧ ln = ln' ∧ ld = ld') = V)) :
    Calls Tryz.prog 19 #[.agg #[.bool neg, .slice A n c, .slice A' m e], .agg #[.bool neg', .slice D n' c', .slice D' m' e']] w (RetV w (.bool V)) := by
  obtain ⟨hbA, hrx, hry⟩ := blocks2 w (.bool neg) (.slice A n c) (.slice A' m e) (.bool neg') (.slice D n' c') (.slice D' m' e')
  have gx := hx.below hbA
  have gy := hy.below hbA
  have gx' := hx'.below hbA
  have gy' := hy'.below hbA
  by_cases hn : neg = neg'
  · subst hn
    by_cases hl : ln = ln'
    · have HL : Hid (decide (ln = ln') = true) := decide_eq_true hl
      have HV : Hid (decide (ld = ld') = V) := by show _ = _; rw [← H.out]; simp [hl]
      clear H hl
      cases neg
      all_goals
        go_enter Tryz.func19, Tryz.ntmps19
        go_wp2_with fail
        refine (r_same _ _ _ _ _ _ ln ln' _ true gx gx' (by omega) (by omega) HL).mono ?_
        rintro e1 w' ⟨rfl, q, rfl⟩
        obtain ⟨x0, x1, x2⟩ := (hrx.drewN q).cells
        obtain ⟨y0, y1, y2⟩ := (hry.drewN q).cells
        go_wp2_with fail
        refine (r_same _ _ _ _ _ _ ld ld' _ V (gy.drewN q) (gy'.drewN q) (by omega) (by omega) HV).mono ?_
        rintro e1 w' ⟨rfl, q', rfl⟩
        go_wp2_with fail
        go_ret
        exact ⟨rfl, below_drewN hbA _⟩
    · have HL : Hid (decide (ln = ln') = false) := decide_eq_false hl
      have HV : Hid (V = false) := by show _ = _; rw [← H.out]; simp [hl]
      clear H hl
      cases neg
      all_goals
        go_enter Tryz.func19, Tryz.ntmps19
        go_wp2_with fail
        refine (r_same _ _ _ _ _ _ ln ln' _ false gx gx' (by omega) (by omega) HL).mono ?_
        rintro e1 w' ⟨rfl, q, rfl⟩
        go_wp2_with fail
        go_ret
        rw [HV.out]
        exact ⟨rfl, below_drewN hbA q⟩
  · have HV : Hid (V = false) := by show _ = _; rw [← H.out]; simp [hn]
    have hbb : (neg == neg') = false := beq_eq_false_iff_ne.2 hn
    clear H hn
    cases neg <;> cases neg'
    all_goals first | (simp at hbb; done) | skip
    all_goals
      go_enter Tryz.func19, Tryz.ntmps19
      go_wp2_with fail
      go_ret
      rw [HV.out]
      exact ⟨rfl, hbA⟩
theorem dl_inj {a b : Nat} (ha : a ≠ 0) (hb : b ≠ 0) (h : dl a = dl b) : a = b := by
  unfold dl at h
  by_cases h1 : a = 1
  · rw [if_pos h1] at h
    by_cases h2 : b = 1
    · omega
    · rw [if_neg h2] at h
      exact absurd (limbs_nil.1 h.symm) hb
  · rw [if_neg h1] at h
    by_cases h2 : b = 1
    · rw [if_pos h2] at h
      exact absurd (limbs_nil.1 h) ha
    · rw [if_neg h2] at h
      exact limbs_inj h
theorem r_Same (v v' : Value) (x y : Rat) (w : World) (h : RatQ w v x) (h' : RatQ w v' y) (sx : Sz x 100000000) (sy : Sz y 100000000) :
    Calls Tryz.prog 19 #[v, v'] w (RetV w (.bool (decide (x = y)))) := by
  obtain ⟨A, n, c, A', m, e, rfl, h1, h2⟩ := h
  obtain ⟨D, n', c', D', m', e', rfl, h3, h4⟩ := h'
  refine r_Same_any _ _ _ _ _ _ _ _ _ _ _ _ _ _ _ _ _ _ w _ h1 h2 h3 h4 (by rw [h1.len]; exact sx.1) (by rw [h2.len]; exact Nat.le_trans (dl_length _) sx.2) (by rw [h3.len]; exact sy.1) (by rw [h4.len]; exact Nat.le_trans (dl_length _) sy.2) ?_
  show _ = _
  congr 1
  refine propext ⟨fun ⟨a1, a2, a3⟩ => ?_, fun h => by rw [h]; exact ⟨rfl, rfl, rfl⟩⟩
  have b2 := limbs_inj a2
  have b3 := dl_inj x.den_nz y.den_nz a3
  have b1 : x.num = y.num := by
    have : (x.num < 0) ↔ (y.num < 0) := by simpa using a1
    omega
  exact Rat.ext b1 b3

set_option maxRecDepth 20000 in
set_option maxHeartbeats 1000000 in
theorem r_Light (neg : Bool) (A A' : Option Addr) (n c m c' k : Nat) (w : World) (V : Bool) (H : Hid ((decide (n ≤ k) && decide (m ≤ k)) = V)) :
    Calls Tryz.prog 47 #[.agg #[.bool neg, .slice A n c, .slice A' m c'], .int .i64 k] w (RetV w (.bool V)) := by
  have hbA : Below w.heap.size w (w.alloc (R1 (.bool neg) (.slice A n c) (.slice A' m c'))) := (Below.refl _ _).alloc (Nat.le_refl _) _
  have h := H.out
  clear H
  by_cases hn : n ≤ k
  · have h1 : decide ((n : Int) ≤ (k : Int)) = true := decide_eq_true (by omega)
    have h1' : (n : Int) ≤ (k : Int) := by omega
    by_cases hm : m ≤ k
    · have h2 : (m : Int) ≤ (k : Int) := by omega
      have HV : Hid (V = true) := by show _ = _; rw [← h]; simp [hn, hm]
      clear h hn hm
      go_enter Tryz.func47, Tryz.ntmps47
      go_wp2_with fail
      go_ret
      rw [HV.out]
      exact ⟨rfl, hbA⟩
    · have h2 : ¬ (m : Int) ≤ (k : Int) := by omega
      have h2' : decide ((m : Int) ≤ (k : Int)) = false := decide_eq_false (by omega)
      have HV : Hid (V = false) := by show _ = _; rw [← h]; simp [hm]
      clear h hn hm
      go_enter Tryz.func47, Tryz.ntmps47
      go_wp2_with fail
      go_ret
      rw [HV.out]
      exact ⟨rfl, hbA⟩
  · have h2 : ¬ (n : Int) ≤ (k : Int) := by omega
    have h2' : decide ((n : Int) ≤ (k : Int)) = false := decide_eq_false (by omega)
    have HV : Hid (V = false) := by show _ = _; rw [← h]; simp [hn]
    clear h hn
    go_enter Tryz.func47, Tryz.ntmps47
    go_wp2_with fail
    go_ret
    rw [HV.out]
    exact ⟨rfl, hbA⟩
end Go.Proofs.YtggmmgojpamcpaaGreatDoor
