/- Better at Tropical and Viterbi. -/
import Derived.Test.YtafoplnpnoedfaaGreatDoorQ25
import Derived.Test.YtafoplnpnoedfaaGreatDoorQ26
set_option linter.unusedVariables false
set_option linter.unusedSimpArgs false
namespace Go.Proofs.YtafoplnpnoedfaaGreatDoor
open Go.RowKit

set_option maxRecDepth 20000 in
set_option maxHeartbeats 4000000 in
theorem Better_cost (c d : Int) (i j V : Bool) (w : World) (hc : Cost c i) (hd : Cost d j) (H : Hid ((!i && (j || decide (c < d))) = V)) : Calls Tryz.prog 6 #[.agg #[.int .i64 2, .slice none 0 0], tw c i, tw d j] w (RetV w (.bool V)) := by
  obtain ⟨hb0, c0, cv, cw⟩ := blk3 w [.int .i64 2, .slice none 0 0] [.bool false, .slice none 0 0, .slice none 0 0, .int .i64 c, .bool i, .int .u64 0, .slice none 0 0, .slice none 0 0] [.bool false, .slice none 0 0, .slice none 0 0, .int .i64 d, .bool j, .int .u64 0, .slice none 0 0, .slice none 0 0] 24 32 32
  go_enter Tryz.func6, Tryz.ntmps6
  go_wp2_with fail
  generalize (((w.alloc (.cells #[.int .i64 2, .slice none 0 0] 24)).alloc (.cells #[.bool false, .slice none 0 0, .slice none 0 0, .int .i64 c, .bool i, .int .u64 0, .slice none 0 0, .slice none 0 0] 32)).alloc (.cells #[.bool false, .slice none 0 0, .slice none 0 0, .int .i64 d, .bool j, .int .u64 0, .slice none 0 0, .slice none 0 0] 32)) = W0 at *
  refine (find_cost _).mono ?_
  rintro e0 w1 ⟨b1, b2, rfl, hC, hb1⟩
  replace hb0 := hb0.trans (hb1.mono hb0.size)
  replace c0 := c0.below hb1 c0.lt
  replace cv := cv.below hb1 cv.lt
  replace cw := cw.below hb1 cw.lt
  clear hb1
  go_wp2_with fail
  have c7 := Cs.new w1 (copsL b1 b2) 55
  have hal : Below w1.heap.size w1 (w1.alloc (.cells (copsL b1 b2).toArray 55)) := (Below.refl _ _).alloc (Nat.le_refl _) _
  replace hb0 := hb0.trans (hal.mono hb0.size)
  replace hC : CCl (w1.alloc (.cells (copsL b1 b2).toArray 55)) b1 b2 := Cl.below hC hal
  replace cv := cv.below hal cv.lt
  replace cw := cw.below hal cw.lt
  clear c0 hal
  generalize (w1.alloc (.cells #[fv 79, cln b1 b2, fv 78, fv 80, fv 81, fv 82, fv 83, fv 84, fv 85, fv 86] 55)) = W at *
  generalize w1.heap.size = g7 at *
  replace hb0 := hb0.drew
  replace hC : CCl W.drew b1 b2 := Cl.drew hC
  replace c7 := c7.drew
  replace cv := cv.drew
  replace cw := cw.drew
  have hrl : (W.drew.cell? ⟨g7, 7, none⟩ = some (fv 84) ∧ W.drew.cell? ⟨g7, 1, none⟩ = some (cln b1 b2)) ∧ (W.drew.cell? ⟨w.heap.size + 1, 0, none⟩ = some (.bool false) ∧ W.drew.cell? ⟨w.heap.size + 1, 1, none⟩ = some (.slice none 0 0) ∧ W.drew.cell? ⟨w.heap.size + 1, 2, none⟩ = some (.slice none 0 0) ∧ W.drew.cell? ⟨w.heap.size + 1, 3, none⟩ = some (.int .i64 c) ∧ W.drew.cell? ⟨w.heap.size + 1, 4, none⟩ = some (.bool i) ∧ W.drew.cell? ⟨w.heap.size + 1, 5, none⟩ = some (.int .u64 0) ∧ W.drew.cell? ⟨w.heap.size + 1, 6, none⟩ = some (.slice none 0 0) ∧ W.drew.cell? ⟨w.heap.size + 1, 7, none⟩ = some (.slice none 0 0)) ∧ (W.drew.cell? ⟨w.heap.size + 1 + 1, 0, none⟩ = some (.bool false) ∧ W.drew.cell? ⟨w.heap.size + 1 + 1, 1, none⟩ = some (.slice none 0 0) ∧ W.drew.cell? ⟨w.heap.size + 1 + 1, 2, none⟩ = some (.slice none 0 0) ∧ W.drew.cell? ⟨w.heap.size + 1 + 1, 3, none⟩ = some (.int .i64 d) ∧ W.drew.cell? ⟨w.heap.size + 1 + 1, 4, none⟩ = some (.bool j) ∧ W.drew.cell? ⟨w.heap.size + 1 + 1, 5, none⟩ = some (.int .u64 0) ∧ W.drew.cell? ⟨w.heap.size + 1 + 1, 6, none⟩ = some (.slice none 0 0) ∧ W.drew.cell? ⟨w.heap.size + 1 + 1, 7, none⟩ = some (.slice none 0 0)) := ⟨⟨c7.cell rfl, c7.cell rfl⟩, cv.c8, cw.c8⟩
  go_region_held3 (fun w' => (w'.cell? ⟨g7, 7, none⟩ = some (fv 84) ∧ w'.cell? ⟨g7, 1, none⟩ = some (cln b1 b2)) ∧ (w'.cell? ⟨w.heap.size + 1, 0, none⟩ = some (.bool false) ∧ w'.cell? ⟨w.heap.size + 1, 1, none⟩ = some (.slice none 0 0) ∧ w'.cell? ⟨w.heap.size + 1, 2, none⟩ = some (.slice none 0 0) ∧ w'.cell? ⟨w.heap.size + 1, 3, none⟩ = some (.int .i64 c) ∧ w'.cell? ⟨w.heap.size + 1, 4, none⟩ = some (.bool i) ∧ w'.cell? ⟨w.heap.size + 1, 5, none⟩ = some (.int .u64 0) ∧ w'.cell? ⟨w.heap.size + 1, 6, none⟩ = some (.slice none 0 0) ∧ w'.cell? ⟨w.heap.size + 1, 7, none⟩ = some (.slice none 0 0)) ∧ (w'.cell? ⟨w.heap.size + 1 + 1, 0, none⟩ = some (.bool false) ∧ w'.cell? ⟨w.heap.size + 1 + 1, 1, none⟩ = some (.slice none 0 0) ∧ w'.cell? ⟨w.heap.size + 1 + 1, 2, none⟩ = some (.slice none 0 0) ∧ w'.cell? ⟨w.heap.size + 1 + 1, 3, none⟩ = some (.int .i64 d) ∧ w'.cell? ⟨w.heap.size + 1 + 1, 4, none⟩ = some (.bool j) ∧ w'.cell? ⟨w.heap.size + 1 + 1, 5, none⟩ = some (.int .u64 0) ∧ w'.cell? ⟨w.heap.size + 1 + 1, 6, none⟩ = some (.slice none 0 0) ∧ w'.cell? ⟨w.heap.size + 1 + 1, 7, none⟩ = some (.slice none 0 0)))
    (first | with_reducible exact hrl | fail)
    (first
      | (have _g := mk2; go_at_call 84; refine (cheaper_any c d i j V _ H).mono ?_; rintro e0 x3 ⟨rfl, hbk⟩; replace hb0 := hb0.trans (hbk.mono hb0.size); replace c7 := c7.below hbk c7.lt; replace cv := cv.below hbk cv.lt; replace cw := cw.below hbk cw.lt; have hrl : (x3.cell? ⟨g7, 7, none⟩ = some (fv 84) ∧ x3.cell? ⟨g7, 1, none⟩ = some (cln b1 b2)) ∧ (x3.cell? ⟨w.heap.size + 1, 0, none⟩ = some (.bool false) ∧ x3.cell? ⟨w.heap.size + 1, 1, none⟩ = some (.slice none 0 0) ∧ x3.cell? ⟨w.heap.size + 1, 2, none⟩ = some (.slice none 0 0) ∧ x3.cell? ⟨w.heap.size + 1, 3, none⟩ = some (.int .i64 c) ∧ x3.cell? ⟨w.heap.size + 1, 4, none⟩ = some (.bool i) ∧ x3.cell? ⟨w.heap.size + 1, 5, none⟩ = some (.int .u64 0) ∧ x3.cell? ⟨w.heap.size + 1, 6, none⟩ = some (.slice none 0 0) ∧ x3.cell? ⟨w.heap.size + 1, 7, none⟩ = some (.slice none 0 0)) ∧ (x3.cell? ⟨w.heap.size + 1 + 1, 0, none⟩ = some (.bool false) ∧ x3.cell? ⟨w.heap.size + 1 + 1, 1, none⟩ = some (.slice none 0 0) ∧ x3.cell? ⟨w.heap.size + 1 + 1, 2, none⟩ = some (.slice none 0 0) ∧ x3.cell? ⟨w.heap.size + 1 + 1, 3, none⟩ = some (.int .i64 d) ∧ x3.cell? ⟨w.heap.size + 1 + 1, 4, none⟩ = some (.bool j) ∧ x3.cell? ⟨w.heap.size + 1 + 1, 5, none⟩ = some (.int .u64 0) ∧ x3.cell? ⟨w.heap.size + 1 + 1, 6, none⟩ = some (.slice none 0 0) ∧ x3.cell? ⟨w.heap.size + 1 + 1, 7, none⟩ = some (.slice none 0 0)) := ⟨⟨c7.cell rfl, c7.cell rfl⟩, cv.c8, cw.c8⟩)
      | (have _g := mk1; go_at_call 128; refine (cln_cost d j b1 b2 _ hd hC).mono ?_; rintro e0 x2 ⟨rfl, hbk⟩; replace hb0 := hb0.trans (hbk.mono hb0.size); replace c7 := c7.below hbk c7.lt; replace cv := cv.below hbk cv.lt; replace cw := cw.below hbk cw.lt; have mk2 := Lib.hid (rfl : 1 = 1); have hrl : (x2.cell? ⟨g7, 7, none⟩ = some (fv 84) ∧ x2.cell? ⟨g7, 1, none⟩ = some (cln b1 b2)) ∧ (x2.cell? ⟨w.heap.size + 1, 0, none⟩ = some (.bool false) ∧ x2.cell? ⟨w.heap.size + 1, 1, none⟩ = some (.slice none 0 0) ∧ x2.cell? ⟨w.heap.size + 1, 2, none⟩ = some (.slice none 0 0) ∧ x2.cell? ⟨w.heap.size + 1, 3, none⟩ = some (.int .i64 c) ∧ x2.cell? ⟨w.heap.size + 1, 4, none⟩ = some (.bool i) ∧ x2.cell? ⟨w.heap.size + 1, 5, none⟩ = some (.int .u64 0) ∧ x2.cell? ⟨w.heap.size + 1, 6, none⟩ = some (.slice none 0 0) ∧ x2.cell? ⟨w.heap.size + 1, 7, none⟩ = some (.slice none 0 0)) ∧ (x2.cell? ⟨w.heap.size + 1 + 1, 0, none⟩ = some (.bool false) ∧ x2.cell? ⟨w.heap.size + 1 + 1, 1, none⟩ = some (.slice none 0 0) ∧ x2.cell? ⟨w.heap.size + 1 + 1, 2, none⟩ = some (.slice none 0 0) ∧ x2.cell? ⟨w.heap.size + 1 + 1, 3, none⟩ = some (.int .i64 d) ∧ x2.cell? ⟨w.heap.size + 1 + 1, 4, none⟩ = some (.bool j) ∧ x2.cell? ⟨w.heap.size + 1 + 1, 5, none⟩ = some (.int .u64 0) ∧ x2.cell? ⟨w.heap.size + 1 + 1, 6, none⟩ = some (.slice none 0 0) ∧ x2.cell? ⟨w.heap.size + 1 + 1, 7, none⟩ = some (.slice none 0 0)) := ⟨⟨c7.cell rfl, c7.cell rfl⟩, cv.c8, cw.c8⟩)
      | (go_at_call 128; refine (cln_cost c i b1 b2 _ hc hC).mono ?_; rintro e0 x1 ⟨rfl, hbk⟩; replace hC : CCl x1 b1 b2 := Cl.below hC hbk; replace hb0 := hb0.trans (hbk.mono hb0.size); replace c7 := c7.below hbk c7.lt; replace cv := cv.below hbk cv.lt; replace cw := cw.below hbk cw.lt; have mk1 := Lib.hid (rfl : 1 = 1); have hrl : (x1.cell? ⟨g7, 7, none⟩ = some (fv 84) ∧ x1.cell? ⟨g7, 1, none⟩ = some (cln b1 b2)) ∧ (x1.cell? ⟨w.heap.size + 1, 0, none⟩ = some (.bool false) ∧ x1.cell? ⟨w.heap.size + 1, 1, none⟩ = some (.slice none 0 0) ∧ x1.cell? ⟨w.heap.size + 1, 2, none⟩ = some (.slice none 0 0) ∧ x1.cell? ⟨w.heap.size + 1, 3, none⟩ = some (.int .i64 c) ∧ x1.cell? ⟨w.heap.size + 1, 4, none⟩ = some (.bool i) ∧ x1.cell? ⟨w.heap.size + 1, 5, none⟩ = some (.int .u64 0) ∧ x1.cell? ⟨w.heap.size + 1, 6, none⟩ = some (.slice none 0 0) ∧ x1.cell? ⟨w.heap.size + 1, 7, none⟩ = some (.slice none 0 0)) ∧ (x1.cell? ⟨w.heap.size + 1 + 1, 0, none⟩ = some (.bool false) ∧ x1.cell? ⟨w.heap.size + 1 + 1, 1, none⟩ = some (.slice none 0 0) ∧ x1.cell? ⟨w.heap.size + 1 + 1, 2, none⟩ = some (.slice none 0 0) ∧ x1.cell? ⟨w.heap.size + 1 + 1, 3, none⟩ = some (.int .i64 d) ∧ x1.cell? ⟨w.heap.size + 1 + 1, 4, none⟩ = some (.bool j) ∧ x1.cell? ⟨w.heap.size + 1 + 1, 5, none⟩ = some (.int .u64 0) ∧ x1.cell? ⟨w.heap.size + 1 + 1, 6, none⟩ = some (.slice none 0 0) ∧ x1.cell? ⟨w.heap.size + 1 + 1, 7, none⟩ = some (.slice none 0 0)) := ⟨⟨c7.cell rfl, c7.cell rfl⟩, cv.c8, cw.c8⟩)
      | fail)
  go_wp2_with fail
  go_ret
  exact ⟨rfl, hb0⟩

set_option maxRecDepth 20000 in
set_option maxHeartbeats 4000000 in
theorem Better_chance (A B A1 B1 : Option Addr) (n c m e n1 c1 m1 e1 : Nat) (x y : Rat) (X Y V : Int) (w : World) (hT : Tab w) (hx : RatQ w (.agg #[.bool false, .slice A n c, .slice B m e]) x) (hy : RatQ w (.agg #[.bool false, .slice A1 n1 c1, .slice B1 m1 e1]) y) (sx : Sz x 100000) (sy : Sz y 100000) (HX : Hid (cmpQ x 1 = X)) (hX : X ≤ 0) (HY : Hid (cmpQ y 1 = Y)) (hY : Y ≤ 0) (HV : Hid (cmpQ x y = V)) : Calls Tryz.prog 6 #[.agg #[.int .i64 3, .slice none 0 0], aw (.bool false) (.slice A n c) (.slice B m e) 0 false, aw (.bool false) (.slice A1 n1 c1) (.slice B1 m1 e1) 0 false] w (RetV w (.bool (decide (0 < V)))) := by
  obtain ⟨hb0, c0, cv, cw⟩ := blk3 w [.int .i64 3, .slice none 0 0] [.bool false, .slice A n c, .slice B m e, .int .i64 0, .bool false, .int .u64 0, .slice none 0 0, .slice none 0 0] [.bool false, .slice A1 n1 c1, .slice B1 m1 e1, .int .i64 0, .bool false, .int .u64 0, .slice none 0 0, .slice none 0 0] 24 32 32
  replace hx := hx.below hb0
  replace hy := hy.below hb0
  replace hT := hT.below hb0
  go_enter Tryz.func6, Tryz.ntmps6
  go_wp2_with fail
  generalize (((w.alloc (.cells #[.int .i64 3, .slice none 0 0] 24)).alloc (.cells #[.bool false, .slice A n c, .slice B m e, .int .i64 0, .bool false, .int .u64 0, .slice none 0 0, .slice none 0 0] 32)).alloc (.cells #[.bool false, .slice A1 n1 c1, .slice B1 m1 e1, .int .i64 0, .bool false, .int .u64 0, .slice none 0 0, .slice none 0 0] 32)) = W0 at *
  refine (find_chance _).mono ?_
  rintro e0 w1 ⟨b1, b2, bu, rfl, hC, hb1⟩
  replace hx := hx.below hb1
  replace hy := hy.below hb1
  replace hT := hT.below hb1
  replace hb0 := hb0.trans (hb1.mono hb0.size)
  replace c0 := c0.below hb1 c0.lt
  replace cv := cv.below hb1 cv.lt
  replace cw := cw.below hb1 cw.lt
  clear hb1
  go_wp2_with fail
  have c7 := Cs.new w1 (vopsL b1 b2 bu) 55
  have hal : Below w1.heap.size w1 (w1.alloc (.cells (vopsL b1 b2 bu).toArray 55)) := (Below.refl _ _).alloc (Nat.le_refl _) _
  replace hb0 := hb0.trans (hal.mono hb0.size)
  replace hC : VCl (w1.alloc (.cells (vopsL b1 b2 bu).toArray 55)) b1 b2 := Cl.below hC hal
  replace cv := cv.below hal cv.lt
  replace cw := cw.below hal cw.lt
  replace hx := hx.below hal
  replace hy := hy.below hal
  replace hT := hT.below hal
  clear c0 hal
  generalize (w1.alloc (.cells #[fv 89, cln b1 b2, fv 80, fv 87, fv 90, fv 91, .func (.func 92) #[] #[.pointer (some ⟨bu, 0, none⟩)], fv 93, fv 94, fv 96] 55)) = W at *
  generalize w1.heap.size = g7 at *
  replace hb0 := hb0.drew
  replace hC : VCl W.drew b1 b2 := Cl.drew hC
  replace c7 := c7.drew
  replace cv := cv.drew
  replace cw := cw.drew
  replace hx : RatQ W.drew _ x := hx.below (Below.refl _ _).drew
  replace hy : RatQ W.drew _ y := hy.below (Below.refl _ _).drew
  replace hT := hT.drew
  have hrl : (W.drew.cell? ⟨g7, 7, none⟩ = some (fv 93) ∧ W.drew.cell? ⟨g7, 1, none⟩ = some (cln b1 b2)) ∧ (W.drew.cell? ⟨w.heap.size + 1, 0, none⟩ = some (.bool false) ∧ W.drew.cell? ⟨w.heap.size + 1, 1, none⟩ = some (.slice A n c) ∧ W.drew.cell? ⟨w.heap.size + 1, 2, none⟩ = some (.slice B m e) ∧ W.drew.cell? ⟨w.heap.size + 1, 3, none⟩ = some (.int .i64 0) ∧ W.drew.cell? ⟨w.heap.size + 1, 4, none⟩ = some (.bool false) ∧ W.drew.cell? ⟨w.heap.size + 1, 5, none⟩ = some (.int .u64 0) ∧ W.drew.cell? ⟨w.heap.size + 1, 6, none⟩ = some (.slice none 0 0) ∧ W.drew.cell? ⟨w.heap.size + 1, 7, none⟩ = some (.slice none 0 0)) ∧ (W.drew.cell? ⟨w.heap.size + 1 + 1, 0, none⟩ = some (.bool false) ∧ W.drew.cell? ⟨w.heap.size + 1 + 1, 1, none⟩ = some (.slice A1 n1 c1) ∧ W.drew.cell? ⟨w.heap.size + 1 + 1, 2, none⟩ = some (.slice B1 m1 e1) ∧ W.drew.cell? ⟨w.heap.size + 1 + 1, 3, none⟩ = some (.int .i64 0) ∧ W.drew.cell? ⟨w.heap.size + 1 + 1, 4, none⟩ = some (.bool false) ∧ W.drew.cell? ⟨w.heap.size + 1 + 1, 5, none⟩ = some (.int .u64 0) ∧ W.drew.cell? ⟨w.heap.size + 1 + 1, 6, none⟩ = some (.slice none 0 0) ∧ W.drew.cell? ⟨w.heap.size + 1 + 1, 7, none⟩ = some (.slice none 0 0)) := ⟨⟨c7.cell rfl, c7.cell rfl⟩, cv.c8, cw.c8⟩
  go_region_held3 (fun w' => (w'.cell? ⟨g7, 7, none⟩ = some (fv 93) ∧ w'.cell? ⟨g7, 1, none⟩ = some (cln b1 b2)) ∧ (w'.cell? ⟨w.heap.size + 1, 0, none⟩ = some (.bool false) ∧ w'.cell? ⟨w.heap.size + 1, 1, none⟩ = some (.slice A n c) ∧ w'.cell? ⟨w.heap.size + 1, 2, none⟩ = some (.slice B m e) ∧ w'.cell? ⟨w.heap.size + 1, 3, none⟩ = some (.int .i64 0) ∧ w'.cell? ⟨w.heap.size + 1, 4, none⟩ = some (.bool false) ∧ w'.cell? ⟨w.heap.size + 1, 5, none⟩ = some (.int .u64 0) ∧ w'.cell? ⟨w.heap.size + 1, 6, none⟩ = some (.slice none 0 0) ∧ w'.cell? ⟨w.heap.size + 1, 7, none⟩ = some (.slice none 0 0)) ∧ (w'.cell? ⟨w.heap.size + 1 + 1, 0, none⟩ = some (.bool false) ∧ w'.cell? ⟨w.heap.size + 1 + 1, 1, none⟩ = some (.slice A1 n1 c1) ∧ w'.cell? ⟨w.heap.size + 1 + 1, 2, none⟩ = some (.slice B1 m1 e1) ∧ w'.cell? ⟨w.heap.size + 1 + 1, 3, none⟩ = some (.int .i64 0) ∧ w'.cell? ⟨w.heap.size + 1 + 1, 4, none⟩ = some (.bool false) ∧ w'.cell? ⟨w.heap.size + 1 + 1, 5, none⟩ = some (.int .u64 0) ∧ w'.cell? ⟨w.heap.size + 1 + 1, 6, none⟩ = some (.slice none 0 0) ∧ w'.cell? ⟨w.heap.size + 1 + 1, 7, none⟩ = some (.slice none 0 0)))
    (first | with_reducible exact hrl | fail)
    (first
      | (have _g := mk2; go_at_call 93; refine (likelier_any false false A B A1 B1 n c m e n1 c1 m1 e1 x y V _ hT hx hy sx sy HV).mono ?_; rintro e0 x3 ⟨rfl, hbk⟩; replace hb0 := hb0.trans (hbk.mono hb0.size); replace c7 := c7.below hbk c7.lt; replace cv := cv.below hbk cv.lt; replace cw := cw.below hbk cw.lt; replace hx := hx.below hbk; replace hy := hy.below hbk; replace hT := hT.below hbk; have hrl : (x3.cell? ⟨g7, 7, none⟩ = some (fv 93) ∧ x3.cell? ⟨g7, 1, none⟩ = some (cln b1 b2)) ∧ (x3.cell? ⟨w.heap.size + 1, 0, none⟩ = some (.bool false) ∧ x3.cell? ⟨w.heap.size + 1, 1, none⟩ = some (.slice A n c) ∧ x3.cell? ⟨w.heap.size + 1, 2, none⟩ = some (.slice B m e) ∧ x3.cell? ⟨w.heap.size + 1, 3, none⟩ = some (.int .i64 0) ∧ x3.cell? ⟨w.heap.size + 1, 4, none⟩ = some (.bool false) ∧ x3.cell? ⟨w.heap.size + 1, 5, none⟩ = some (.int .u64 0) ∧ x3.cell? ⟨w.heap.size + 1, 6, none⟩ = some (.slice none 0 0) ∧ x3.cell? ⟨w.heap.size + 1, 7, none⟩ = some (.slice none 0 0)) ∧ (x3.cell? ⟨w.heap.size + 1 + 1, 0, none⟩ = some (.bool false) ∧ x3.cell? ⟨w.heap.size + 1 + 1, 1, none⟩ = some (.slice A1 n1 c1) ∧ x3.cell? ⟨w.heap.size + 1 + 1, 2, none⟩ = some (.slice B1 m1 e1) ∧ x3.cell? ⟨w.heap.size + 1 + 1, 3, none⟩ = some (.int .i64 0) ∧ x3.cell? ⟨w.heap.size + 1 + 1, 4, none⟩ = some (.bool false) ∧ x3.cell? ⟨w.heap.size + 1 + 1, 5, none⟩ = some (.int .u64 0) ∧ x3.cell? ⟨w.heap.size + 1 + 1, 6, none⟩ = some (.slice none 0 0) ∧ x3.cell? ⟨w.heap.size + 1 + 1, 7, none⟩ = some (.slice none 0 0)) := ⟨⟨c7.cell rfl, c7.cell rfl⟩, cv.c8, cw.c8⟩)
      | (have _g := mk1; go_at_call 128; refine (cln_chance A1 B1 n1 c1 m1 e1 y Y b1 b2 _ hT hy sy HY hY hC).mono ?_; rintro e0 x2 ⟨rfl, hbk⟩; replace hb0 := hb0.trans (hbk.mono hb0.size); replace c7 := c7.below hbk c7.lt; replace cv := cv.below hbk cv.lt; replace cw := cw.below hbk cw.lt; replace hx := hx.below hbk; replace hy := hy.below hbk; replace hT := hT.below hbk; have mk2 := Lib.hid (rfl : 1 = 1); have hrl : (x2.cell? ⟨g7, 7, none⟩ = some (fv 93) ∧ x2.cell? ⟨g7, 1, none⟩ = some (cln b1 b2)) ∧ (x2.cell? ⟨w.heap.size + 1, 0, none⟩ = some (.bool false) ∧ x2.cell? ⟨w.heap.size + 1, 1, none⟩ = some (.slice A n c) ∧ x2.cell? ⟨w.heap.size + 1, 2, none⟩ = some (.slice B m e) ∧ x2.cell? ⟨w.heap.size + 1, 3, none⟩ = some (.int .i64 0) ∧ x2.cell? ⟨w.heap.size + 1, 4, none⟩ = some (.bool false) ∧ x2.cell? ⟨w.heap.size + 1, 5, none⟩ = some (.int .u64 0) ∧ x2.cell? ⟨w.heap.size + 1, 6, none⟩ = some (.slice none 0 0) ∧ x2.cell? ⟨w.heap.size + 1, 7, none⟩ = some (.slice none 0 0)) ∧ (x2.cell? ⟨w.heap.size + 1 + 1, 0, none⟩ = some (.bool false) ∧ x2.cell? ⟨w.heap.size + 1 + 1, 1, none⟩ = some (.slice A1 n1 c1) ∧ x2.cell? ⟨w.heap.size + 1 + 1, 2, none⟩ = some (.slice B1 m1 e1) ∧ x2.cell? ⟨w.heap.size + 1 + 1, 3, none⟩ = some (.int .i64 0) ∧ x2.cell? ⟨w.heap.size + 1 + 1, 4, none⟩ = some (.bool false) ∧ x2.cell? ⟨w.heap.size + 1 + 1, 5, none⟩ = some (.int .u64 0) ∧ x2.cell? ⟨w.heap.size + 1 + 1, 6, none⟩ = some (.slice none 0 0) ∧ x2.cell? ⟨w.heap.size + 1 + 1, 7, none⟩ = some (.slice none 0 0)) := ⟨⟨c7.cell rfl, c7.cell rfl⟩, cv.c8, cw.c8⟩)
      | (go_at_call 128; refine (cln_chance A B n c m e x X b1 b2 _ hT hx sx HX hX hC).mono ?_; rintro e0 x1 ⟨rfl, hbk⟩; replace hC : VCl x1 b1 b2 := Cl.below hC hbk; replace hb0 := hb0.trans (hbk.mono hb0.size); replace c7 := c7.below hbk c7.lt; replace cv := cv.below hbk cv.lt; replace cw := cw.below hbk cw.lt; replace hx := hx.below hbk; replace hy := hy.below hbk; replace hT := hT.below hbk; have mk1 := Lib.hid (rfl : 1 = 1); have hrl : (x1.cell? ⟨g7, 7, none⟩ = some (fv 93) ∧ x1.cell? ⟨g7, 1, none⟩ = some (cln b1 b2)) ∧ (x1.cell? ⟨w.heap.size + 1, 0, none⟩ = some (.bool false) ∧ x1.cell? ⟨w.heap.size + 1, 1, none⟩ = some (.slice A n c) ∧ x1.cell? ⟨w.heap.size + 1, 2, none⟩ = some (.slice B m e) ∧ x1.cell? ⟨w.heap.size + 1, 3, none⟩ = some (.int .i64 0) ∧ x1.cell? ⟨w.heap.size + 1, 4, none⟩ = some (.bool false) ∧ x1.cell? ⟨w.heap.size + 1, 5, none⟩ = some (.int .u64 0) ∧ x1.cell? ⟨w.heap.size + 1, 6, none⟩ = some (.slice none 0 0) ∧ x1.cell? ⟨w.heap.size + 1, 7, none⟩ = some (.slice none 0 0)) ∧ (x1.cell? ⟨w.heap.size + 1 + 1, 0, none⟩ = some (.bool false) ∧ x1.cell? ⟨w.heap.size + 1 + 1, 1, none⟩ = some (.slice A1 n1 c1) ∧ x1.cell? ⟨w.heap.size + 1 + 1, 2, none⟩ = some (.slice B1 m1 e1) ∧ x1.cell? ⟨w.heap.size + 1 + 1, 3, none⟩ = some (.int .i64 0) ∧ x1.cell? ⟨w.heap.size + 1 + 1, 4, none⟩ = some (.bool false) ∧ x1.cell? ⟨w.heap.size + 1 + 1, 5, none⟩ = some (.int .u64 0) ∧ x1.cell? ⟨w.heap.size + 1 + 1, 6, none⟩ = some (.slice none 0 0) ∧ x1.cell? ⟨w.heap.size + 1 + 1, 7, none⟩ = some (.slice none 0 0)) := ⟨⟨c7.cell rfl, c7.cell rfl⟩, cv.c8, cw.c8⟩)
      | fail)
  go_wp2_with fail
  go_ret
  exact ⟨rfl, hb0⟩

end Go.Proofs.YtafoplnpnoedfaaGreatDoor
