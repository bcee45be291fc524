/- The law RationalIsAField. -/
import Derived.Test.YtggmmgojpamcpaaGreatDoorQ33
import Derived.Test.YtggmmgojpamcpaaGreatDoorQ15
import Derived.Deep.CutRange
set_option linter.unusedVariables false
set_option linter.unusedSimpArgs false
namespace Go.Proofs.YtggmmgojpamcpaaGreatDoor
open Go.RowKit

/-- What a law hands back: true; what was there has not turned. -/
abbrev Yes (w : World) : Ending → World → Prop := RetV w (.bool true)
theorem mul_div_same {x y : Rat} (hy : y ≠ 0) : x * y / y = x := by
  rw [Rat.div_def, Rat.mul_assoc, Rat.mul_inv_cancel _ hy, Rat.mul_one]
theorem sign_zero_iff (y : Rat) : y.num.sign = 0 ↔ y = 0 := by
  rw [Int.sign_eq_zero_iff_zero]
  exact ⟨fun h => Rat.num_eq_zero.1 h, fun h => by rw [h]; rfl⟩

theorem Sign_zero (v : Value) (L : Nat) (w : World) (hT : Tab w) (h : Inp w v 0 L) : Calls Tryz.prog 22 #[v] w (RetV w (.int .i64 0)) := Sign_any v 0 L w hT h
theorem RatQ.inr {w : World} {v : Value} {q : Rat} {L : Nat} (h : RatQ w v q) (hs : Sz q L) (hL : L ≤ 1000000) : Inr w v q := by
  obtain ⟨A, n, c, A', m, c', e, h1, h2⟩ := h
  refine ⟨_, A, n, c, A', m, c', _, _, e, h1, h2, ?_, ?_, ?_⟩
  · rw [h1.len]; have := hs.1; omega
  · rw [h2.len]; have := dl_length q.den; have := hs.2; omega
  · exact fq_canon q

set_option maxRecDepth 20000 in
set_option maxHeartbeats 4000000 in
theorem field_law (v1 v2 v3 : Value) (nx ny nz : Bool) (a1 d1 a2 d2 a3 d3 : List Nat) (w : World) (hT : Txt w) (h1 : Fld w v1 nx a1 d1) (h2 : Fld w v2 ny a2 d2) (h3 : Fld w v3 nz a3 d3) :
    Calls Tryz.prog 7 #[v1, v2, v3] w (Yes w) := by
  obtain ⟨X1, x1, y1, Z1, z1, t1, rfl⟩ := h1.agg
  obtain ⟨X2, x2, y2, Z2, z2, t2, rfl⟩ := h2.agg
  obtain ⟨X3, x3, y3, Z3, z3, t3, rfl⟩ := h3.agg
  obtain ⟨hb0, r1, r2, r3⟩ := blocks3 w (.bool nx) (.slice X1 x1 y1) (.slice Z1 z1 t1) (.bool ny) (.slice X2 x2 y2) (.slice Z2 z2 t2) (.bool nz) (.slice X3 x3 y3) (.slice Z3 z3 t3)
  have g1 := h1.below hb0
  have g2 := h2.below hb0
  have g3 := h3.below hb0
  obtain ⟨V, hV⟩ : ∃ V, frr (nx, a1, d1) (ny, a2, d2) (nz, a3, d3) = V := ⟨_, rfl⟩
  have HV := Lib.hid hV
  clear hV
  go_enter Tryz.func7, Tryz.ntmps7
  go_wp2_with fail
  generalize (((w.alloc (R1 (.bool nx) (.slice X1 x1 y1) (.slice Z1 z1 t1))).alloc (R1 (.bool ny) (.slice X2 x2 y2) (.slice Z2 z2 t2))).alloc (R1 (.bool nz) (.slice X3 x3 y3) (.slice Z3 z3 t3))) = W0 at *
  refine (fair_any _ _ _ nx ny nz a1 d1 a2 d2 a3 d3 _ V g1 g2 g3 HV).mono ?_
  rintro e w1 ⟨rfl, hb1⟩
  have hb01 := hb0.trans (hb1.mono hb0.size)
  replace r1 := r1.below hb1 r1.lt
  replace r2 := r2.below hb1 r2.lt
  replace r3 := r3.below hb1 r3.lt
  cases V
  · go_wp2_with fail
    refine (awake_any _ (hT.below hb01)).mono ?_
    rintro e w2 ⟨rfl, hb2⟩
    go_wp2_with fail
    go_ret
    exact ⟨rfl, hb01.trans (hb2.mono hb01.size)⟩
  · obtain ⟨x, hx, sx⟩ : ∃ x, RatQ w1 (.agg #[.bool nx, .slice X1 x1 y1, .slice Z1 z1 t1]) x ∧ Sz x 6 := (fair_rat g1 (frr_at HV.out).1).imp fun _ h => ⟨h.1.below hb1, h.2⟩
    obtain ⟨y, hy, sy⟩ : ∃ y, RatQ w1 (.agg #[.bool ny, .slice X2 x2 y2, .slice Z2 z2 t2]) y ∧ Sz y 6 := (fair_rat g2 (frr_at HV.out).2.1).imp fun _ h => ⟨h.1.below hb1, h.2⟩
    obtain ⟨z, hz, sz⟩ : ∃ z, RatQ w1 (.agg #[.bool nz, .slice X3 x3 y3, .slice Z3 z3 t3]) z ∧ Sz z 6 := (fair_rat g3 (frr_at HV.out).2.2).imp fun _ h => ⟨h.1.below hb1, h.2⟩
    have sxy : Sz (x * y) 12 := sz_mul sx sy (by decide)
    have hT1 := hT.below hb01
    clear g1 g2 g3 h1 h2 h3 hT HV
    obtain ⟨r, E, hdv, hE⟩ : ∃ (r : Rat) (E : Int), ((y = 0 ∧ r = 0 ∧ E = 11) ∨ (y ≠ 0 ∧ x * y / y = r ∧ E = 0)) ∧ ((y.num.sign = 0) ∨ (y.num.sign ≠ 0 ∧ r = x ∧ E = 0)) := by
      by_cases h0 : y = 0
      · exact ⟨0, 11, .inl ⟨h0, rfl, rfl⟩, .inl ((sign_zero_iff y).2 h0)⟩
      · exact ⟨x, 0, .inr ⟨h0, mul_div_same h0, rfl⟩, .inr ⟨fun h => h0 ((sign_zero_iff y).1 h), rfl, rfl⟩⟩
    have HDV := Lib.hid hdv
    have HE := Lib.hid hE
    clear hdv hE
    have hgx := r1.lt
    have hgy := r2.lt
    have hgz := r3.lt
    go_wp2_with fail
    replace r1 := r1.drewN 1
    replace r2 := r2.drewN 1
    replace r3 := r3.drewN 1
    replace hx := hx.drew1
    replace hy := hy.drew1
    replace hz := hz.drew1
    replace hT1 : Txt w1.drew := hT1.keep (fun _ _ => rfl)
    replace hb01 := hb01.drew
    replace hgx : w.heap.size < w1.drew.heap.size := hgx
    replace hgy : w.heap.size + 1 < w1.drew.heap.size := hgy
    replace hgz : w.heap.size + 1 + 1 < w1.drew.heap.size := hgz
    have hdz : w1.drew.heap.size ≤ w1.heap.size := Nat.le_refl _
    have hdz' : w1.heap.size ≤ w1.drew.heap.size := Nat.le_refl _
    have hs := And.intro r1.cells r2.cells
    have hbo : Below w1.drew.heap.size w1.drew (w1.alloc R0).drew := (Below.refl _ _).alloc (Nat.le_refl _) _
    have hro : Rc (w1.alloc R0).drew w1.heap.size (.bool false) (.slice none 0 0) (.slice none 0 0) := Rc.new w1 (.bool false) (.slice none 0 0) (.slice none 0 0)
    go_cut [7, 8] from 15 to 22 (fun p e wx => ∃ g nq A n c A' m c', p = .pointer (some ⟨g, 0, none⟩) ∧ e = .int .i64 E ∧ Rc wx g (.bool nq) (.slice A n c) (.slice A' m c') ∧ w1.drew.heap.size ≤ g ∧ RatQ wx (.agg #[.bool nq, .slice A n c, .slice A' m c']) r ∧ Below w1.drew.heap.size w1.drew wx)
    case first =>
      go_region_held3 (fun w' => (w'.cell? ⟨w.heap.size, 0, none⟩ = some (.bool nx) ∧ w'.cell? ⟨w.heap.size, 1, none⟩ = some (.slice X1 x1 y1) ∧ w'.cell? ⟨w.heap.size, 2, none⟩ = some (.slice Z1 z1 t1)) ∧ (w'.cell? ⟨w.heap.size + 1, 0, none⟩ = some (.bool ny) ∧ w'.cell? ⟨w.heap.size + 1, 1, none⟩ = some (.slice X2 x2 y2) ∧ w'.cell? ⟨w.heap.size + 1, 2, none⟩ = some (.slice Z2 z2 t2)))
        (first | exact hs | exact ⟨⟨cell_alc _ hs.1.1, cell_alc _ hs.1.2.1, cell_alc _ hs.1.2.2⟩, ⟨cell_alc _ hs.2.1, cell_alc _ hs.2.2.1, cell_alc _ hs.2.2.2⟩⟩ | exact ⟨⟨cell_set3 (by omega) hs.1.1, cell_set3 (by omega) hs.1.2.1, cell_set3 (by omega) hs.1.2.2⟩, ⟨cell_set3 (by omega) hs.2.1, cell_set3 (by omega) hs.2.2.1, cell_set3 (by omega) hs.2.2.2⟩⟩)
        (first
          | (have _g := hb2; (with_reducible change Calls _ _ _ w2 _); go_at_call 28; refine (Div_any _ _ (x * y) y r 12 E _ (hT1.tab.below hb2) (h2.inp sxy (by decide)) ((hy.below hb2).inp (sy.mono (by decide)) (by decide)) (sxy.mono (by decide)) (sy.mono (by decide)) HDV.out).mono ?_; rintro e w3 ⟨v3, rfl, h3, hb3⟩; have hb13 := hb2.trans (hb3.mono hb2.size); have hz3 := hb13.size; have hs := And.intro (r1.below hb13 hgx).cells (r2.below hb13 hgy).cells; obtain ⟨nq, A, n, c, A', m, c', rfl⟩ := h3.agg; (try (have hq3 := hrq.below hb3 hrq.lt; obtain ⟨k0, k1, k2⟩ := hq3.cells; obtain ⟨f0, f1, f2⟩ := hq3.frozen)))
          | (have _g := hb2; (with_reducible change Calls _ _ _ (w2.alloc R0) _); go_at_call 28; have hbo2 : Below w2.heap.size w2 (w2.alloc R0) := (Below.refl _ _).alloc (Nat.le_refl _) _; have hro2 := Rc.new w2 (.bool false) (.slice none 0 0) (.slice none 0 0); have hbn := hb2.trans (hbo2.mono hb2.size); refine (Div_any _ _ (x * y) y r 12 E _ (hT1.tab.below hbn) ((h2.below hbo2).inp sxy (by decide)) ((hy.below hbn).inp (sy.mono (by decide)) (by decide)) (sxy.mono (by decide)) (sy.mono (by decide)) HDV.out).mono ?_; rintro e w3 ⟨v3, rfl, h3, hb3⟩; have hb13 := hbn.trans (hb3.mono hbn.size); have hz3 := hb13.size; have hs := And.intro (r1.below hb13 hgx).cells (r2.below hb13 hgy).cells; obtain ⟨nq, A, n, c, A', m, c', rfl⟩ := h3.agg; have hq3 := hro2.below hb3 hro2.lt; obtain ⟨k0, k1, k2⟩ := hq3.cells; obtain ⟨f0, f1, f2⟩ := hq3.frozen)
          | ((with_reducible change Calls _ _ _ w1.drew _); go_at_call 34; refine (Mul_any _ _ x y (x * y) 6 _ hT1.tab (hx.inp sx (by decide)) (hy.inp sy (by decide)) (sx.mono (by decide)) (sy.mono (by decide)) rfl).mono ?_; rintro e w2 ⟨v2, rfl, h2, hb2⟩; have hz2 := hb2.size; have hs := And.intro (r1.below hb2 hgx).cells (r2.below hb2 hgy).cells)
          | ((with_reducible change Calls _ _ _ (w1.alloc R0).drew _); go_at_call 34; refine (Mul_any _ _ x y (x * y) 6 _ (hT1.tab.below hbo) ((hx.below hbo).inp sx (by decide)) ((hy.below hbo).inp sy (by decide)) (sx.mono (by decide)) (sy.mono (by decide)) rfl).mono ?_; rintro e w2 ⟨v2, rfl, h2, hb2'⟩; have hb2 := hbo.trans (hb2'.mono hbo.size); have hz2 := hb2.size; have hrq := hro.below hb2' hro.lt; have hs := And.intro (r1.below hb2 hgx).cells (r2.below hb2 hgy).cells))
      all_goals
        go_wp2_with fail
        go_meet
        case rel =>
          first
            | exact ⟨_, _, _, _, _, _, _, _, rfl, rfl, hq3.set _ _ _, by omega, h3.set3 hq3 _ _ _, below_set3 hb13 (by omega) _ _ _⟩
            | exact ⟨_, _, _, _, _, _, _, _, rfl, rfl, Rc.new _ _ _ _, by omega, h3.below ((Below.refl _ _).alloc (Nat.le_refl _) _), hb13.alloc (by omega) _⟩
    case rest =>
      obtain ⟨g, nq, A, n, c, A', m, c', rfl, rfl, hq, hg, hqr, hbq⟩ := hcut
      have rr1 := r1.below hbq hgx
      have rr2 := r2.below hbq hgy
      have rr3 := r3.below hbq hgz
      have qx := hx.below hbq
      have qy := hy.below hbq
      have qz := hz.below hbq
      have TT := hT1.below hbq
      have hbb := hb01.trans (hbq.mono (by omega))
      have kgx := rr1.lt
      have kgy := rr2.lt
      have kgz := rr3.lt
      clear r1 r2 r3 hx hy hz hT1 hb01 hgx hgy hgz hbo hro hs hbq hb0 hb1 HDV
      obtain ⟨k0, k1, k2⟩ := hq.cells
      obtain ⟨cx0, cx1, cx2⟩ := rr1.cells
      obtain ⟨cy0, cy1, cy2⟩ := rr2.cells
      go_wp2_with fail
      obtain ⟨sg, hsg⟩ : ∃ sg, y.num.sign = sg := ⟨_, rfl⟩
      refine (r_Sign _ y _ (qy.inr sy (by decide))).mono ?_
      rintro e w3 ⟨rfl, hb3⟩
      have hE := HE.out
      rw [hsg] at hE ⊢
      clear hsg HE
      have hqr3 := hqr.below hb3
      have hq3 := hq.below hb3 hq.lt
      replace rr1 := rr1.below hb3 kgx
      replace rr2 := rr2.below hb3 kgy
      replace rr3 := rr3.below hb3 kgz
      replace qx := qx.below hb3
      replace qy := qy.below hb3
      replace qz := qz.below hb3
      replace TT := TT.below hb3
      replace hbb := hbb.trans (hb3.mono (by omega))
      have kgx := rr1.lt
      have kgy := rr2.lt
      have kgz := rr3.lt
      clear k0 k1 k2 cx0 cx1 cx2 cy0 cy1 cy2 hq hqr hb3
      obtain ⟨k0, k1, k2⟩ := hq3.cells
      obtain ⟨cx0, cx1, cx2⟩ := rr1.cells
      rcases hE with rfl | hs1
      rotate_left
      obtain ⟨hs0, hrx, rfl⟩ := hs1
      rw [hrx] at hqr3
      clear hrx
      have hsn : (sg != 0) = true := bne_iff_ne.2 hs0
      have hsn2 : (sg == 0) = false := beq_eq_false_iff_ne.2 hs0
      go_wp2_with fail
      refine (r_Same_true _ _ x x _ 6 hqr3 qx sx (by decide) rfl).mono ?_
      rintro e w5 ⟨rfl, hb4⟩
      clear hqr3 hq3 hsn hsn2 hs0 k0 k1 k2 cx0 cx1 cx2
      replace rr1 := rr1.below hb4 kgx
      replace rr2 := rr2.below hb4 kgy
      replace rr3 := rr3.below hb4 kgz
      replace qx := qx.below hb4
      replace qy := qy.below hb4
      replace qz := qz.below hb4
      replace TT := TT.below hb4
      replace hbb := hbb.trans (hb4.mono (by omega))
      clear kgx kgy kgz hb4
      have kgx := rr1.lt
      have kgy := rr2.lt
      have kgz := rr3.lt
      go_wp2_with fail
      rotate_left
      clear hqr3 hq3 k0 k1 k2 cx0 cx1 cx2
      go_wp2_with fail
      generalize w3 = w5 at *
      all_goals
        replace rr1 := rr1.drewN 1
        replace rr2 := rr2.drewN 1
        replace rr3 := rr3.drewN 1
        replace qx := qx.drew1
        replace qy := qy.drew1
        replace qz := qz.drew1
        replace TT : Txt w5.drew := TT.keep (fun _ _ => rfl)
        replace hbb := hbb.drew
        have kgx := rr1.lt
        have kgy := rr2.lt
        have kgz := rr3.lt
        have hs := And.intro rr1.cells (And.intro rr2.cells rr3.cells)
        have hc0 := Below.refl w5.drew.heap.size w5.drew
        have tx : Sz x 64 := sx.mono (by decide)
        have ty : Sz y 64 := sy.mono (by decide)
        have tz : Sz z 64 := sz.mono (by decide)
        have S1 : Sz (x + y) 64 := sz_add sx sy (by decide)
        have S2 : Sz (x * y) 64 := sz_mul sx sy (by decide)
        have S3 : Sz (y + z) 64 := sz_add sy sz (by decide)
        have S4 : Sz (y * z) 64 := sz_mul sy sz (by decide)
        have S5 : Sz (x * z) 64 := sz_mul sx sz (by decide)
        have S9 : Sz (x + z) 64 := sz_add sx sz (by decide)
        have S6 : Sz (x + y + z) 64 := sz_add (sz_add sx sy (L := 13) (by decide)) sz (by decide)
        have S7 : Sz (x * y * z) 64 := sz_mul (sz_mul sx sy (L := 12) (by decide)) sz (by decide)
        have S8 : Sz (x * (y + z)) 64 := sz_mul sx (sz_add sy sz (L := 13) (by decide)) (by decide)
        have S0 : Sz 0 64 := sz_zero 64 (by decide)
        dsimp only [List.append]
        go_region_held3 (fun w' => (w'.cell? ⟨w.heap.size, 0, none⟩ = some (.bool nx) ∧ w'.cell? ⟨w.heap.size, 1, none⟩ = some (.slice X1 x1 y1) ∧ w'.cell? ⟨w.heap.size, 2, none⟩ = some (.slice Z1 z1 t1)) ∧ (w'.cell? ⟨w.heap.size + 1, 0, none⟩ = some (.bool ny) ∧ w'.cell? ⟨w.heap.size + 1, 1, none⟩ = some (.slice X2 x2 y2) ∧ w'.cell? ⟨w.heap.size + 1, 2, none⟩ = some (.slice Z2 z2 t2)) ∧ (w'.cell? ⟨w.heap.size + 1 + 1, 0, none⟩ = some (.bool nz) ∧ w'.cell? ⟨w.heap.size + 1 + 1, 1, none⟩ = some (.slice X3 x3 y3) ∧ w'.cell? ⟨w.heap.size + 1 + 1, 2, none⟩ = some (.slice Z3 z3 t3)))
          (exact hs)
          (first
          | (have _g := hc24; go_at_call 22; refine (Sign_zero _ 64 _ (TT.tab.below hc24) (h24.inp S0 (by decide))).mono ?_; rintro e w45 ⟨rfl, hb45⟩; have hc25 := hc24.trans (hb45.mono hc24.size); have hs := And.intro (rr1.below hc25 kgx).cells (And.intro (rr2.below hc25 kgy).cells (rr3.below hc25 kgz).cells))
          | (have _g := hc23; go_at_call 32; refine (Sub_any _ _ (x) (x) (0) 64 _ (TT.tab.below hc23) ((qx.below hc23).inp tx (by decide)) ((qx.below hc23).inp tx (by decide)) (tx.mono (by decide)) (tx.mono (by decide)) (Rat.sub_self)).mono ?_; rintro e w44 ⟨v24, rfl, h24, hb44⟩; have hc24 := hc23.trans (hb44.mono hc23.size); have hs := And.intro (rr1.below hc24 kgx).cells (And.intro (rr2.below hc24 kgy).cells (rr3.below hc24 kgz).cells))
          | (have _g := hc22; go_at_call 19; refine (r_Same_true _ _ (x * (y + z)) (x * (y + z)) _ 64 h19 h22 S8 (by decide) rfl).mono ?_; rintro e w43 ⟨rfl, hb43⟩; have hc23 := hc22.trans (hb43.mono hc22.size); have hs := And.intro (rr1.below hc23 kgx).cells (And.intro (rr2.below hc23 kgy).cells (rr3.below hc23 kgz).cells))
          | (have _g := hc21; go_at_call 30; refine (Add_any _ _ (x * y) (x * z) (x * (y + z)) 64 _ (TT.tab.below hc21) (h20.inp S2 (by decide)) (h21.inp S5 (by decide)) (S2.mono (by decide)) (S5.mono (by decide)) ((Rat.mul_add x y z).symm)).mono ?_; rintro e w42 ⟨v22, rfl, h22, hb42⟩; have hc22 := hc21.trans (hb42.mono hc21.size); have hs := And.intro (rr1.below hc22 kgx).cells (And.intro (rr2.below hc22 kgy).cells (rr3.below hc22 kgz).cells); have h19 := h19.below hb42)
          | (have _g := hc20; go_at_call 34; refine (Mul_any _ _ (x) (z) (x * z) 64 _ (TT.tab.below hc20) ((qx.below hc20).inp tx (by decide)) ((qz.below hc20).inp tz (by decide)) (tx.mono (by decide)) (tz.mono (by decide)) (rfl)).mono ?_; rintro e w41 ⟨v21, rfl, h21, hb41⟩; have hc21 := hc20.trans (hb41.mono hc20.size); have hs := And.intro (rr1.below hc21 kgx).cells (And.intro (rr2.below hc21 kgy).cells (rr3.below hc21 kgz).cells); have h19 := h19.below hb41; have h20 := h20.below hb41)
          | (have _g := hc19; go_at_call 34; refine (Mul_any _ _ (x) (y) (x * y) 64 _ (TT.tab.below hc19) ((qx.below hc19).inp tx (by decide)) ((qy.below hc19).inp ty (by decide)) (tx.mono (by decide)) (ty.mono (by decide)) (rfl)).mono ?_; rintro e w40 ⟨v20, rfl, h20, hb40⟩; have hc20 := hc19.trans (hb40.mono hc19.size); have hs := And.intro (rr1.below hc20 kgx).cells (And.intro (rr2.below hc20 kgy).cells (rr3.below hc20 kgz).cells); have h19 := h19.below hb40)
          | (have _g := hc18; go_at_call 34; refine (Mul_any _ _ (x) (y + z) (x * (y + z)) 64 _ (TT.tab.below hc18) ((qx.below hc18).inp tx (by decide)) (h18.inp S3 (by decide)) (tx.mono (by decide)) (S3.mono (by decide)) (rfl)).mono ?_; rintro e w39 ⟨v19, rfl, h19, hb39⟩; have hc19 := hc18.trans (hb39.mono hc18.size); have hs := And.intro (rr1.below hc19 kgx).cells (And.intro (rr2.below hc19 kgy).cells (rr3.below hc19 kgz).cells))
          | (have _g := hc17; go_at_call 30; refine (Add_any _ _ (y) (z) (y + z) 64 _ (TT.tab.below hc17) ((qy.below hc17).inp ty (by decide)) ((qz.below hc17).inp tz (by decide)) (ty.mono (by decide)) (tz.mono (by decide)) (rfl)).mono ?_; rintro e w38 ⟨v18, rfl, h18, hb38⟩; have hc18 := hc17.trans (hb38.mono hc17.size); have hs := And.intro (rr1.below hc18 kgx).cells (And.intro (rr2.below hc18 kgy).cells (rr3.below hc18 kgz).cells))
          | (have _g := hc16; go_at_call 19; refine (r_Same_true _ _ (x * y * z) (x * y * z) _ 64 h14 h16 S7 (by decide) rfl).mono ?_; rintro e w37 ⟨rfl, hb37⟩; have hc17 := hc16.trans (hb37.mono hc16.size); have hs := And.intro (rr1.below hc17 kgx).cells (And.intro (rr2.below hc17 kgy).cells (rr3.below hc17 kgz).cells))
          | (have _g := hc15; go_at_call 34; refine (Mul_any _ _ (x) (y * z) (x * y * z) 64 _ (TT.tab.below hc15) ((qx.below hc15).inp tx (by decide)) (h15.inp S4 (by decide)) (tx.mono (by decide)) (S4.mono (by decide)) ((Rat.mul_assoc x y z).symm)).mono ?_; rintro e w36 ⟨v16, rfl, h16, hb36⟩; have hc16 := hc15.trans (hb36.mono hc15.size); have hs := And.intro (rr1.below hc16 kgx).cells (And.intro (rr2.below hc16 kgy).cells (rr3.below hc16 kgz).cells); have h14 := h14.below hb36)
          | (have _g := hc14; go_at_call 34; refine (Mul_any _ _ (y) (z) (y * z) 64 _ (TT.tab.below hc14) ((qy.below hc14).inp ty (by decide)) ((qz.below hc14).inp tz (by decide)) (ty.mono (by decide)) (tz.mono (by decide)) (rfl)).mono ?_; rintro e w35 ⟨v15, rfl, h15, hb35⟩; have hc15 := hc14.trans (hb35.mono hc14.size); have hs := And.intro (rr1.below hc15 kgx).cells (And.intro (rr2.below hc15 kgy).cells (rr3.below hc15 kgz).cells); have h14 := h14.below hb35)
          | (have _g := hc13; go_at_call 34; refine (Mul_any _ _ (x * y) (z) (x * y * z) 64 _ (TT.tab.below hc13) (h13.inp S2 (by decide)) ((qz.below hc13).inp tz (by decide)) (S2.mono (by decide)) (tz.mono (by decide)) (rfl)).mono ?_; rintro e w34 ⟨v14, rfl, h14, hb34⟩; have hc14 := hc13.trans (hb34.mono hc13.size); have hs := And.intro (rr1.below hc14 kgx).cells (And.intro (rr2.below hc14 kgy).cells (rr3.below hc14 kgz).cells))
          | (have _g := hc12; go_at_call 34; refine (Mul_any _ _ (x) (y) (x * y) 64 _ (TT.tab.below hc12) ((qx.below hc12).inp tx (by decide)) ((qy.below hc12).inp ty (by decide)) (tx.mono (by decide)) (ty.mono (by decide)) (rfl)).mono ?_; rintro e w33 ⟨v13, rfl, h13, hb33⟩; have hc13 := hc12.trans (hb33.mono hc12.size); have hs := And.intro (rr1.below hc13 kgx).cells (And.intro (rr2.below hc13 kgy).cells (rr3.below hc13 kgz).cells))
          | (have _g := hc11; go_at_call 19; refine (r_Same_true _ _ (x + y + z) (x + y + z) _ 64 h9 h11 S6 (by decide) rfl).mono ?_; rintro e w32 ⟨rfl, hb32⟩; have hc12 := hc11.trans (hb32.mono hc11.size); have hs := And.intro (rr1.below hc12 kgx).cells (And.intro (rr2.below hc12 kgy).cells (rr3.below hc12 kgz).cells))
          | (have _g := hc10; go_at_call 30; refine (Add_any _ _ (x) (y + z) (x + y + z) 64 _ (TT.tab.below hc10) ((qx.below hc10).inp tx (by decide)) (h10.inp S3 (by decide)) (tx.mono (by decide)) (S3.mono (by decide)) ((Rat.add_assoc x y z).symm)).mono ?_; rintro e w31 ⟨v11, rfl, h11, hb31⟩; have hc11 := hc10.trans (hb31.mono hc10.size); have hs := And.intro (rr1.below hc11 kgx).cells (And.intro (rr2.below hc11 kgy).cells (rr3.below hc11 kgz).cells); have h9 := h9.below hb31)
          | (have _g := hc9; go_at_call 30; refine (Add_any _ _ (y) (z) (y + z) 64 _ (TT.tab.below hc9) ((qy.below hc9).inp ty (by decide)) ((qz.below hc9).inp tz (by decide)) (ty.mono (by decide)) (tz.mono (by decide)) (rfl)).mono ?_; rintro e w30 ⟨v10, rfl, h10, hb30⟩; have hc10 := hc9.trans (hb30.mono hc9.size); have hs := And.intro (rr1.below hc10 kgx).cells (And.intro (rr2.below hc10 kgy).cells (rr3.below hc10 kgz).cells); have h9 := h9.below hb30)
          | (have _g := hc8; go_at_call 30; refine (Add_any _ _ (x + y) (z) (x + y + z) 64 _ (TT.tab.below hc8) (h8.inp S1 (by decide)) ((qz.below hc8).inp tz (by decide)) (S1.mono (by decide)) (tz.mono (by decide)) (rfl)).mono ?_; rintro e w29 ⟨v9, rfl, h9, hb29⟩; have hc9 := hc8.trans (hb29.mono hc8.size); have hs := And.intro (rr1.below hc9 kgx).cells (And.intro (rr2.below hc9 kgy).cells (rr3.below hc9 kgz).cells))
          | (have _g := hc7; go_at_call 30; refine (Add_any _ _ (x) (y) (x + y) 64 _ (TT.tab.below hc7) ((qx.below hc7).inp tx (by decide)) ((qy.below hc7).inp ty (by decide)) (tx.mono (by decide)) (ty.mono (by decide)) (rfl)).mono ?_; rintro e w28 ⟨v8, rfl, h8, hb28⟩; have hc8 := hc7.trans (hb28.mono hc7.size); have hs := And.intro (rr1.below hc8 kgx).cells (And.intro (rr2.below hc8 kgy).cells (rr3.below hc8 kgz).cells))
          | (have _g := hc6; go_at_call 19; refine (r_Same_true _ _ (x * y) (x * y) _ 64 h5 h6 S2 (by decide) rfl).mono ?_; rintro e w27 ⟨rfl, hb27⟩; have hc7 := hc6.trans (hb27.mono hc6.size); have hs := And.intro (rr1.below hc7 kgx).cells (And.intro (rr2.below hc7 kgy).cells (rr3.below hc7 kgz).cells))
          | (have _g := hc5; go_at_call 34; refine (Mul_any _ _ (y) (x) (x * y) 64 _ (TT.tab.below hc5) ((qy.below hc5).inp ty (by decide)) ((qx.below hc5).inp tx (by decide)) (ty.mono (by decide)) (tx.mono (by decide)) (Rat.mul_comm y x)).mono ?_; rintro e w26 ⟨v6, rfl, h6, hb26⟩; have hc6 := hc5.trans (hb26.mono hc5.size); have hs := And.intro (rr1.below hc6 kgx).cells (And.intro (rr2.below hc6 kgy).cells (rr3.below hc6 kgz).cells); have h5 := h5.below hb26)
          | (have _g := hc4; go_at_call 34; refine (Mul_any _ _ (x) (y) (x * y) 64 _ (TT.tab.below hc4) ((qx.below hc4).inp tx (by decide)) ((qy.below hc4).inp ty (by decide)) (tx.mono (by decide)) (ty.mono (by decide)) (rfl)).mono ?_; rintro e w25 ⟨v5, rfl, h5, hb25⟩; have hc5 := hc4.trans (hb25.mono hc4.size); have hs := And.intro (rr1.below hc5 kgx).cells (And.intro (rr2.below hc5 kgy).cells (rr3.below hc5 kgz).cells))
          | (have _g := hc3; go_at_call 19; refine (r_Same_true _ _ (x + y) (x + y) _ 64 h2 h3 S1 (by decide) rfl).mono ?_; rintro e w24 ⟨rfl, hb24⟩; have hc4 := hc3.trans (hb24.mono hc3.size); have hs := And.intro (rr1.below hc4 kgx).cells (And.intro (rr2.below hc4 kgy).cells (rr3.below hc4 kgz).cells))
          | (have _g := hc2; go_at_call 30; refine (Add_any _ _ (y) (x) (x + y) 64 _ (TT.tab.below hc2) ((qy.below hc2).inp ty (by decide)) ((qx.below hc2).inp tx (by decide)) (ty.mono (by decide)) (tx.mono (by decide)) (Rat.add_comm y x)).mono ?_; rintro e w23 ⟨v3, rfl, h3, hb23⟩; have hc3 := hc2.trans (hb23.mono hc2.size); have hs := And.intro (rr1.below hc3 kgx).cells (And.intro (rr2.below hc3 kgy).cells (rr3.below hc3 kgz).cells); have h2 := h2.below hb23)
          | (have _g := hc1; go_at_call 30; refine (Add_any _ _ (x) (y) (x + y) 64 _ (TT.tab.below hc1) ((qx.below hc1).inp tx (by decide)) ((qy.below hc1).inp ty (by decide)) (tx.mono (by decide)) (ty.mono (by decide)) (rfl)).mono ?_; rintro e w22 ⟨v2, rfl, h2, hb22⟩; have hc2 := hc1.trans (hb22.mono hc1.size); have hs := And.intro (rr1.below hc2 kgx).cells (And.intro (rr2.below hc2 kgy).cells (rr3.below hc2 kgz).cells))
          | (go_at_call 12; refine (awake_any _ (TT.below hc0)).mono ?_; rintro e w21 ⟨rfl, hb21⟩; have hc1 := hc0.trans (hb21.mono hc0.size); have hs := And.intro (rr1.below hc1 kgx).cells (And.intro (rr2.below hc1 kgy).cells (rr3.below hc1 kgz).cells)))
        go_wp2_with fail
        go_ret
        exact ⟨rfl, hbb.trans (hc25.mono hbb.size)⟩
end Go.Proofs.YtggmmgojpamcpaaGreatDoor
