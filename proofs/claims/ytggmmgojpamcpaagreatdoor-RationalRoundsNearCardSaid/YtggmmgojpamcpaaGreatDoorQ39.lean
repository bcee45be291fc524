/- The law RationalCalculates. -/
import Derived.Test.YtggmmgojpamcpaaGreatDoorQ37
import Derived.Test.YtggmmgojpamcpaaGreatDoorQ38
import Derived.Deep.CutRange
import Derived.Test.YtggmmgojpamcpaaGreatDoorQ15
import Derived.Test.YtggmmgojpamcpaaGreatDoorQ16
set_option linter.unusedVariables false
set_option linter.unusedSimpArgs false
namespace Go.Proofs.YtggmmgojpamcpaaGreatDoor
open Go.RowKit

theorem Inp.mono {w : World} {v : Value} {q : Rat} {L M : Nat} (h : Inp w v q L) (hm : L ≤ M) : Inp w v q M := by
  obtain ⟨neg, A, n, c, A', m, c', ln, ld, e, h1, h2, h3, h4, h5, h6⟩ := h
  exact ⟨neg, A, n, c, A', m, c', ln, ld, e, h1, h2, h3, h4, h5, h6.mono hm⟩
set_option maxRecDepth 20000 in
set_option maxHeartbeats 4000000 in
theorem calculates_law (v1 v2 : Value) (nx ny : Bool) (a1 d1 a2 d2 : List Nat) (w : World) (hT : Txt w) (h1 : Fld w v1 nx a1 d1) (h2 : Fld w v2 ny a2 d2) :
    Calls Tryz.prog 4 #[v1, v2] w (Yes w) := by
  obtain ⟨X1, x1, y1, Z1, z1, t1, rfl⟩ := h1.agg
  obtain ⟨X2, x2, y2, Z2, z2, t2, rfl⟩ := h2.agg
  obtain ⟨hb0, r1, r2⟩ := blocks2 w (.bool nx) (.slice X1 x1 y1) (.slice Z1 z1 t1) (.bool ny) (.slice X2 x2 y2) (.slice Z2 z2 t2)
  have g1 := h1.below hb0
  have g2 := h2.below hb0
  obtain ⟨V1, hV1⟩ : ∃ V, lgt a1 d1 = V := ⟨_, rfl⟩
  obtain ⟨V2, hV2⟩ : ∃ V, lgt a2 d2 = V := ⟨_, rfl⟩
  have HV1 := Lib.hid hV1
  have HV2 := Lib.hid hV2
  clear hV1 hV2 h1 h2
  go_enter Tryz.func4, Tryz.ntmps4
  go_wp2_with fail
  generalize ((w.alloc (R1 (.bool nx) (.slice X1 x1 y1) (.slice Z1 z1 t1))).alloc (R1 (.bool ny) (.slice X2 x2 y2) (.slice Z2 z2 t2))) = W0 at *
  refine (light_f _ nx a1 d1 _ V1 g1 HV1).mono ?_
  rintro e w1 ⟨rfl, hb1⟩
  replace hb0 := hb0.trans (hb1.mono hb0.size)
  replace r1 := r1.below hb1 r1.lt
  replace r2 := r2.below hb1 r2.lt
  replace g1 := g1.below hb1
  replace g2 := g2.below hb1
  clear hb1
  obtain ⟨cx0, cx1, cx2⟩ := r1.cells
  obtain ⟨cy0, cy1, cy2⟩ := r2.cells
  cases V1
  · go_wp2_with fail
    refine (awake_any _ (hT.below hb0)).mono ?_
    rintro e w2 ⟨rfl, hb2⟩
    go_wp2_with fail
    go_ret
    exact ⟨rfl, hb0.trans (hb2.mono hb0.size)⟩
  go_wp2_with fail
  refine (light_f _ ny a2 d2 _ V2 g2 HV2).mono ?_
  rintro e w2 ⟨rfl, hb1⟩
  replace hb0 := hb0.trans (hb1.mono hb0.size)
  replace r1 := r1.below hb1 r1.lt
  replace r2 := r2.below hb1 r2.lt
  replace g1 := g1.below hb1
  replace g2 := g2.below hb1
  clear hb1 cx0 cx1 cx2 cy0 cy1 cy2
  obtain ⟨cx0, cx1, cx2⟩ := r1.cells
  obtain ⟨cy0, cy1, cy2⟩ := r2.cells
  cases V2
  · go_wp2_with fail
    refine (awake_any _ (hT.below hb0)).mono ?_
    rintro e w2 ⟨rfl, hb2⟩
    go_wp2_with fail
    go_ret
    exact ⟨rfl, hb0.trans (hb2.mono hb0.size)⟩
  obtain ⟨x, _, ix, jx, sx⟩ := fld_in g1 HV1.out
  obtain ⟨y, _, iy, jy, sy⟩ := fld_in g2 HV2.out
  replace hT := hT.below hb0
  obtain ⟨r, E, hdv, sr⟩ : ∃ (r : Rat) (E : Int), ((y = 0 ∧ r = 0 ∧ E = 11) ∨ (y ≠ 0 ∧ x / y = r ∧ E = 0)) ∧ Sz r 64 := by
    by_cases h0 : y = 0
    · exact ⟨0, 11, .inl ⟨h0, rfl, rfl⟩, sz_zero 64 (by decide)⟩
    · exact ⟨x / y, 0, .inr ⟨h0, rfl, rfl⟩, sz_div sx sy h0 (by decide)⟩
  have HDV := Lib.hid hdv
  clear hdv g1 g2 HV1 HV2
  go_wp2_with fail
  have kgx := r1.lt
  have kgy := r2.lt
  clear cx0 cx1 cx2 cy0 cy1 cy2
  refine (Div_any _ _ x y r 6 E _ hT.tab ix iy (sx.mono (by decide)) (sy.mono (by decide)) HDV.out).mono ?_
  rintro e w3 ⟨v3, rfl, h3, hb3⟩
  obtain ⟨na, A, n, c, B, m, ce, rfl⟩ := h3.agg
  have r13 := r1.below hb3 kgx
  have r23 := r2.below hb3 kgy
  obtain ⟨cx0, cx1, cx2⟩ := r13.cells
  obtain ⟨cy0, cy1, cy2⟩ := r23.cells
  go_upto_region 4 with (fail)
  have hbo : Below w3.heap.size w3 (w3.alloc (R1 (.bool na) (.slice A n c) (.slice B m ce))) := (Below.refl _ _).alloc (Nat.le_refl _) _
  have ra := Rc.new w3 (.bool na) (.slice A n c) (.slice B m ce)
  have hc3 := hb3.trans (hbo.mono hb3.size)
  have ha := h3.below hbo
  have r14 := r1.below hc3 kgx
  have r24 := r2.below hc3 kgy
  have jx4 := jx.below hc3
  have jy4 := jy.below hc3
  clear cx0 cx1 cx2 cy0 cy1 cy2 r13 r23 h3
  obtain ⟨cx0, cx1, cx2⟩ := r14.cells
  obtain ⟨cy0, cy1, cy2⟩ := r24.cells
  have kga := ra.lt
  generalize w3.heap.size = ga at *
  generalize w3.alloc (R1 (.bool na) (.slice A n c) (.slice B m ce)) = W4 at *
  go_wp2_with fail
  refine (r_Div _ _ x y r E _ jx4 jy4 (sx.mono (by decide)) (sy.mono (by decide)) HDV.out).mono ?_
  rintro e w5 ⟨v5, rfl, h5, hb5⟩
  obtain ⟨nb, A', n', c', B', m', ce', rfl⟩ := h5.agg
  go_upto_region 5 with (fail)
  have hbo2 : Below w5.heap.size w5 (w5.alloc (R1 (.bool nb) (.slice A' n' c') (.slice B' m' ce'))) := (Below.refl _ _).alloc (Nat.le_refl _) _
  have rrb := (Rc.new w5 (.bool nb) (.slice A' n' c') (.slice B' m' ce')).drewN 1
  have hc5 := hb5.trans (hbo2.mono hb5.size)
  have qb := (h5.below hbo2).drew1
  have qa := (ha.below hc5).drew1
  have rra := (ra.below hc5 kga).drewN 1
  have hc6 := hc3.trans (hc5.mono hc3.size)
  have rr1 := (r1.below hc6 kgx).drewN 1
  have rr2 := (r2.below hc6 kgy).drewN 1
  have hc6d := hc6.drew
  have ix6 := (ix.below hc6d).mono (M := 64) (by decide)
  have iy6 := (iy.below hc6d).mono (M := 64) (by decide)
  have jx6 := jx.below hc6d
  have jy6 := jy.below hc6d
  have TT := hT.below hc6d
  have hbb := hb0.trans (hc6d.mono hb0.size)
  have tx : Sz x 64 := sx.mono (by decide)
  have ty : Sz y 64 := sy.mono (by decide)
  have S1 : Sz (x + y) 64 := sz_add sx sy (by decide)
  have S2 : Sz (x - y) 64 := sz_sub sx sy (by decide)
  have S3 : Sz (x * y) 64 := sz_mul sx sy (by decide)
  clear cx0 cx1 cx2 cy0 cy1 cy2 r14 r24 jx4 jy4 r1 r2 ra ha h5 ix iy jx jy hT hb0 hb3 hb5 hbo hbo2 hc3 hc5 hc6 hc6d kgx kgy kga
  generalize w5.heap.size = gb at *
  generalize w5.alloc (R1 (.bool nb) (.slice A' n' c') (.slice B' m' ce')) = W6 at *
  have kgx := rr1.lt
  have kgy := rr2.lt
  have kga := rra.lt
  have kgb := rrb.lt
  have hs := And.intro rr1.cells (And.intro rr2.cells (And.intro rra.cells rrb.cells))
  have hc0 := Below.refl W6.drew.heap.size W6.drew
  go_region_held3 (fun w' => (w'.cell? ⟨w.heap.size, 0, none⟩ = some (.bool nx) ∧ w'.cell? ⟨w.heap.size, 1, none⟩ = some (.slice X1 x1 y1) ∧ w'.cell? ⟨w.heap.size, 2, none⟩ = some (.slice Z1 z1 t1)) ∧ (w'.cell? ⟨w.heap.size + 1, 0, none⟩ = some (.bool ny) ∧ w'.cell? ⟨w.heap.size + 1, 1, none⟩ = some (.slice X2 x2 y2) ∧ w'.cell? ⟨w.heap.size + 1, 2, none⟩ = some (.slice Z2 z2 t2)) ∧ (w'.cell? ⟨ga, 0, none⟩ = some (.bool na) ∧ w'.cell? ⟨ga, 1, none⟩ = some (.slice A n c) ∧ w'.cell? ⟨ga, 2, none⟩ = some (.slice B m ce)) ∧ (w'.cell? ⟨gb, 0, none⟩ = some (.bool nb) ∧ w'.cell? ⟨gb, 1, none⟩ = some (.slice A' n' c') ∧ w'.cell? ⟨gb, 2, none⟩ = some (.slice B' m' ce')))
    (exact hs)
    (first
        | (have _g := hc10; go_at_call 19; refine (r_Same_true _ _ r r _ 64 (qa.below hc10) (qb.below hc10) sr (by decide) rfl).mono ?_; rintro e w31 ⟨rfl, hb31⟩; have hc11 := hc10.trans (hb31.mono hc10.size); have hs := And.intro (rr1.below hc11 kgx).cells (And.intro (rr2.below hc11 kgy).cells (And.intro (rra.below hc11 kga).cells (rrb.below hc11 kgb).cells)))
        | (have _g := hc9; go_at_call 19; refine (r_Same_true _ _ (x * y) (x * y) _ 64 h8 h9 S3 (by decide) (rfl)).mono ?_; rintro e w30 ⟨rfl, hb30⟩; have hc10 := hc9.trans (hb30.mono hc9.size); have hs := And.intro (rr1.below hc10 kgx).cells (And.intro (rr2.below hc10 kgy).cells (And.intro (rra.below hc10 kga).cells ((rrb.below hc10 kgb).cells))))
        | (have _g := hc8; go_at_call 35; refine (r_Mul _ _ (x) (y) _ (jx6.below hc8) (jy6.below hc8) (tx.mono (by decide)) (ty.mono (by decide))).mono ?_; rintro e w29 ⟨v9, rfl, h9, hb29⟩; have hc9 := hc8.trans (hb29.mono hc8.size); have hs := And.intro (rr1.below hc9 kgx).cells (And.intro (rr2.below hc9 kgy).cells (And.intro (rra.below hc9 kga).cells ((rrb.below hc9 kgb).cells))); have h8 := h8.below hb29)
        | (have _g := hc7; go_at_call 34; refine (Mul_any _ _ (x) (y) (x * y) 64 _ (TT.tab.below hc7) (ix6.below hc7) (iy6.below hc7) (tx.mono (by decide)) (ty.mono (by decide)) (rfl)).mono ?_; rintro e w28 ⟨v8, rfl, h8, hb28⟩; have hc8 := hc7.trans (hb28.mono hc7.size); have hs := And.intro (rr1.below hc8 kgx).cells (And.intro (rr2.below hc8 kgy).cells (And.intro (rra.below hc8 kga).cells ((rrb.below hc8 kgb).cells))))
        | (have _g := hc6; go_at_call 19; refine (r_Same_true _ _ (x - y) (x - y) _ 64 h5 h6 S2 (by decide) (rfl)).mono ?_; rintro e w27 ⟨rfl, hb27⟩; have hc7 := hc6.trans (hb27.mono hc6.size); have hs := And.intro (rr1.below hc7 kgx).cells (And.intro (rr2.below hc7 kgy).cells (And.intro (rra.below hc7 kga).cells ((rrb.below hc7 kgb).cells))))
        | (have _g := hc5; go_at_call 33; refine (r_Sub _ _ (x) (y) _ (jx6.below hc5) (jy6.below hc5) (tx.mono (by decide)) (ty.mono (by decide))).mono ?_; rintro e w26 ⟨v6, rfl, h6, hb26⟩; have hc6 := hc5.trans (hb26.mono hc5.size); have hs := And.intro (rr1.below hc6 kgx).cells (And.intro (rr2.below hc6 kgy).cells (And.intro (rra.below hc6 kga).cells ((rrb.below hc6 kgb).cells))); have h5 := h5.below hb26)
        | (have _g := hc4; go_at_call 32; refine (Sub_any _ _ (x) (y) (x - y) 64 _ (TT.tab.below hc4) (ix6.below hc4) (iy6.below hc4) (tx.mono (by decide)) (ty.mono (by decide)) (rfl)).mono ?_; rintro e w25 ⟨v5, rfl, h5, hb25⟩; have hc5 := hc4.trans (hb25.mono hc4.size); have hs := And.intro (rr1.below hc5 kgx).cells (And.intro (rr2.below hc5 kgy).cells (And.intro (rra.below hc5 kga).cells ((rrb.below hc5 kgb).cells))))
        | (have _g := hc3; go_at_call 19; refine (r_Same_true _ _ (x + y) (x + y) _ 64 h2 h3 S1 (by decide) (rfl)).mono ?_; rintro e w24 ⟨rfl, hb24⟩; have hc4 := hc3.trans (hb24.mono hc3.size); have hs := And.intro (rr1.below hc4 kgx).cells (And.intro (rr2.below hc4 kgy).cells (And.intro (rra.below hc4 kga).cells ((rrb.below hc4 kgb).cells))))
        | (have _g := hc2; go_at_call 31; refine (r_Add _ _ (x) (y) _ (jx6.below hc2) (jy6.below hc2) (tx.mono (by decide)) (ty.mono (by decide))).mono ?_; rintro e w23 ⟨v3, rfl, h3, hb23⟩; have hc3 := hc2.trans (hb23.mono hc2.size); have hs := And.intro (rr1.below hc3 kgx).cells (And.intro (rr2.below hc3 kgy).cells (And.intro (rra.below hc3 kga).cells ((rrb.below hc3 kgb).cells))); have h2 := h2.below hb23)
        | (have _g := hc1; go_at_call 30; refine (Add_any _ _ (x) (y) (x + y) 64 _ (TT.tab.below hc1) (ix6.below hc1) (iy6.below hc1) (tx.mono (by decide)) (ty.mono (by decide)) (rfl)).mono ?_; rintro e w22 ⟨v2, rfl, h2, hb22⟩; have hc2 := hc1.trans (hb22.mono hc1.size); have hs := And.intro (rr1.below hc2 kgx).cells (And.intro (rr2.below hc2 kgy).cells (And.intro (rra.below hc2 kga).cells ((rrb.below hc2 kgb).cells))))
        | (go_at_call 12; refine (awake_any _ (TT.below hc0)).mono ?_; rintro e w21 ⟨rfl, hb21⟩; have hc1 := hc0.trans (hb21.mono hc0.size); have hs := And.intro (rr1.below hc1 kgx).cells (And.intro (rr2.below hc1 kgy).cells (And.intro (rra.below hc1 kga).cells ((rrb.below hc1 kgb).cells)))))
  go_wp2_with fail
  go_ret
  exact ⟨rfl, hbb.trans (hc11.mono hbb.size)⟩
end Go.Proofs.YtggmmgojpamcpaaGreatDoor
