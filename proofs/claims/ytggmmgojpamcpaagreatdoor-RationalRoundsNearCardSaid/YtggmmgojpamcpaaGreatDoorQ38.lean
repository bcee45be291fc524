/- The specification's Add. -/
import Derived.Test.YtggmmgojpamcpaaGreatDoorQ37
import Derived.Test.YtggmmgojpamcpaaGreatDoorQ33
import Derived.Deep.CutRange
import Derived.Test.YtggmmgojpamcpaaGreatDoorQ15
set_option linter.unusedVariables false
set_option linter.unusedSimpArgs false
namespace Go.Proofs.YtggmmgojpamcpaaGreatDoor
open Go.RowKit

theorem sgn_plus (s : Bool) (a b : Nat) : sgn s (a + b) = sgn s a + sgn s b := by unfold sgn; cases s <;> simp <;> omega
theorem sgn_minus (s : Bool) {a b : Nat} (h : b ≤ a) : sgn s (a - b) = sgn s a + sgn (!s) b := by unfold sgn; cases s <;> simp <;> omega
theorem sgn_minus' (s : Bool) {a b : Nat} (h : a ≤ b) : sgn s (b - a) = sgn (!s) a + sgn s b := by unfold sgn; cases s <;> simp <;> omega

set_option maxRecDepth 20000 in
set_option maxHeartbeats 4000000 in
theorem r_Add (v v' : Value) (x y : Rat) (w : World) (h : Inr w v x) (h' : Inr w v' y) (sx : Sz x 400000) (sy : Sz y 400000) : Calls Tryz.prog 31 #[v, v'] w (RetRat w (x + y)) := by
  obtain ⟨z0, Z, zn, zc, Z', zm, ze, rfl⟩ := h.agg
  obtain ⟨y0, Y, yn, yc, Y', ym, ye, rfl⟩ := h'.agg
  obtain ⟨hbA, hrx, hry, hrr⟩ := blocks3 w (.bool z0) (.slice Z zn zc) (.slice Z' zm ze) (.bool y0) (.slice Y yn yc) (.slice Y' ym ye) (.bool false) (.slice none 0 0) (.slice none 0 0)
  go_enter Tryz.func31, Tryz.ntmps31
  have hI := h.below hbA
  have hI' := h'.below hbA
  go_wp2_with fail
  generalize (((w.alloc (R1 (.bool z0) (.slice Z zn zc) (.slice Z' zm ze))).alloc (R1 (.bool y0) (.slice Y yn yc) (.slice Y' ym ye))).alloc (R1 (.bool false) (.slice none 0 0) (.slice none 0 0))) = W at *
  have hgx : w.heap.size < W.drew.heap.size := hrx.lt
  have hgy : w.heap.size + 1 < W.drew.heap.size := hry.lt
  have hgr : w.heap.size + 1 + 1 < W.drew.heap.size := hrr.lt
  replace hrx := hrx.drew
  replace hry := hry.drew
  replace hrr := hrr.drew
  replace hI : Inr W.drew _ x := hI.below (Below.refl _ _).drew
  replace hI' : Inr W.drew _ y := hI'.below (Below.refl _ _).drew
  replace hbA := hbA.drew
  obtain ⟨k0, k1, k2⟩ := hrx.cells
  obtain ⟨l0, l1, l2⟩ := hry.cells
  go_cut [] from 8 to 11 (fun wx => Clean2 w x y wx ∧ Rc wx (w.heap.size + 1 + 1) (.bool false) (.slice none 0 0) (.slice none 0 0))
  case first =>
    go_region_with (first
      | (have _g := hb1; go_at_call 56; refine (r_Take _ y _ (hI'.below hb1)).mono ?_; rintro e w2 ⟨v2, rfl, h2, hb2⟩; have hb12 := hb1.trans (hb2.mono hb1.size); obtain ⟨k0, k1, k2⟩ := (hrx.below hb12 hgx).cells; obtain ⟨l0, l1, l2⟩ := (hry.below hb12 hgy).cells; obtain ⟨f0, f1, f2⟩ := (hrx.below hb12 hgx).frozen; obtain ⟨g0, g1, g2⟩ := (hry.below hb12 hgy).frozen; obtain ⟨nb2, A2, n2, c2, B2, m2, e2, rfl⟩ := h2.agg)
      | (go_at_call 56; refine (r_Take _ x _ hI).mono ?_; rintro e w1 ⟨v1, rfl, h1, hb1⟩; obtain ⟨k0, k1, k2⟩ := (hrx.below hb1 hgx).cells; obtain ⟨l0, l1, l2⟩ := (hry.below hb1 hgy).cells; obtain ⟨nb1, A1, n1, c1, B1, m1, e1, rfl⟩ := h1.agg))
    all_goals
      go_wp2_with fail
      go_meet
      exact ⟨Clean2.of (h1.below hb2) h2 (hrx.below hb12 hgx) (hry.below hb12 hgy) (hbA.trans (hb12.mono hbA.size)), ((hrr.below hb12 hgr).far3 (by omega) _ _ _).far3 (by omega) _ _ _⟩
  case rest =>
  obtain ⟨⟨nb1, A1, n1, c1, B1, m1, e1, nb2, A2, n2, c2, B2, m2, e2, h1, h2, hrx1, hry1, hb1⟩, hrr1⟩ := hcut
  clear hrx hry hrr hgx hgy hgr hI hI' hbA k0 k1 k2 l0 l1 l2
  obtain ⟨p1, p2, p3⟩ := h1.parts
  obtain ⟨q1, q2, q3⟩ := h2.parts
  have HP1 := Lib.hid p1
  have HQ1 := Lib.hid q1
  have HLX := Lib.hid sx.2
  have HLY := Lib.hid sy.2
  clear p1 q1
  have hs1 : n1 ≤ 1000000 := by rw [p2.len]; exact Nat.le_trans sx.1 (by decide)
  have hs2 : m1 ≤ 1000000 := by rw [p3.len]; exact Nat.le_trans (Nat.le_trans (dl_length _) sx.2) (by decide)
  have hs3 : n2 ≤ 1000000 := by rw [q2.len]; exact Nat.le_trans sy.1 (by decide)
  have hs4 : m2 ≤ 1000000 := by rw [q3.len]; exact Nat.le_trans (Nat.le_trans (dl_length _) sy.2) (by decide)
  go_wp2_with fail
  replace hrx1 := hrx1.drew
  replace hry1 := hry1.drew
  replace hrr1 := hrr1.drew
  replace p2 := p2.drew
  replace p3 := p3.drew
  replace q2 := q2.drew
  replace q3 := q3.drew
  replace hb1 := hb1.drew
  clear h1 h2 h h'
  have hgx := hrx1.lt
  have hgy := hry1.lt
  have hgr := hrr1.lt
  have hsx := hrx1.cells
  have hsy := hry1.cells
  go_region_held3 (fun w' => (w'.cell? ⟨w.heap.size, 0, none⟩ = some (.bool nb1) ∧ w'.cell? ⟨w.heap.size, 1, none⟩ = some (.slice A1 n1 c1) ∧ w'.cell? ⟨w.heap.size, 2, none⟩ = some (.slice B1 m1 e1)) ∧ (w'.cell? ⟨w.heap.size + 1, 0, none⟩ = some (.bool nb2) ∧ w'.cell? ⟨w.heap.size + 1, 1, none⟩ = some (.slice A2 n2 c2) ∧ w'.cell? ⟨w.heap.size + 1, 2, none⟩ = some (.slice B2 m2 e2)))
    (first | exact ⟨hsx, hsy⟩ | exact ⟨⟨cell_set3 (by omega) hsx.1, cell_set3 (by omega) hsx.2.1, cell_set3 (by omega) hsx.2.2⟩, ⟨cell_set3 (by omega) hsy.1, cell_set3 (by omega) hsy.2.1, cell_set3 (by omega) hsy.2.2⟩⟩)
    (first
      | (have _g := hb7; go_at_call 74; refine (r_times _ _ _ _ _ _ x.den y.den _ (g6.below hb7) g7 ?_ ?_).mono ?_; (have := g6.len; have := HLX.out; omega); (have := g7.len; have := HLY.out; omega); rintro e w8 ⟨Q8, k8, d8, rfl, g8, hb8⟩; have hb18 := hb17.trans (hb8.mono hb17.size); have hsx := (hrx1.below hb18 hgx).cells; have hsy := (hry1.below hb18 hgy).cells)
      | (have _g := hb6; go_at_call 75; refine (r_den nb2 A2 B2 n2 c2 m2 e2 y.den _ (q3.below hb16) y.den_nz).mono ?_; rintro e w7 ⟨Q7, k7, d7, rfl, g7, hb7⟩; have hb17 := hb16.trans (hb7.mono hb16.size); have hsx := (hrx1.below hb17 hgx).cells; have hsy := (hry1.below hb17 hgy).cells)
      | (have _g := hb5; go_at_call 75; refine (r_den nb1 A1 B1 n1 c1 m1 e1 x.den _ (p3.below hb15) x.den_nz).mono ?_; rintro e w6 ⟨Q6, k6, d6, rfl, g6, hb6⟩; have hb16 := hb15.trans (hb6.mono hb15.size); have hsx := (hrx1.below hb16 hgx).cells; have hsy := (hry1.below hb16 hgy).cells)
      | (have _g := hb4; go_at_call 74; refine (r_times _ _ _ _ _ _ y.num.natAbs x.den _ (q2.below hb14) g4 ?_ ?_).mono ?_; omega; (have := g4.len; have := HLX.out; omega); rintro e w5 ⟨Q5, k5, d5, rfl, g5, hb5⟩; have hb15 := hb14.trans (hb5.mono hb14.size); have hsx := (hrx1.below hb15 hgx).cells; have hsy := (hry1.below hb15 hgy).cells)
      | (have _g := hb3; go_at_call 75; refine (r_den nb1 A1 B1 n1 c1 m1 e1 x.den _ (p3.below hb13) x.den_nz).mono ?_; rintro e w4 ⟨Q4, k4, d4, rfl, g4, hb4⟩; have hb14 := hb13.trans (hb4.mono hb13.size); have hsx := (hrx1.below hb14 hgx).cells; have hsy := (hry1.below hb14 hgy).cells)
      | (have _g := hb2; go_at_call 74; refine (r_times _ _ _ _ _ _ x.num.natAbs y.den _ (p2.below hb12) g2 ?_ ?_).mono ?_; omega; (have := g2.len; have := HLY.out; omega); rintro e w3 ⟨Q3, k3, d3, rfl, g3, hb3⟩; have hb13 := hb12.trans (hb3.mono hb12.size); have hsx := (hrx1.below hb13 hgx).cells; have hsy := (hry1.below hb13 hgy).cells)
      | (go_at_call 75; refine (r_den nb2 A2 B2 n2 c2 m2 e2 y.den _ q3 y.den_nz).mono ?_; rintro e w2 ⟨Q2, k2, d2, rfl, g2, hb2⟩; have hb12 := hb2; have hsx := (hrx1.below hb12 hgx).cells; have hsy := (hry1.below hb12 hgy).cells))
  have e1 := hb4.trans (hb5.mono hb4.size)
  have e2 := e1.trans (hb6.mono e1.size)
  have e3 := e2.trans (hb7.mono e2.size)
  have e4 := e3.trans (hb8.mono e3.size)
  have i1 := hb6.trans (hb7.mono hb6.size)
  have i2 := i1.trans (hb8.mono i1.size)
  have ga := g3.num.below e4
  have gb := g5.num.below i2
  have gd := g8.num
  have HRX := hrx1.below hb18 hgx
  have HRY := hry1.below hb18 hgy
  have HRR := hrr1.below hb18 hgr
  have hbw := hb1.trans (hb18.mono hb1.size)
  have hval : mkRat (sgn nb1 (x.num.natAbs * y.den) + sgn nb2 (y.num.natAbs * x.den)) (x.den * y.den) = x + y := by
    rw [Rat.add_def', ← sgn_cast_mul, ← sgn_cast_mul, HP1.out, HQ1.out, sgn_self, sgn_self]
  have HLA := Lib.hid (Nat.le_trans (length_mul x.num.natAbs y.den) (Nat.add_le_add sx.1 sy.2))
  have HLB := Lib.hid (Nat.le_trans (length_mul y.num.natAbs x.den) (Nat.add_le_add sy.1 sx.2))
  have HLD := Lib.hid (Nat.le_trans (length_mul x.den y.den) (Nat.add_le_add sx.2 sy.2))
  have HDN := Lib.hid (Nat.mul_ne_zero x.den_nz y.den_nz)
  clear e1 e2 e3 e4 i1 i2 g2 g3 g4 g5 g6 g7 g8 hb2 hb3 hb4 hb5 hb6 hb7 hb8 hb12 hb13 hb14 hb15 hb16 hb17 hb18 p2 p3 q2 q3 hrx1 hry1 hrr1 hgx hgy hgr hb1 HP1 HQ1 HLX HLY hs1 hs2 hs3 hs4 sx sy
  generalize x.num.natAbs * y.den = a at *
  generalize y.num.natAbs * x.den = b at *
  generalize x.den * y.den = d at *
  generalize x + y = r at *
  have HV := Lib.hid hval
  clear hval
  obtain ⟨cx0, cx1, cx2⟩ := HRX.cells
  obtain ⟨cy0, cy1, cy2⟩ := HRY.cells
  cases nb1 <;> cases nb2
  · have hq : qv false (a + b) d = r := by rw [← HV.out]; unfold qv; rw [sgn_plus]
    have HSZ := Lib.hid (show (limbs (a + b)).length ≤ 800001 by have := HLA.out; have := HLB.out; have := length_plus a b; omega)
    obtain ⟨j1, j2, j3⟩ := qv_reduce false (a := a + b) HDN.out
    rw [hq] at j1
    have HJ := Lib.hid (And.intro j1 (And.intro j2 j3))
    clear hq j1 j2 j3
    go_wp2_with fail
    replace HRX := HRX.drew
    replace HRY := HRY.drew
    replace HRR := HRR.drew
    replace ga := ga.drew
    replace gb := gb.drew
    replace gd := gd.drew
    replace hbw := hbw.drew
    have hgx := HRX.lt
    have hgy := HRY.lt
    have hgr := HRR.lt
    have hsx := HRX.cells
    have hsy := HRY.cells
    go_region_held3 (fun w' => (w'.cell? ⟨w.heap.size, 0, none⟩ = some (.bool false) ∧ w'.cell? ⟨w.heap.size, 1, none⟩ = some (.slice A1 n1 c1) ∧ w'.cell? ⟨w.heap.size, 2, none⟩ = some (.slice B1 m1 e1)) ∧ (w'.cell? ⟨w.heap.size + 1, 0, none⟩ = some (.bool false) ∧ w'.cell? ⟨w.heap.size + 1, 1, none⟩ = some (.slice A2 n2 c2) ∧ w'.cell? ⟨w.heap.size + 1, 2, none⟩ = some (.slice B2 m2 e2)))
      (first | exact ⟨hsx, hsy⟩ | exact ⟨⟨cell_set3 (by omega) hsx.1, cell_set3 (by omega) hsx.2.1, cell_set3 (by omega) hsx.2.2⟩, ⟨cell_set3 (by omega) hsy.1, cell_set3 (by omega) hsy.2.1, cell_set3 (by omega) hsy.2.2⟩⟩)
      (first
        | (have _g := hb9; go_at_call 51; refine (r_over _ _ _ _ _ _ _ (a + b) d _ g9.num (gd.below hb9) ?_ ?_ HDN.out).mono ?_; (have := g9.len; have := HSZ.out; omega); (have := gd.len; have := HLD.out; omega); rintro e w10 hr; obtain ⟨v10, rfl, h10, hb10⟩ := RetFrac.rat HJ.out.2.1 HJ.out.2.2 HJ.out.1 hr; have hb19 := hb9.trans (hb10.mono hb9.size); have hsx := (HRX.below hb19 hgx).cells; have hsy := (HRY.below hb19 hgy).cells; have hrr9 := HRR.below hb19 hgr; obtain ⟨nb, A, n, c, B, m, e, rfl⟩ := h10.agg; obtain ⟨r0, r1, r2⟩ := hrr9.cells; obtain ⟨f0, f1, f2⟩ := hrr9.frozen)
        | (go_at_call 76; refine (r_plus _ _ _ _ _ _ a b _ ga gb ?_ ?_).mono ?_; (have := ga.len; have := HLA.out; omega); (have := gb.len; have := HLB.out; omega); rintro e w9 ⟨A9, n9, c9, rfl, g9, hb9⟩; have hsx := (HRX.below hb9 hgx).cells; have hsy := (HRY.below hb9 hgy).cells))
    go_wp2_with fail
    refine ret_rc Tryz.results31 rfl (hrr9.set _ _ _) rfl ?_
    exact ⟨_, rfl, h10.set3 hrr9 _ _ _, below_set3 (hbw.trans (hb19.mono hbw.size)) (by omega) _ _ _⟩
  · go_wp2_with fail
    rcases Nat.lt_or_ge a b with hab | hab
    · have HLE := Lib.hid (Nat.le_of_lt hab)
      obtain ⟨cv, hcv, hc0⟩ : ∃ cv : Int, cmpI a b = cv ∧ decide (0 ≤ cv) = false := ⟨_, rfl, by unfold cmpI; rw [if_pos (by omega)]; decide⟩
      have HCV := Lib.hid hcv
      clear hcv
      have hq : qv true (b - a) d = r := by rw [← HV.out]; unfold qv; rw [sgn_minus' _ HLE.out]; rfl
      have HSZ := Lib.hid (show (limbs (b - a)).length ≤ 800001 by have := HLA.out; have := HLB.out; have := length_mono (Nat.sub_le b a); omega)
      obtain ⟨j1, j2, j3⟩ := qv_reduce true (a := b - a) HDN.out
      rw [hq] at j1
      have HJ := Lib.hid (And.intro j1 (And.intro j2 j3))
      clear hq j1 j2 j3 hab
      refine (r_compare _ _ _ _ _ _ a b _ cv ga gb (by have := ga.len; have := HLA.out; omega) (by have := gb.len; have := HLB.out; omega) HCV).mono ?_
      rintro e w' ⟨rfl, q, rfl⟩
      replace HRX := HRX.drewN q
      replace HRY := HRY.drewN q
      replace HRR := HRR.drewN q
      replace ga := ga.drewN q
      replace gb := gb.drewN q
      replace gd := gd.drewN q
      replace hbw := below_drewN hbw q
      obtain ⟨cx0, cx1, cx2⟩ := HRX.cells
      obtain ⟨cy0, cy1, cy2⟩ := HRY.cells
      go_wp2_with fail
      replace HRX := HRX.drew
      replace HRY := HRY.drew
      replace HRR := HRR.drew
      replace ga := ga.drew
      replace gb := gb.drew
      replace gd := gd.drew
      replace hbw := hbw.drew
      have hgx := HRX.lt
      have hgy := HRY.lt
      have hgr := HRR.lt
      have hsx := HRX.cells
      have hsy := HRY.cells
      go_region_held3 (fun w' => (w'.cell? ⟨w.heap.size, 0, none⟩ = some (.bool false) ∧ w'.cell? ⟨w.heap.size, 1, none⟩ = some (.slice A1 n1 c1) ∧ w'.cell? ⟨w.heap.size, 2, none⟩ = some (.slice B1 m1 e1)) ∧ (w'.cell? ⟨w.heap.size + 1, 0, none⟩ = some (.bool true) ∧ w'.cell? ⟨w.heap.size + 1, 1, none⟩ = some (.slice A2 n2 c2) ∧ w'.cell? ⟨w.heap.size + 1, 2, none⟩ = some (.slice B2 m2 e2)))
        (first | exact ⟨hsx, hsy⟩ | exact ⟨⟨cell_set3 (by omega) hsx.1, cell_set3 (by omega) hsx.2.1, cell_set3 (by omega) hsx.2.2⟩, ⟨cell_set3 (by omega) hsy.1, cell_set3 (by omega) hsy.2.1, cell_set3 (by omega) hsy.2.2⟩⟩)
        (first
          | (have _g := hb9; go_at_call 51; refine (r_over _ _ _ _ _ _ _ (b - a) d _ g9.num (gd.below hb9) ?_ ?_ HDN.out).mono ?_; (have := g9.len; have := HSZ.out; omega); (have := gd.len; have := HLD.out; omega); rintro e w10 hr; obtain ⟨v10, rfl, h10, hb10⟩ := RetFrac.rat HJ.out.2.1 HJ.out.2.2 HJ.out.1 hr; have hb19 := hb9.trans (hb10.mono hb9.size); have hsx := (HRX.below hb19 hgx).cells; have hsy := (HRY.below hb19 hgy).cells; have hrr9 := HRR.below hb19 hgr; obtain ⟨nb, A, n, c, B, m, e, rfl⟩ := h10.agg; obtain ⟨r0, r1, r2⟩ := hrr9.cells; obtain ⟨f0, f1, f2⟩ := hrr9.frozen)
          | (go_at_call 78; refine (r_minus _ _ _ _ _ _ b a _ gb ga ?_ HLE.out).mono ?_; (have := gb.len; have := HLB.out; omega); rintro e w9 ⟨A9, n9, c9, rfl, g9, hb9⟩; have hsx := (HRX.below hb9 hgx).cells; have hsy := (HRY.below hb9 hgy).cells))
      go_wp2_with fail
      refine ret_rc Tryz.results31 rfl (hrr9.set _ _ _) rfl ?_
      exact ⟨_, rfl, h10.set3 hrr9 _ _ _, below_set3 (hbw.trans (hb19.mono hbw.size)) (by omega) _ _ _⟩
    · have HLE := Lib.hid (hab)
      obtain ⟨cv, hcv, hc0⟩ : ∃ cv : Int, cmpI a b = cv ∧ decide (0 ≤ cv) = true := ⟨_, rfl, by unfold cmpI; rw [if_neg (by omega)]; split <;> decide⟩
      have HCV := Lib.hid hcv
      clear hcv
      have hq : qv false (a - b) d = r := by rw [← HV.out]; unfold qv; rw [sgn_minus _ HLE.out]; rfl
      have HSZ := Lib.hid (show (limbs (a - b)).length ≤ 800001 by have := HLA.out; have := HLB.out; have := length_mono (Nat.sub_le a b); omega)
      obtain ⟨j1, j2, j3⟩ := qv_reduce false (a := a - b) HDN.out
      rw [hq] at j1
      have HJ := Lib.hid (And.intro j1 (And.intro j2 j3))
      clear hq j1 j2 j3 hab
      refine (r_compare _ _ _ _ _ _ a b _ cv ga gb (by have := ga.len; have := HLA.out; omega) (by have := gb.len; have := HLB.out; omega) HCV).mono ?_
      rintro e w' ⟨rfl, q, rfl⟩
      replace HRX := HRX.drewN q
      replace HRY := HRY.drewN q
      replace HRR := HRR.drewN q
      replace ga := ga.drewN q
      replace gb := gb.drewN q
      replace gd := gd.drewN q
      replace hbw := below_drewN hbw q
      obtain ⟨cx0, cx1, cx2⟩ := HRX.cells
      obtain ⟨cy0, cy1, cy2⟩ := HRY.cells
      go_wp2_with fail
      replace HRX := HRX.drew
      replace HRY := HRY.drew
      replace HRR := HRR.drew
      replace ga := ga.drew
      replace gb := gb.drew
      replace gd := gd.drew
      replace hbw := hbw.drew
      have hgx := HRX.lt
      have hgy := HRY.lt
      have hgr := HRR.lt
      have hsx := HRX.cells
      have hsy := HRY.cells
      go_region_held3 (fun w' => (w'.cell? ⟨w.heap.size, 0, none⟩ = some (.bool false) ∧ w'.cell? ⟨w.heap.size, 1, none⟩ = some (.slice A1 n1 c1) ∧ w'.cell? ⟨w.heap.size, 2, none⟩ = some (.slice B1 m1 e1)) ∧ (w'.cell? ⟨w.heap.size + 1, 0, none⟩ = some (.bool true) ∧ w'.cell? ⟨w.heap.size + 1, 1, none⟩ = some (.slice A2 n2 c2) ∧ w'.cell? ⟨w.heap.size + 1, 2, none⟩ = some (.slice B2 m2 e2)))
        (first | exact ⟨hsx, hsy⟩ | exact ⟨⟨cell_set3 (by omega) hsx.1, cell_set3 (by omega) hsx.2.1, cell_set3 (by omega) hsx.2.2⟩, ⟨cell_set3 (by omega) hsy.1, cell_set3 (by omega) hsy.2.1, cell_set3 (by omega) hsy.2.2⟩⟩)
        (first
          | (have _g := hb9; go_at_call 51; refine (r_over _ _ _ _ _ _ _ (a - b) d _ g9.num (gd.below hb9) ?_ ?_ HDN.out).mono ?_; (have := g9.len; have := HSZ.out; omega); (have := gd.len; have := HLD.out; omega); rintro e w10 hr; obtain ⟨v10, rfl, h10, hb10⟩ := RetFrac.rat HJ.out.2.1 HJ.out.2.2 HJ.out.1 hr; have hb19 := hb9.trans (hb10.mono hb9.size); have hsx := (HRX.below hb19 hgx).cells; have hsy := (HRY.below hb19 hgy).cells; have hrr9 := HRR.below hb19 hgr; obtain ⟨nb, A, n, c, B, m, e, rfl⟩ := h10.agg; obtain ⟨r0, r1, r2⟩ := hrr9.cells; obtain ⟨f0, f1, f2⟩ := hrr9.frozen)
          | (go_at_call 78; refine (r_minus _ _ _ _ _ _ a b _ ga gb ?_ HLE.out).mono ?_; (have := ga.len; have := HLA.out; omega); rintro e w9 ⟨A9, n9, c9, rfl, g9, hb9⟩; have hsx := (HRX.below hb9 hgx).cells; have hsy := (HRY.below hb9 hgy).cells))
      go_wp2_with fail
      refine ret_rc Tryz.results31 rfl (hrr9.set _ _ _) rfl ?_
      exact ⟨_, rfl, h10.set3 hrr9 _ _ _, below_set3 (hbw.trans (hb19.mono hbw.size)) (by omega) _ _ _⟩
  · go_wp2_with fail
    rcases Nat.lt_or_ge a b with hab | hab
    · have HLE := Lib.hid (Nat.le_of_lt hab)
      obtain ⟨cv, hcv, hc0⟩ : ∃ cv : Int, cmpI a b = cv ∧ decide (0 ≤ cv) = false := ⟨_, rfl, by unfold cmpI; rw [if_pos (by omega)]; decide⟩
      have HCV := Lib.hid hcv
      clear hcv
      have hq : qv false (b - a) d = r := by rw [← HV.out]; unfold qv; rw [sgn_minus' _ HLE.out]; rfl
      have HSZ := Lib.hid (show (limbs (b - a)).length ≤ 800001 by have := HLA.out; have := HLB.out; have := length_mono (Nat.sub_le b a); omega)
      obtain ⟨j1, j2, j3⟩ := qv_reduce false (a := b - a) HDN.out
      rw [hq] at j1
      have HJ := Lib.hid (And.intro j1 (And.intro j2 j3))
      clear hq j1 j2 j3 hab
      refine (r_compare _ _ _ _ _ _ a b _ cv ga gb (by have := ga.len; have := HLA.out; omega) (by have := gb.len; have := HLB.out; omega) HCV).mono ?_
      rintro e w' ⟨rfl, q, rfl⟩
      replace HRX := HRX.drewN q
      replace HRY := HRY.drewN q
      replace HRR := HRR.drewN q
      replace ga := ga.drewN q
      replace gb := gb.drewN q
      replace gd := gd.drewN q
      replace hbw := below_drewN hbw q
      obtain ⟨cx0, cx1, cx2⟩ := HRX.cells
      obtain ⟨cy0, cy1, cy2⟩ := HRY.cells
      go_wp2_with fail
      replace HRX := HRX.drew
      replace HRY := HRY.drew
      replace HRR := HRR.drew
      replace ga := ga.drew
      replace gb := gb.drew
      replace gd := gd.drew
      replace hbw := hbw.drew
      have hgx := HRX.lt
      have hgy := HRY.lt
      have hgr := HRR.lt
      have hsx := HRX.cells
      have hsy := HRY.cells
      go_region_held3 (fun w' => (w'.cell? ⟨w.heap.size, 0, none⟩ = some (.bool true) ∧ w'.cell? ⟨w.heap.size, 1, none⟩ = some (.slice A1 n1 c1) ∧ w'.cell? ⟨w.heap.size, 2, none⟩ = some (.slice B1 m1 e1)) ∧ (w'.cell? ⟨w.heap.size + 1, 0, none⟩ = some (.bool false) ∧ w'.cell? ⟨w.heap.size + 1, 1, none⟩ = some (.slice A2 n2 c2) ∧ w'.cell? ⟨w.heap.size + 1, 2, none⟩ = some (.slice B2 m2 e2)))
        (first | exact ⟨hsx, hsy⟩ | exact ⟨⟨cell_set3 (by omega) hsx.1, cell_set3 (by omega) hsx.2.1, cell_set3 (by omega) hsx.2.2⟩, ⟨cell_set3 (by omega) hsy.1, cell_set3 (by omega) hsy.2.1, cell_set3 (by omega) hsy.2.2⟩⟩)
        (first
          | (have _g := hb9; go_at_call 51; refine (r_over _ _ _ _ _ _ _ (b - a) d _ g9.num (gd.below hb9) ?_ ?_ HDN.out).mono ?_; (have := g9.len; have := HSZ.out; omega); (have := gd.len; have := HLD.out; omega); rintro e w10 hr; obtain ⟨v10, rfl, h10, hb10⟩ := RetFrac.rat HJ.out.2.1 HJ.out.2.2 HJ.out.1 hr; have hb19 := hb9.trans (hb10.mono hb9.size); have hsx := (HRX.below hb19 hgx).cells; have hsy := (HRY.below hb19 hgy).cells; have hrr9 := HRR.below hb19 hgr; obtain ⟨nb, A, n, c, B, m, e, rfl⟩ := h10.agg; obtain ⟨r0, r1, r2⟩ := hrr9.cells; obtain ⟨f0, f1, f2⟩ := hrr9.frozen)
          | (go_at_call 78; refine (r_minus _ _ _ _ _ _ b a _ gb ga ?_ HLE.out).mono ?_; (have := gb.len; have := HLB.out; omega); rintro e w9 ⟨A9, n9, c9, rfl, g9, hb9⟩; have hsx := (HRX.below hb9 hgx).cells; have hsy := (HRY.below hb9 hgy).cells))
      go_wp2_with fail
      refine ret_rc Tryz.results31 rfl (hrr9.set _ _ _) rfl ?_
      exact ⟨_, rfl, h10.set3 hrr9 _ _ _, below_set3 (hbw.trans (hb19.mono hbw.size)) (by omega) _ _ _⟩
    · have HLE := Lib.hid (hab)
      obtain ⟨cv, hcv, hc0⟩ : ∃ cv : Int, cmpI a b = cv ∧ decide (0 ≤ cv) = true := ⟨_, rfl, by unfold cmpI; rw [if_neg (by omega)]; split <;> decide⟩
      have HCV := Lib.hid hcv
      clear hcv
      have hq : qv true (a - b) d = r := by rw [← HV.out]; unfold qv; rw [sgn_minus _ HLE.out]; rfl
      have HSZ := Lib.hid (show (limbs (a - b)).length ≤ 800001 by have := HLA.out; have := HLB.out; have := length_mono (Nat.sub_le a b); omega)
      obtain ⟨j1, j2, j3⟩ := qv_reduce true (a := a - b) HDN.out
      rw [hq] at j1
      have HJ := Lib.hid (And.intro j1 (And.intro j2 j3))
      clear hq j1 j2 j3 hab
      refine (r_compare _ _ _ _ _ _ a b _ cv ga gb (by have := ga.len; have := HLA.out; omega) (by have := gb.len; have := HLB.out; omega) HCV).mono ?_
      rintro e w' ⟨rfl, q, rfl⟩
      replace HRX := HRX.drewN q
      replace HRY := HRY.drewN q
      replace HRR := HRR.drewN q
      replace ga := ga.drewN q
      replace gb := gb.drewN q
      replace gd := gd.drewN q
      replace hbw := below_drewN hbw q
      obtain ⟨cx0, cx1, cx2⟩ := HRX.cells
      obtain ⟨cy0, cy1, cy2⟩ := HRY.cells
      go_wp2_with fail
      replace HRX := HRX.drew
      replace HRY := HRY.drew
      replace HRR := HRR.drew
      replace ga := ga.drew
      replace gb := gb.drew
      replace gd := gd.drew
      replace hbw := hbw.drew
      have hgx := HRX.lt
      have hgy := HRY.lt
      have hgr := HRR.lt
      have hsx := HRX.cells
      have hsy := HRY.cells
      go_region_held3 (fun w' => (w'.cell? ⟨w.heap.size, 0, none⟩ = some (.bool true) ∧ w'.cell? ⟨w.heap.size, 1, none⟩ = some (.slice A1 n1 c1) ∧ w'.cell? ⟨w.heap.size, 2, none⟩ = some (.slice B1 m1 e1)) ∧ (w'.cell? ⟨w.heap.size + 1, 0, none⟩ = some (.bool false) ∧ w'.cell? ⟨w.heap.size + 1, 1, none⟩ = some (.slice A2 n2 c2) ∧ w'.cell? ⟨w.heap.size + 1, 2, none⟩ = some (.slice B2 m2 e2)))
        (first | exact ⟨hsx, hsy⟩ | exact ⟨⟨cell_set3 (by omega) hsx.1, cell_set3 (by omega) hsx.2.1, cell_set3 (by omega) hsx.2.2⟩, ⟨cell_set3 (by omega) hsy.1, cell_set3 (by omega) hsy.2.1, cell_set3 (by omega) hsy.2.2⟩⟩)
        (first
          | (have _g := hb9; go_at_call 51; refine (r_over _ _ _ _ _ _ _ (a - b) d _ g9.num (gd.below hb9) ?_ ?_ HDN.out).mono ?_; (have := g9.len; have := HSZ.out; omega); (have := gd.len; have := HLD.out; omega); rintro e w10 hr; obtain ⟨v10, rfl, h10, hb10⟩ := RetFrac.rat HJ.out.2.1 HJ.out.2.2 HJ.out.1 hr; have hb19 := hb9.trans (hb10.mono hb9.size); have hsx := (HRX.below hb19 hgx).cells; have hsy := (HRY.below hb19 hgy).cells; have hrr9 := HRR.below hb19 hgr; obtain ⟨nb, A, n, c, B, m, e, rfl⟩ := h10.agg; obtain ⟨r0, r1, r2⟩ := hrr9.cells; obtain ⟨f0, f1, f2⟩ := hrr9.frozen)
          | (go_at_call 78; refine (r_minus _ _ _ _ _ _ a b _ ga gb ?_ HLE.out).mono ?_; (have := ga.len; have := HLA.out; omega); rintro e w9 ⟨A9, n9, c9, rfl, g9, hb9⟩; have hsx := (HRX.below hb9 hgx).cells; have hsy := (HRY.below hb9 hgy).cells))
      go_wp2_with fail
      refine ret_rc Tryz.results31 rfl (hrr9.set _ _ _) rfl ?_
      exact ⟨_, rfl, h10.set3 hrr9 _ _ _, below_set3 (hbw.trans (hb19.mono hbw.size)) (by omega) _ _ _⟩
  · have hq : qv true (a + b) d = r := by rw [← HV.out]; unfold qv; rw [sgn_plus]
    have HSZ := Lib.hid (show (limbs (a + b)).length ≤ 800001 by have := HLA.out; have := HLB.out; have := length_plus a b; omega)
    obtain ⟨j1, j2, j3⟩ := qv_reduce true (a := a + b) HDN.out
    rw [hq] at j1
    have HJ := Lib.hid (And.intro j1 (And.intro j2 j3))
    clear hq j1 j2 j3
    go_wp2_with fail
    replace HRX := HRX.drew
    replace HRY := HRY.drew
    replace HRR := HRR.drew
    replace ga := ga.drew
    replace gb := gb.drew
    replace gd := gd.drew
    replace hbw := hbw.drew
    have hgx := HRX.lt
    have hgy := HRY.lt
    have hgr := HRR.lt
    have hsx := HRX.cells
    have hsy := HRY.cells
    go_region_held3 (fun w' => (w'.cell? ⟨w.heap.size, 0, none⟩ = some (.bool true) ∧ w'.cell? ⟨w.heap.size, 1, none⟩ = some (.slice A1 n1 c1) ∧ w'.cell? ⟨w.heap.size, 2, none⟩ = some (.slice B1 m1 e1)) ∧ (w'.cell? ⟨w.heap.size + 1, 0, none⟩ = some (.bool true) ∧ w'.cell? ⟨w.heap.size + 1, 1, none⟩ = some (.slice A2 n2 c2) ∧ w'.cell? ⟨w.heap.size + 1, 2, none⟩ = some (.slice B2 m2 e2)))
      (first | exact ⟨hsx, hsy⟩ | exact ⟨⟨cell_set3 (by omega) hsx.1, cell_set3 (by omega) hsx.2.1, cell_set3 (by omega) hsx.2.2⟩, ⟨cell_set3 (by omega) hsy.1, cell_set3 (by omega) hsy.2.1, cell_set3 (by omega) hsy.2.2⟩⟩)
      (first
        | (have _g := hb9; go_at_call 51; refine (r_over _ _ _ _ _ _ _ (a + b) d _ g9.num (gd.below hb9) ?_ ?_ HDN.out).mono ?_; (have := g9.len; have := HSZ.out; omega); (have := gd.len; have := HLD.out; omega); rintro e w10 hr; obtain ⟨v10, rfl, h10, hb10⟩ := RetFrac.rat HJ.out.2.1 HJ.out.2.2 HJ.out.1 hr; have hb19 := hb9.trans (hb10.mono hb9.size); have hsx := (HRX.below hb19 hgx).cells; have hsy := (HRY.below hb19 hgy).cells; have hrr9 := HRR.below hb19 hgr; obtain ⟨nb, A, n, c, B, m, e, rfl⟩ := h10.agg; obtain ⟨r0, r1, r2⟩ := hrr9.cells; obtain ⟨f0, f1, f2⟩ := hrr9.frozen)
        | (go_at_call 76; refine (r_plus _ _ _ _ _ _ a b _ ga gb ?_ ?_).mono ?_; (have := ga.len; have := HLA.out; omega); (have := gb.len; have := HLB.out; omega); rintro e w9 ⟨A9, n9, c9, rfl, g9, hb9⟩; have hsx := (HRX.below hb9 hgx).cells; have hsy := (HRY.below hb9 hgy).cells))
    go_wp2_with fail
    refine ret_rc Tryz.results31 rfl (hrr9.set _ _ _) rfl ?_
    exact ⟨_, rfl, h10.set3 hrr9 _ _ _, below_set3 (hbw.trans (hb19.mono hbw.size)) (by omega) _ _ _⟩
end Go.Proofs.YtggmmgojpamcpaaGreatDoor

namespace Go.Proofs.YtggmmgojpamcpaaGreatDoor
open Go.RowKit

set_option maxRecDepth 20000 in
set_option maxHeartbeats 2000000 in
theorem r_Sub (v v' : Value) (x y : Rat) (w : World) (h : Inr w v x) (h' : Inr w v' y) (sx : Sz x 400000) (sy : Sz y 400000) : Calls Tryz.prog 33 #[v, v'] w (RetRat w (x - y)) := by
  obtain ⟨z0, Z, zn, zc, Z', zm, ze, rfl⟩ := h.agg
  obtain ⟨y0, Y, yn, yc, Y', ym, ye, rfl⟩ := h'.agg
  obtain ⟨hbA, hrx, hry, hrr⟩ := blocks3 w (.bool z0) (.slice Z zn zc) (.slice Z' zm ze) (.bool y0) (.slice Y yn yc) (.slice Y' ym ye) (.bool false) (.slice none 0 0) (.slice none 0 0)
  have HR := Lib.hid (Rat.sub_eq_add_neg x y)
  go_enter Tryz.func33, Tryz.ntmps33
  have hI := h.below hbA
  have hI' := h'.below hbA
  go_wp2_with fail
  generalize (((w.alloc (R1 (.bool z0) (.slice Z zn zc) (.slice Z' zm ze))).alloc (R1 (.bool y0) (.slice Y yn yc) (.slice Y' ym ye))).alloc (R1 (.bool false) (.slice none 0 0) (.slice none 0 0))) = W at *
  have hgx : w.heap.size < W.drew.heap.size := hrx.lt
  have hgy : w.heap.size + 1 < W.drew.heap.size := hry.lt
  have hgr : w.heap.size + 1 + 1 < W.drew.heap.size := hrr.lt
  replace hrx := hrx.drew
  replace hry := hry.drew
  replace hrr := hrr.drew
  replace hI : Inr W.drew _ x := hI.below (Below.refl _ _).drew
  replace hI' : Inr W.drew _ y := hI'.below (Below.refl _ _).drew
  replace hbA := hbA.drew
  have hsx := hrx.cells
  have hsy := hry.cells
  go_region_held3 (fun w' => (w'.cell? ⟨w.heap.size, 0, none⟩ = some (.bool z0) ∧ w'.cell? ⟨w.heap.size, 1, none⟩ = some (.slice Z zn zc) ∧ w'.cell? ⟨w.heap.size, 2, none⟩ = some (.slice Z' zm ze)) ∧ (w'.cell? ⟨w.heap.size + 1, 0, none⟩ = some (.bool y0) ∧ w'.cell? ⟨w.heap.size + 1, 1, none⟩ = some (.slice Y yn yc) ∧ w'.cell? ⟨w.heap.size + 1, 2, none⟩ = some (.slice Y' ym ye)))
    (first | exact ⟨hsx, hsy⟩ | exact ⟨⟨cell_set3 (by omega) hsx.1, cell_set3 (by omega) hsx.2.1, cell_set3 (by omega) hsx.2.2⟩, ⟨cell_set3 (by omega) hsy.1, cell_set3 (by omega) hsy.2.1, cell_set3 (by omega) hsy.2.2⟩⟩)
    (first
      | (have _g := hb4; go_at_call 31; refine (r_Add _ _ x (-y) _ (hI.below hb4) (h4.inr (sz_neg sy) (by decide)) sx (sz_neg sy)).mono ?_; rintro e' w5 ⟨v5, rfl, h5, hb5⟩; have hb45 := hb4.trans (hb5.mono hb4.size); have hsx := (hrx.below hb45 hgx).cells; have hsy := (hry.below hb45 hgy).cells; have hrr5 := hrr.below hb45 hgr; obtain ⟨nb5, A5, n5, c5, B5, m5, e5, rfl⟩ := h5.agg; obtain ⟨r0, r1, r2⟩ := hrr5.cells; obtain ⟨g0, g1, g2⟩ := hrr5.frozen)
      | (go_at_call 25; refine (r_Neg _ y _ hI').mono ?_; rintro e' w4 ⟨v4, rfl, h4, hb4⟩; have hsx := (hrx.below hb4 hgx).cells; have hsy := (hry.below hb4 hgy).cells))
  go_wp2_with fail
  refine ret_rc Tryz.results33 rfl (hrr5.set _ _ _) rfl ?_
  rw [HR.out]
  exact ⟨_, rfl, h5.set3 hrr5 _ _ _, below_set3 (hbA.trans (hb45.mono hbA.size)) (by omega) _ _ _⟩

set_option maxRecDepth 20000 in
set_option maxHeartbeats 2000000 in
theorem r_Compare (v v' : Value) (x y : Rat) (w : World) (h : Inr w v x) (h' : Inr w v' y) (sx : Sz x 400000) (sy : Sz y 400000) : Calls Tryz.prog 21 #[v, v'] w (RetV w (.int .i64 (x - y).num.sign)) := by
  obtain ⟨z0, Z, zn, zc, Z', zm, ze, rfl⟩ := h.agg
  obtain ⟨y0, Y, yn, yc, Y', ym, ye, rfl⟩ := h'.agg
  obtain ⟨hbA, hrx, hry⟩ := blocks2 w (.bool z0) (.slice Z zn zc) (.slice Z' zm ze) (.bool y0) (.slice Y yn yc) (.slice Y' ym ye)
  go_enter Tryz.func21, Tryz.ntmps21
  have hI := h.below hbA
  have hI' := h'.below hbA
  go_wp2_with fail
  refine (r_Sub _ _ x y _ hI hI' sx sy).mono ?_
  rintro e w1 ⟨v1, rfl, h1, hb1⟩
  go_wp2_with fail
  refine (r_Sign _ (x - y) _ (h1.inr (sz_sub sx sy (Nat.le_refl _)) (by decide))).mono ?_
  rintro e w2 ⟨rfl, hb2⟩
  go_wp2_with fail
  go_ret
  exact ⟨rfl, hbA.trans ((hb1.trans (hb2.mono hb1.size)).mono hbA.size)⟩
end Go.Proofs.YtggmmgojpamcpaaGreatDoor

namespace Go.Proofs.YtggmmgojpamcpaaGreatDoor
open Go.RowKit

theorem rat_tr {x y z : Rat} (a : x < y) (b : y < z) : x < z := by grind
theorem cmpQ_swap (x y : Rat) : cmpQ y x = - cmpQ x y := by
  unfold cmpQ
  by_cases h1 : x < y
  · rw [if_neg (show ¬ y < x by grind), if_pos h1, if_pos h1]; rfl
  · by_cases h2 : y < x
    · rw [if_pos h2, if_neg h1, if_pos h2]
    · rw [if_neg h2, if_neg h1, if_neg h1, if_neg h2]; rfl
theorem cmpQ_zero (x y : Rat) : cmpQ x y = 0 ↔ x = y := by
  unfold cmpQ
  by_cases h1 : x < y
  · rw [if_pos h1]; constructor <;> intro h <;> grind
  · by_cases h2 : y < x
    · rw [if_neg h1, if_pos h2]; constructor <;> intro h <;> grind
    · rw [if_neg h1, if_neg h2]; constructor <;> intro h <;> grind
theorem cmpQ_ltz (x y : Rat) : cmpQ x y < 0 ↔ x < y := by
  unfold cmpQ
  by_cases h1 : x < y
  · rw [if_pos h1]; constructor <;> intro h <;> first | exact h1 | decide
  · by_cases h2 : y < x
    · rw [if_neg h1, if_pos h2]; constructor <;> intro h <;> grind
    · rw [if_neg h1, if_neg h2]; constructor <;> intro h <;> grind
theorem cmpQ_bound (x y : Rat) : -1 ≤ cmpQ x y ∧ cmpQ x y ≤ 1 := by
  unfold cmpQ
  split
  · decide
  · split <;> decide
theorem cmpQ_add (x y z : Rat) : cmpQ (x + z) (y + z) = cmpQ x y := by
  unfold cmpQ
  simp only [Rat.add_lt_add_right]
theorem cmpQ_mul (x y z : Rat) : cmpQ (x * z) (y * z) = cmpQ x y * z.num.sign := by
  by_cases hz : 0 < z
  · have hs : z.num.sign = 1 := Int.sign_eq_one_of_pos (by have := (Rat.lt_iff 0 z).1 hz; simpa using this)
    rw [hs, Int.mul_one]
    unfold cmpQ
    simp only [Rat.mul_lt_mul_right hz]
  · by_cases hz0 : z = 0
    · subst hz0
      rw [Rat.mul_zero, Rat.mul_zero]
      unfold cmpQ
      simp
    · have hn : z < 0 := by grind
      have hp : 0 < -z := by grind
      have hs : z.num.sign = -1 := Int.sign_eq_neg_one_of_neg (by have := (Rat.lt_iff z 0).1 hn; simpa using this)
      have h1 : ∀ a b : Rat, (a * z < b * z ↔ b < a) := fun a b => by
        have h := Rat.mul_lt_mul_right (a := b) (b := a) hp
        rw [Rat.mul_neg, Rat.mul_neg] at h
        rw [← h]
        constructor <;> intro hh <;> grind
      rw [hs]
      unfold cmpQ
      simp only [h1]
      by_cases h2 : x < y
      · rw [if_neg (show ¬ y < x by grind), if_pos h2, if_pos h2]; rfl
      · by_cases h3 : y < x
        · rw [if_pos h3, if_neg h2, if_pos h3]; rfl
        · rw [if_neg h3, if_neg h2, if_neg h2, if_neg h3]; rfl
theorem r_Same_v (v v' : Value) (x y : Rat) (sb : Bool) (w : World) (L : Nat) (h : RatQ w v x) (h' : RatQ w v' y) (sx : Sz x L) (sy : Sz y L) (hL : L ≤ 100000000) (H : Hid (decide (x = y) = sb)) :
    Calls Tryz.prog 19 #[v, v'] w (RetV w (.bool sb)) := by
  rw [← H.out]
  exact r_Same v v' x y w h h' (sx.mono hL) (sy.mono hL)
theorem Sign_v (v : Value) (q : Rat) (L : Nat) (s : Int) (w : World) (hT : Tab w) (h : Inp w v q L) (H : Hid (q.num.sign = s)) : Calls Tryz.prog 22 #[v] w (RetV w (.int .i64 s)) := by
  rw [← H.out]
  exact Sign_any v q L w hT h
set_option maxRecDepth 20000 in
set_option maxHeartbeats 4000000 in
theorem ordered_law (v1 v2 v3 : Value) (nx ny nz : Bool) (a1 d1 a2 d2 a3 d3 : List Nat) (w : World) (hT : Txt w) (h1 : Fld w v1 nx a1 d1) (h2 : Fld w v2 ny a2 d2) (h3 : Fld w v3 nz a3 d3) :
    Calls Tryz.prog 8 #[v1, v2, v3] w (Yes w) := by
  obtain ⟨X1, x1, y1, Z1, z1, t1, rfl⟩ := h1.agg
  obtain ⟨X2, x2, y2, Z2, z2, t2, rfl⟩ := h2.agg
  obtain ⟨X3, x3, y3, Z3, z3, t3, rfl⟩ := h3.agg
  obtain ⟨hb0, r1, r2, r3⟩ := blocks3 w (.bool nx) (.slice X1 x1 y1) (.slice Z1 z1 t1) (.bool ny) (.slice X2 x2 y2) (.slice Z2 z2 t2) (.bool nz) (.slice X3 x3 y3) (.slice Z3 z3 t3)
  have g1 := h1.below hb0
  have g2 := h2.below hb0
  have g3 := h3.below hb0
  obtain ⟨V, hV⟩ : ∃ V, frr (nx, a1, d1) (ny, a2, d2) (nz, a3, d3) = V := ⟨_, rfl⟩
  have HV := Lib.hid hV
  clear hV
  go_enter Tryz.func8, Tryz.ntmps8
  go_wp2_with fail
  generalize (((w.alloc (R1 (.bool nx) (.slice X1 x1 y1) (.slice Z1 z1 t1))).alloc (R1 (.bool ny) (.slice X2 x2 y2) (.slice Z2 z2 t2))).alloc (R1 (.bool nz) (.slice X3 x3 y3) (.slice Z3 z3 t3))) = W0 at *
  refine (fair_any _ _ _ nx ny nz a1 d1 a2 d2 a3 d3 _ V g1 g2 g3 HV).mono ?_
  rintro e w1 ⟨rfl, hb1⟩
  have hb01 := hb0.trans (hb1.mono hb0.size)
  replace r1 := r1.below hb1 r1.lt
  replace r2 := r2.below hb1 r2.lt
  replace r3 := r3.below hb1 r3.lt
  cases V
  · go_wp2_with fail
    refine (awake_any _ (hT.below hb01)).mono ?_
    rintro e w2 ⟨rfl, hb2⟩
    go_wp2_with fail
    go_ret
    exact ⟨rfl, hb01.trans (hb2.mono hb01.size)⟩
  · obtain ⟨x, hx, sx⟩ : ∃ x, RatQ w1 (.agg #[.bool nx, .slice X1 x1 y1, .slice Z1 z1 t1]) x ∧ Sz x 6 := (fair_rat g1 (frr_at HV.out).1).imp fun _ h => ⟨h.1.below hb1, h.2⟩
    obtain ⟨y, hy, sy⟩ : ∃ y, RatQ w1 (.agg #[.bool ny, .slice X2 x2 y2, .slice Z2 z2 t2]) y ∧ Sz y 6 := (fair_rat g2 (frr_at HV.out).2.1).imp fun _ h => ⟨h.1.below hb1, h.2⟩
    obtain ⟨z, hz, sz⟩ : ∃ z, RatQ w1 (.agg #[.bool nz, .slice X3 x3 y3, .slice Z3 z3 t3]) z ∧ Sz z 6 := (fair_rat g3 (frr_at HV.out).2.2).imp fun _ h => ⟨h.1.below hb1, h.2⟩
    have hT1 := hT.below hb01
    have hgx := r1.lt
    have hgy := r2.lt
    have hgz := r3.lt
    clear g1 g2 g3 h1 h2 h3 hT HV hb0 hb1
    have tx : Sz x 64 := sx.mono (by decide)
    have ty : Sz y 64 := sy.mono (by decide)
    have tz : Sz z 64 := sz.mono (by decide)
    have S1 : Sz (x + y) 64 := sz_add sx sy (by decide)
    have S2 : Sz (x * y) 64 := sz_mul sx sy (by decide)
    have S3 : Sz (y + z) 64 := sz_add sy sz (by decide)
    have S4 : Sz (y * z) 64 := sz_mul sy sz (by decide)
    have S5 : Sz (x * z) 64 := sz_mul sx sz (by decide)
    have S9 : Sz (x + z) 64 := sz_add sx sz (by decide)
    have S6 : Sz (x + y + z) 64 := sz_add (sz_add sx sy (L := 13) (by decide)) sz (by decide)
    have S7 : Sz (x * y * z) 64 := sz_mul (sz_mul sx sy (L := 12) (by decide)) sz (by decide)
    have S8 : Sz (x * (y + z)) 64 := sz_mul sx (sz_add sy sz (L := 13) (by decide)) (by decide)
    have S0 : Sz 0 64 := sz_zero 64 (by decide)
    obtain ⟨c, hc⟩ : ∃ c, cmpQ x y = c := ⟨_, rfl⟩
    obtain ⟨c2, hc2⟩ : ∃ c, cmpQ y z = c := ⟨_, rfl⟩
    obtain ⟨c3, hc3⟩ : ∃ c, cmpQ x z = c := ⟨_, rfl⟩
    obtain ⟨cn, hcn⟩ : ∃ c, cmpQ y x = c := ⟨_, rfl⟩
    obtain ⟨cm, hcm⟩ : ∃ c, cmpQ (x * z) (y * z) = c := ⟨_, rfl⟩
    obtain ⟨s, hsg⟩ : ∃ s, z.num.sign = s := ⟨_, rfl⟩
    obtain ⟨sb, hsbd⟩ : ∃ b, decide (x = y) = b := ⟨_, rfl⟩
    have hbd := cmpQ_bound x y
    have hneg : IntKind.i64.wrap (-cn) = c := by
      have := cmpQ_swap x y
      rw [hc, hcn] at this
      rw [hc] at hbd
      rw [IntWalk.i64_in _ (by omega)]; omega
    have hmul : IntKind.i64.wrap (c * s) = cm := by
      have h1 := cmpQ_mul x y z
      have h2 := cmpQ_bound (x * z) (y * z)
      rw [hc, hcm, hsg] at h1
      rw [hcm] at h2
      rw [← h1, IntWalk.i64_in _ (by omega)]
    have hsb : (c == 0) = sb := by
      rw [← hsbd, ← hc, Bool.eq_iff_iff, beq_iff_eq, decide_eq_true_iff]
      exact cmpQ_zero x y
    have HC := Lib.hid hc
    have HC2 := Lib.hid hc2
    have HC3 := Lib.hid hc3
    have HN := Lib.hid hcn
    have HCM := Lib.hid hcm
    have HSG := Lib.hid hsg
    have HSB := Lib.hid hsbd
    have HC6 : Hid (cmpQ (x + z) (y + z) = c) := by show _ = _; rw [cmpQ_add]; exact hc
    have HTR : Hid (c < 0 → c2 < 0 → c3 < 0) := by
      show _ → _ → _
      rw [← hc, ← hc2, ← hc3, cmpQ_ltz, cmpQ_ltz, cmpQ_ltz]
      exact rat_tr
    clear hc hc2 hc3 hcn hcm hsg hsbd hbd
    obtain ⟨cx0, cx1, cx2⟩ := r1.cells
    obtain ⟨cy0, cy1, cy2⟩ := r2.cells
    go_wp2_with fail
    refine (Compare_any _ _ x y 64 c _ hT1.tab (hx.inp tx (by decide)) (hy.inp ty (by decide)) (tx.mono (by decide)) (ty.mono (by decide)) HC).mono ?_
    rintro e w2 ⟨rfl, hb2⟩
    clear cx0 cx1 cx2 cy0 cy1 cy2
    go_upto_region 4 with (fail)
    go_cut [30] from 8 to 29 (fun b wx => b = .bool false ∧ Below w1.heap.size w1 wx)
    case first =>
      have q1 := r1.below hb2 hgx
      have q2 := r2.below hb2 hgy
      have q3 := r3.below hb2 hgz
      obtain ⟨cx0, cx1, cx2⟩ := q1.cells
      obtain ⟨cy0, cy1, cy2⟩ := q2.cells
      obtain ⟨cz0, cz1, cz2⟩ := q3.cells
      by_cases h1 : c < 0
      · have h1' : decide (c < 0) = true := decide_eq_true h1
        go_wp2_with fail
        refine (Compare_any _ _ y z 64 c2 _ (hT1.tab.below hb2) ((hy.below hb2).inp ty (by decide)) ((hz.below hb2).inp tz (by decide)) (ty.mono (by decide)) (tz.mono (by decide)) HC2).mono ?_
        rintro e w3 ⟨rfl, hb3⟩
        have hb13 := hb2.trans (hb3.mono hb2.size)
        have q1 := r1.below hb13 hgx
        have q3 := r3.below hb13 hgz
        obtain ⟨cx0, cx1, cx2⟩ := q1.cells
        obtain ⟨cz0, cz1, cz2⟩ := q3.cells
        by_cases h2 : c2 < 0
        · have h2' : decide (c2 < 0) = true := decide_eq_true h2
          go_wp2_with fail
          refine (Compare_any _ _ x z 64 c3 _ (hT1.tab.below hb13) ((hx.below hb13).inp tx (by decide)) ((hz.below hb13).inp tz (by decide)) (tx.mono (by decide)) (tz.mono (by decide)) HC3).mono ?_
          rintro e w4 ⟨rfl, hb4⟩
          have h3 := HTR.out h1 h2
          have h3n : ¬ (0 : Int) ≤ c3 := by omega
          have h3' : decide ((0 : Int) ≤ c3) = false := decide_eq_false h3n
          go_wp2_with fail
          go_meet
          case rel => exact ⟨rfl, hb13.trans (hb4.mono hb13.size)⟩
        · have h2' : decide (c2 < 0) = false := decide_eq_false h2
          go_wp2_with fail
          go_meet
          case rel => exact ⟨rfl, hb13⟩
      · have h1' : decide (c < 0) = false := decide_eq_false h1
        go_wp2_with fail
        go_meet
        case rel => exact ⟨rfl, hb2⟩
    case rest =>
      obtain ⟨rfl, hbq⟩ := hcut
      have rr1 := r1.below hbq hgx
      have rr2 := r2.below hbq hgy
      have rr3 := r3.below hbq hgz
      have qx := hx.below hbq
      have qy := hy.below hbq
      have qz := hz.below hbq
      have TT := hT1.below hbq
      have hbb := hb01.trans (hbq.mono (by omega))
      clear r1 r2 r3 hx hy hz hT1 hb01 hgx hgy hgz hbq hb2 HTR HC HC2 HC3
      go_wp2_with fail
      generalize wc = w5 at *
      replace rr1 := rr1.drewN 1
      replace rr2 := rr2.drewN 1
      replace rr3 := rr3.drewN 1
      replace qx := qx.drew1
      replace qy := qy.drew1
      replace qz := qz.drew1
      replace TT : Txt w5.drew := TT.keep (fun _ _ => rfl)
      replace hbb := hbb.drew
      have kgx := rr1.lt
      have kgy := rr2.lt
      have kgz := rr3.lt
      have hs := And.intro rr1.cells (And.intro rr2.cells rr3.cells)
      have hc0 := Below.refl w5.drew.heap.size w5.drew
      go_region_held3 (fun w' => (w'.cell? ⟨w.heap.size, 0, none⟩ = some (.bool nx) ∧ w'.cell? ⟨w.heap.size, 1, none⟩ = some (.slice X1 x1 y1) ∧ w'.cell? ⟨w.heap.size, 2, none⟩ = some (.slice Z1 z1 t1)) ∧ (w'.cell? ⟨w.heap.size + 1, 0, none⟩ = some (.bool ny) ∧ w'.cell? ⟨w.heap.size + 1, 1, none⟩ = some (.slice X2 x2 y2) ∧ w'.cell? ⟨w.heap.size + 1, 2, none⟩ = some (.slice Z2 z2 t2)) ∧ (w'.cell? ⟨w.heap.size + 1 + 1, 0, none⟩ = some (.bool nz) ∧ w'.cell? ⟨w.heap.size + 1 + 1, 1, none⟩ = some (.slice X3 x3 y3) ∧ w'.cell? ⟨w.heap.size + 1 + 1, 2, none⟩ = some (.slice Z3 z3 t3)))
        (exact hs)
        (first
          | (have _g := hc9; go_at_call 22; refine (Sign_v _ (z) 64 s _ (TT.tab.below hc9) ((qz.below hc9).inp tz (by decide)) HSG).mono ?_; rintro e w30 ⟨rfl, hb30⟩; have hc10 := hc9.trans (hb30.mono hc9.size); have hs := And.intro (rr1.below hc10 kgx).cells (And.intro (rr2.below hc10 kgy).cells (rr3.below hc10 kgz).cells))
          | (have _g := hc8; go_at_call 20; refine (Compare_any _ _ (x * z) (y * z) 64 cm _ (TT.tab.below hc8) (h7.inp S5 (by decide)) (h8.inp S4 (by decide)) (S5.mono (by decide)) (S4.mono (by decide)) HCM).mono ?_; rintro e w29 ⟨rfl, hb29⟩; have hc9 := hc8.trans (hb29.mono hc8.size); have hs := And.intro (rr1.below hc9 kgx).cells (And.intro (rr2.below hc9 kgy).cells (rr3.below hc9 kgz).cells))
          | (have _g := hc7; go_at_call 34; refine (Mul_any _ _ (y) (z) (y * z) 64 _ (TT.tab.below hc7) ((qy.below hc7).inp ty (by decide)) ((qz.below hc7).inp tz (by decide)) (ty.mono (by decide)) (tz.mono (by decide)) (rfl)).mono ?_; rintro e w28 ⟨v8, rfl, h8, hb28⟩; have hc8 := hc7.trans (hb28.mono hc7.size); have hs := And.intro (rr1.below hc8 kgx).cells (And.intro (rr2.below hc8 kgy).cells (rr3.below hc8 kgz).cells); have h7 := h7.below hb28)
          | (have _g := hc6; go_at_call 34; refine (Mul_any _ _ (x) (z) (x * z) 64 _ (TT.tab.below hc6) ((qx.below hc6).inp tx (by decide)) ((qz.below hc6).inp tz (by decide)) (tx.mono (by decide)) (tz.mono (by decide)) (rfl)).mono ?_; rintro e w27 ⟨v7, rfl, h7, hb27⟩; have hc7 := hc6.trans (hb27.mono hc6.size); have hs := And.intro (rr1.below hc7 kgx).cells (And.intro (rr2.below hc7 kgy).cells (rr3.below hc7 kgz).cells))
          | (have _g := hc5; go_at_call 20; refine (Compare_any _ _ (x + z) (y + z) 64 c _ (TT.tab.below hc5) (h4.inp S9 (by decide)) (h5.inp S3 (by decide)) (S9.mono (by decide)) (S3.mono (by decide)) HC6).mono ?_; rintro e w26 ⟨rfl, hb26⟩; have hc6 := hc5.trans (hb26.mono hc5.size); have hs := And.intro (rr1.below hc6 kgx).cells (And.intro (rr2.below hc6 kgy).cells (rr3.below hc6 kgz).cells))
          | (have _g := hc4; go_at_call 30; refine (Add_any _ _ (y) (z) (y + z) 64 _ (TT.tab.below hc4) ((qy.below hc4).inp ty (by decide)) ((qz.below hc4).inp tz (by decide)) (ty.mono (by decide)) (tz.mono (by decide)) (rfl)).mono ?_; rintro e w25 ⟨v5, rfl, h5, hb25⟩; have hc5 := hc4.trans (hb25.mono hc4.size); have hs := And.intro (rr1.below hc5 kgx).cells (And.intro (rr2.below hc5 kgy).cells (rr3.below hc5 kgz).cells); have h4 := h4.below hb25)
          | (have _g := hc3; go_at_call 30; refine (Add_any _ _ (x) (z) (x + z) 64 _ (TT.tab.below hc3) ((qx.below hc3).inp tx (by decide)) ((qz.below hc3).inp tz (by decide)) (tx.mono (by decide)) (tz.mono (by decide)) (rfl)).mono ?_; rintro e w24 ⟨v4, rfl, h4, hb24⟩; have hc4 := hc3.trans (hb24.mono hc3.size); have hs := And.intro (rr1.below hc4 kgx).cells (And.intro (rr2.below hc4 kgy).cells (rr3.below hc4 kgz).cells))
          | (have _g := hc2; go_at_call 19; refine (r_Same_v _ _ (x) (y) sb _ 64 (qx.below hc2) (qy.below hc2) tx ty (by decide) HSB).mono ?_; rintro e w23 ⟨rfl, hb23⟩; have hc3 := hc2.trans (hb23.mono hc2.size); have hs := And.intro (rr1.below hc3 kgx).cells (And.intro (rr2.below hc3 kgy).cells (rr3.below hc3 kgz).cells))
          | (have _g := hc1; go_at_call 20; refine (Compare_any _ _ (y) (x) 64 cn _ (TT.tab.below hc1) ((qy.below hc1).inp ty (by decide)) ((qx.below hc1).inp tx (by decide)) (ty.mono (by decide)) (tx.mono (by decide)) HN).mono ?_; rintro e w22 ⟨rfl, hb22⟩; have hc2 := hc1.trans (hb22.mono hc1.size); have hs := And.intro (rr1.below hc2 kgx).cells (And.intro (rr2.below hc2 kgy).cells (rr3.below hc2 kgz).cells))
          | (go_at_call 12; refine (awake_any _ (TT.below hc0)).mono ?_; rintro e w21 ⟨rfl, hb21⟩; have hc1 := hc0.trans (hb21.mono hc0.size); have hs := And.intro (rr1.below hc1 kgx).cells (And.intro (rr2.below hc1 kgy).cells (rr3.below hc1 kgz).cells)))
      go_wp2_with fail
      go_ret
      exact ⟨rfl, hbb.trans (hc10.mono hbb.size)⟩
end Go.Proofs.YtggmmgojpamcpaaGreatDoor
