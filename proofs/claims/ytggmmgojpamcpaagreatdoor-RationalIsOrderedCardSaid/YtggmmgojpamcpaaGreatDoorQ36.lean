/- The law RationalIsOrdered. -/
import Derived.Test.YtggmmgojpamcpaaGreatDoorQ33
import Derived.Deep.CutRange
import Derived.Test.YtggmmgojpamcpaaGreatDoorQ15
set_option linter.unusedVariables false
set_option linter.unusedSimpArgs false
namespace Go.Proofs.YtggmmgojpamcpaaGreatDoor
open Go.RowKit

theorem rat_tr {x y z : Rat} (a : x < y) (b : y < z) : x < z := by grind
theorem cmpQ_swap (x y : Rat) : cmpQ y x = - cmpQ x y := by
  unfold cmpQ
  by_cases h1 : x < y
  · rw [if_neg (show ¬ y < x by grind), if_pos h1, if_pos h1]; rfl
  · by_cases h2 : y < x
    · rw [if_pos h2, if_neg h1, if_pos h2]
    · rw [if_neg h2, if_neg h1, if_neg h1, if_neg h2]; rfl
theorem cmpQ_zero (x y : Rat) : cmpQ x y = 0 ↔ x = y := by
  unfold cmpQ
  by_cases h1 : x < y
  · rw [if_pos h1]; constructor <;> intro h <;> grind
  · by_cases h2 : y < x
    · rw [if_neg h1, if_pos h2]; constructor <;> intro h <;> grind
    · rw [if_neg h1, if_neg h2]; constructor <;> intro h <;> grind
theorem cmpQ_ltz (x y : Rat) : cmpQ x y < 0 ↔ x < y := by
  unfold cmpQ
  by_cases h1 : x < y
  · rw [if_pos h1]; constructor <;> intro h <;> first | exact h1 | decide
  · by_cases h2 : y < x
    · rw [if_neg h1, if_pos h2]; constructor <;> intro h <;> grind
    · rw [if_neg h1, if_neg h2]; constructor <;> intro h <;> grind
theorem cmpQ_bound (x y : Rat) : -1 ≤ cmpQ x y ∧ cmpQ x y ≤ 1 := by
  unfold cmpQ
  split
  · decide
  · split <;> decide
theorem cmpQ_add (x y z : Rat) : cmpQ (x + z) (y + z) = cmpQ x y := by
  unfold cmpQ
  simp only [Rat.add_lt_add_right]
theorem cmpQ_mul (x y z : Rat) : cmpQ (x * z) (y * z) = cmpQ x y * z.num.sign := by
  by_cases hz : 0 < z
  · have hs : z.num.sign = 1 := Int.sign_eq_one_of_pos (by have := (Rat.lt_iff 0 z).1 hz; simpa using this)
    rw [hs, Int.mul_one]
    unfold cmpQ
    simp only [Rat.mul_lt_mul_right hz]
  · by_cases hz0 : z = 0
    · subst hz0
      rw [Rat.mul_zero, Rat.mul_zero]
      unfold cmpQ
      simp
    · have hn : z < 0 := by grind
      have hp : 0 < -z := by grind
      have hs : z.num.sign = -1 := Int.sign_eq_neg_one_of_neg (by have := (Rat.lt_iff z 0).1 hn; simpa using this)
      have h1 : ∀ a b : Rat, (a * z < b * z ↔ b < a) := fun a b => by
        have h := Rat.mul_lt_mul_right (a := b) (b := a) hp
        rw [Rat.mul_neg, Rat.mul_neg] at h
        rw [← h]
        constructor <;> intro hh <;> grind
      rw [hs]
      unfold cmpQ
      simp only [h1]
      by_cases h2 : x < y
      · rw [if_neg (show ¬ y < x by grind), if_pos h2, if_pos h2]; rfl
      · by_cases h3 : y < x
        · rw [if_pos h3, if_neg h2, if_pos h3]; rfl
        · rw [if_neg h3, if_neg h2, if_neg h2, if_neg h3]; rfl
theorem r_Same_v (v v' : Value) (x y : Rat) (sb : Bool) (w : World) (L : Nat) (h : RatQ w v x) (h' : RatQ w v' y) (sx : Sz x L) (sy : Sz y L) (hL : L ≤ 100000000) (H : Hid (decide (x = y) = sb)) :
    Calls Tryz.prog 19 #[v, v'] w (RetV w (.bool sb)) := by
  rw [← H.out]
  exact r_Same v v' x y w h h' (sx.mono hL) (sy.mono hL)
theorem Sign_v (v : Value) (q : Rat) (L : Nat) (s : Int) (w : World) (hT : Tab w) (h : Inp w v q L) (H : Hid (q.num.sign = s)) : Calls Tryz.prog 22 #[v] w (RetV w (.int .i64 s)) := by
  rw [← H.out]
  exact Sign_any v q L w hT h
set_option maxRecDepth 20000 in
set_option maxHeartbeats 4000000 in
theorem ordered_law (v1 v2 v3 : Value) (nx ny nz : Bool) (a1 d1 a2 d2 a3 d3 : List Nat) (w : World) (hT : Txt w) (h1 : Fld w v1 nx a1 d1) (h2 : Fld w v2 ny a2 d2) (h3 : Fld w v3 nz a3 d3) :
    Calls Tryz.prog 8 #[v1, v2, v3] w (Yes w) := by
  obtain ⟨X1, x1, y1, Z1, z1, t1, rfl⟩ := h1.agg
  obtain ⟨X2, x2, y2, Z2, z2, t2, rfl⟩ := h2.agg
  obtain ⟨X3, x3, y3, Z3, z3, t3, rfl⟩ := h3.agg
  obtain ⟨hb0, r1, r2, r3⟩ := blocks3 w (.bool nx) (.slice X1 x1 y1) (.slice Z1 z1 t1) (.bool ny) (.slice X2 x2 y2) (.slice Z2 z2 t2) (.bool nz) (.slice X3 x3 y3) (.slice Z3 z3 t3)
  have g1 := h1.below hb0
  have g2 := h2.below hb0
  have g3 := h3.below hb0
  obtain ⟨V, hV⟩ : ∃ V, frr (nx, a1, d1) (ny, a2, d2) (nz, a3, d3) = V := ⟨_, rfl⟩
  have HV := Lib.hid hV
  clear hV
  go_enter Tryz.func8, Tryz.ntmps8
  go_wp2_with fail
  generalize (((w.alloc (R1 (.bool nx) (.slice X1 x1 y1) (.slice Z1 z1 t1))).alloc (R1 (.bool ny) (.slice X2 x2 y2) (.slice Z2 z2 t2))).alloc (R1 (.bool nz) (.slice X3 x3 y3) (.slice Z3 z3 t3))) = W0 at *
  refine (fair_any _ _ _ nx ny nz a1 d1 a2 d2 a3 d3 _ V g1 g2 g3 HV).mono ?_
  rintro e w1 ⟨rfl, hb1⟩
  have hb01 := hb0.trans (hb1.mono hb0.size)
  replace r1 := r1.below hb1 r1.lt
  replace r2 := r2.below hb1 r2.lt
  replace r3 := r3.below hb1 r3.lt
  cases V
  · go_wp2_with fail
    refine (awake_any _ (hT.below hb01)).mono ?_
    rintro e w2 ⟨rfl, hb2⟩
    go_wp2_with fail
    go_ret
    exact ⟨rfl, hb01.trans (hb2.mono hb01.size)⟩
  · obtain ⟨x, hx, sx⟩ : ∃ x, RatQ w1 (.agg #[.bool nx, .slice X1 x1 y1, .slice Z1 z1 t1]) x ∧ Sz x 6 := (fair_rat g1 (frr_at HV.out).1).imp fun _ h => ⟨h.1.below hb1, h.2⟩
    obtain ⟨y, hy, sy⟩ : ∃ y, RatQ w1 (.agg #[.bool ny, .slice X2 x2 y2, .slice Z2 z2 t2]) y ∧ Sz y 6 := (fair_rat g2 (frr_at HV.out).2.1).imp fun _ h => ⟨h.1.below hb1, h.2⟩
    obtain ⟨z, hz, sz⟩ : ∃ z, RatQ w1 (.agg #[.bool nz, .slice X3 x3 y3, .slice Z3 z3 t3]) z ∧ Sz z 6 := (fair_rat g3 (frr_at HV.out).2.2).imp fun _ h => ⟨h.1.below hb1, h.2⟩
    have hT1 := hT.below hb01
    have hgx := r1.lt
    have hgy := r2.lt
    have hgz := r3.lt
    clear g1 g2 g3 h1 h2 h3 hT HV hb0 hb1
    have tx : Sz x 64 := sx.mono (by decide)
    have ty : Sz y 64 := sy.mono (by decide)
    have tz : Sz z 64 := sz.mono (by decide)
    have S1 : Sz (x + y) 64 := sz_add sx sy (by decide)
    have S2 : Sz (x * y) 64 := sz_mul sx sy (by decide)
    have S3 : Sz (y + z) 64 := sz_add sy sz (by decide)
    have S4 : Sz (y * z) 64 := sz_mul sy sz (by decide)
    have S5 : Sz (x * z) 64 := sz_mul sx sz (by decide)
    have S9 : Sz (x + z) 64 := sz_add sx sz (by decide)
    have S6 : Sz (x + y + z) 64 := sz_add (sz_add sx sy (L := 13) (by decide)) sz (by decide)
    have S7 : Sz (x * y * z) 64 := sz_mul (sz_mul sx sy (L := 12) (by decide)) sz (by decide)
    have S8 : Sz (x * (y + z)) 64 := sz_mul sx (sz_add sy sz (L := 13) (by decide)) (by decide)
    have S0 : Sz 0 64 := sz_zero 64 (by decide)
    obtain ⟨c, hc⟩ : ∃ c, cmpQ x y = c := ⟨_, rfl⟩
    obtain ⟨c2, hc2⟩ : ∃ c, cmpQ y z = c := ⟨_, rfl⟩
    obtain ⟨c3, hc3⟩ : ∃ c, cmpQ x z = c := ⟨_, rfl⟩
    obtain ⟨cn, hcn⟩ : ∃ c, cmpQ y x = c := ⟨_, rfl⟩
    obtain ⟨cm, hcm⟩ : ∃ c, cmpQ (x * z) (y * z) = c := ⟨_, rfl⟩
    obtain ⟨s, hsg⟩ : ∃ s, z.num.sign = s := ⟨_, rfl⟩
    obtain ⟨sb, hsbd⟩ : ∃ b, decide (x = y) = b := ⟨_, rfl⟩
    have hbd := cmpQ_bound x y
    have hneg : IntKind.i64.wrap (-cn) = c := by
      have := cmpQ_swap x y
      rw [hc, hcn] at this
      rw [hc] at hbd
      rw [IntWalk.i64_in _ (by omega)]; omega
    have hmul : IntKind.i64.wrap (c * s) = cm := by
      have h1 := cmpQ_mul x y z
      have h2 := cmpQ_bound (x * z) (y * z)
      rw [hc, hcm, hsg] at h1
      rw [hcm] at h2
      rw [← h1, IntWalk.i64_in _ (by omega)]
    have hsb : (c == 0) = sb := by
      rw [← hsbd, ← hc, Bool.eq_iff_iff, beq_iff_eq, decide_eq_true_iff]
      exact cmpQ_zero x y
    have HC := Lib.hid hc
    have HC2 := Lib.hid hc2
    have HC3 := Lib.hid hc3
    have HN := Lib.hid hcn
    have HCM := Lib.hid hcm
    have HSG := Lib.hid hsg
    have HSB := Lib.hid hsbd
    have HC6 : Hid (cmpQ (x + z) (y + z) = c) := by show _ = _; rw [cmpQ_add]; exact hc
    have HTR : Hid (c < 0 → c2 < 0 → c3 < 0) := by
      show _ → _ → _
      rw [← hc, ← hc2, ← hc3, cmpQ_ltz, cmpQ_ltz, cmpQ_ltz]
      exact rat_tr
    clear hc hc2 hc3 hcn hcm hsg hsbd hbd
    obtain ⟨cx0, cx1, cx2⟩ := r1.cells
    obtain ⟨cy0, cy1, cy2⟩ := r2.cells
    go_wp2_with fail
    refine (Compare_any _ _ x y 64 c _ hT1.tab (hx.inp tx (by decide)) (hy.inp ty (by decide)) (tx.mono (by decide)) (ty.mono (by decide)) HC).mono ?_
    rintro e w2 ⟨rfl, hb2⟩
    clear cx0 cx1 cx2 cy0 cy1 cy2
    go_upto_region 4 with (fail)
    go_cut [30] from 8 to 29 (fun b wx => b = .bool false ∧ Below w1.heap.size w1 wx)
    case first =>
      have q1 := r1.below hb2 hgx
      have q2 := r2.below hb2 hgy
      have q3 := r3.below hb2 hgz
      obtain ⟨cx0, cx1, cx2⟩ := q1.cells
      obtain ⟨cy0, cy1, cy2⟩ := q2.cells
      obtain ⟨cz0, cz1, cz2⟩ := q3.cells
      by_cases h1 : c < 0
      · have h1' : decide (c < 0) = true := decide_eq_true h1
        go_wp2_with fail
        refine (Compare_any _ _ y z 64 c2 _ (hT1.tab.below hb2) ((hy.below hb2).inp ty (by decide)) ((hz.below hb2).inp tz (by decide)) (ty.mono (by decide)) (tz.mono (by decide)) HC2).mono ?_
        rintro e w3 ⟨rfl, hb3⟩
        have hb13 := hb2.trans (hb3.mono hb2.size)
        have q1 := r1.below hb13 hgx
        have q3 := r3.below hb13 hgz
        obtain ⟨cx0, cx1, cx2⟩ := q1.cells
        obtain ⟨cz0, cz1, cz2⟩ := q3.cells
        by_cases h2 : c2 < 0
        · have h2' : decide (c2 < 0) = true := decide_eq_true h2
          go_wp2_with fail
          refine (Compare_any _ _ x z 64 c3 _ (hT1.tab.below hb13) ((hx.below hb13).inp tx (by decide)) ((hz.below hb13).inp tz (by decide)) (tx.mono (by decide)) (tz.mono (by decide)) HC3).mono ?_
          rintro e w4 ⟨rfl, hb4⟩
          have h3 := HTR.out h1 h2
          have h3n : ¬ (0 : Int) ≤ c3 := by omega
          have h3' : decide ((0 : Int) ≤ c3) = false := decide_eq_false h3n
          go_wp2_with fail
          go_meet
          case rel => exact ⟨rfl, hb13.trans (hb4.mono hb13.size)⟩
        · have h2' : decide (c2 < 0) = false := decide_eq_false h2
          go_wp2_with fail
          go_meet
          case rel => exact ⟨rfl, hb13⟩
      · have h1' : decide (c < 0) = false := decide_eq_false h1
        go_wp2_with fail
        go_meet
        case rel => exact ⟨rfl, hb2⟩
    case rest =>
      obtain ⟨rfl, hbq⟩ := hcut
      have rr1 := r1.below hbq hgx
      have rr2 := r2.below hbq hgy
      have rr3 := r3.below hbq hgz
      have qx := hx.below hbq
      have qy := hy.below hbq
      have qz := hz.below hbq
      have TT := hT1.below hbq
      have hbb := hb01.trans (hbq.mono (by omega))
      clear r1 r2 r3 hx hy hz hT1 hb01 hgx hgy hgz hbq hb2 HTR HC HC2 HC3
      go_wp2_with fail
      generalize wc = w5 at *
      replace rr1 := rr1.drewN 1
      replace rr2 := rr2.drewN 1
      replace rr3 := rr3.drewN 1
      replace qx := qx.drew1
      replace qy := qy.drew1
      replace qz := qz.drew1
      replace TT : Txt w5.drew := TT.keep (fun _ _ => rfl)
      replace hbb := hbb.drew
      have kgx := rr1.lt
      have kgy := rr2.lt
      have kgz := rr3.lt
      have hs := And.intro rr1.cells (And.intro rr2.cells rr3.cells)
      have hc0 := Below.refl w5.drew.heap.size w5.drew
      go_region_held3 (fun w' => (w'.cell? ⟨w.heap.size, 0, none⟩ = some (.bool nx) ∧ w'.cell? ⟨w.heap.size, 1, none⟩ = some (.slice X1 x1 y1) ∧ w'.cell? ⟨w.heap.size, 2, none⟩ = some (.slice Z1 z1 t1)) ∧ (w'.cell? ⟨w.heap.size + 1, 0, none⟩ = some (.bool ny) ∧ w'.cell? ⟨w.heap.size + 1, 1, none⟩ = some (.slice X2 x2 y2) ∧ w'.cell? ⟨w.heap.size + 1, 2, none⟩ = some (.slice Z2 z2 t2)) ∧ (w'.cell? ⟨w.heap.size + 1 + 1, 0, none⟩ = some (.bool nz) ∧ w'.cell? ⟨w.heap.size + 1 + 1, 1, none⟩ = some (.slice X3 x3 y3) ∧ w'.cell? ⟨w.heap.size + 1 + 1, 2, none⟩ = some (.slice Z3 z3 t3)))
        (exact hs)
        (first
          | (have _g := hc9; go_at_call 22; refine (Sign_v _ (z) 64 s _ (TT.tab.below hc9) ((qz.below hc9).inp tz (by decide)) HSG).mono ?_; rintro e w30 ⟨rfl, hb30⟩; have hc10 := hc9.trans (hb30.mono hc9.size); have hs := And.intro (rr1.below hc10 kgx).cells (And.intro (rr2.below hc10 kgy).cells (rr3.below hc10 kgz).cells))
          | (have _g := hc8; go_at_call 20; refine (Compare_any _ _ (x * z) (y * z) 64 cm _ (TT.tab.below hc8) (h7.inp S5 (by decide)) (h8.inp S4 (by decide)) (S5.mono (by decide)) (S4.mono (by decide)) HCM).mono ?_; rintro e w29 ⟨rfl, hb29⟩; have hc9 := hc8.trans (hb29.mono hc8.size); have hs := And.intro (rr1.below hc9 kgx).cells (And.intro (rr2.below hc9 kgy).cells (rr3.below hc9 kgz).cells))
          | (have _g := hc7; go_at_call 34; refine (Mul_any _ _ (y) (z) (y * z) 64 _ (TT.tab.below hc7) ((qy.below hc7).inp ty (by decide)) ((qz.below hc7).inp tz (by decide)) (ty.mono (by decide)) (tz.mono (by decide)) (rfl)).mono ?_; rintro e w28 ⟨v8, rfl, h8, hb28⟩; have hc8 := hc7.trans (hb28.mono hc7.size); have hs := And.intro (rr1.below hc8 kgx).cells (And.intro (rr2.below hc8 kgy).cells (rr3.below hc8 kgz).cells); have h7 := h7.below hb28)
          | (have _g := hc6; go_at_call 34; refine (Mul_any _ _ (x) (z) (x * z) 64 _ (TT.tab.below hc6) ((qx.below hc6).inp tx (by decide)) ((qz.below hc6).inp tz (by decide)) (tx.mono (by decide)) (tz.mono (by decide)) (rfl)).mono ?_; rintro e w27 ⟨v7, rfl, h7, hb27⟩; have hc7 := hc6.trans (hb27.mono hc6.size); have hs := And.intro (rr1.below hc7 kgx).cells (And.intro (rr2.below hc7 kgy).cells (rr3.below hc7 kgz).cells))
          | (have _g := hc5; go_at_call 20; refine (Compare_any _ _ (x + z) (y + z) 64 c _ (TT.tab.below hc5) (h4.inp S9 (by decide)) (h5.inp S3 (by decide)) (S9.mono (by decide)) (S3.mono (by decide)) HC6).mono ?_; rintro e w26 ⟨rfl, hb26⟩; have hc6 := hc5.trans (hb26.mono hc5.size); have hs := And.intro (rr1.below hc6 kgx).cells (And.intro (rr2.below hc6 kgy).cells (rr3.below hc6 kgz).cells))
          | (have _g := hc4; go_at_call 30; refine (Add_any _ _ (y) (z) (y + z) 64 _ (TT.tab.below hc4) ((qy.below hc4).inp ty (by decide)) ((qz.below hc4).inp tz (by decide)) (ty.mono (by decide)) (tz.mono (by decide)) (rfl)).mono ?_; rintro e w25 ⟨v5, rfl, h5, hb25⟩; have hc5 := hc4.trans (hb25.mono hc4.size); have hs := And.intro (rr1.below hc5 kgx).cells (And.intro (rr2.below hc5 kgy).cells (rr3.below hc5 kgz).cells); have h4 := h4.below hb25)
          | (have _g := hc3; go_at_call 30; refine (Add_any _ _ (x) (z) (x + z) 64 _ (TT.tab.below hc3) ((qx.below hc3).inp tx (by decide)) ((qz.below hc3).inp tz (by decide)) (tx.mono (by decide)) (tz.mono (by decide)) (rfl)).mono ?_; rintro e w24 ⟨v4, rfl, h4, hb24⟩; have hc4 := hc3.trans (hb24.mono hc3.size); have hs := And.intro (rr1.below hc4 kgx).cells (And.intro (rr2.below hc4 kgy).cells (rr3.below hc4 kgz).cells))
          | (have _g := hc2; go_at_call 19; refine (r_Same_v _ _ (x) (y) sb _ 64 (qx.below hc2) (qy.below hc2) tx ty (by decide) HSB).mono ?_; rintro e w23 ⟨rfl, hb23⟩; have hc3 := hc2.trans (hb23.mono hc2.size); have hs := And.intro (rr1.below hc3 kgx).cells (And.intro (rr2.below hc3 kgy).cells (rr3.below hc3 kgz).cells))
          | (have _g := hc1; go_at_call 20; refine (Compare_any _ _ (y) (x) 64 cn _ (TT.tab.below hc1) ((qy.below hc1).inp ty (by decide)) ((qx.below hc1).inp tx (by decide)) (ty.mono (by decide)) (tx.mono (by decide)) HN).mono ?_; rintro e w22 ⟨rfl, hb22⟩; have hc2 := hc1.trans (hb22.mono hc1.size); have hs := And.intro (rr1.below hc2 kgx).cells (And.intro (rr2.below hc2 kgy).cells (rr3.below hc2 kgz).cells))
          | (go_at_call 12; refine (awake_any _ (TT.below hc0)).mono ?_; rintro e w21 ⟨rfl, hb21⟩; have hc1 := hc0.trans (hb21.mono hc0.size); have hs := And.intro (rr1.below hc1 kgx).cells (And.intro (rr2.below hc1 kgy).cells (rr3.below hc1 kgz).cells)))
      go_wp2_with fail
      go_ret
      exact ⟨rfl, hbb.trans (hc10.mono hbb.size)⟩
end Go.Proofs.YtggmmgojpamcpaaGreatDoor
