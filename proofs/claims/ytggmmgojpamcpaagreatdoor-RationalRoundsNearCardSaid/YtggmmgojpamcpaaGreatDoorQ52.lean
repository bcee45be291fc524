/- The law RationalRoundsNear. -/
import Derived.Test.YtggmmgojpamcpaaGreatDoorQ41
import Derived.Test.YtggmmgojpamcpaaGreatDoorQ44
import Derived.Test.YtggmmgojpamcpaaGreatDoorQ38
set_option linter.unusedVariables false
set_option linter.unusedSimpArgs false
namespace Go.Proofs.YtggmmgojpamcpaaGreatDoor
open Go.RowKit

theorem cell_alc_d {w : World} {a : Addr} {v : Value} (o : Obj) (h : w.drew.cell? a = some v) : (w.alloc o).drew.cell? a = some v := cell_alc (w := w) o h
theorem rc_new2 (w : World) : Rc ((w.alloc R0).alloc R0) (w.heap.size + 1) (.bool false) (.slice none 0 0) (.slice none 0 0) := by
  have h := Rc.new (w.alloc R0) (.bool false) (.slice none 0 0) (.slice none 0 0)
  rwa [World.size_alloc] at h
theorem rc_new1 (w : World) : Rc (w.alloc R0) w.heap.size (.bool false) (.slice none 0 0) (.slice none 0 0) := Rc.new w _ _ _
theorem below_al1 (w : World) : Below w.heap.size w (w.alloc R0) := (Below.refl _ _).alloc (Nat.le_refl _) _
theorem below_al2 (w : World) : Below w.heap.size w ((w.alloc R0).alloc R0) := (below_al1 w).alloc (below_al1 w).size _
theorem rc_at1 (w : World) {w3 : World} (hb : Below (w.alloc R0).heap.size (w.alloc R0) w3) : Rc w3 w.heap.size (.bool false) (.slice none 0 0) (.slice none 0 0) := (rc_new1 w).below hb (rc_new1 w).lt
theorem rc_at2 (w : World) {w3 : World} (hb : Below ((w.alloc R0).alloc R0).heap.size ((w.alloc R0).alloc R0) w3) : Rc w3 w.heap.size (.bool false) (.slice none 0 0) (.slice none 0 0) := ((rc_new1 w).alloc R0).below hb ((rc_new1 w).alloc R0).lt
theorem rc_at2' (w : World) {w3 : World} (hb : Below ((w.alloc R0).alloc R0).heap.size ((w.alloc R0).alloc R0) w3) : Rc w3 (w.heap.size + 1) (.bool false) (.slice none 0 0) (.slice none 0 0) := (rc_new2 w).below hb (rc_new2 w).lt
/-- What two new structs read as, before and behind a store into one of them. -/
theorem pair_facts {W : World} {g g' : Nat} (h : Rc W g (.bool false) (.slice none 0 0) (.slice none 0 0)) (h' : Rc W g' (.bool false) (.slice none 0 0) (.slice none 0 0)) (hne : g ≠ g') (u0 u1 u2 : Value) :
    ((W.cell? ⟨g, 0, none⟩ = some (.bool false) ∧ W.cell? ⟨g, 1, none⟩ = some (.slice none 0 0) ∧ W.cell? ⟨g, 2, none⟩ = some (.slice none 0 0)) ∧ (W.frozen? ⟨g, 0, none⟩ = false ∧ W.frozen? ⟨g, 1, none⟩ = false ∧ W.frozen? ⟨g, 2, none⟩ = false)) ∧
    ((W.cell? ⟨g', 0, none⟩ = some (.bool false) ∧ W.cell? ⟨g', 1, none⟩ = some (.slice none 0 0) ∧ W.cell? ⟨g', 2, none⟩ = some (.slice none 0 0)) ∧ (W.frozen? ⟨g', 0, none⟩ = false ∧ W.frozen? ⟨g', 1, none⟩ = false ∧ W.frozen? ⟨g', 2, none⟩ = false)) ∧
    (((((W.setCell ⟨g', 0, none⟩ u0).setCell ⟨g', 1, none⟩ u1).setCell ⟨g', 2, none⟩ u2).cell? ⟨g, 0, none⟩ = some (.bool false) ∧ (((W.setCell ⟨g', 0, none⟩ u0).setCell ⟨g', 1, none⟩ u1).setCell ⟨g', 2, none⟩ u2).cell? ⟨g, 1, none⟩ = some (.slice none 0 0) ∧ (((W.setCell ⟨g', 0, none⟩ u0).setCell ⟨g', 1, none⟩ u1).setCell ⟨g', 2, none⟩ u2).cell? ⟨g, 2, none⟩ = some (.slice none 0 0)) ∧
      ((((W.setCell ⟨g', 0, none⟩ u0).setCell ⟨g', 1, none⟩ u1).setCell ⟨g', 2, none⟩ u2).frozen? ⟨g, 0, none⟩ = false ∧ (((W.setCell ⟨g', 0, none⟩ u0).setCell ⟨g', 1, none⟩ u1).setCell ⟨g', 2, none⟩ u2).frozen? ⟨g, 1, none⟩ = false ∧ (((W.setCell ⟨g', 0, none⟩ u0).setCell ⟨g', 1, none⟩ u1).setCell ⟨g', 2, none⟩ u2).frozen? ⟨g, 2, none⟩ = false)) ∧
    (((((W.setCell ⟨g, 0, none⟩ u0).setCell ⟨g, 1, none⟩ u1).setCell ⟨g, 2, none⟩ u2).cell? ⟨g', 0, none⟩ = some (.bool false) ∧ (((W.setCell ⟨g, 0, none⟩ u0).setCell ⟨g, 1, none⟩ u1).setCell ⟨g, 2, none⟩ u2).cell? ⟨g', 1, none⟩ = some (.slice none 0 0) ∧ (((W.setCell ⟨g, 0, none⟩ u0).setCell ⟨g, 1, none⟩ u1).setCell ⟨g, 2, none⟩ u2).cell? ⟨g', 2, none⟩ = some (.slice none 0 0)) ∧
      ((((W.setCell ⟨g, 0, none⟩ u0).setCell ⟨g, 1, none⟩ u1).setCell ⟨g, 2, none⟩ u2).frozen? ⟨g', 0, none⟩ = false ∧ (((W.setCell ⟨g, 0, none⟩ u0).setCell ⟨g, 1, none⟩ u1).setCell ⟨g, 2, none⟩ u2).frozen? ⟨g', 1, none⟩ = false ∧ (((W.setCell ⟨g, 0, none⟩ u0).setCell ⟨g, 1, none⟩ u1).setCell ⟨g, 2, none⟩ u2).frozen? ⟨g', 2, none⟩ = false)) :=
  ⟨⟨h.cells, h.frozen⟩, ⟨h'.cells, h'.frozen⟩, ⟨(h.far3 hne u0 u1 u2).cells, (h.far3 hne u0 u1 u2).frozen⟩, ⟨(h'.far3 (fun e => hne e.symm) u0 u1 u2).cells, (h'.far3 (fun e => hne e.symm) u0 u1 u2).frozen⟩⟩
/-- What the two roundings leave behind. -/
def NearRel (w0 : World) (D U : Rat) (pd pu : Value) (wx : World) : Prop :=
  ∃ gd gu nd Ad md cd Bd kd dd nu Au mu cu Bu ku du, pd = .pointer (some ⟨gd, 0, none⟩) ∧ pu = .pointer (some ⟨gu, 0, none⟩) ∧ Rc wx gd (.bool nd) (.slice Ad md cd) (.slice Bd kd dd) ∧ Rc wx gu (.bool nu) (.slice Au mu cu) (.slice Bu ku du) ∧ w0.heap.size ≤ gd ∧ w0.heap.size ≤ gu ∧ RatQ wx (.agg #[.bool nd, .slice Ad md cd, .slice Bd kd dd]) D ∧ RatQ wx (.agg #[.bool nu, .slice Au mu cu, .slice Bu ku du]) U ∧ Below w0.heap.size w0 wx
theorem near_fin {w0 W : World} {g g' : Nat} {D U : Rat} {nd nu : Bool} {Ad Bd Au Bu : Option Addr} {md cd kd dd mu cu ku du : Nat} (hb : Below w0.heap.size w0 W) (hg : w0.heap.size ≤ g) (hg' : w0.heap.size ≤ g') (hne : g ≠ g')
    (h : Rc W g (.bool false) (.slice none 0 0) (.slice none 0 0)) (h' : Rc W g' (.bool false) (.slice none 0 0) (.slice none 0 0)) (hD : RatQ W (.agg #[.bool nd, .slice Ad md cd, .slice Bd kd dd]) D) (hU : RatQ W (.agg #[.bool nu, .slice Au mu cu, .slice Bu ku du]) U) :
    NearRel w0 D U (.pointer (some ⟨g, 0, none⟩)) (.pointer (some ⟨g', 0, none⟩)) ((((((W.setCell ⟨g, 0, none⟩ (.bool nd)).setCell ⟨g, 1, none⟩ (.slice Ad md cd)).setCell ⟨g, 2, none⟩ (.slice Bd kd dd)).setCell ⟨g', 0, none⟩ (.bool nu)).setCell ⟨g', 1, none⟩ (.slice Au mu cu)).setCell ⟨g', 2, none⟩ (.slice Bu ku du)) :=
  have h2 := h.set (.bool nd) (.slice Ad md cd) (.slice Bd kd dd)
  have h2' := h'.far3 (fun e => hne e.symm) (.bool nd) (.slice Ad md cd) (.slice Bd kd dd)
  ⟨g, g', _, _, _, _, _, _, _, _, _, _, _, _, _, _, rfl, rfl, h2.far3 hne _ _ _, h2'.set _ _ _, hg, hg', (hD.set3 h _ _ _).set3 h2' _ _ _, (hU.set3 h _ _ _).set3 h2' _ _ _, below_set3 (below_set3 hb hg _ _ _) hg' _ _ _⟩
theorem near_f1 {w0 W : World} {D U : Rat} {nd nu : Bool} {Ad Bd Au Bu : Option Addr} {md cd kd dd mu cu ku du : Nat} (hb : Below w0.heap.size w0 W) (hD : RatQ W (.agg #[.bool nd, .slice Ad md cd, .slice Bd kd dd]) D) (hU : RatQ W (.agg #[.bool nu, .slice Au mu cu, .slice Bu ku du]) U) :
    NearRel w0 D U (.pointer (some ⟨W.heap.size, 0, none⟩)) (.pointer (some ⟨W.heap.size + 1, 0, none⟩)) ((W.alloc (R1 (.bool nd) (.slice Ad md cd) (.slice Bd kd dd))).alloc (R1 (.bool nu) (.slice Au mu cu) (.slice Bu ku du))) := by
  have h2 := Rc.new (W.alloc (R1 (.bool nd) (.slice Ad md cd) (.slice Bd kd dd))) (.bool nu) (.slice Au mu cu) (.slice Bu ku du)
  rw [World.size_alloc] at h2
  have hw : Below W.heap.size W ((W.alloc (R1 (.bool nd) (.slice Ad md cd) (.slice Bd kd dd))).alloc (R1 (.bool nu) (.slice Au mu cu) (.slice Bu ku du))) := ((Below.refl _ _).alloc (Nat.le_refl _) _).alloc (by simp) _
  have hz := hb.size
  exact ⟨_, _, _, _, _, _, _, _, _, _, _, _, _, _, _, _, rfl, rfl, (Rc.new W (.bool nd) (.slice Ad md cd) (.slice Bd kd dd)).alloc _, h2, hz, by omega, hD.below hw, hU.below hw, hb.trans (hw.mono hz)⟩
theorem near_f2 {w0 W : World} {D U : Rat} {nd nu : Bool} {Ad Bd Au Bu : Option Addr} {md cd kd dd mu cu ku du : Nat} (hb : Below w0.heap.size w0 W) (hD : RatQ W (.agg #[.bool nd, .slice Ad md cd, .slice Bd kd dd]) D) (hU : RatQ W (.agg #[.bool nu, .slice Au mu cu, .slice Bu ku du]) U) :
    NearRel w0 D U (.pointer (some ⟨W.heap.size + 1, 0, none⟩)) (.pointer (some ⟨W.heap.size, 0, none⟩)) ((W.alloc (R1 (.bool nu) (.slice Au mu cu) (.slice Bu ku du))).alloc (R1 (.bool nd) (.slice Ad md cd) (.slice Bd kd dd))) := by
  have h2 := Rc.new (W.alloc (R1 (.bool nu) (.slice Au mu cu) (.slice Bu ku du))) (.bool nd) (.slice Ad md cd) (.slice Bd kd dd)
  rw [World.size_alloc] at h2
  have hw : Below W.heap.size W ((W.alloc (R1 (.bool nu) (.slice Au mu cu) (.slice Bu ku du))).alloc (R1 (.bool nd) (.slice Ad md cd) (.slice Bd kd dd))) := ((Below.refl _ _).alloc (Nat.le_refl _) _).alloc (by simp) _
  have hz := hb.size
  exact ⟨_, _, _, _, _, _, _, _, _, _, _, _, _, _, _, _, rfl, rfl, h2, (Rc.new W (.bool nu) (.slice Au mu cu) (.slice Bu ku du)).alloc _, by omega, hz, hD.below hw, hU.below hw, hb.trans (hw.mono hz)⟩
theorem near_f3 {w0 W : World} {g : Nat} {D U : Rat} {nd nu : Bool} {Ad Bd Au Bu : Option Addr} {md cd kd dd mu cu ku du : Nat} (hb : Below w0.heap.size w0 W) (hg : w0.heap.size ≤ g) (h : Rc W g (.bool false) (.slice none 0 0) (.slice none 0 0)) (hD : RatQ W (.agg #[.bool nd, .slice Ad md cd, .slice Bd kd dd]) D) (hU : RatQ W (.agg #[.bool nu, .slice Au mu cu, .slice Bu ku du]) U) :
    NearRel w0 D U (.pointer (some ⟨g, 0, none⟩)) (.pointer (some ⟨W.heap.size, 0, none⟩)) ((((W.setCell ⟨g, 0, none⟩ (.bool nd)).setCell ⟨g, 1, none⟩ (.slice Ad md cd)).setCell ⟨g, 2, none⟩ (.slice Bd kd dd)).alloc (R1 (.bool nu) (.slice Au mu cu) (.slice Bu ku du))) := by
  have h2 := Rc.new (((W.setCell ⟨g, 0, none⟩ (.bool nd)).setCell ⟨g, 1, none⟩ (.slice Ad md cd)).setCell ⟨g, 2, none⟩ (.slice Bd kd dd)) (.bool nu) (.slice Au mu cu) (.slice Bu ku du)
  rw [size_set3] at h2
  have hb2 := below_set3 hb hg (.bool nd) (.slice Ad md cd) (.slice Bd kd dd)
  have hz := hb.size
  have hw : Below (((W.setCell ⟨g, 0, none⟩ (.bool nd)).setCell ⟨g, 1, none⟩ (.slice Ad md cd)).setCell ⟨g, 2, none⟩ (.slice Bd kd dd)).heap.size (((W.setCell ⟨g, 0, none⟩ (.bool nd)).setCell ⟨g, 1, none⟩ (.slice Ad md cd)).setCell ⟨g, 2, none⟩ (.slice Bd kd dd)) ((((W.setCell ⟨g, 0, none⟩ (.bool nd)).setCell ⟨g, 1, none⟩ (.slice Ad md cd)).setCell ⟨g, 2, none⟩ (.slice Bd kd dd)).alloc (R1 (.bool nu) (.slice Au mu cu) (.slice Bu ku du))) := (Below.refl _ _).alloc (Nat.le_refl _) _
  exact ⟨_, _, _, _, _, _, _, _, _, _, _, _, _, _, _, _, rfl, rfl, (h.set (.bool nd) (.slice Ad md cd) (.slice Bd kd dd)).alloc _, h2, hg, hz, (hD.set3 h _ _ _).below hw, (hU.set3 h _ _ _).below hw, hb2.alloc hb2.size _⟩
theorem near_f4 {w0 W : World} {g : Nat} {D U : Rat} {nd nu : Bool} {Ad Bd Au Bu : Option Addr} {md cd kd dd mu cu ku du : Nat} (hb : Below w0.heap.size w0 W) (hg : w0.heap.size ≤ g) (h : Rc W g (.bool false) (.slice none 0 0) (.slice none 0 0)) (hD : RatQ W (.agg #[.bool nd, .slice Ad md cd, .slice Bd kd dd]) D) (hU : RatQ W (.agg #[.bool nu, .slice Au mu cu, .slice Bu ku du]) U) :
    NearRel w0 D U (.pointer (some ⟨W.heap.size, 0, none⟩)) (.pointer (some ⟨g, 0, none⟩)) ((((W.setCell ⟨g, 0, none⟩ (.bool nu)).setCell ⟨g, 1, none⟩ (.slice Au mu cu)).setCell ⟨g, 2, none⟩ (.slice Bu ku du)).alloc (R1 (.bool nd) (.slice Ad md cd) (.slice Bd kd dd))) := by
  have h2 := Rc.new (((W.setCell ⟨g, 0, none⟩ (.bool nu)).setCell ⟨g, 1, none⟩ (.slice Au mu cu)).setCell ⟨g, 2, none⟩ (.slice Bu ku du)) (.bool nd) (.slice Ad md cd) (.slice Bd kd dd)
  rw [size_set3] at h2
  have hb2 := below_set3 hb hg (.bool nu) (.slice Au mu cu) (.slice Bu ku du)
  have hz := hb.size
  have hw : Below (((W.setCell ⟨g, 0, none⟩ (.bool nu)).setCell ⟨g, 1, none⟩ (.slice Au mu cu)).setCell ⟨g, 2, none⟩ (.slice Bu ku du)).heap.size (((W.setCell ⟨g, 0, none⟩ (.bool nu)).setCell ⟨g, 1, none⟩ (.slice Au mu cu)).setCell ⟨g, 2, none⟩ (.slice Bu ku du)) ((((W.setCell ⟨g, 0, none⟩ (.bool nu)).setCell ⟨g, 1, none⟩ (.slice Au mu cu)).setCell ⟨g, 2, none⟩ (.slice Bu ku du)).alloc (R1 (.bool nd) (.slice Ad md cd) (.slice Bd kd dd))) := (Below.refl _ _).alloc (Nat.le_refl _) _
  exact ⟨_, _, _, _, _, _, _, _, _, _, _, _, _, _, _, _, rfl, rfl, h2, (h.set (.bool nu) (.slice Au mu cu) (.slice Bu ku du)).alloc _, hz, hg, (hD.set3 h _ _ _).below hw, (hU.set3 h _ _ _).below hw, hb2.alloc hb2.size _⟩
theorem cmpQ_lez (x y : Rat) : cmpQ x y ≤ 0 ↔ x ≤ y := by
  unfold cmpQ
  by_cases h1 : x < y
  · rw [if_pos h1]; constructor <;> intro h <;> first | grind | decide
  · by_cases h2 : y < x
    · rw [if_neg h1, if_pos h2]; constructor <;> intro h <;> grind
    · rw [if_neg h1, if_neg h2]; constructor <;> intro h <;> grind
theorem valid_rat (v : Value) (q : Rat) (w : World) (hT : Tab w) (h : RatQ w v q) (hs : Sz q 64) : Calls Tryz.prog 17 #[v] w (RetV w (.bool true)) := by
  obtain ⟨A, n, c, A', m, c', rfl, h1, h2⟩ := h
  have l1 := h1.len
  have l2 := h2.len
  have l3 := dl_length q.den
  exact valid_any _ A A' n c m c' _ _ w true hT h1 h2 (by have := hs.1; omega) (by have := hs.2; omega) vld_canon
set_option maxRecDepth 20000 in
set_option maxHeartbeats 8000000 in
theorem near_law (v1 v2 : Value) (nx ny : Bool) (a1 d1 a2 d2 : List Nat) (b : Int) (w : World) (hT : Txt w) (h1 : Fld w v1 nx a1 d1) (h2 : Fld w v2 ny a2 d2) (hbl : -9223372036854775808 ≤ b) (hbu : b < 9223372036854775808) :
    Calls Tryz.prog 9 #[v1, v2, .int .i64 b] w (Yes w) := by
  obtain ⟨X1, x1, y1, Z1, z1, t1, rfl⟩ := h1.agg
  obtain ⟨X2, x2, y2, Z2, z2, t2, rfl⟩ := h2.agg
  obtain ⟨hb0, r1, r2⟩ := blocks2 w (.bool nx) (.slice X1 x1 y1) (.slice Z1 z1 t1) (.bool ny) (.slice X2 x2 y2) (.slice Z2 z2 t2)
  have g1 := h1.below hb0
  have g2 := h2.below hb0
  obtain ⟨V, hV⟩ : ∃ V, frr (nx, a1, d1) (ny, a2, d2) (nx, a1, d1) = V := ⟨_, rfl⟩
  have HV := Lib.hid hV
  clear hV h1 h2
  go_enter Tryz.func9, Tryz.ntmps9
  go_wp2_with fail
  generalize ((w.alloc (R1 (.bool nx) (.slice X1 x1 y1) (.slice Z1 z1 t1))).alloc (R1 (.bool ny) (.slice X2 x2 y2) (.slice Z2 z2 t2))) = W0 at *
  refine (fair_any _ _ _ nx ny nx a1 d1 a2 d2 a1 d1 _ V g1 g2 g1 HV).mono ?_
  rintro e w1 ⟨rfl, hb1⟩
  have hb01 := hb0.trans (hb1.mono hb0.size)
  replace r1 := r1.below hb1 r1.lt
  replace r2 := r2.below hb1 r2.lt
  cases V
  · go_wp2_with fail
    refine (awake_any _ (hT.below hb01)).mono ?_
    rintro e w2 ⟨rfl, hb2⟩
    go_wp2_with fail
    go_ret
    exact ⟨rfl, hb01.trans (hb2.mono hb01.size)⟩
  by_cases hbb : ¬ (0 ≤ b ∧ b ≤ 256)
  · have ho := out_of hbb
    clear hbb hbl hbu
    rcases ho with ho | ⟨ho, ho'⟩
    all_goals
      go_wp2_with fail
      refine (awake_any _ (hT.below hb01)).mono ?_
      rintro e w2 ⟨rfl, hb2⟩
      go_wp2_with fail
      go_ret
      exact ⟨rfl, hb01.trans (hb2.mono hb01.size)⟩
  obtain ⟨hbb0, hbb1⟩ := Classical.not_not.1 hbb
  obtain ⟨p, rfl⟩ := Int.eq_ofNat_of_zero_le hbb0
  have hp : p ≤ 256 := by omega
  have hd1 : decide ((p : Int) < 0) = false := decide_eq_false (by omega)
  have hd2 : decide ((256 : Int) < (p : Int)) = false := decide_eq_false (by omega)
  clear hbb hbl hbu hbb0 hbb1
  obtain ⟨x, hx, sx⟩ : ∃ x, RatQ w1 (.agg #[.bool nx, .slice X1 x1 y1, .slice Z1 z1 t1]) x ∧ Sz x 6 := (fair_rat g1 (frr_at HV.out).1).imp fun _ h => ⟨h.1.below hb1, h.2⟩
  obtain ⟨y, hy, sy⟩ : ∃ y, RatQ w1 (.agg #[.bool ny, .slice X2 x2 y2, .slice Z2 z2 t2]) y ∧ Sz y 6 := (fair_rat g2 (frr_at HV.out).2.1).imp fun _ h => ⟨h.1.below hb1, h.2⟩
  have hT1 := hT.below hb01
  obtain ⟨D, hD⟩ : ∃ D, down x p = D := ⟨_, rfl⟩
  obtain ⟨U, hU⟩ : ∃ U, up x p = U := ⟨_, rfl⟩
  have HD := Lib.hid hD
  have HU := Lib.hid hU
  clear hD hU g1 g2 hT HV
  have tx : Sz x 64 := sx.mono (by decide)
  go_wp2_with fail
  replace r1 := r1.drewN 1
  replace r2 := r2.drewN 1
  replace hx := hx.drew1
  replace hy := hy.drew1
  have TT : Txt w1.drew := hT1.keep (fun _ _ => rfl)
  replace hb01 := hb01.drew
  have hgx : w.heap.size < w1.drew.heap.size := r1.lt
  have hgy : w.heap.size + 1 < w1.drew.heap.size := r2.lt
  have hdz : w1.drew.heap.size = w1.heap.size := rfl
  have hdz1 : w1.drew.heap.size ≤ w1.heap.size := Nat.le_refl _
  have hdz2 : w1.heap.size ≤ w1.drew.heap.size := Nat.le_refl _
  clear hdz
  have hD1 : Below w1.drew.heap.size w1.drew (w1.alloc R0).drew := (Below.refl _ _).alloc (Nat.le_refl _) _
  have hD2 : Below w1.drew.heap.size w1.drew ((w1.alloc R0).alloc R0).drew := (show Below w1.drew.heap.size w1.drew (w1.alloc R0).drew from (Below.refl _ _).alloc (Nat.le_refl _) _).alloc hD1.size _
  have roA1 : Rc (w1.alloc R0).drew w1.heap.size (.bool false) (.slice none 0 0) (.slice none 0 0) := Rc.new w1 _ _ _
  have roA2 : Rc ((w1.alloc R0).alloc R0).drew w1.heap.size (.bool false) (.slice none 0 0) (.slice none 0 0) := (Rc.new w1 _ _ _).alloc R0
  have roB2 : Rc ((w1.alloc R0).alloc R0).drew (w1.heap.size + 1) (.bool false) (.slice none 0 0) (.slice none 0 0) := rc_new2 w1
  have hs := (show Rc w1.drew w.heap.size _ _ _ from r1).cells
  go_cut [7, 8] from 24 to 29 (fun pd pu wx => NearRel w1.drew D U pd pu wx)
  case first =>
    go_region_held3 (fun w' => w'.cell? ⟨w.heap.size, 0, none⟩ = some (.bool nx) ∧ w'.cell? ⟨w.heap.size, 1, none⟩ = some (.slice X1 x1 y1) ∧ w'.cell? ⟨w.heap.size, 2, none⟩ = some (.slice Z1 z1 t1))
      (first | with_reducible exact hs | ((with_reducible refine ⟨?_, ?_, ?_⟩) <;> (repeat' (first | (with_reducible exact hs.1) | (with_reducible exact hs.2.1) | (with_reducible exact hs.2.2) | (with_reducible refine cell_alc _ ?_) | (with_reducible refine cell_alc_d _ ?_) | (with_reducible refine cell_set3 ?_ ?_) | omega))) | fail)
      (first
        | (have _g := hb2; (with_reducible change Calls _ _ _ w2 _); go_at_call 38; have hb2o := hb2; refine (Up_in _ x U 64 p _ (TT.tab.below hb2o) ((hx.below hb2o).inp tx (by decide)) (tx.mono (by decide)) hp HU.out).mono ?_; rintro e w3 ⟨v3, rfl, h3, hb3⟩; have hc3 := hb2o.trans (hb3.mono hb2o.size); have hz3 := hc3.size; have hz23 := hb3.size; have hs := (r1.below hc3 hgx).cells; obtain ⟨nu, Au, mu, cu, Bu, ku, du, rfl⟩ := h3.agg; have h2 := h2.below hb3; (first | (have rA3 := rA.below hb3 rA.lt; have rB3 := rB.below hb3 rB.lt; (obtain ⟨⟨⟨a0, a1, a2⟩, b0, b1, b2⟩, ⟨⟨a3, a4, a5⟩, b3, b4, b5⟩, ⟨⟨a6, a7, a8⟩, b6, b7, b8⟩, ⟨⟨a9, a10, a11⟩, b9, b10, b11⟩⟩ := pair_facts (rA3) (rB3) (by omega) (.bool nd) (.slice Ad md cd) (.slice Bd kd dd))) | (have rA3 := rA.below hb3 rA.lt; have hlA := rA3.lt; (obtain ⟨e0, e1, e2⟩ := rA3.cells; obtain ⟨e3, e4, e5⟩ := rA3.frozen; obtain ⟨j0, j1, j2⟩ := (rA3.alloc (R1 (.bool nd) (.slice Ad md cd) (.slice Bd kd dd))).cells; obtain ⟨j3, j4, j5⟩ := (rA3.alloc (R1 (.bool nd) (.slice Ad md cd) (.slice Bd kd dd))).frozen; have hq1 : ¬ w1.heap.size = w3.heap.size := (by omega); have hq2 : ¬ w3.heap.size = w1.heap.size := (by omega); obtain ⟨⟨⟨a0, a1, a2⟩, b0, b1, b2⟩, ⟨⟨a3, a4, a5⟩, b3, b4, b5⟩, ⟨⟨a6, a7, a8⟩, b6, b7, b8⟩, ⟨⟨a9, a10, a11⟩, b9, b10, b11⟩⟩ := pair_facts (rA3.alloc R0) (rc_new1 w3) (by omega) (.bool nd) (.slice Ad md cd) (.slice Bd kd dd))) | skip))
        | (have _g := hb2; (with_reducible change Calls _ _ _ (w2.alloc R0) _); go_at_call 38; have hbo2 := below_al1 w2; have hb2o := hb2.trans (hbo2.mono hb2.size); have hzo := hbo2.size; refine (Up_in _ x U 64 p _ (TT.tab.below hb2o) ((hx.below hb2o).inp tx (by decide)) (tx.mono (by decide)) hp HU.out).mono ?_; rintro e w3 ⟨v3, rfl, h3, hb3⟩; have hc3 := hb2o.trans (hb3.mono hb2o.size); have hz3 := hc3.size; have hz23 := hb3.size; have hs := (r1.below hc3 hgx).cells; obtain ⟨nu, Au, mu, cu, Bu, ku, du, rfl⟩ := h3.agg; have h2 := (h2.below hbo2).below hb3; have rC3 := rc_at1 w2 hb3; have hlC := rC3.lt; (first | (have rA3 := (rA.below hbo2 rA.lt).below hb3 (rA.below hbo2 rA.lt).lt; have hlA := rA.lt; (obtain ⟨⟨⟨a0, a1, a2⟩, b0, b1, b2⟩, ⟨⟨a3, a4, a5⟩, b3, b4, b5⟩, ⟨⟨a6, a7, a8⟩, b6, b7, b8⟩, ⟨⟨a9, a10, a11⟩, b9, b10, b11⟩⟩ := pair_facts (rA3) (rC3) (by omega) (.bool nd) (.slice Ad md cd) (.slice Bd kd dd))) | (obtain ⟨e0, e1, e2⟩ := rC3.cells; obtain ⟨e3, e4, e5⟩ := rC3.frozen; obtain ⟨j0, j1, j2⟩ := (rC3.alloc (R1 (.bool nd) (.slice Ad md cd) (.slice Bd kd dd))).cells; obtain ⟨j3, j4, j5⟩ := (rC3.alloc (R1 (.bool nd) (.slice Ad md cd) (.slice Bd kd dd))).frozen; have hq1 : ¬ w2.heap.size = w3.heap.size := (by omega); have hq2 : ¬ w3.heap.size = w2.heap.size := (by omega); obtain ⟨⟨⟨a0, a1, a2⟩, b0, b1, b2⟩, ⟨⟨a3, a4, a5⟩, b3, b4, b5⟩, ⟨⟨a6, a7, a8⟩, b6, b7, b8⟩, ⟨⟨a9, a10, a11⟩, b9, b10, b11⟩⟩ := pair_facts (rC3.alloc R0) (rc_new1 w3) (by omega) (.bool nd) (.slice Ad md cd) (.slice Bd kd dd)) | skip))
        | (have _g := hb2; (with_reducible change Calls _ _ _ ((w2.alloc R0).alloc R0) _); go_at_call 38; have hbo2 := below_al2 w2; have hb2o := hb2.trans (hbo2.mono hb2.size); have hzo := hbo2.size; refine (Up_in _ x U 64 p _ (TT.tab.below hb2o) ((hx.below hb2o).inp tx (by decide)) (tx.mono (by decide)) hp HU.out).mono ?_; rintro e w3 ⟨v3, rfl, h3, hb3⟩; have hc3 := hb2o.trans (hb3.mono hb2o.size); have hz3 := hc3.size; have hz23 := hb3.size; have hs := (r1.below hc3 hgx).cells; obtain ⟨nu, Au, mu, cu, Bu, ku, du, rfl⟩ := h3.agg; have h2 := (h2.below hbo2).below hb3; have rC3 := rc_at2 w2 hb3; have rD3 := rc_at2' w2 hb3; (obtain ⟨⟨⟨a0, a1, a2⟩, b0, b1, b2⟩, ⟨⟨a3, a4, a5⟩, b3, b4, b5⟩, ⟨⟨a6, a7, a8⟩, b6, b7, b8⟩, ⟨⟨a9, a10, a11⟩, b9, b10, b11⟩⟩ := pair_facts (rC3) (rD3) (by omega) (.bool nd) (.slice Ad md cd) (.slice Bd kd dd)))
        | ((with_reducible change Calls _ _ _ w1.drew _); go_at_call 36; refine (Down_in _ x D 64 p _ TT.tab (hx.inp tx (by decide)) (tx.mono (by decide)) hp HD.out).mono ?_; rintro e w2 ⟨v2, rfl, h2, hb2⟩; have hz2 := hb2.size; have hs := (r1.below hb2 hgx).cells; obtain ⟨nd, Ad, md, cd, Bd, kd, dd, rfl⟩ := h2.agg)
        | ((with_reducible change Calls _ _ _ (w1.alloc R0).drew _); go_at_call 36; refine (Down_in _ x D 64 p _ (TT.tab.below hD1) ((hx.below hD1).inp tx (by decide)) (tx.mono (by decide)) hp HD.out).mono ?_; rintro e w2 ⟨v2, rfl, h2, hb2'⟩; have hb2 := hD1.trans (hb2'.mono hD1.size); have rA := roA1.below hb2' roA1.lt; have hz2 := hb2.size; have hs := (r1.below hb2 hgx).cells; obtain ⟨nd, Ad, md, cd, Bd, kd, dd, rfl⟩ := h2.agg)
        | ((with_reducible change Calls _ _ _ ((w1.alloc R0).alloc R0).drew _); go_at_call 36; refine (Down_in _ x D 64 p _ (TT.tab.below hD2) ((hx.below hD2).inp tx (by decide)) (tx.mono (by decide)) hp HD.out).mono ?_; rintro e w2 ⟨v2, rfl, h2, hb2'⟩; have hb2 := hD2.trans (hb2'.mono hD2.size); have rA := roA2.below hb2' roA2.lt; have rB := roB2.below hb2' roB2.lt; have hz2 := hb2.size; have hs := (r1.below hb2 hgx).cells; obtain ⟨nd, Ad, md, cd, Bd, kd, dd, rfl⟩ := h2.agg))
    all_goals
      (try clear a0 a1 a2 a3 a4 a5 a6 a7 a8 a9 a10 a11 b0 b1 b2 b3 b4 b5 b6 b7 b8 b9 b10 b11)
      (try clear e0 e1 e2 e3 e4 e5 hq1 hq2 j0 j1 j2 j3 j4 j5)
      clear hs roA1 roA2 roB2
      go_wp2_with fail
      go_meet
      case rel => first | with_reducible exact near_f1 hc3 h2 h3 | with_reducible exact near_f2 hc3 h2 h3 | with_reducible exact near_f3 hc3 (by omega) rC3 h2 h3 | with_reducible exact near_f4 hc3 (by omega) rC3 h2 h3 | with_reducible exact near_f3 hc3 (by omega) rA3 h2 h3 | with_reducible exact near_f4 hc3 (by omega) rA3 h2 h3 | with_reducible exact near_fin hc3 (by omega) (by omega) (by omega) rA3 rB3 h2 h3 | with_reducible exact near_fin hc3 (by omega) (by omega) (by omega) rB3 rA3 h2 h3 | with_reducible exact near_fin hc3 (by omega) (by omega) (by omega) rA3 rC3 h2 h3 | with_reducible exact near_fin hc3 (by omega) (by omega) (by omega) rC3 rA3 h2 h3 | with_reducible exact near_fin hc3 (by omega) (by omega) (by omega) rC3 rD3 h2 h3 | with_reducible exact near_fin hc3 (by omega) (by omega) (by omega) rD3 rC3 h2 h3 | fail
  case rest =>
    obtain ⟨gd, gu, nd, Ad, md, cd, Bd, kd, dd, nu, Au, mu, cu, Bu, ku, du, rfl, rfl, rd, ru, hgd, hgu, qd, qu, hbq⟩ := hcut
    have hbb := hb01.trans (hbq.mono (by omega))
    have rr1 := r1.below hbq hgx
    have rr2 := r2.below hbq hgy
    have qx := hx.below hbq
    have qy := hy.below hbq
    have T2 := TT.below hbq
    clear r1 r2 hx hy TT hb01 hgx hgy hbq hs roA1 roA2 roB2 hD1 hD2 hdz1 hdz2 hT1 hb0 hb1
    have kgx := rr1.lt
    have kgy := rr2.lt
    have kgd := rd.lt
    have kgu := ru.lt
    obtain ⟨cd0, cd1, cd2⟩ := rd.cells
    obtain ⟨cu0, cu1, cu2⟩ := ru.cells
    have sD : Sz D 64 := by rw [← HD.out]; exact down_sz sx (by omega)
    have sU : Sz U 64 := by rw [← HU.out]; unfold up; exact sz_neg (down_sz (sz_neg sx) (by omega))
    obtain ⟨G, hG⟩ : ∃ G, (U - D) * ((2 ^ p : Nat) : Rat) = G := ⟨_, rfl⟩
    have hgap := gap_fl x p
    rw [HD.out, HU.out, hG] at hgap
    have HGP := Lib.hid hgap
    have HG := Lib.hid hG
    clear hgap hG
    have sT : Sz ((2 ^ p : Nat) : Rat) 64 := (sz_two p).mono (by omega)
    obtain ⟨T, hT⟩ : ∃ T : Rat, ((2 ^ p : Nat) : Rat) = T := ⟨_, rfl⟩
    have HGT : Hid ((U - D) * T = G) := by show _ = _; rw [← hT]; exact HG.out
    rw [hT] at sT
    have HT := Lib.hid hT
    clear hT HG
    have sUD : Sz (U - D) 200 := sz_sub sU sD (by decide)
    have sG : Sz G 64 := by
      rcases HGP.out with h | h
      · rw [h]; exact sz_zero 64 (by decide)
      · rw [h]; exact ⟨by show (limbs 1).length ≤ 64; rw [limbs_one]; decide, by show (limbs 1).length ≤ 64; rw [limbs_one]; decide⟩
    go_wp2_with fail
    refine (Sub_any _ _ U D (U - D) 64 _ T2.tab (qu.inp sU (by decide)) (qd.inp sD (by decide)) (sU.mono (by decide)) (sD.mono (by decide)) rfl).mono ?_
    rintro e w3 ⟨v3, rfl, h3, hb3⟩
    obtain ⟨n3, A3, m3, c3, B3, k3, d3, rfl⟩ := h3.agg
    go_wp2_with fail
    refine (r_Two_p p _ hp T HT).mono ?_
    rintro e w4 ⟨v4, rfl, h4, hb4⟩
    obtain ⟨n4, A4, m4, c4, B4, k4, d4, rfl⟩ := h4.agg
    have hc4 := hb3.trans (hb4.mono hb3.size)
    go_wp2_with fail
    refine (Mul_any _ _ (U - D) T G 200 _ (T2.tab.below hc4) ((h3.below hb4).inp sUD (by decide)) (h4.inp (sT.mono (by decide)) (by decide)) (sUD.mono (by decide)) (sT.mono (by decide)) HGT.out).mono ?_
    rintro e w5 ⟨v5, rfl, h5, hb5⟩
    obtain ⟨ng, Ag, mg, cg, Bg, kg, dg, rfl⟩ := h5.agg
    have hc5 := hc4.trans (hb5.mono hc4.size)
    go_upto_region 5 with (fail)
    have hbo := (show Below w5.heap.size w5 (w5.alloc (R1 (.bool ng) (.slice Ag mg cg) (.slice Bg kg dg))) from (Below.refl _ _).alloc (Nat.le_refl _) _)
    have hc6 := hc5.trans (hbo.mono hc5.size)
    have hc6d := hc6.drew
    have rg := (Rc.new w5 (.bool ng) (.slice Ag mg cg) (.slice Bg kg dg)).drewN 1
    replace rr1 := (rr1.below hc6 kgx).drewN 1
    replace rr2 := (rr2.below hc6 kgy).drewN 1
    replace rd := (rd.below hc6 kgd).drewN 1
    replace ru := (ru.below hc6 kgu).drewN 1
    replace qx := qx.below hc6d
    replace qy := qy.below hc6d
    replace qd := qd.below hc6d
    replace qu := qu.below hc6d
    have qg := (h5.below hbo).drew1
    have TT := T2.below hc6d
    replace hbb := hbb.trans (hc6d.mono hbb.size)
    clear T2 cd0 cd1 cd2 cu0 cu1 cu2 hb3 hb4 hb5 hc4 hc5 hc6 hc6d hbo h3 h4 h5 kgx kgy kgd kgu hgd hgu
    generalize w5.heap.size = gg at *
    generalize w5.alloc (R1 (.bool ng) (.slice Ag mg cg) (.slice Bg kg dg)) = W6 at *
    have kgx := rr1.lt
    have kgy := rr2.lt
    have kgd := rd.lt
    have kgu := ru.lt
    have kgg := rg.lt
    have ty : Sz y 64 := sy.mono (by decide)
    have s1 : Sz 1 64 := ⟨by show (limbs 1).length ≤ 64; rw [limbs_one]; decide, by show (limbs 1).length ≤ 64; rw [limbs_one]; decide⟩
    have hdw : ∀ q : Rat, dwn q (p : Int) = down q p := fun q => by unfold dwn; rw [if_pos (by omega), Int.toNat_natCast]
    have hup : ∀ q : Rat, upp q (p : Int) = up q p := fun q => by unfold upp; rw [if_pos (by omega), Int.toNat_natCast]
    have HDD : Hid (dwn D (p : Int) = D) := by show _ = _; rw [hdw, ← HD.out, down_down]
    have HUD : Hid (upp D (p : Int) = D) := by show _ = _; rw [hup, ← HD.out, up_down]
    obtain ⟨Dy, hDy⟩ : ∃ q, dwn y (p : Int) = q := ⟨_, rfl⟩
    obtain ⟨Uy, hUy⟩ : ∃ q, upp y (p : Int) = q := ⟨_, rfl⟩
    have sDy : Sz Dy 64 := by rw [← hDy]; exact dwn_sz sy (by decide)
    have sUy : Sz Uy 64 := by rw [← hUy]; exact upp_sz sy (by decide)
    obtain ⟨c, hc⟩ : ∃ c, cmpQ x y = c := ⟨_, rfl⟩
    obtain ⟨c2, hc2⟩ : ∃ c, cmpQ D Dy = c := ⟨_, rfl⟩
    obtain ⟨c3, hc3⟩ : ∃ c, cmpQ U Uy = c := ⟨_, rfl⟩
    have HMN : Hid (c ≤ 0 → c2 ≤ 0 ∧ c3 ≤ 0) := by
      show _ → _
      rw [← hc, ← hc2, ← hc3, cmpQ_lez, cmpQ_lez, cmpQ_lez]
      intro h
      rw [← hDy, ← hUy, hdw, hup, ← HD.out, ← HU.out]
      exact ⟨down_mono h p, up_mono h p⟩
    obtain ⟨cA, hcA⟩ : ∃ c, cmpQ D x = c := ⟨_, rfl⟩
    obtain ⟨cB, hcB⟩ : ∃ c, cmpQ x U = c := ⟨_, rfl⟩
    obtain ⟨cC, hcC⟩ : ∃ c, cmpQ G 1 = c := ⟨_, rfl⟩
    obtain ⟨sg, hsg⟩ : ∃ c, G.num.sign = c := ⟨_, rfl⟩
    have hA0 : cA ≤ 0 := by rw [← hcA, cmpQ_lez, ← HD.out]; exact down_le x p
    have hB0 : cB ≤ 0 := by rw [← hcB, cmpQ_lez, ← HU.out]; exact le_up x p
    have hC0 : cC ≤ 0 := by
      rw [← hcC, cmpQ_lez]
      rcases HGP.out with h | h <;> rw [h] <;> decide
    have hS0 : 0 ≤ sg := by
      rw [← hsg]
      rcases HGP.out with h | h <;> rw [h] <;> decide
    have H11 : Hid (qv (decide ((1 : Int) < 0) != decide ((1 : Int) < 0)) (1 : Int).natAbs (1 : Int).natAbs = 1) := by show _ = _; rfl
    have HDY := Lib.hid hDy
    have HUY := Lib.hid hUy
    have HC := Lib.hid hc
    have HC2 := Lib.hid hc2
    have HC3 := Lib.hid hc3
    have HCA := Lib.hid hcA
    have HCB := Lib.hid hcB
    have HCC := Lib.hid hcC
    have HSG := Lib.hid hsg
    have HA0 := Lib.hid (show decide (cA ≤ 0) = true from decide_eq_true hA0)
    have HB0 := Lib.hid (show decide (cB ≤ 0) = true from decide_eq_true hB0)
    have HC0 := Lib.hid (show decide (cC ≤ 0) = true from decide_eq_true hC0)
    have HS0 := Lib.hid (show decide (0 ≤ sg) = true from decide_eq_true hS0)
    clear hDy hUy hc hc2 hc3 hcA hcB hcC hsg hA0 hB0 hC0 hS0 hdw hup
    have hs := And.intro rr1.cells (And.intro rr2.cells (And.intro rd.cells (And.intro ru.cells rg.cells)))
    have hc0 := Below.refl W6.drew.heap.size W6.drew
    go_cut [55] from 36 to 54 (fun b wx => b = .bool false ∧ Below W6.drew.heap.size W6.drew wx)
    case first =>
      by_cases h0 : c ≤ 0
      · have hm := HMN.out h0
        have e1 : decide (c ≤ 0) = true := decide_eq_true h0
        have e2 : decide (0 < c2) = false := decide_eq_false (by omega)
        have e3 : decide (0 < c3) = false := decide_eq_false (by omega)
        clear hm HMN
        go_region_held3 (fun w' => (w'.cell? ⟨w.heap.size, 0, none⟩ = some (.bool nx) ∧ w'.cell? ⟨w.heap.size, 1, none⟩ = some (.slice X1 x1 y1) ∧ w'.cell? ⟨w.heap.size, 2, none⟩ = some (.slice Z1 z1 t1)) ∧ (w'.cell? ⟨w.heap.size + 1, 0, none⟩ = some (.bool ny) ∧ w'.cell? ⟨w.heap.size + 1, 1, none⟩ = some (.slice X2 x2 y2) ∧ w'.cell? ⟨w.heap.size + 1, 2, none⟩ = some (.slice Z2 z2 t2)) ∧ (w'.cell? ⟨gd, 0, none⟩ = some (.bool nd) ∧ w'.cell? ⟨gd, 1, none⟩ = some (.slice Ad md cd) ∧ w'.cell? ⟨gd, 2, none⟩ = some (.slice Bd kd dd)) ∧ (w'.cell? ⟨gu, 0, none⟩ = some (.bool nu) ∧ w'.cell? ⟨gu, 1, none⟩ = some (.slice Au mu cu) ∧ w'.cell? ⟨gu, 2, none⟩ = some (.slice Bu ku du)) ∧ (w'.cell? ⟨gg, 0, none⟩ = some (.bool ng) ∧ w'.cell? ⟨gg, 1, none⟩ = some (.slice Ag mg cg) ∧ w'.cell? ⟨gg, 2, none⟩ = some (.slice Bg kg dg)))
          (exact hs)
          (first
          | (have _g := hc4; go_at_call 20; refine (Compare_any _ _ (U) (Uy) 64 c3 _ (TT.tab.below hc4) ((qu.below hc4).inp sU (by decide)) (h4.inp sUy (by decide)) (sU.mono (by decide)) (sUy.mono (by decide)) HC3).mono ?_; rintro e w25 ⟨rfl, hb25⟩; have hc5 := hc4.trans (hb25.mono hc4.size); have hs := And.intro (rr1.below hc5 kgx).cells (And.intro (rr2.below hc5 kgy).cells (And.intro (rd.below hc5 kgd).cells (And.intro (ru.below hc5 kgu).cells ((rg.below hc5 kgg).cells)))))
          | (have _g := hc3; go_at_call 38; refine (Up_b _ (y) (Uy) 64 _ _ (TT.tab.below hc3) ((qy.below hc3).inp ty (by decide)) (ty.mono (by decide)) HUY).mono ?_; rintro e w24 ⟨v4, rfl, h4, hb24⟩; have hc4 := hc3.trans (hb24.mono hc3.size); have hs := And.intro (rr1.below hc4 kgx).cells (And.intro (rr2.below hc4 kgy).cells (And.intro (rd.below hc4 kgd).cells (And.intro (ru.below hc4 kgu).cells ((rg.below hc4 kgg).cells)))))
          | (have _g := hc2; go_at_call 20; refine (Compare_any _ _ (D) (Dy) 64 c2 _ (TT.tab.below hc2) ((qd.below hc2).inp sD (by decide)) (h2.inp sDy (by decide)) (sD.mono (by decide)) (sDy.mono (by decide)) HC2).mono ?_; rintro e w23 ⟨rfl, hb23⟩; have hc3 := hc2.trans (hb23.mono hc2.size); have hs := And.intro (rr1.below hc3 kgx).cells (And.intro (rr2.below hc3 kgy).cells (And.intro (rd.below hc3 kgd).cells (And.intro (ru.below hc3 kgu).cells ((rg.below hc3 kgg).cells)))))
          | (have _g := hc1; go_at_call 36; refine (Down_b _ (y) (Dy) 64 _ _ (TT.tab.below hc1) ((qy.below hc1).inp ty (by decide)) (ty.mono (by decide)) HDY).mono ?_; rintro e w22 ⟨v2, rfl, h2, hb22⟩; have hc2 := hc1.trans (hb22.mono hc1.size); have hs := And.intro (rr1.below hc2 kgx).cells (And.intro (rr2.below hc2 kgy).cells (And.intro (rd.below hc2 kgd).cells (And.intro (ru.below hc2 kgu).cells ((rg.below hc2 kgg).cells)))))
          | (go_at_call 20; refine (Compare_any _ _ (x) (y) 64 c _ (TT.tab.below hc0) ((qx.below hc0).inp tx (by decide)) ((qy.below hc0).inp ty (by decide)) (tx.mono (by decide)) (ty.mono (by decide)) HC).mono ?_; rintro e w21 ⟨rfl, hb21⟩; have hc1 := hc0.trans (hb21.mono hc0.size); have hs := And.intro (rr1.below hc1 kgx).cells (And.intro (rr2.below hc1 kgy).cells (And.intro (rd.below hc1 kgd).cells (And.intro (ru.below hc1 kgu).cells ((rg.below hc1 kgg).cells))))))
        all_goals
          go_wp2_with fail
          go_meet
          case rel => exact ⟨rfl, hc5⟩
      · have e1 : decide (c ≤ 0) = false := decide_eq_false h0
        obtain ⟨x0, x1', x2'⟩ := (show Rc W6.drew w.heap.size _ _ _ from rr1).cells
        obtain ⟨y0, y1', y2'⟩ := (show Rc W6.drew (w.heap.size + 1) _ _ _ from rr2).cells
        clear hs
        refine wp_region_any (by kernel_rfl) ?_
        try (change wpAny _ _ _ _ _ _ _ (World.drew _))
        refine wpAny_ready (rs := [0, 1]) (by kernel_rfl) (by simp) ?_
        refine AllReady.cons rfl (fun K hK => ?_) (AllReady.cons rfl (fun K hK => ?_) AllReady.nil)
        · go_simp
          refine hK _ _ ?_
          clear hK K
          refine wpAny_ready (rs := [1]) (by kernel_rfl) (by simp) ?_
          refine AllReady.cons rfl (fun K hK => ?_) AllReady.nil
          go_simp
          refine hK _ _ ?_
          clear hK K
          refine wpAny_ready (rs := [2]) (by kernel_rfl) (by simp) ?_
          refine AllReady.cons rfl (fun K hK => ?_) AllReady.nil
          go_simp
          go_wp2_with (go_at_call 20; refine (Compare_any _ _ (x) (y) 64 c _ (TT.tab.below hc0) ((qx.below hc0).inp tx (by decide)) ((qy.below hc0).inp ty (by decide)) (tx.mono (by decide)) (ty.mono (by decide)) HC).mono ?_; rintro e w21 ⟨rfl, hb21⟩; have hc1 := hc0.trans (hb21.mono hc0.size))
          refine wpAny_take (i := 3) (v := .bool false) rfl (by kernel_rfl) (by kernel_rfl) (by kernel_rfl) (fun _ _ _ h => h) (Or.inl ⟨by rfl, fun w => by go_simp⟩) ?_
          simp only [List.getElem_toArray, List.getElem_cons_succ, List.getElem_cons_zero, Act.put, List.setIfInBounds_toArray, List.set_cons_zero, List.set_cons_succ]
          refine wpAny_take (i := 4) (v := .bool false) rfl (by kernel_rfl) (by kernel_rfl) (by kernel_rfl) (fun _ _ _ h => h) (Or.inl ⟨by rfl, fun w => by go_simp⟩) ?_
          simp only [List.getElem_toArray, List.getElem_cons_succ, List.getElem_cons_zero, Act.put, List.setIfInBounds_toArray, List.set_cons_zero, List.set_cons_succ]
          refine wpAny_take (i := 5) (v := undef) rfl (by kernel_rfl) (by kernel_rfl) (by kernel_rfl) (fun _ _ _ h => h) (Or.inr ⟨by rfl, rfl⟩) ?_
          simp only [List.getElem_toArray, List.getElem_cons_succ, List.getElem_cons_zero, Act.put, List.setIfInBounds_toArray, List.set_cons_zero, List.set_cons_succ]
          refine wpAny_take (i := 6) (v := undef) rfl (by kernel_rfl) (by kernel_rfl) (by kernel_rfl) (fun _ _ _ h => h) (Or.inr ⟨by rfl, rfl⟩) ?_
          simp only [List.getElem_toArray, List.getElem_cons_succ, List.getElem_cons_zero, Act.put, List.setIfInBounds_toArray, List.set_cons_zero, List.set_cons_succ]
          refine wpAny_take (i := 7) (v := undef) rfl (by kernel_rfl) (by kernel_rfl) (by kernel_rfl) (fun _ _ _ h => h) (Or.inr ⟨by rfl, rfl⟩) ?_
          simp only [List.getElem_toArray, List.getElem_cons_succ, List.getElem_cons_zero, Act.put, List.setIfInBounds_toArray, List.set_cons_zero, List.set_cons_succ]
          refine wpAny_take (i := 8) (v := undef) rfl (by kernel_rfl) (by kernel_rfl) (by kernel_rfl) (fun _ _ _ h => h) (Or.inr ⟨by rfl, rfl⟩) ?_
          simp only [List.getElem_toArray, List.getElem_cons_succ, List.getElem_cons_zero, Act.put, List.setIfInBounds_toArray, List.set_cons_zero, List.set_cons_succ]
          refine wpAny_take (i := 9) (v := undef) rfl (by kernel_rfl) (by kernel_rfl) (by kernel_rfl) (fun _ _ _ h => h) (Or.inr ⟨by rfl, rfl⟩) ?_
          simp only [List.getElem_toArray, List.getElem_cons_succ, List.getElem_cons_zero, Act.put, List.setIfInBounds_toArray, List.set_cons_zero, List.set_cons_succ]
          refine wpAny_take (i := 10) (v := undef) rfl (by kernel_rfl) (by kernel_rfl) (by kernel_rfl) (fun _ _ _ h => h) (Or.inr ⟨by rfl, rfl⟩) ?_
          simp only [List.getElem_toArray, List.getElem_cons_succ, List.getElem_cons_zero, Act.put, List.setIfInBounds_toArray, List.set_cons_zero, List.set_cons_succ]
          refine wpAny_take (i := 11) (v := undef) rfl (by kernel_rfl) (by kernel_rfl) (by kernel_rfl) (fun _ _ _ h => h) (Or.inr ⟨by rfl, rfl⟩) ?_
          simp only [List.getElem_toArray, List.getElem_cons_succ, List.getElem_cons_zero, Act.put, List.setIfInBounds_toArray, List.set_cons_zero, List.set_cons_succ]
          refine wpAny_take (i := 12) (v := undef) rfl (by kernel_rfl) (by kernel_rfl) (by kernel_rfl) (fun _ _ _ h => h) (Or.inr ⟨by rfl, rfl⟩) ?_
          simp only [List.getElem_toArray, List.getElem_cons_succ, List.getElem_cons_zero, Act.put, List.setIfInBounds_toArray, List.set_cons_zero, List.set_cons_succ]
          refine wpAny_take (i := 13) (v := undef) rfl (by kernel_rfl) (by kernel_rfl) (by kernel_rfl) (fun _ _ _ h => h) (Or.inr ⟨by rfl, rfl⟩) ?_
          simp only [List.getElem_toArray, List.getElem_cons_succ, List.getElem_cons_zero, Act.put, List.setIfInBounds_toArray, List.set_cons_zero, List.set_cons_succ]
          refine wpAny_take (i := 14) (v := undef) rfl (by kernel_rfl) (by kernel_rfl) (by kernel_rfl) (fun _ _ _ h => h) (Or.inr ⟨by rfl, rfl⟩) ?_
          simp only [List.getElem_toArray, List.getElem_cons_succ, List.getElem_cons_zero, Act.put, List.setIfInBounds_toArray, List.set_cons_zero, List.set_cons_succ]
          refine wpAny_take (i := 15) (v := undef) rfl (by kernel_rfl) (by kernel_rfl) (by kernel_rfl) (fun _ _ _ h => h) (Or.inr ⟨by rfl, rfl⟩) ?_
          simp only [List.getElem_toArray, List.getElem_cons_succ, List.getElem_cons_zero, Act.put, List.setIfInBounds_toArray, List.set_cons_zero, List.set_cons_succ]
          refine wpAny_take (i := 16) (v := undef) rfl (by kernel_rfl) (by kernel_rfl) (by kernel_rfl) (fun _ _ _ h => h) (Or.inr ⟨by rfl, rfl⟩) ?_
          simp only [List.getElem_toArray, List.getElem_cons_succ, List.getElem_cons_zero, Act.put, List.setIfInBounds_toArray, List.set_cons_zero, List.set_cons_succ]
          refine wpAny_take (i := 17) (v := undef) rfl (by kernel_rfl) (by kernel_rfl) (by kernel_rfl) (fun _ _ _ h => h) (Or.inr ⟨by rfl, rfl⟩) ?_
          simp only [List.getElem_toArray, List.getElem_cons_succ, List.getElem_cons_zero, Act.put, List.setIfInBounds_toArray, List.set_cons_zero, List.set_cons_succ]
          refine wpAny_take (i := 18) (v := undef) rfl (by kernel_rfl) (by kernel_rfl) (by kernel_rfl) (fun _ _ _ h => h) (Or.inr ⟨by rfl, rfl⟩) ?_
          simp only [List.getElem_toArray, List.getElem_cons_succ, List.getElem_cons_zero, Act.put, List.setIfInBounds_toArray, List.set_cons_zero, List.set_cons_succ]
          refine wpAny_take (i := 19) (v := .bool false) rfl (by kernel_rfl) (by kernel_rfl) (by kernel_rfl) (fun _ _ _ h => h) (Or.inl ⟨by rfl, fun w => by go_simp⟩) ?_
          simp only [List.getElem_toArray, List.getElem_cons_succ, List.getElem_cons_zero, Act.put, List.setIfInBounds_toArray, List.set_cons_zero, List.set_cons_succ]
          refine wpAny_done (by kernel_rfl) ?_ _
          go_wp2_with fail
          go_meet
          case rel => exact ⟨rfl, hc1⟩
        · go_simp
          refine hK _ _ ?_
          clear hK K
          refine wpAny_ready (rs := [0]) (by kernel_rfl) (by simp) ?_
          refine AllReady.cons rfl (fun K hK => ?_) AllReady.nil
          go_simp
          refine hK _ _ ?_
          clear hK K
          refine wpAny_ready (rs := [2]) (by kernel_rfl) (by simp) ?_
          refine AllReady.cons rfl (fun K hK => ?_) AllReady.nil
          go_simp
          go_wp2_with (go_at_call 20; refine (Compare_any _ _ (x) (y) 64 c _ (TT.tab.below hc0) ((qx.below hc0).inp tx (by decide)) ((qy.below hc0).inp ty (by decide)) (tx.mono (by decide)) (ty.mono (by decide)) HC).mono ?_; rintro e w21 ⟨rfl, hb21⟩; have hc1 := hc0.trans (hb21.mono hc0.size))
          refine wpAny_take (i := 3) (v := .bool false) rfl (by kernel_rfl) (by kernel_rfl) (by kernel_rfl) (fun _ _ _ h => h) (Or.inl ⟨by rfl, fun w => by go_simp⟩) ?_
          simp only [List.getElem_toArray, List.getElem_cons_succ, List.getElem_cons_zero, Act.put, List.setIfInBounds_toArray, List.set_cons_zero, List.set_cons_succ]
          refine wpAny_take (i := 4) (v := .bool false) rfl (by kernel_rfl) (by kernel_rfl) (by kernel_rfl) (fun _ _ _ h => h) (Or.inl ⟨by rfl, fun w => by go_simp⟩) ?_
          simp only [List.getElem_toArray, List.getElem_cons_succ, List.getElem_cons_zero, Act.put, List.setIfInBounds_toArray, List.set_cons_zero, List.set_cons_succ]
          refine wpAny_take (i := 5) (v := undef) rfl (by kernel_rfl) (by kernel_rfl) (by kernel_rfl) (fun _ _ _ h => h) (Or.inr ⟨by rfl, rfl⟩) ?_
          simp only [List.getElem_toArray, List.getElem_cons_succ, List.getElem_cons_zero, Act.put, List.setIfInBounds_toArray, List.set_cons_zero, List.set_cons_succ]
          refine wpAny_take (i := 6) (v := undef) rfl (by kernel_rfl) (by kernel_rfl) (by kernel_rfl) (fun _ _ _ h => h) (Or.inr ⟨by rfl, rfl⟩) ?_
          simp only [List.getElem_toArray, List.getElem_cons_succ, List.getElem_cons_zero, Act.put, List.setIfInBounds_toArray, List.set_cons_zero, List.set_cons_succ]
          refine wpAny_take (i := 7) (v := undef) rfl (by kernel_rfl) (by kernel_rfl) (by kernel_rfl) (fun _ _ _ h => h) (Or.inr ⟨by rfl, rfl⟩) ?_
          simp only [List.getElem_toArray, List.getElem_cons_succ, List.getElem_cons_zero, Act.put, List.setIfInBounds_toArray, List.set_cons_zero, List.set_cons_succ]
          refine wpAny_take (i := 8) (v := undef) rfl (by kernel_rfl) (by kernel_rfl) (by kernel_rfl) (fun _ _ _ h => h) (Or.inr ⟨by rfl, rfl⟩) ?_
          simp only [List.getElem_toArray, List.getElem_cons_succ, List.getElem_cons_zero, Act.put, List.setIfInBounds_toArray, List.set_cons_zero, List.set_cons_succ]
          refine wpAny_take (i := 9) (v := undef) rfl (by kernel_rfl) (by kernel_rfl) (by kernel_rfl) (fun _ _ _ h => h) (Or.inr ⟨by rfl, rfl⟩) ?_
          simp only [List.getElem_toArray, List.getElem_cons_succ, List.getElem_cons_zero, Act.put, List.setIfInBounds_toArray, List.set_cons_zero, List.set_cons_succ]
          refine wpAny_take (i := 10) (v := undef) rfl (by kernel_rfl) (by kernel_rfl) (by kernel_rfl) (fun _ _ _ h => h) (Or.inr ⟨by rfl, rfl⟩) ?_
          simp only [List.getElem_toArray, List.getElem_cons_succ, List.getElem_cons_zero, Act.put, List.setIfInBounds_toArray, List.set_cons_zero, List.set_cons_succ]
          refine wpAny_take (i := 11) (v := undef) rfl (by kernel_rfl) (by kernel_rfl) (by kernel_rfl) (fun _ _ _ h => h) (Or.inr ⟨by rfl, rfl⟩) ?_
          simp only [List.getElem_toArray, List.getElem_cons_succ, List.getElem_cons_zero, Act.put, List.setIfInBounds_toArray, List.set_cons_zero, List.set_cons_succ]
          refine wpAny_take (i := 12) (v := undef) rfl (by kernel_rfl) (by kernel_rfl) (by kernel_rfl) (fun _ _ _ h => h) (Or.inr ⟨by rfl, rfl⟩) ?_
          simp only [List.getElem_toArray, List.getElem_cons_succ, List.getElem_cons_zero, Act.put, List.setIfInBounds_toArray, List.set_cons_zero, List.set_cons_succ]
          refine wpAny_take (i := 13) (v := undef) rfl (by kernel_rfl) (by kernel_rfl) (by kernel_rfl) (fun _ _ _ h => h) (Or.inr ⟨by rfl, rfl⟩) ?_
          simp only [List.getElem_toArray, List.getElem_cons_succ, List.getElem_cons_zero, Act.put, List.setIfInBounds_toArray, List.set_cons_zero, List.set_cons_succ]
          refine wpAny_take (i := 14) (v := undef) rfl (by kernel_rfl) (by kernel_rfl) (by kernel_rfl) (fun _ _ _ h => h) (Or.inr ⟨by rfl, rfl⟩) ?_
          simp only [List.getElem_toArray, List.getElem_cons_succ, List.getElem_cons_zero, Act.put, List.setIfInBounds_toArray, List.set_cons_zero, List.set_cons_succ]
          refine wpAny_take (i := 15) (v := undef) rfl (by kernel_rfl) (by kernel_rfl) (by kernel_rfl) (fun _ _ _ h => h) (Or.inr ⟨by rfl, rfl⟩) ?_
          simp only [List.getElem_toArray, List.getElem_cons_succ, List.getElem_cons_zero, Act.put, List.setIfInBounds_toArray, List.set_cons_zero, List.set_cons_succ]
          refine wpAny_take (i := 16) (v := undef) rfl (by kernel_rfl) (by kernel_rfl) (by kernel_rfl) (fun _ _ _ h => h) (Or.inr ⟨by rfl, rfl⟩) ?_
          simp only [List.getElem_toArray, List.getElem_cons_succ, List.getElem_cons_zero, Act.put, List.setIfInBounds_toArray, List.set_cons_zero, List.set_cons_succ]
          refine wpAny_take (i := 17) (v := undef) rfl (by kernel_rfl) (by kernel_rfl) (by kernel_rfl) (fun _ _ _ h => h) (Or.inr ⟨by rfl, rfl⟩) ?_
          simp only [List.getElem_toArray, List.getElem_cons_succ, List.getElem_cons_zero, Act.put, List.setIfInBounds_toArray, List.set_cons_zero, List.set_cons_succ]
          refine wpAny_take (i := 18) (v := undef) rfl (by kernel_rfl) (by kernel_rfl) (by kernel_rfl) (fun _ _ _ h => h) (Or.inr ⟨by rfl, rfl⟩) ?_
          simp only [List.getElem_toArray, List.getElem_cons_succ, List.getElem_cons_zero, Act.put, List.setIfInBounds_toArray, List.set_cons_zero, List.set_cons_succ]
          refine wpAny_take (i := 19) (v := .bool false) rfl (by kernel_rfl) (by kernel_rfl) (by kernel_rfl) (fun _ _ _ h => h) (Or.inl ⟨by rfl, fun w => by go_simp⟩) ?_
          simp only [List.getElem_toArray, List.getElem_cons_succ, List.getElem_cons_zero, Act.put, List.setIfInBounds_toArray, List.set_cons_zero, List.set_cons_succ]
          refine wpAny_done (by kernel_rfl) ?_ _
          go_wp2_with fail
          go_meet
          case rel => exact ⟨rfl, hc1⟩
    case rest =>
      obtain ⟨rfl, hbz⟩ := hcut
      replace rr1 := (rr1.below hbz kgx).drewN 1
      replace rr2 := (rr2.below hbz kgy).drewN 1
      replace rd := (rd.below hbz kgd).drewN 1
      replace ru := (ru.below hbz kgu).drewN 1
      replace rg := (rg.below hbz kgg).drewN 1
      have hbzd := hbz.drew
      replace qx := qx.below hbzd
      replace qy := qy.below hbzd
      replace qd := qd.below hbzd
      replace qu := qu.below hbzd
      replace qg := qg.below hbzd
      replace TT := TT.below hbzd
      replace hbb := hbb.trans (hbzd.mono hbb.size)
      clear hs hc0 hbz hbzd kgx kgy kgd kgu kgg
      have kgx := rr1.lt
      have kgy := rr2.lt
      have kgd := rd.lt
      have kgu := ru.lt
      have kgg := rg.lt
      have hs := And.intro rr1.cells (And.intro rr2.cells (And.intro rd.cells (And.intro ru.cells rg.cells)))
      have hc0 := Below.refl wc.drew.heap.size wc.drew
      have eA := HA0.out
      have eB := HB0.out
      have eC := HC0.out
      have eS := HS0.out
      go_wp2_with fail
      go_region_held3 (fun w' => (w'.cell? ⟨w.heap.size, 0, none⟩ = some (.bool nx) ∧ w'.cell? ⟨w.heap.size, 1, none⟩ = some (.slice X1 x1 y1) ∧ w'.cell? ⟨w.heap.size, 2, none⟩ = some (.slice Z1 z1 t1)) ∧ (w'.cell? ⟨w.heap.size + 1, 0, none⟩ = some (.bool ny) ∧ w'.cell? ⟨w.heap.size + 1, 1, none⟩ = some (.slice X2 x2 y2) ∧ w'.cell? ⟨w.heap.size + 1, 2, none⟩ = some (.slice Z2 z2 t2)) ∧ (w'.cell? ⟨gd, 0, none⟩ = some (.bool nd) ∧ w'.cell? ⟨gd, 1, none⟩ = some (.slice Ad md cd) ∧ w'.cell? ⟨gd, 2, none⟩ = some (.slice Bd kd dd)) ∧ (w'.cell? ⟨gu, 0, none⟩ = some (.bool nu) ∧ w'.cell? ⟨gu, 1, none⟩ = some (.slice Au mu cu) ∧ w'.cell? ⟨gu, 2, none⟩ = some (.slice Bu ku du)) ∧ (w'.cell? ⟨gg, 0, none⟩ = some (.bool ng) ∧ w'.cell? ⟨gg, 1, none⟩ = some (.slice Ag mg cg) ∧ w'.cell? ⟨gg, 2, none⟩ = some (.slice Bg kg dg)))
        (exact hs)
        (first
          | (have _g := hc11; go_at_call 19; refine (r_Same_true _ _ (D) (D) _ 64 h11 (qd.below hc11) sD (by decide) (rfl)).mono ?_; rintro e w32 ⟨rfl, hb32⟩; have hc12 := hc11.trans (hb32.mono hc11.size); have hs := And.intro (rr1.below hc12 kgx).cells (And.intro (rr2.below hc12 kgy).cells (And.intro (rd.below hc12 kgd).cells (And.intro (ru.below hc12 kgu).cells ((rg.below hc12 kgg).cells)))))
          | (have _g := hc10; go_at_call 38; refine (Up_b _ (D) (D) 64 _ _ (TT.tab.below hc10) ((qd.below hc10).inp sD (by decide)) (sD.mono (by decide)) HUD).mono ?_; rintro e w31 ⟨v11, rfl, h11, hb31⟩; have hc11 := hc10.trans (hb31.mono hc10.size); have hs := And.intro (rr1.below hc11 kgx).cells (And.intro (rr2.below hc11 kgy).cells (And.intro (rd.below hc11 kgd).cells (And.intro (ru.below hc11 kgu).cells ((rg.below hc11 kgg).cells)))))
          | (have _g := hc9; go_at_call 19; refine (r_Same_true _ _ (D) (D) _ 64 h9 (qd.below hc9) sD (by decide) (rfl)).mono ?_; rintro e w30 ⟨rfl, hb30⟩; have hc10 := hc9.trans (hb30.mono hc9.size); have hs := And.intro (rr1.below hc10 kgx).cells (And.intro (rr2.below hc10 kgy).cells (And.intro (rd.below hc10 kgd).cells (And.intro (ru.below hc10 kgu).cells ((rg.below hc10 kgg).cells)))))
          | (have _g := hc8; go_at_call 36; refine (Down_b _ (D) (D) 64 _ _ (TT.tab.below hc8) ((qd.below hc8).inp sD (by decide)) (sD.mono (by decide)) HDD).mono ?_; rintro e w29 ⟨v9, rfl, h9, hb29⟩; have hc9 := hc8.trans (hb29.mono hc8.size); have hs := And.intro (rr1.below hc9 kgx).cells (And.intro (rr2.below hc9 kgy).cells (And.intro (rd.below hc9 kgd).cells (And.intro (ru.below hc9 kgu).cells ((rg.below hc9 kgg).cells)))))
          | (have _g := hc7; go_at_call 20; refine (Compare_any _ _ (G) (1) 64 cC _ (TT.tab.below hc7) ((qg.below hc7).inp sG (by decide)) (h7.inp s1 (by decide)) (sG.mono (by decide)) (s1.mono (by decide)) HCC).mono ?_; rintro e w28 ⟨rfl, hb28⟩; have hc8 := hc7.trans (hb28.mono hc7.size); have hs := And.intro (rr1.below hc8 kgx).cells (And.intro (rr2.below hc8 kgy).cells (And.intro (rd.below hc8 kgd).cells (And.intro (ru.below hc8 kgu).cells ((rg.below hc8 kgg).cells)))))
          | (have _g := hc6; go_at_call 46; refine (r_Of 1 1 _ (by decide) _ H11.out (by decide) (by decide) (by decide) (by decide)).mono ?_; rintro e w27 ⟨v7, rfl, h7, hb27⟩; have hc7 := hc6.trans (hb27.mono hc6.size); have hs := And.intro (rr1.below hc7 kgx).cells (And.intro (rr2.below hc7 kgy).cells (And.intro (rd.below hc7 kgd).cells (And.intro (ru.below hc7 kgu).cells ((rg.below hc7 kgg).cells)))))
          | (have _g := hc5; go_at_call 22; refine (Sign_v _ (G) 64 sg _ (TT.tab.below hc5) ((qg.below hc5).inp sG (by decide)) HSG).mono ?_; rintro e w26 ⟨rfl, hb26⟩; have hc6 := hc5.trans (hb26.mono hc5.size); have hs := And.intro (rr1.below hc6 kgx).cells (And.intro (rr2.below hc6 kgy).cells (And.intro (rd.below hc6 kgd).cells (And.intro (ru.below hc6 kgu).cells ((rg.below hc6 kgg).cells)))))
          | (have _g := hc4; go_at_call 20; refine (Compare_any _ _ (x) (U) 64 cB _ (TT.tab.below hc4) ((qx.below hc4).inp tx (by decide)) ((qu.below hc4).inp sU (by decide)) (tx.mono (by decide)) (sU.mono (by decide)) HCB).mono ?_; rintro e w25 ⟨rfl, hb25⟩; have hc5 := hc4.trans (hb25.mono hc4.size); have hs := And.intro (rr1.below hc5 kgx).cells (And.intro (rr2.below hc5 kgy).cells (And.intro (rd.below hc5 kgd).cells (And.intro (ru.below hc5 kgu).cells ((rg.below hc5 kgg).cells)))))
          | (have _g := hc3; go_at_call 20; refine (Compare_any _ _ (D) (x) 64 cA _ (TT.tab.below hc3) ((qd.below hc3).inp sD (by decide)) ((qx.below hc3).inp tx (by decide)) (sD.mono (by decide)) (tx.mono (by decide)) HCA).mono ?_; rintro e w24 ⟨rfl, hb24⟩; have hc4 := hc3.trans (hb24.mono hc3.size); have hs := And.intro (rr1.below hc4 kgx).cells (And.intro (rr2.below hc4 kgy).cells (And.intro (rd.below hc4 kgd).cells (And.intro (ru.below hc4 kgu).cells ((rg.below hc4 kgg).cells)))))
          | (have _g := hc2; go_at_call 17; refine (valid_rat _ U _ (TT.tab.below hc2) (qu.below hc2) sU).mono ?_; rintro e w23 ⟨rfl, hb23⟩; have hc3 := hc2.trans (hb23.mono hc2.size); have hs := And.intro (rr1.below hc3 kgx).cells (And.intro (rr2.below hc3 kgy).cells (And.intro (rd.below hc3 kgd).cells (And.intro (ru.below hc3 kgu).cells ((rg.below hc3 kgg).cells)))))
          | (have _g := hc1; go_at_call 17; refine (valid_rat _ D _ (TT.tab.below hc1) (qd.below hc1) sD).mono ?_; rintro e w22 ⟨rfl, hb22⟩; have hc2 := hc1.trans (hb22.mono hc1.size); have hs := And.intro (rr1.below hc2 kgx).cells (And.intro (rr2.below hc2 kgy).cells (And.intro (rd.below hc2 kgd).cells (And.intro (ru.below hc2 kgu).cells ((rg.below hc2 kgg).cells)))))
          | (go_at_call 12; refine (awake_any _ (TT.below hc0)).mono ?_; rintro e w21 ⟨rfl, hb21⟩; have hc1 := hc0.trans (hb21.mono hc0.size); have hs := And.intro (rr1.below hc1 kgx).cells (And.intro (rr2.below hc1 kgy).cells (And.intro (rd.below hc1 kgd).cells (And.intro (ru.below hc1 kgu).cells ((rg.below hc1 kgg).cells))))))
      go_wp2_with fail
      go_ret
      exact ⟨rfl, hbb.trans (hc12.mono hbb.size)⟩
end Go.Proofs.YtggmmgojpamcpaaGreatDoor
