/- The specification's floor. -/
import Derived.Test.YtdlmhgijpgnilaaGreatDoorQ22
import Derived.Deep.RegionHeld3
import Derived.Test.YtdlmhgijpgnilaaGreatDoorQ19
import Derived.Test.YtdlmhgijpgnilaaGreatDoorQ20
import Derived.Test.YtdlmhgijpgnilaaGreatDoorQ08
import Derived.Deep.CutRange
set_option linter.unusedVariables false
set_option linter.unusedSimpArgs false
namespace Go.Proofs.YtdlmhgijpgnilaaGreatDoor
open Go.RowKit

theorem ratq_whole {w : World} {A : Option Addr} {n c K : Nat} (nb x : Bool) (hN : Num w (limbs K) A n c) (hx : x = (nb && decide (K ≠ 0))) : RatQ w (.agg #[.bool x, .slice A n c, .slice none 0 0]) (qv nb K 1) := by
  have hl := qv_low (neg := nb) (a := K) (d := 1) (by decide) (Nat.gcd_one_right K)
  refine ⟨A, n, c, none, 0, 0, ?_, ?_, ?_⟩
  · rw [hl.1, sgn_neg, hx]
  · rw [hl.1, sgn_abs]; exact hN
  · rw [hl.2, dl_one]; exact Num.nil _ _ _
set_option maxRecDepth 20000 in
set_option maxHeartbeats 2000000 in
theorem r_floor (v : Value) (q : Rat) (w : World) (h : Inr w v q) (sx : Sz q 900000) : Calls Tryz.prog 82 #[v] w (RetRat w (down q 0)) := by
  have hq : qv (decide (q.num < 0)) (steps q.num.natAbs q.den 0 (decide (q.num < 0))) (2 ^ 0) = down q 0 := by rw [qv_down q.den_nz q.reduced, qv_self]
  have HQ := Lib.hid hq
  clear hq
  obtain ⟨z0, Z, zn, zc, Z', zm, ze, rfl⟩ := h.agg
  obtain ⟨hbA, hrx, hrr⟩ := blocks2 w (.bool z0) (.slice Z zn zc) (.slice Z' zm ze) (.bool false) (.slice none 0 0) (.slice none 0 0)
  go_enter Tryz.func82, Tryz.ntmps82
  go_wp2_with fail
  refine (r_Take _ q _ (h.below hbA)).mono ?_
  rintro e w1 ⟨v1, rfl, h1, hb1⟩
  have hrx1 := hrx.below hb1 hrx.lt
  have hrr1 := hrr.below hb1 hrr.lt
  obtain ⟨nb, A, n, c, B, m, e, rfl⟩ := h1.agg
  obtain ⟨k0, k1, k2⟩ := hrx1.cells
  obtain ⟨f0, f1, f2⟩ := hrx1.frozen
  obtain ⟨hnb, hN, hD⟩ := h1.parts
  rw [← hnb] at HQ
  have hb01 := hbA.trans (hb1.mono hbA.size)
  have hrx2 := hrx1.set (.bool nb) (.slice A n c) (.slice B m e)
  have hrr2 := hrr1.far3 (g' := w.heap.size) (by omega) (.bool nb) (.slice A n c) (.slice B m e)
  have hN2 := hN.set3 (hN.ne_rc hrx1) (.bool nb) (.slice A n c) (.slice B m e)
  have hD2 := hD.set3 (hD.ne_rc hrx1) (.bool nb) (.slice A n c) (.slice B m e)
  have hb02 := below_set3 hb01 (Nat.le_refl _) (.bool nb) (.slice A n c) (.slice B m e)
  clear hnb h1
  go_wp2_with fail
  generalize (((w1.setCell ⟨w.heap.size, 0, none⟩ (.bool nb)).setCell ⟨w.heap.size, 1, none⟩ (.slice A n c)).setCell ⟨w.heap.size, 2, none⟩ (.slice B m e)) = W2 at *
  have hgx : w.heap.size < W2.drew.heap.size := hrx2.lt
  have hgr : w.heap.size + 1 < W2.drew.heap.size := hrr2.lt
  replace hrx2 := hrx2.drew
  replace hrr2 := hrr2.drew
  replace hN2 := hN2.drew
  replace hD2 := hD2.drew
  replace hb02 := hb02.drew
  have hsx := hrx2.cells
  have HDN := Lib.hid q.den_nz
  have hnl : n ≤ 900000 := by rw [hN2.len]; exact sx.1
  have HLD := Lib.hid sx.2
  clear k0 k1 k2 f0 f1 f2 hN hD hrx1 hrr1 hb01 hb1 h
  go_region_held3 (fun w' => w'.cell? ⟨w.heap.size, 0, none⟩ = some (.bool nb) ∧ w'.cell? ⟨w.heap.size, 1, none⟩ = some (.slice A n c) ∧ w'.cell? ⟨w.heap.size, 2, none⟩ = some (.slice B m e))
    (first | exact hsx)
    (first
      | (have _g := hb3; go_at_call 93; refine (r_divide _ _ _ _ _ _ q.num.natAbs q.den _ (hN2.below hb3) g3 ?_ ?_ HDN).mono ?_; omega; (have := g3.len; have := HLD.out; omega); rintro e' w4 ⟨A4, n4, c4, A5, n5, c5, rfl, h4, h5, hb4⟩; have hc4 := hb3.trans (hb4.mono hb3.size); have hsx := (hrx2.below hc4 hgx).cells)
      | (go_at_call 56; refine (r_den nb A B n c m e q.den _ hD2 q.den_nz).mono ?_; rintro e' w3 ⟨Q3, k3, d3, rfl, g3, hb3⟩; have hsx := (hrx2.below hb3 hgx).cells))
  have hrr4 := hrr2.below hc4 hgr
  have hrx4 := hrx2.below hc4 hgx
  have hb04 := hb02.trans (hc4.mono hb02.size)
  have hn4 : n4 ≤ 900000 := by
    have h1 := h4.len
    have h2 := length_mono (Nat.div_le_self q.num.natAbs q.den)
    have h3 := sx.1
    omega
  have HK : Hid (steps q.num.natAbs q.den 0 nb = q.num.natAbs / q.den + if nb && decide (q.num.natAbs % q.den ≠ 0) then 1 else 0) := by
    show _ = _
    unfold steps
    rw [Nat.pow_zero, Nat.mul_one]
  have h4n := h4.num
  have HZ : Hid (n4 = 0 ↔ q.num.natAbs / q.den = 0) := by show _ ↔ _; rw [h4.len]; exact limbs_length_zero
  have HM : Hid (n5 = 0 ↔ q.num.natAbs % q.den = 0) := by show _ ↔ _; rw [h5.len]; exact limbs_length_zero
  generalize q.num.natAbs / q.den = b at *
  generalize q.num.natAbs % q.den = r at *
  have HQ2 : Hid (qv nb (b + if nb && decide (r ≠ 0) then 1 else 0) 1 = down q 0) := by show _ = _; rw [← HK.out]; exact HQ.out
  obtain ⟨k0, k1, k2⟩ := hrx4.cells
  obtain ⟨r0, r1, r2⟩ := hrr4.cells
  obtain ⟨g0, g1, g2⟩ := hrr4.frozen
  clear HQ HK h5 h4 g3 hb3 hb4 hN2 hD2
  cases nb
  · have HE : Hid (qv false b 1 = down q 0) := by show _ = _; rw [← HQ2.out]; rfl
    clear HQ2 HZ HM
    go_wp2_with fail
    refine ret_rc Tryz.results82 rfl (hrr4.set _ _ _) rfl ?_
    rw [← HE.out]
    exact ⟨_, rfl, (ratq_whole false false h4n rfl).set3 hrr4 _ _ _, below_set3 hb04 (by omega) _ _ _⟩
  · by_cases hm : n5 = 0
    · have hr0 : r = 0 := HM.out.1 hm
      have HE : Hid (qv true b 1 = down q 0) := by show _ = _; rw [← HQ2.out, hr0]; rfl
      subst hm
      clear hr0 HQ2 HM
      by_cases hz : n4 = 0
      · have hb0 : b = 0 := HZ.out.1 hz
        have HX : Hid (false = (true && decide (b ≠ 0))) := by show _ = _; rw [hb0]; rfl
        subst hz
        clear hb0 HZ
        go_wp2_with fail
        refine ret_rc Tryz.results82 rfl (hrr4.set _ _ _) rfl ?_
        rw [← HE.out]
        exact ⟨_, rfl, (ratq_whole true false h4n HX.out).set3 hrr4 _ _ _, below_set3 hb04 (by omega) _ _ _⟩
      · have HX : Hid (true = (true && decide (b ≠ 0))) := by
          show _ = _
          rw [decide_eq_true (show b ≠ 0 from fun h => hz (HZ.out.2 h))]; rfl
        have hp : 0 < n4 := Nat.pos_of_ne_zero hz
        have hd : decide ((0 : Int) < (n4 : Int)) = true := decide_eq_true (by omega)
        clear hz HZ
        go_wp2_with fail
        refine ret_rc Tryz.results82 rfl (hrr4.set _ _ _) rfl ?_
        rw [← HE.out]
        exact ⟨_, rfl, (ratq_whole true true h4n HX.out).set3 hrr4 _ _ _, below_set3 hb04 (by omega) _ _ _⟩
    · have HE : Hid (qv true (b + 1) 1 = down q 0) := by show _ = _; rw [← HQ2.out, decide_eq_true (show r ≠ 0 from fun h => hm (HM.out.2 h))]; rfl
      have hp : 0 < n5 := Nat.pos_of_ne_zero hm
      have hd : decide ((0 : Int) < (n5 : Int)) = true := decide_eq_true (by omega)
      have hbo : Below w4.heap.size w4 (w4.alloc (.cells #[.int .u32 1] 27)) := (Below.refl _ _).alloc (Nat.le_refl _) _
      have hone : Num (w4.alloc (.cells #[.int .u32 1] 27)) (limbs 1) (some ⟨w4.heap.size, 0, none⟩) 1 1 := by
        rw [limbs_one]
        exact (show Row _ _ [1] from heap_alloc_new w4 _).num (Lim.cons (by decide) Lim.nil) rfl (Nat.le_refl _)
      clear hm HQ2 HM HZ
      go_wp2_with fail
      refine (r_plus _ _ _ _ _ _ b 1 _ (h4n.below hbo) hone (by omega) (by omega)).mono ?_
      rintro e6 w6 ⟨A6, n6, c6, rfl, h6, hb6⟩
      have hc6 := hbo.trans (hb6.mono hbo.size)
      have hrr6 := hrr4.below hc6 hrr4.lt
      have hrx6 := hrx4.below hc6 hrx4.lt
      have hb06 := hb04.trans (hc6.mono hb04.size)
      have hp6 : 0 < n6 := by
        rw [h6.len]
        exact Nat.pos_of_ne_zero (fun h => absurd (limbs_length_zero.1 h) (Nat.succ_ne_zero b))
      have hd6 : decide ((0 : Int) < (n6 : Int)) = true := decide_eq_true (by omega)
      have h6n := h6.num
      clear k0 k1 k2 r0 r1 r2 g0 g1 g2 hd hp h6
      obtain ⟨k0, k1, k2⟩ := hrx6.cells
      obtain ⟨r0, r1, r2⟩ := hrr6.cells
      obtain ⟨g0, g1, g2⟩ := hrr6.frozen
      go_wp2_with fail
      refine ret_rc Tryz.results82 rfl (hrr6.set _ _ _) rfl ?_
      rw [← HE.out]
      exact ⟨_, rfl, (ratq_whole true true h6n (by rw [decide_eq_true (show b + 1 ≠ 0 from Nat.succ_ne_zero b)]; rfl)).set3 hrr6 _ _ _, below_set3 hb06 (by omega) _ _ _⟩
end Go.Proofs.YtdlmhgijpgnilaaGreatDoor

namespace Go.Proofs.YtdlmhgijpgnilaaGreatDoor
open Go.RowKit

theorem sz_two (p : Nat) : Sz ((2 ^ p : Nat) : Rat) (p / 32 + 1) := ⟨by rw [(rat_two p).1, Int.natAbs_natCast]; exact length_two p, by rw [(rat_two p).2, limbs_one]; simp⟩
theorem r_Two_p (p : Nat) (w : World) (hp : p ≤ 256) (T : Rat) (HT : Hid (((2 ^ p : Nat) : Rat) = T)) : Calls Tryz.prog 83 #[.int .i64 (p : Int)] w (RetRat w T) := by
  have h := r_Two (p / 32) (p % 32) w (by omega) (by omega)
  rw [show 32 * (p / 32) + p % 32 = p from by omega] at h
  rw [← HT.out]
  exact h

set_option maxRecDepth 20000 in
set_option maxHeartbeats 2000000 in
theorem r_Down_in (v : Value) (x : Rat) (p : Nat) (w : World) (h : Inr w v x) (sx : Sz x 100000) (hp : p ≤ 256) : Calls Tryz.prog 43 #[v, .int .i64 (p : Int)] w (RetRat w (down x p)) := by
  have hR := down_two x p
  have sT : Sz ((2 ^ p : Nat) : Rat) 10 := (sz_two p).mono (by omega)
  have hT0 : ((2 ^ p : Nat) : Rat) ≠ 0 := by have := twoP_pos p; grind
  obtain ⟨T, hT⟩ : ∃ T : Rat, ((2 ^ p : Nat) : Rat) = T := ⟨_, rfl⟩
  rw [hT] at hR sT hT0
  have sM : Sz (x * T) 200000 := sz_mul sx sT (by decide)
  have sD : Sz (down (x * T) 0) 300000 := down_sz sM (by decide)
  have HR := Lib.hid hR
  have HT := Lib.hid hT
  clear hR hT
  obtain ⟨z0, Z, zn, zc, Z', zm, ze, rfl⟩ := h.agg
  obtain ⟨hbA, hrx, hrr⟩ := blocks2 w (.bool z0) (.slice Z zn zc) (.slice Z' zm ze) (.bool false) (.slice none 0 0) (.slice none 0 0)
  go_enter Tryz.func43, Tryz.ntmps43
  have hI := h.below hbA
  go_wp2_with fail
  generalize ((w.alloc (R1 (.bool z0) (.slice Z zn zc) (.slice Z' zm ze))).alloc (R1 (.bool false) (.slice none 0 0) (.slice none 0 0))) = W at *
  have hgx : w.heap.size < W.drew.heap.size := hrx.lt
  have hgr : w.heap.size + 1 < W.drew.heap.size := hrr.lt
  replace hrx := hrx.drew
  replace hrr := hrr.drew
  replace hI : Inr W.drew _ x := hI.below (Below.refl _ _).drew
  replace hbA := hbA.drew
  have hsx := hrx.cells
  have hc0 := Below.refl W.drew.heap.size W.drew
  go_region_held3 (fun w' => w'.cell? ⟨w.heap.size, 0, none⟩ = some (.bool z0) ∧ w'.cell? ⟨w.heap.size, 1, none⟩ = some (.slice Z zn zc) ∧ w'.cell? ⟨w.heap.size, 2, none⟩ = some (.slice Z' zm ze))
    (first | exact hsx | exact ⟨cell_set3 (by omega) hsx.1, cell_set3 (by omega) hsx.2.1, cell_set3 (by omega) hsx.2.2⟩)
    (first
      | (have _g := hc4; go_at_call 44; refine (r_Quo _ _ (down (x * T) 0) T _ (h3.inr sD (by decide)) (h4.inr sT (by decide)) (sD.mono (by decide)) (sT.mono (by decide)) hT0).mono ?_; rintro e' w5 ⟨v5, rfl, h5, hb5⟩; have hc5 := hc4.trans (hb5.mono hc4.size); have hsx := (hrx.below hc5 hgx).cells; have hrr5 := hrr.below hc5 hgr; obtain ⟨nb5, A5, n5, c5, B5, m5, e5, rfl⟩ := h5.agg; obtain ⟨r0, r1, r2⟩ := hrr5.cells; obtain ⟨g0, g1, g2⟩ := hrr5.frozen)
      | (have _g := hc3; go_at_call 83; refine (r_Two_p p _ hp T HT).mono ?_; rintro e' w4 ⟨v4, rfl, h4, hb4⟩; have hc4 := hc3.trans (hb4.mono hc3.size); have hsx := (hrx.below hc4 hgx).cells; have h3 := h3.below hb4)
      | (have _g := hc2; go_at_call 82; refine (r_floor _ (x * T) _ (h2.inr sM (by decide)) (sM.mono (by decide))).mono ?_; rintro e' w3 ⟨v3, rfl, h3, hb3⟩; have hc3 := hc2.trans (hb3.mono hc2.size); have hsx := (hrx.below hc3 hgx).cells)
      | (have _g := hc1; go_at_call 33; refine (r_Mul _ _ x T _ (hI.below hc1) (h1.inr sT (by decide)) (sx.mono (by decide)) (sT.mono (by decide))).mono ?_; rintro e' w2 ⟨v2, rfl, h2, hb2⟩; have hc2 := hc1.trans (hb2.mono hc1.size); have hsx := (hrx.below hc2 hgx).cells)
      | (go_at_call 83; refine (r_Two_p p _ hp T HT).mono ?_; rintro e' w1 ⟨v1, rfl, h1, hb1⟩; have hc1 := hc0.trans (hb1.mono hc0.size); have hsx := (hrx.below hc1 hgx).cells))
  go_wp2_with fail
  refine ret_rc Tryz.results43 rfl (hrr5.set _ _ _) rfl ?_
  rw [HR.out] at h5
  exact ⟨_, rfl, h5.set3 hrr5 _ _ _, below_set3 (hbA.trans (hc5.mono hbA.size)) (by omega) _ _ _⟩

set_option maxRecDepth 20000 in
set_option maxHeartbeats 1000000 in
theorem r_Down_out (v : Value) (x : Rat) (b : Int) (w : World) (h : Inr w v x) (hb : decide (b < 0) = true ∨ (decide (b < 0) = false ∧ decide (256 < b) = true)) : Calls Tryz.prog 43 #[v, .int .i64 b] w (RetRat w 0) := by
  obtain ⟨z0, Z, zn, zc, Z', zm, ze, rfl⟩ := h.agg
  obtain ⟨hbA, hrx, hrr⟩ := blocks2 w (.bool z0) (.slice Z zn zc) (.slice Z' zm ze) (.bool false) (.slice none 0 0) (.slice none 0 0)
  rcases hb with hb | ⟨hb, hb'⟩
  all_goals
    go_enter Tryz.func43, Tryz.ntmps43
    go_wp2_with fail
    refine ret_rc Tryz.results43 rfl hrr rfl ?_
    exact ⟨_, rfl, ratq_zero _, hbA⟩
/-- Down for any number of bits. -/
def dwn (x : Rat) (b : Int) : Rat := if 0 ≤ b ∧ b ≤ 256 then down x b.toNat else 0
def upp (x : Rat) (b : Int) : Rat := if 0 ≤ b ∧ b ≤ 256 then up x b.toNat else 0
theorem upp_neg (x : Rat) (b : Int) : upp x b = - dwn (-x) b := by
  unfold upp dwn up
  split
  · rfl
  · rfl
theorem out_of {b : Int} (h : ¬ (0 ≤ b ∧ b ≤ 256)) : decide (b < 0) = true ∨ (decide (b < 0) = false ∧ decide (256 < b) = true) := by
  by_cases h0 : b < 0
  · exact .inl (decide_eq_true h0)
  · exact .inr ⟨decide_eq_false h0, decide_eq_true (by omega)⟩
theorem r_Down (v : Value) (x : Rat) (b : Int) (w : World) (h : Inr w v x) (sx : Sz x 100000) : Calls Tryz.prog 43 #[v, .int .i64 b] w (RetRat w (dwn x b)) := by
  unfold dwn
  by_cases hb : 0 ≤ b ∧ b ≤ 256
  · rw [if_pos hb]
    have h2 := r_Down_in v x b.toNat w h sx (by omega)
    rwa [Int.toNat_of_nonneg hb.1] at h2
  · rw [if_neg hb]
    exact r_Down_out v x b w h (out_of hb)
theorem Down_b (v : Value) (x r : Rat) (L : Nat) (b : Int) (w : World) (hT : Tab w) (h : Inp w v x L) (sx : Sz x 4000000) (HV : Hid (dwn x b = r)) : Calls Tryz.prog 78 #[v, .int .i64 b] w (RetRat w r) := by
  rw [← HV.out]
  unfold dwn
  by_cases hb : 0 ≤ b ∧ b ≤ 256
  · rw [if_pos hb]
    have h2 := Down_in v x _ L b.toNat w hT h sx (by omega) rfl
    rwa [Int.toNat_of_nonneg hb.1] at h2
  · rw [if_neg hb]
    exact Down_out v x L b w hT h (out_of hb)
theorem dwn_sz {x : Rat} {b : Int} {L M : Nat} (hx : Sz x L) (hM : L + 10 ≤ M) : Sz (dwn x b) M := by
  unfold dwn
  split
  · exact down_sz hx (by omega)
  · exact sz_zero M (by omega)

end Go.Proofs.YtdlmhgijpgnilaaGreatDoor

namespace Go.Proofs.YtdlmhgijpgnilaaGreatDoor
open Go.RowKit

theorem low_two {a : Nat} (h : (limbs a).length ≤ 2) : (limbs a).getD 0 0 + 4294967296 * (limbs a).getD 1 0 = a := by
  conv => rhs; rw [← val_limbs a]
  match h2 : limbs a, h with
  | [], _ => rfl
  | [x], _ => simp [val]
  | [x, y], _ => simp [val]
  | x :: y :: z :: t, hl => simp at hl

set_option maxRecDepth 20000 in
set_option maxHeartbeats 1000000 in
theorem r_Whole (v : Value) (q : Rat) (V : Int) (O : Bool) (w : World) (h : Inr w v q) (HV : Hid (wholeOf q = V ∧ wholeOk q = O)) :
    Calls Tryz.prog 45 #[v] w (RetV w (.tuple #[.int .i64 V, .bool O])) := by
  obtain ⟨z0, Z, zn, zc, Z', zm, ze, rfl⟩ := h.agg
  have hbA : Below w.heap.size w (w.alloc (R1 (.bool z0) (.slice Z zn zc) (.slice Z' zm ze))) := (Below.refl _ _).alloc (Nat.le_refl _) _
  have hrx := Rc.new w (.bool z0) (.slice Z zn zc) (.slice Z' zm ze)
  go_enter Tryz.func45, Tryz.ntmps45
  go_wp2_with fail
  refine (r_Take _ q _ (h.below hbA)).mono ?_
  rintro e w1 ⟨v1, rfl, h1, hb1⟩
  have hrx1 := hrx.below hb1 hrx.lt
  obtain ⟨nb, A, n, c, B, m, e, rfl⟩ := h1.agg
  obtain ⟨k0, k1, k2⟩ := hrx1.cells
  obtain ⟨f0, f1, f2⟩ := hrx1.frozen
  have hb01 := hbA.trans (hb1.mono hbA.size)
  have hrx2 := hrx1.set (.bool nb) (.slice A n c) (.slice B m e)
  obtain ⟨p1, p2, p3⟩ := (h1.set3 hrx1 (.bool nb) (.slice A n c) (.slice B m e)).parts
  have hb02 := below_set3 hb01 (Nat.le_refl _) (.bool nb) (.slice A n c) (.slice B m e)
  obtain ⟨hnn, hfail, hgood, hpos⟩ := whole_plain q nb n m p1 (dl_zero p3 q.den_nz) p2.len
  rw [HV.out.1, HV.out.2] at hfail hgood
  have HF := Lib.hid hfail
  have HG := Lib.hid hgood
  have HN := Lib.hid hnn
  have HP := Lib.hid hpos
  clear hfail hgood hnn hpos p1 p3
  by_cases h0 : m = 0
  · subst h0
    have HG1 := Lib.hid (HG.out rfl)
    by_cases h2 : 2 < n
    · have HF1 := Lib.hid (HF.out (.inr (.inl h2)))
      go_wp2_with fail
      go_ret2
      rw [HF1.out.1, HF1.out.2]
      exact ⟨rfl, hb02⟩
    · have hlt := HN.out h2
      have h2l := low_two (a := q.num.natAbs) (by rw [← p2.len]; omega)
      generalize hsz : q.num.natAbs = a at *
      have HA := Lib.hid hlt
      obtain ⟨x, hx⟩ : ∃ x, (limbs a).getD 0 0 = x := ⟨_, rfl⟩
      obtain ⟨y, hy⟩ : ∃ y, (limbs a).getD 1 0 = y := ⟨_, rfl⟩
      have hx4 : x < 4294967296 := by rw [← hx]; exact p2.lim.getD _
      have hy4 : y < 4294967296 := by rw [← hy]; exact p2.lim.getD _
      rw [hx, hy] at h2l
      have HX := Lib.hid (show (limbs a).getD (0 : Int).toNat 0 = x from hx)
      have HY := Lib.hid (show (limbs a).getD (1 : Int).toNat 0 = y from hy)
      have HXY := Lib.hid h2l
      have hor : bits .or .u64 (x : Int) (IntKind.u64.wrap ((y : Int) * 4294967296)) = (a : Int) := by
        have hyw : IntKind.u64.wrap ((y : Int) * 4294967296) = (y : Int) * 4294967296 := by rw [IntKind.wrap_u64]; omega
        rw [hyw, show (y : Int) * 4294967296 = ((y * 4294967296 : Nat) : Int) from by omega, u64_or_nat _ _ (by omega) (by omega), Nat.or_comm, nat_join 32 (y * 4294967296) x (by omega) (by omega)]
        omega
      clear hlt hsz hx hy h2l
      go_wp2_with fail
      generalize (((w1.setCell ⟨w.heap.size, 0, none⟩ (.bool nb)).setCell ⟨w.heap.size, 1, none⟩ (.slice A n c)).setCell ⟨w.heap.size, 2, none⟩ (.slice B 0 e)) = W2 at *
      replace hrx2 := hrx2.drew
      replace p2 := p2.drew
      replace hb02 := hb02.drew
      clear k0 k1 k2 f0 f1 f2
      obtain ⟨k0, k1, k2⟩ := hrx2.cells
      go_region_with (first
        | (go_at_call 84; (with_reducible refine (r_limb _ _ _ 1 _ _ y p2 (by decide) (by omega) HY).mono ?_); rintro e' w' ⟨rfl, rfl⟩)
        | (go_at_call 84; (with_reducible refine (r_limb _ _ _ 0 _ _ x p2 (by decide) (by omega) HX).mono ?_); rintro e' w' ⟨rfl, rfl⟩))
      all_goals
       clear hor
       cases nb
       · by_cases hc : 9223372036854775808 ≤ a
         · have HF1 := Lib.hid (HF.out (.inr (.inr (.inl ⟨rfl, hc⟩))))
           have hd : decide ((9223372036854775808 : Int) ≤ (a : Int)) = true := by simp; omega
           clear HXY HX HY hx4 hy4 HG HG1 HF HN HP HA hc
           go_wp2_with fail
           go_ret2
           rw [HF1.out.1, HF1.out.2]
           exact ⟨rfl, hb02⟩
         · have HG2 := Lib.hid (HG1.out (.inl ⟨rfl, by omega⟩))
           have hd : decide ((9223372036854775808 : Int) ≤ (a : Int)) = false := by simp; omega
           have hw : IntKind.i64.wrap (a : Int) = (a : Int) := IntWalk.i64_in _ (by omega)
           clear HXY HX HY hx4 hy4 HG HG1 HF HN HP HA hc
           go_wp2_with fail
           go_ret2
           rw [HG2.out.1, HG2.out.2]
           exact ⟨rfl, hb02⟩
       · have hp := HP.out rfl
         rcases Nat.lt_trichotomy a 9223372036854775808 with hc | hc | hc
         · have HG2 := Lib.hid (HG1.out (.inr ⟨rfl, by omega⟩))
           have he : ((a : Int) == 9223372036854775808) = false := by rw [beq_eq_false_iff_ne]; omega
           have hd : decide ((9223372036854775808 : Int) ≤ (a : Int)) = false := by simp; omega
           have hw : IntKind.i64.wrap (a : Int) = (a : Int) := IntWalk.i64_in _ (by omega)
           have hw2 : IntKind.i64.wrap (-(a : Int)) = -(a : Int) := IntWalk.i64_in _ (by omega)
           clear HXY HX HY hx4 hy4 HG HG1 HF HN HP HA hc hp
           go_wp2_with fail
           go_ret2
           rw [HG2.out.1, HG2.out.2]
           exact ⟨rfl, hb02⟩
         · have HG2 := Lib.hid (HG1.out (.inr ⟨rfl, by omega⟩))
           have he : ((a : Int) == 9223372036854775808) = true := by rw [beq_iff_eq]; omega
           have HE : Hid (sgn true a = -9223372036854775808) := by show -(a : Int) = _; omega
           clear HXY HX HY hx4 hy4 HG HG1 HF HN HP HA hc hp
           go_wp2_with fail
           go_ret2
           rw [HG2.out.1, HG2.out.2, HE.out]
           exact ⟨rfl, hb02⟩
         · have HF1 := Lib.hid (HF.out (.inr (.inr (.inr ⟨rfl, hc⟩))))
           have he : ((a : Int) == 9223372036854775808) = false := by rw [beq_eq_false_iff_ne]; omega
           have hd : decide ((9223372036854775808 : Int) ≤ (a : Int)) = true := by simp; omega
           clear HXY HX HY hx4 hy4 HG HG1 HF HN HP HA hc hp
           go_wp2_with fail
           go_ret2
           rw [HF1.out.1, HF1.out.2]
           exact ⟨rfl, hb02⟩
  · have HF1 := Lib.hid (HF.out (.inl h0))
    have hm0 : 0 < m := Nat.pos_of_ne_zero h0
    go_wp2_with fail
    go_ret2
    rw [HF1.out.1, HF1.out.2]
    exact ⟨rfl, hb02⟩
end Go.Proofs.YtdlmhgijpgnilaaGreatDoor
