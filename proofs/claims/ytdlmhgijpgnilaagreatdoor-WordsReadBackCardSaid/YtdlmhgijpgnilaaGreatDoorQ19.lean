/- rounded. -/
import Derived.Test.YtdlmhgijpgnilaaGreatDoorQ18
import Derived.Test.YtdlmhgijpgnilaaGreatDoorQ16
import Derived.Test.YtdlmhgijpgnilaaGreatDoorQ13
import Derived.Deep.RegionHeld3
import Derived.Test.YtdlmhgijpgnilaaGreatDoorQ08
set_option linter.unusedVariables false
set_option linter.unusedSimpArgs false
namespace Go.Proofs.YtdlmhgijpgnilaaGreatDoor
open Go.RowKit

theorem length_two (p : Nat) : (limbs (2 ^ p)).length ≤ p / 32 + 1 := by
  refine limbs_length_le ?_
  have : P (p / 32 + 1) = 2 ^ (32 * (p / 32 + 1)) := by
    unfold P
    rw [show (4294967296 : Nat) = 2 ^ 32 from rfl, ← Nat.pow_mul]
  rw [this]
  exact Nat.pow_lt_pow_right (by decide) (by omega)

theorem Rc.drew {w : World} {g : Nat} {z0 z1 z2 : Value} (h : Rc w g z0 z1 z2) : Rc w.drew g z0 z1 z2 := h
theorem cell_set3 {w : World} {b g k : Nat} {x u0 u1 u2 : Value} (h : b ≠ g) (hc : w.cell? ⟨b, k, none⟩ = some x) : (((w.setCell ⟨g, 0, none⟩ u0).setCell ⟨g, 1, none⟩ u1).setCell ⟨g, 2, none⟩ u2).cell? ⟨b, k, none⟩ = some x := by
  rw [World.cell?_setCell_other _ _ _ _ (fun e => h (by injection e with e1; exact e1.symm)), World.cell?_setCell_other _ _ _ _ (fun e => h (by injection e with e1; exact e1.symm)), World.cell?_setCell_other _ _ _ _ (fun e => h (by injection e with e1; exact e1.symm))]
  exact hc
theorem frac_shift {w0 : World} {neg : Bool} {K s t p : Nat} {q : Rat} (h : K / 2 ^ s = 0 ∧ K = 0 ∨ qv neg (K / 2 ^ s) (2 ^ t) = qv neg K (2 ^ p) ∧ Nat.gcd (K / 2 ^ s) (2 ^ t) = 1) (hq : qv neg K (2 ^ p) = q) {e : Ending} {w' : World} (hr : RetFrac w0 neg (K / 2 ^ s) (2 ^ t) e w') : RetRat w0 q e w' := by
  rcases h with ⟨h1, h2⟩ | ⟨h1, h2⟩
  · rw [h2, qv_zero] at hq
    subst hq
    obtain ⟨v, rfl, hv, hb⟩ := hr
    rw [h1] at hv
    exact ⟨v, rfl, by simpa [RatQ] using hv, hb⟩
  · exact RetFrac.rat (Nat.pos_iff_ne_zero.1 (Nat.pow_pos (by decide))) h2 (h1.trans hq) hr
theorem length_succ (x : Nat) : (limbs (x + 1)).length ≤ (limbs x).length + 1 := by
  refine limbs_length_le ?_
  have := lt_P_length x
  have := P_pos (limbs x).length
  rw [P_succ]; omega

set_option maxRecDepth 20000 in
set_option maxHeartbeats 1000000 in
theorem rounded_any (neg away : Bool) (A A' : Option Addr) (n c m c' a d p : Nat) (q : Rat) (w : World) (hT : Tab w) (hx : Num w (limbs a) A n c) (hy : Num w (dl d) A' m c') (hn : n ≤ 4000000) (hm : m ≤ 4000000) (hd : d ≠ 0) (hp : p ≤ 256)
    (hq : qv neg (steps a d p away) (2 ^ p) = q) :
    Calls Tryz.prog 115 #[.agg #[.bool neg, .slice A n c, .slice A' m c'], .int .i64 (p : Int), .bool away] w (RetRat w q) := by
  have HQ := Lib.hid hq
  have HD := Lib.hid hd
  have hdm : (limbs d).length ≤ m + 1 := by
    have := hy.len
    unfold dl at this
    split at this
    · next h => rw [h, limbs_one]; simp
    · omega
  clear hq hd
  have hbA : Below w.heap.size w ((w.alloc (.cells #[.bool neg, .slice A n c, .slice A' m c'] 25)).alloc (.cells #[.bool false, .slice none 0 0, .slice none 0 0] 25)) := ((Below.refl _ _).alloc (Nat.le_refl _) _).alloc (by simp) _
  have hrx : Rc ((w.alloc (.cells #[.bool neg, .slice A n c, .slice A' m c'] 25)).alloc (.cells #[.bool false, .slice none 0 0, .slice none 0 0] 25)) w.heap.size (.bool neg) (.slice A n c) (.slice A' m c') := (Rc.new w _ _ _).alloc _
  have hrr : Rc ((w.alloc (.cells #[.bool neg, .slice A n c, .slice A' m c'] 25)).alloc (.cells #[.bool false, .slice none 0 0, .slice none 0 0] 25)) (w.heap.size + 1) (.bool false) (.slice none 0 0) (.slice none 0 0) := by
    have := Rc.new (w.alloc (.cells #[.bool neg, .slice A n c, .slice A' m c'] 25)) (.bool false) (.slice none 0 0) (.slice none 0 0)
    rwa [World.size_alloc] at this
  go_enter Tryz.func115, Tryz.ntmps115
  go_wp2_with fail
  generalize ((w.alloc (.cells #[.bool neg, .slice A n c, .slice A' m c'] 25)).alloc (.cells #[.bool false, .slice none 0 0, .slice none 0 0] 25)) = W at *
  have hgx : w.heap.size < W.drew.heap.size := hrx.lt
  have hgr : w.heap.size + 1 < W.drew.heap.size := hrr.lt
  have hTW : Tab W.drew := (hT.below hbA).drew
  have hxW : Num W.drew (limbs a) A n c := (hx.below hbA).drew
  have hyW : Num W.drew (dl d) A' m c' := (hy.below hbA).drew
  have hrx2 : Rc W.drew w.heap.size (.bool neg) (.slice A n c) (.slice A' m c') := hrx
  have hrr2 : Rc W.drew (w.heap.size + 1) (.bool false) (.slice none 0 0) (.slice none 0 0) := hrr
  have hbA2 : Below w.heap.size w W.drew := hbA.drew
  obtain ⟨k0, k1, k2⟩ := hrx2.cells
  go_region_held3 (fun w' => w'.cell? ⟨w.heap.size, 0, none⟩ = some (.bool neg) ∧ w'.cell? ⟨w.heap.size, 1, none⟩ = some (.slice A n c) ∧ w'.cell? ⟨w.heap.size, 2, none⟩ = some (.slice A' m c')) (first | exact hs | exact ⟨k0, k1, k2⟩)
    (first
      | (go_at_call 127; refine (left_any _ _ _ _ a _ hxW (by omega) (by omega)).mono ?_; rintro e w1 ⟨A1, n1, c1, rfl, h1, hb1⟩; have hs := (hrx2.below hb1 hgx).cells)
      | (go_at_call 70; refine (denominator_any _ _ _ _ _ _ _ d _ (hyW.below hb1) HD.out).mono ?_; rintro e w2 ⟨A2, n2, c2, rfl, h2, hb2⟩; have hb12 := hb1.trans (hb2.mono hb1.size); have hs := (hrx2.below hb12 hgx).cells)
      | (go_at_call 130; refine (divide_any _ _ _ _ _ _ (a * 2 ^ p) d _ (h1.num.below hb2) h2 ?_ ?_ HD.out).mono ?_; (have := h1.len; have := length_mul a (2 ^ p); have := length_two p; have := hx.len; omega); (have := h2.len; have := hdm; omega); rintro e w3 ⟨A3, n3, c3, A4, n4, c4, rfl, h3, h4, hb3⟩; have hb13 := hb12.trans (hb3.mono hb12.size); have hs := (hrx2.below hb13 hgx).cells))
  have hT3 : Tab w3 := hTW.below hb13
  have hg3 : w.heap.size < w3.heap.size := Nat.lt_of_lt_of_le hgx hb13.size
  obtain ⟨K, hK⟩ : ∃ K, steps a d p away = K := ⟨_, rfl⟩
  rw [hK] at HQ
  obtain ⟨z, hz⟩ : ∃ z, (K = 0 ∧ z = 0) ∨ IsTz K z := by
    rcases Nat.eq_zero_or_pos K with h | h
    · exact ⟨0, .inl ⟨h, rfl⟩⟩
    · obtain ⟨z, hz⟩ := any_tz h; exact ⟨z, .inr hz⟩
  obtain ⟨s, hs'⟩ : ∃ s, min z p = s := ⟨_, rfl⟩
  have hmin : min (z : Int) (p : Int) = (s : Int) := by omega
  have hsp : s ≤ p := by omega
  have hln3 : n3 ≤ 4000010 := by
    have := length_mono (Nat.div_le_self (a * 2 ^ p) d)
    have := h3.len
    have := length_mul a (2 ^ p); have := length_two p; have := hx.len; omega
  have HSH := Lib.hid (qv_shift (neg := neg) hz hs')
  have HZ := Lib.hid hz
  have HK := Lib.hid hK
  clear hz hs' hK
  have hr0 : n4 = 0 ↔ a * 2 ^ p % d = 0 := by rw [h4.len]; exact limbs_length_zero
  have hstep : away = true → n4 ≠ 0 → limbs K = limbs (a * 2 ^ p / d + 1) := fun h1 h2 => by
    rw [← HK.out]; unfold steps
    have : a * 2 ^ p % d ≠ 0 := fun h => h2 (hr0.2 h)
    rw [h1, Bool.true_and, if_pos (decide_eq_true this)]
  have hstep0 : away = false ∨ n4 = 0 → limbs K = limbs (a * 2 ^ p / d) := fun h => by
    rw [← HK.out]; unfold steps
    rcases h with h | h
    · rw [h]; simp
    · rw [if_neg (by simp [hr0.1 h])]; rfl
  have hps : IntKind.i64.wrap ((p : Int) - (s : Int)) = ((p - s : Nat) : Int) := by
    rw [show ((p - s : Nat) : Int) = (p : Int) - (s : Int) from by omega]
    exact IntWalk.i64_in _ (by omega)
  obtain ⟨t, ht⟩ : ∃ t, p - s = t := ⟨_, rfl⟩
  have htp : t ≤ 256 := by omega
  rw [ht] at hps
  rw [ht] at HSH
  clear ht HK
  have hcase : away = false ∨ (away = true ∧ n4 = 0) ∨ (away = true ∧ n4 ≠ 0) := by cases away <;> simp; omega
  refine hcase.elim (fun hc => ?ca) (fun h => h.elim (fun hc' => ?cb) (fun hc' => ?cc))
  case' ca =>
    have h5 : Num w3 (limbs K) A3 n3 c3 := by rw [hstep0 (.inl hc)]; exact h3.num
    have hb5 := hb13
    have hT5 := hT3
    have hl5 : n3 ≤ 4000020 := by omega
    clear h3 h4 hstep hstep0 hr0
    subst hc
    go_wp2_with fail
  case' cb =>
    obtain ⟨hc, hc4⟩ := hc'
    have h5 : Num w3 (limbs K) A3 n3 c3 := by rw [hstep0 (.inr hc4)]; exact h3.num
    have hb5 := hb13
    have hT5 := hT3
    have hl5 : n3 ≤ 4000020 := by omega
    clear h3 h4 hstep hstep0 hr0
    subst hc hc4
    go_wp2_with fail
  case' cc =>
    obtain ⟨hc, hc4⟩ := hc'
    have hKs := hstep hc hc4
    have hd4 : decide ((0 : Int) < (n4 : Int)) = true := by simp; omega
    have h33 := h3.num
    clear h3 h4 hstep hstep0 hr0
    subst hc
    go_wp2_with fail
    refine (one_any _).mono ?_
    rintro e w4 ⟨A6, n6, c6, rfl, h6, hb4⟩
    obtain rfl : n6 = 1 := h6.len
    go_wp2_with fail
    refine (sum_any _ _ _ _ _ _ (a * 2 ^ p / d) 1 _ (h33.below hb4) (by rw [limbs_one]; exact h6.num) (by omega) (by omega)).mono ?_
    rintro e w5 ⟨A5, n5, c5, rfl, h55, hb45⟩
    have h5 : Num w5 (limbs K) A5 n5 c5 := by rw [hKs]; exact h55.num
    have hb34 := hb13.trans (hb4.mono hb13.size)
    have hb5 := hb34.trans (hb45.mono hb34.size)
    have hT5 := hTW.below hb5
    have hl5 : n5 ≤ 4000020 := by
      rw [h55.len]
      have := length_succ (a * 2 ^ p / d)
      have := h33.len
      omega
    go_wp2_with fail
  all_goals
    refine (zeros_any _ _ _ K z _ hT5 h5 (by omega) HZ).mono ?_
    rintro e w' ⟨rfl, rfl⟩
    go_wp2_with fail
    have hrx3 := (hrx2.below hb5 hgx).drew
    have hrr3 := (hrr2.below hb5 hgr).drew
    obtain ⟨k0, k1, k2⟩ := hrx3.cells
    have hgx5 := hrx3.lt
    have hgr5 := hrr3.lt
    go_region_held3 (fun w' => w'.cell? ⟨w.heap.size, 0, none⟩ = some (.bool neg)) (first | exact hs.1 | exact k0 | exact cell_set3 (Nat.ne_of_lt (Nat.lt_succ_self _)) hs.1)
      (first
        | (go_at_call 129; refine (right_any _ _ _ s K _ h5.drew (by omega) (by omega)).mono ?_; rintro e w6 ⟨A6, n6, c6, rfl, h6, hb6⟩; have hs := (hrx3.below hb6 hgx5).cells)
        | (go_at_call 109; refine (one_any _).mono ?_; rintro e w7 ⟨A7, n7, c7, rfl, h7, hb7⟩; have hb67 := hb6.trans (hb7.mono hb6.size); have hs := (hrx3.below hb67 hgx5).cells)
        | (go_at_call 127; refine (left_any _ _ _ t 1 _ (by rw [limbs_one]; exact h7.num) (by have := h7.len; simp only [List.length_cons, List.length_nil] at this; omega) (by omega)).mono ?_; rintro e w8 ⟨A8, n8, c8, rfl, h8, hb8⟩; have hb68 := hb67.trans (hb8.mono hb67.size); have hs := (hrx3.below hb68 hgx5).cells)
        | (go_at_call 104; refine (fraction_any neg _ _ _ _ _ _ (K / 2 ^ s) (2 ^ t) _ _ (h6.num.below (hb7.trans (hb8.mono hb7.size))) h8.num ?_ ?_ (.inl (by rw [Nat.one_mul]))).mono ?_; (have := length_mono (Nat.div_le_self K (2 ^ s)); have := h6.len; have := h5.len; omega); (have := length_two t; have h9 := h8.len; rw [Nat.one_mul] at h9; omega); rintro e w9 hr; obtain ⟨v, rfl, ⟨A9, n9, c9, B9, m9, e9, rfl, g1, g2⟩, hb9⟩ := frac_shift HSH.out HQ.out hr; have hb69 := hb68.trans (hb9.mono hb68.size); have hs := (hrx3.below hb69 hgx5).cells; have hrr9 := hrr3.below hb69 hgr5; obtain ⟨nb, hnb⟩ : ∃ nb, (decide (q.num < 0)) = nb := ⟨_, rfl⟩; rw [hnb]; have HNB := Lib.hid hnb; clear hnb; have hne1 := g1.ne_rc hrr9; have hne2 := g2.ne_rc hrr9; obtain ⟨r0, r1, r2⟩ := hrr9.cells; obtain ⟨f0, f1, f2⟩ := hrr9.frozen))
    go_wp2_with fail
    have hb05 := (hbA2.trans (hb5.mono hbA2.size)).drew
    have hb09 := hb05.trans (hb69.mono hb05.size)
    refine ret_rc Tryz.results115 rfl (hrr9.set _ _ _) rfl ?_
    exact ⟨_, rfl, ⟨A9, n9, c9, B9, m9, e9, by rw [HNB.out], g1.set3 hne1 _ _ _, g2.set3 hne2 _ _ _⟩, below_set3 hb09 (Nat.le_succ _) _ _ _⟩

set_option maxRecDepth 20000 in
set_option maxHeartbeats 1000000 in
theorem rounded_out (v x : Value) (p : Int) (w : World) (hv : ∃ z0 z1 z2, v = .agg #[z0, z1, z2]) (hp : decide (p < 0) = true ∨ (decide (p < 0) = false ∧ decide (256 < p) = true)) :
    Calls Tryz.prog 115 #[v, .int .i64 p, x] w (RetRat w 0) := by
  obtain ⟨z0, z1, z2, rfl⟩ := hv
  have hbA : Below w.heap.size w ((w.alloc (.cells #[z0, z1, z2] 25)).alloc (.cells #[.bool false, .slice none 0 0, .slice none 0 0] 25)) := ((Below.refl _ _).alloc (Nat.le_refl _) _).alloc (by simp) _
  have hrr : Rc ((w.alloc (.cells #[z0, z1, z2] 25)).alloc (.cells #[.bool false, .slice none 0 0, .slice none 0 0] 25)) (w.heap.size + 1) (.bool false) (.slice none 0 0) (.slice none 0 0) := by
    have := Rc.new (w.alloc (.cells #[z0, z1, z2] 25)) (.bool false) (.slice none 0 0) (.slice none 0 0)
    rwa [World.size_alloc] at this
  rcases hp with hp | ⟨hp, hp'⟩
  all_goals
    go_enter Tryz.func115, Tryz.ntmps115
    go_wp2_with fail
    refine ret_rc Tryz.results115 rfl hrr rfl ?_
    exact ⟨_, rfl, ⟨none, 0, 0, none, 0, 0, rfl, by rw [show (0 : Rat).num.natAbs = 0 from rfl, limbs_zero]; exact Num.nil _ _ _, by rw [show (0 : Rat).den = 1 from rfl, dl_one]; exact Num.nil _ _ _⟩, hbA⟩
end Go.Proofs.YtdlmhgijpgnilaaGreatDoor

namespace Go.Proofs.YtdlmhgijpgnilaaGreatDoor
open Go.RowKit

theorem dl_zero {w : World} {A : Option Addr} {m c d : Nat} (h : Num w (dl d) A m c) (hd : d ≠ 0) : m = 0 ↔ d = 1 := by
  rw [h.len]
  unfold dl
  split
  · next e => simp [e]
  · next e => exact ⟨fun h => absurd (limbs_length_zero.1 h) hd, fun h => absurd h e⟩

theorem length_add (a b : Nat) : (limbs (a + b)).length ≤ (limbs a).length + (limbs b).length + 1 := by
  refine limbs_length_le ?_
  have h1 := lt_P_length a
  have h2 := lt_P_length b
  have h3 := P_le (Nat.le_add_right (limbs a).length (limbs b).length)
  have h4 := P_le (Nat.le_add_left (limbs b).length (limbs a).length)
  have := P_pos ((limbs a).length + (limbs b).length)
  rw [P_succ]; omega
theorem length_sgn {z x y : Bool} {t a b : Nat} (h : sgn z t = sgn x a + sgn y b) : (limbs t).length ≤ (limbs a).length + (limbs b).length + 1 := by
  refine Nat.le_trans (length_mono ?_) (length_add a b)
  unfold sgn at h
  cases x <;> cases y <;> cases z <;> simp at h <;> omega

set_option maxRecDepth 20000 in
set_option maxHeartbeats 1000000 in
theorem add_whole (nx ny : Bool) (A A' B B' : Option Addr) (n c c' m f f' a b : Nat) (q : Rat) (w : World) (hx : Num w (limbs a) A n c) (hy : Num w (limbs b) B m f) (hn : n ≤ 4000000) (hm : m ≤ 4000000) (hq : qv nx a 1 + qv ny b 1 = q) :
    Calls Tryz.prog 67 #[.agg #[.bool nx, .slice A n c, .slice A' 0 c'], .agg #[.bool ny, .slice B m f, .slice B' 0 f']] w (RetRat w q) := by
  have hbA : Below w.heap.size w (((w.alloc (.cells #[.bool nx, .slice A n c, .slice A' 0 c'] 25)).alloc (.cells #[.bool ny, .slice B m f, .slice B' 0 f'] 25)).alloc (.cells #[.bool false, .slice none 0 0, .slice none 0 0] 25)) := (((Below.refl _ _).alloc (Nat.le_refl _) _).alloc (by simp) _).alloc (by simp; omega) _
  have hrr : Rc (((w.alloc (.cells #[.bool nx, .slice A n c, .slice A' 0 c'] 25)).alloc (.cells #[.bool ny, .slice B m f, .slice B' 0 f'] 25)).alloc (.cells #[.bool false, .slice none 0 0, .slice none 0 0] 25)) (w.heap.size + 1 + 1) (.bool false) (.slice none 0 0) (.slice none 0 0) := by
    have := Rc.new ((w.alloc (.cells #[.bool nx, .slice A n c, .slice A' 0 c'] 25)).alloc (.cells #[.bool ny, .slice B m f, .slice B' 0 f'] 25)) (.bool false) (.slice none 0 0) (.slice none 0 0)
    rwa [World.size_alloc, World.size_alloc] at this
  have hxW := hx.below hbA
  have hyW := hy.below hbA
  go_enter Tryz.func67, Tryz.ntmps67
  go_wp2_with fail
  generalize (((w.alloc (.cells #[.bool nx, .slice A n c, .slice A' 0 c'] 25)).alloc (.cells #[.bool ny, .slice B m f, .slice B' 0 f'] 25)).alloc (.cells #[.bool false, .slice none 0 0, .slice none 0 0] 25)) = W at *
  have hgr := hrr.lt
  refine (balanced_any nx ny _ _ _ _ _ _ a b _ hxW hyW (by omega) (by omega)).mono ?_
  rintro e w1 ⟨z, t, A1, n1, c1, rfl, hV, h1, hb1⟩
  have hn1 : n1 ≤ 8000001 := by
    have := length_sgn (z := z) hV
    have := h1.len; have := hx.len; have := hy.len
    omega
  have HQ : Hid (qv z t 1 = q) := by
    show _ = _
    rw [← hq]
    have := qv_add (x := nx) (y := ny) (a := a) (c := b) (b := 1) (d := 1) (g := 1) (z := z) (t := t) (by decide) (by decide) (Nat.gcd_one_right _) (Nat.gcd_one_right _) rfl (by simpa [sgn] using hV)
    simpa using this.1
  clear hq hV
  go_wp2_with fail
  refine (fraction_any z _ _ _ _ _ _ t 1 [] _ h1 (Num.nil _ _ _) (by omega) (by omega) (.inr ⟨rfl, rfl⟩)).mono ?_
  rintro e w2 hr
  obtain ⟨v, rfl, ⟨A9, n9, c9, B9, m9, e9, rfl, g1, g2⟩, hb2⟩ := RetFrac.rat (by decide) (Nat.gcd_one_right _) HQ.out hr
  have hb12 := hb1.trans (hb2.mono hb1.size)
  have hrr9 := hrr.below hb12 hgr
  obtain ⟨nb, hnb⟩ : ∃ nb, (decide (q.num < 0)) = nb := ⟨_, rfl⟩
  rw [hnb]
  have HNB := Lib.hid hnb; clear hnb
  have hne1 := g1.ne_rc hrr9
  have hne2 := g2.ne_rc hrr9
  obtain ⟨r0, r1, r2⟩ := hrr9.cells
  obtain ⟨f0, f1, f2⟩ := hrr9.frozen
  go_wp2_with fail
  refine ret_rc Tryz.results67 rfl (hrr9.set _ _ _) rfl ?_
  exact ⟨_, rfl, ⟨A9, n9, c9, B9, m9, e9, by rw [HNB.out], g1.set3 hne1 _ _ _, g2.set3 hne2 _ _ _⟩, below_set3 (hbA.trans (hb12.mono hbA.size)) (by omega) _ _ _⟩

theorem dl_len {w : World} {A : Option Addr} {m c d : Nat} (h : Num w (dl d) A m c) : (limbs d).length ≤ m + 1 := by
  have := h.len
  unfold dl at this
  split at this
  · next h => rw [h, limbs_one]; simp
  · omega

set_option maxRecDepth 20000 in
set_option maxHeartbeats 2000000 in
theorem add_parts (nx ny : Bool) (A A' B B' : Option Addr) (n c n' c' m f m' f' a b g d : Nat) (q : Rat) (w : World) (hT : Tab w) (hx : Num w (limbs a) A n c) (hx' : Num w (dl b) A' n' c') (hy : Num w (limbs g) B m f) (hy' : Num w (dl d) B' m' f')
    (hn : n ≤ 1000000) (hn' : n' ≤ 1000000) (hm : m ≤ 1000000) (hm' : m' ≤ 1000000) (hb : b ≠ 0) (hd : d ≠ 0) (hg1 : Nat.gcd a b = 1) (hg2 : Nat.gcd g d = 1) (hne : ¬ (n' = 0 ∧ m' = 0)) (hq : qv nx a b + qv ny g d = q) :
    Calls Tryz.prog 67 #[.agg #[.bool nx, .slice A n c, .slice A' n' c'], .agg #[.bool ny, .slice B m f, .slice B' m' f']] w (RetRat w q) := by
  have hbA : Below w.heap.size w (((w.alloc (.cells #[.bool nx, .slice A n c, .slice A' n' c'] 25)).alloc (.cells #[.bool ny, .slice B m f, .slice B' m' f'] 25)).alloc (.cells #[.bool false, .slice none 0 0, .slice none 0 0] 25)) := (((Below.refl _ _).alloc (Nat.le_refl _) _).alloc (by simp) _).alloc (by simp; omega) _
  have hrr : Rc (((w.alloc (.cells #[.bool nx, .slice A n c, .slice A' n' c'] 25)).alloc (.cells #[.bool ny, .slice B m f, .slice B' m' f'] 25)).alloc (.cells #[.bool false, .slice none 0 0, .slice none 0 0] 25)) (w.heap.size + 1 + 1) (.bool false) (.slice none 0 0) (.slice none 0 0) := by
    have := Rc.new ((w.alloc (.cells #[.bool nx, .slice A n c, .slice A' n' c'] 25)).alloc (.cells #[.bool ny, .slice B m f, .slice B' m' f'] 25)) (.bool false) (.slice none 0 0) (.slice none 0 0)
    rwa [World.size_alloc, World.size_alloc] at this
  have hrx : Rc (((w.alloc (.cells #[.bool nx, .slice A n c, .slice A' n' c'] 25)).alloc (.cells #[.bool ny, .slice B m f, .slice B' m' f'] 25)).alloc (.cells #[.bool false, .slice none 0 0, .slice none 0 0] 25)) w.heap.size (.bool nx) (.slice A n c) (.slice A' n' c') := ((Rc.new w _ _ _).alloc _).alloc _
  have hry : Rc (((w.alloc (.cells #[.bool nx, .slice A n c, .slice A' n' c'] 25)).alloc (.cells #[.bool ny, .slice B m f, .slice B' m' f'] 25)).alloc (.cells #[.bool false, .slice none 0 0, .slice none 0 0] 25)) (w.heap.size + 1) (.bool ny) (.slice B m f) (.slice B' m' f') := by
    have := (Rc.new (w.alloc (.cells #[.bool nx, .slice A n c, .slice A' n' c'] 25)) (.bool ny) (.slice B m f) (.slice B' m' f')).alloc (.cells #[.bool false, .slice none 0 0, .slice none 0 0] 25)
    rwa [World.size_alloc] at this
  have hTW := hT.below hbA
  have hxW := hx.below hbA
  have hyW := hy.below hbA
  have hxW' := hx'.below hbA
  have hyW' := hy'.below hbA
  have hcase : (n' ≠ 0) ∨ (n' = 0 ∧ m' ≠ 0) := by omega
  have HB := Lib.hid hb
  have HD := Lib.hid hd
  have HQ := Lib.hid hq
  have HG1 := Lib.hid hg1
  have HG2 := Lib.hid hg2
  clear hne hb hd hq hg1 hg2
  refine Or.elim hcase (fun hc => ?ca) (fun hc' => ?cb)
  all_goals clear hcase
  case' ca =>
    have hd1 : ((n' : Int) == 0) = false := by simp; omega
    clear hc
    go_enter Tryz.func67, Tryz.ntmps67
    go_wp2_with fail
    generalize (((w.alloc (.cells #[.bool nx, .slice A n c, .slice A' n' c'] 25)).alloc (.cells #[.bool ny, .slice B m f, .slice B' m' f'] 25)).alloc (.cells #[.bool false, .slice none 0 0, .slice none 0 0] 25)) = W at *
  case' cb =>
    have hd1 : ((n' : Int) == 0) = true := by simp; omega
    have hd2 : ((m' : Int) == 0) = false := by simp; omega
    clear hc'
    go_enter Tryz.func67, Tryz.ntmps67
    go_wp2_with fail
    generalize (((w.alloc (.cells #[.bool nx, .slice A n c, .slice A' n' c'] 25)).alloc (.cells #[.bool ny, .slice B m f, .slice B' m' f'] 25)).alloc (.cells #[.bool false, .slice none 0 0, .slice none 0 0] 25)) = W at *
  all_goals
    have hgx : w.heap.size < W.drew.heap.size := hrx.lt
    have hgy : w.heap.size + 1 < W.drew.heap.size := hry.lt
    have hgr : w.heap.size + 1 + 1 < W.drew.heap.size := hrr.lt
    replace hrx := hrx.drew
    replace hry := hry.drew
    replace hrr := hrr.drew
    replace hTW := hTW.drew
    replace hxW := hxW.drew
    replace hyW := hyW.drew
    replace hxW' := hxW'.drew
    replace hyW' := hyW'.drew
    replace hbA := hbA.drew
    have hsx := hrx.cells
    have hsy := hry.cells
    go_region_held3 (fun w' => (w'.cell? ⟨w.heap.size, 0, none⟩ = some (.bool nx) ∧ w'.cell? ⟨w.heap.size, 1, none⟩ = some (.slice A n c) ∧ w'.cell? ⟨w.heap.size, 2, none⟩ = some (.slice A' n' c')) ∧ (w'.cell? ⟨w.heap.size + 1, 0, none⟩ = some (.bool ny) ∧ w'.cell? ⟨w.heap.size + 1, 1, none⟩ = some (.slice B m f) ∧ w'.cell? ⟨w.heap.size + 1, 2, none⟩ = some (.slice B' m' f')))
      (exact ⟨hsx, hsy⟩)
      (first
        | (have _g := hb1; go_at_call 70; refine (denominator_any ny B B' m f m' f' d _ (hyW'.below hb1) HD.out).mono ?_; rintro e w2 ⟨A2, n2, c2, rfl, h2, hb2⟩; have hb12 := hb1.trans (hb2.mono hb1.size); have hsx := (hrx.below hb12 hgx).cells; have hsy := (hry.below hb12 hgy).cells)
        | (go_at_call 70; refine (denominator_any nx A A' n c n' c' b _ hxW' HB.out).mono ?_; rintro e w1 ⟨A1, n1, c1, rfl, h1, hb1⟩; have hsx := (hrx.below hb1 hgx).cells; have hsy := (hry.below hb1 hgy).cells))
    have hl1 : n1 ≤ 1000001 := by have := dl_len hx'; have := h1.len; omega
    have hl2 : n2 ≤ 1000001 := by have := dl_len hy'; have := h2.len; omega
    go_wp2_with fail
    refine (divisor_any _ _ _ _ _ _ b d _ (hTW.below hb12) (h1.below hb2) h2 (by omega) (by omega)).mono ?_
    rintro e w3 ⟨A3, n3, c3, rfl, h3, hb3⟩
    have hb13 := hb12.trans (hb3.mono hb12.size)
    have hl3 : n3 ≤ 1000001 := by
      have := length_mono (Nat.le_of_dvd (Nat.pos_of_ne_zero HD.out) (Nat.gcd_dvd_right b d)); have := h3.len; have := h2.len; omega
    obtain ⟨G, hG⟩ : ∃ G, Nat.gcd b d = G := ⟨_, rfl⟩
    have HG0 : Hid (G ≠ 0) := by
      show _ ≠ _
      rw [← hG]; exact fun h => HD.out (Nat.eq_zero_of_gcd_eq_zero_right h)
    rw [hG] at h3
    have HG := Lib.hid hG; clear hG
    go_wp2_with fail
    refine (part_any _ _ _ _ _ _ b G _ (h1.below (hb2.trans (hb3.mono hb2.size))) h3.num (by omega) (by omega) HG0.out).mono ?_
    rintro e w4 ⟨A4, n4, c4, rfl, h4, hb4⟩
    have hb14 := hb13.trans (hb4.mono hb13.size)
    go_wp2_with fail
    refine (part_any _ _ _ _ _ _ d G _ (h2.below (hb3.trans (hb4.mono hb3.size))) (h3.num.below hb4) (by omega) (by omega) HG0.out).mono ?_
    rintro e w5 ⟨A5, n5, c5, rfl, h5, hb5⟩
    have hb15 := hb14.trans (hb5.mono hb14.size)
    have hl4 : n4 ≤ 1000001 := by have := length_mono (Nat.div_le_self b G); have := h4.len; have := h1.len; omega
    have hl5 : n5 ≤ 1000001 := by have := length_mono (Nat.div_le_self d G); have := h5.len; have := h2.len; omega
    obtain ⟨b', hb'⟩ : ∃ x, b / G = x := ⟨_, rfl⟩
    obtain ⟨d', hd'⟩ : ∃ x, d / G = x := ⟨_, rfl⟩
    rw [hb'] at h4
    rw [hd'] at h5
    have HB' := Lib.hid hb'; clear hb'
    have HD' := Lib.hid hd'; clear hd'
    have hb15d := hb15.drew
    have hsx := (hrx.below hb15d hgx).cells
    have hsy := (hry.below hb15d hgy).cells
    have h3d := (h3.num.below (hb4.trans (hb5.mono hb4.size))).drew
    have h4d := (h4.below hb5).drew
    have h5d := h5.drew
    go_wp2_with fail
    go_region_held3 (fun w' => (w'.cell? ⟨w.heap.size, 0, none⟩ = some (.bool nx) ∧ w'.cell? ⟨w.heap.size, 1, none⟩ = some (.slice A n c) ∧ w'.cell? ⟨w.heap.size, 2, none⟩ = some (.slice A' n' c')) ∧ (w'.cell? ⟨w.heap.size + 1, 0, none⟩ = some (.bool ny) ∧ w'.cell? ⟨w.heap.size + 1, 1, none⟩ = some (.slice B m f) ∧ w'.cell? ⟨w.heap.size + 1, 2, none⟩ = some (.slice B' m' f')))
      (exact ⟨hsx, hsy⟩)
      (first
        | (go_at_call 103; refine (balanced_any nx ny _ _ _ _ _ _ (a * d') (g * b') _ (h6.num.below hb7) h7.num ?_ ?_).mono ?_; (have := length_mul a d'; have := h6.len; have := hx.len; have := h5.len; omega); (have := length_mul g b'; have := h7.len; have := hy.len; have := h4.len; omega); rintro e w8 ⟨z, t, A8, n8, c8, rfl, hV, h8, hb8⟩; have hb18 := hb17.trans (hb8.mono hb17.size); have hsx := (hrx.below hb18 hgx).cells; have hsy := (hry.below hb18 hgy).cells)
        | (have _g := hb6; go_at_call 107; refine (product_any _ _ _ _ _ _ g b' _ ((hyW.below hb15d).below hb6) (h4d.below hb6) (by omega) (by omega)).mono ?_; rintro e w7 ⟨A7, n7, c7, rfl, h7, hb7⟩; have hb17 := hb16.trans (hb7.mono hb16.size); have hsx := (hrx.below hb17 hgx).cells; have hsy := (hry.below hb17 hgy).cells)
        | (go_at_call 107; refine (product_any _ _ _ _ _ _ a d' _ (hxW.below hb15d) h5d (by omega) (by omega)).mono ?_; rintro e w6 ⟨A6, n6, c6, rfl, h6, hb6⟩; have hb16 := hb15d.trans (hb6.mono hb15d.size); have hsx := (hrx.below hb16 hgx).cells; have hsy := (hry.below hb16 hgy).cells))
    have hl8 : n8 ≤ 4000005 := by
      have := length_sgn (z := z) hV
      have := length_mul a d'; have := length_mul g b'
      have := h8.len; have := hx.len; have := hy.len; have := h4.len; have := h5.len
      omega
    have HS : Hid (qv z (t / Nat.gcd t G) (b' * d' * (G / Nat.gcd t G)) = q ∧ b' * d' * (G / Nat.gcd t G) ≠ 0 ∧ Nat.gcd (t / Nat.gcd t G) (b' * d' * (G / Nat.gcd t G)) = 1) := by
      have := qv_add (x := nx) (y := ny) (t := t) (z := z) HB.out HD.out HG1.out HG2.out HG.out (by rw [HB'.out, HD'.out]; exact hV)
      rw [HB'.out, HD'.out, HQ.out] at this
      exact this
    clear hV
    have hb78 := (hb6.trans (hb7.mono hb6.size)).trans (hb8.mono (hb6.trans (hb7.mono hb6.size)).size)
    go_wp2_with fail
    refine (cancel_any _ _ _ _ _ _ t G _ (hTW.below hb18) h8 (h3d.below hb78) (by omega) (by omega) (fun h => HG0.out h.2)).mono ?_
    rintro e w9 ⟨A9, n9, c9, A10, n10, c10, rfl, h9, h10, hb9⟩
    have hb19 := hb18.trans (hb9.mono hb18.size)
    have hl9 : n9 ≤ 4000005 := by have := length_mono (Nat.div_le_self t (Nat.gcd t G)); have := h9.len; have := h8.len; omega
    have hl10 : n10 ≤ 1000001 := by have := length_mono (Nat.div_le_self G (Nat.gcd t G)); have := h10.len; have := h3.num.len; omega
    obtain ⟨t', ht'⟩ : ∃ x, t / Nat.gcd t G = x := ⟨_, rfl⟩
    obtain ⟨G', hG'⟩ : ∃ x, G / Nat.gcd t G = x := ⟨_, rfl⟩
    rw [ht'] at h9
    rw [hG'] at h10
    simp only [ht', hG'] at HS
    clear ht' hG'
    go_wp2_with fail
    refine (product_any _ _ _ _ _ _ b' d' _ (h4d.below (hb78.trans (hb9.mono hb78.size))) (h5d.below (hb78.trans (hb9.mono hb78.size))) (by omega) (by omega)).mono ?_
    rintro e w10 ⟨A11, n11, c11, rfl, h11, hb10⟩
    have hb110 := hb19.trans (hb10.mono hb19.size)
    have hl11 : n11 ≤ 2000002 := by have := length_mul b' d'; have := h11.len; have := h4.len; have := h5.len; omega
    go_wp2_with fail
    refine (product_any _ _ _ _ _ _ (b' * d') G' _ h11.num (h10.below hb10) (by omega) (by omega)).mono ?_
    rintro e w11 ⟨A12, n12, c12, rfl, h12, hb11⟩
    have hb111 := hb110.trans (hb11.mono hb110.size)
    have hl12 : n12 ≤ 3000003 := by have := length_mul (b' * d') G'; have := h12.len; have := h11.len; have := h10.len; omega
    go_wp2_with fail
    refine (fraction_any z _ _ _ _ _ _ t' (b' * d' * G') _ _ (h9.below (hb10.trans (hb11.mono hb10.size))) h12.num (by omega) (by omega) (.inl rfl)).mono ?_
    rintro e w12 hr
    obtain ⟨v, rfl, ⟨A13, n13, c13, A14, n14, c14, rfl, g1, g2⟩, hb12'⟩ := RetFrac.rat HS.out.2.1 HS.out.2.2 HS.out.1 hr
    have hb112 := hb111.trans (hb12'.mono hb111.size)
    have hrr9 := hrr.below hb112 hgr
    obtain ⟨nb, hnb⟩ : ∃ nb, (decide (q.num < 0)) = nb := ⟨_, rfl⟩
    rw [hnb]
    have HNB := Lib.hid hnb; clear hnb
    have hne1 := g1.ne_rc hrr9
    have hne2 := g2.ne_rc hrr9
    obtain ⟨r0, r1, r2⟩ := hrr9.cells
    obtain ⟨f0, f1, f2⟩ := hrr9.frozen
    go_wp2_with fail
    refine ret_rc Tryz.results67 rfl (hrr9.set _ _ _) rfl ?_
    exact ⟨_, rfl, ⟨A13, n13, c13, A14, n14, c14, by rw [HNB.out], g1.set3 hne1 _ _ _, g2.set3 hne2 _ _ _⟩, below_set3 (hbA.trans (hb112.mono hbA.size)) (by omega) _ _ _⟩
end Go.Proofs.YtdlmhgijpgnilaaGreatDoor

namespace Go.Proofs.YtdlmhgijpgnilaaGreatDoor
open Go.RowKit

/-- The denominator of limbs: 1 for none. -/
def dv (ld : List Nat) : Nat := if ld = [] then 1 else val ld
/-- The number that three fields stand for: 0 if they are not Valid. -/
def fq (neg : Bool) (ln ld : List Nat) : Rat := if vld neg ln ld then qv neg (val ln) (dv ld) else 0
theorem vld_true {neg : Bool} {ln ld : List Nat} (hl : Lim ln) (hl' : Lim ld) (h : vld neg ln ld = true) :
    ln = limbs (val ln) ∧ ld = dl (dv ld) ∧ dv ld ≠ 0 ∧ Nat.gcd (val ln) (dv ld) = 1 ∧ (neg && decide (val ln ≠ 0)) = neg := by
  unfold vld at h
  split at h
  · cases h
  · next hp =>
    split at h
    · cases h
    · next hp' =>
      split at h
      · cases h
      · next h1 =>
        have e1 := canon_of_pad hl (by simpa using hp)
        have e2 := canon_of_pad hl' (by simpa using hp')
        have hden : ld = dl (dv ld) ∧ dv ld ≠ 0 := by
          unfold dv
          by_cases hn : ld = []
          · rw [if_pos hn, hn]; exact ⟨rfl, by decide⟩
          · rw [if_neg hn]
            have hne : val ld ≠ 0 := fun h0 => hn (by rw [e2, h0, limbs_zero])
            have hne1 : val ld ≠ 1 := fun h0 => h1 (by rw [e2, h0, limbs_one])
            exact ⟨by rw [dl_ne hne1]; exact e2, hne⟩
        refine ⟨e1, hden.1, hden.2, ?_⟩
        split at h
        · next hn =>
          simp only [Bool.and_eq_true, decide_eq_true_eq, Bool.not_eq_true'] at h
          have hv : val ln = 0 := by rw [hn]; rfl
          have hd : dv ld = 1 := by unfold dv; rw [if_pos h.1]
          rw [hv, hd, h.2]
          exact ⟨rfl, rfl⟩
        · next hn =>
          have hv : val ln ≠ 0 := fun h0 => hn (by rw [e1, h0, limbs_zero])
          refine ⟨?_, by simp [hv]⟩
          simp only [Bool.or_eq_true, decide_eq_true_eq, beq_iff_eq] at h
          unfold dv
          rcases h with h | h
          · rw [if_pos h, Nat.gcd_one_right]
          · split
            · rw [Nat.gcd_one_right]
            · exact h
theorem ratq_zero (w : World) : RatQ w (.agg #[.bool false, .slice none 0 0, .slice none 0 0]) 0 :=
  ⟨none, 0, 0, none, 0, 0, rfl, by rw [show (0 : Rat).num.natAbs = 0 from rfl, limbs_zero]; exact Num.nil _ _ _, by rw [show (0 : Rat).den = 1 from rfl, dl_one]; exact Num.nil _ _ _⟩
theorem ratq_of {w : World} {neg : Bool} {A A' : Option Addr} {n c m c' : Nat} {ln ld : List Nat} (h : vld neg ln ld = true) (hx : Num w ln A n c) (hy : Num w ld A' m c') : RatQ w (.agg #[.bool neg, .slice A n c, .slice A' m c']) (fq neg ln ld) := by
  obtain ⟨e1, e2, e3, e4, e5⟩ := vld_true hx.lim hy.lim h
  unfold fq
  rw [if_pos h]
  unfold RatQ
  rw [(qv_low e3 e4).1, (qv_low e3 e4).2, sgn_abs, sgn_neg, e5]
  exact ⟨A, n, c, A', m, c', rfl, by rw [← e1]; exact hx, by rw [← e2]; exact hy⟩
theorem RatQ.below {w w' : World} {v : Value} {q : Rat} (h : RatQ w v q) (hb : Below w.heap.size w w') : RatQ w' v q := by
  obtain ⟨A, n, c, A', m, c', e, h1, h2⟩ := h
  exact ⟨A, n, c, A', m, c', e, h1.below hb, h2.below hb⟩

set_option maxRecDepth 20000 in
set_option maxHeartbeats 1000000 in
theorem clean_any (neg : Bool) (A A' : Option Addr) (n c m c' : Nat) (ln ld : List Nat) (q : Rat) (w : World) (hT : Tab w) (hx : Num w ln A n c) (hy : Num w ld A' m c') (hn : n ≤ 8388608) (hm : m ≤ 8388608) (hq : fq neg ln ld = q) :
    Calls Tryz.prog 68 #[.agg #[.bool neg, .slice A n c, .slice A' m c']] w (RetRat w q) := by
  obtain ⟨V, hV⟩ : ∃ V, vld neg ln ld = V := ⟨_, rfl⟩
  have HV := Lib.hid hV
  have HQ := Lib.hid hq
  clear hV hq
  have hbA : Below w.heap.size w ((w.alloc (.cells #[.bool neg, .slice A n c, .slice A' m c'] 25)).alloc (.cells #[.bool false, .slice none 0 0, .slice none 0 0] 25)) := ((Below.refl _ _).alloc (Nat.le_refl _) _).alloc (by simp) _
  have hrx : Rc ((w.alloc (.cells #[.bool neg, .slice A n c, .slice A' m c'] 25)).alloc (.cells #[.bool false, .slice none 0 0, .slice none 0 0] 25)) w.heap.size (.bool neg) (.slice A n c) (.slice A' m c') := (Rc.new w _ _ _).alloc _
  have hrr : Rc ((w.alloc (.cells #[.bool neg, .slice A n c, .slice A' m c'] 25)).alloc (.cells #[.bool false, .slice none 0 0, .slice none 0 0] 25)) (w.heap.size + 1) (.bool false) (.slice none 0 0) (.slice none 0 0) := by
    have := Rc.new (w.alloc (.cells #[.bool neg, .slice A n c, .slice A' m c'] 25)) (.bool false) (.slice none 0 0) (.slice none 0 0)
    rwa [World.size_alloc] at this
  have hTW := hT.below hbA
  have hxW := hx.below hbA
  have hyW := hy.below hbA
  go_enter Tryz.func68, Tryz.ntmps68
  go_wp2_with fail
  generalize ((w.alloc (.cells #[.bool neg, .slice A n c, .slice A' m c'] 25)).alloc (.cells #[.bool false, .slice none 0 0, .slice none 0 0] 25)) = W at *
  refine (valid_any neg _ _ _ _ _ _ ln ld _ V hTW hxW hyW hn hm HV).mono ?_
  rintro e w1 ⟨rfl, hb1⟩
  have hrx1 := hrx.below hb1 hrx.lt
  have hrr1 := hrr.below hb1 hrr.lt
  have hx1 := hxW.below hb1
  have hy1 := hyW.below hb1
  have hne1 := hx1.ne_rc hrr1
  have hne2 := hy1.ne_rc hrr1
  obtain ⟨k0, k1, k2⟩ := hrx1.cells
  obtain ⟨r0, r1, r2⟩ := hrr1.cells
  obtain ⟨f0, f1, f2⟩ := hrr1.frozen
  have hb01 := hbA.trans (hb1.mono hbA.size)
  cases V
  · have hq0 : q = 0 := by rw [← HQ.out]; unfold fq; rw [HV.out]; rfl
    subst hq0
    go_wp2_with fail
    refine ret_rc Tryz.results68 rfl (hrr1.set _ _ _) rfl ?_
    exact ⟨_, rfl, ratq_zero _, below_set3 hb01 (by omega) _ _ _⟩
  · go_wp2_with fail
    refine ret_rc Tryz.results68 rfl (hrr1.set _ _ _) rfl ?_
    refine ⟨_, rfl, ?_, below_set3 hb01 (by omega) _ _ _⟩
    rw [← HQ.out]
    exact ratq_of HV.out (hx1.set3 hne1 _ _ _) (hy1.set3 hne2 _ _ _)

/-- At most L limbs above and below. -/
def Sz (q : Rat) (L : Nat) : Prop := (limbs q.num.natAbs).length ≤ L ∧ (limbs q.den).length ≤ L
theorem Sz.mono {q : Rat} {L M : Nat} (h : Sz q L) (hm : L ≤ M) : Sz q M := ⟨Nat.le_trans h.1 hm, Nat.le_trans h.2 hm⟩
theorem dl_length (d : Nat) : (dl d).length ≤ (limbs d).length := by
  unfold dl
  split
  · simp
  · exact Nat.le_refl _
/-- What a function of the package is given: three fields that stand for q. -/
def Inp (w : World) (v : Value) (q : Rat) (L : Nat) : Prop :=
  ∃ neg A n c A' m c' ln ld, v = .agg #[.bool neg, .slice A n c, .slice A' m c'] ∧ Num w ln A n c ∧ Num w ld A' m c' ∧ n ≤ 8388608 ∧ m ≤ 8388608 ∧ fq neg ln ld = q ∧ Sz q L
theorem vld_canon {q : Rat} : vld (decide (q.num < 0)) (limbs q.num.natAbs) (dl q.den) = true := by
  have hp : ∀ a, pad (limbs a) = false := fun a => by
    unfold pad
    simp only [decide_eq_false_iff_not, not_and]
    intro h
    obtain ⟨k, hk⟩ : ∃ k, (limbs a).length = k + 1 := ⟨_, (Nat.succ_pred_eq_of_pos h).symm⟩
    rw [hk, Nat.add_sub_cancel]
    exact limbs_last hk
  have hpd : ∀ a, pad (dl a) = false := fun a => by
    unfold dl; split
    · rfl
    · exact hp a
  unfold vld
  rw [hp, hpd, if_neg (by decide), if_neg (by decide), if_neg]
  · split
    · next h =>
      have h0 := limbs_nil.1 h
      have hg : q.den = 1 := by
        have := q.reduced
        rw [h0] at this
        simpa using this
      have hn : ¬ q.num < 0 := by omega
      rw [hg]
      simp [dl_one, hn]
    · by_cases hd : q.den = 1
      · rw [hd]; simp [dl_one]
      · rw [dl_ne hd, val_limbs, val_limbs]
        have : Nat.gcd q.num.natAbs q.den = 1 := q.reduced
        simp [this]
  · intro h
    unfold dl at h
    split at h
    · cases h
    · next h1 => exact h1 (limbs_eq_one.1 h)
theorem fq_canon (q : Rat) : fq (decide (q.num < 0)) (limbs q.num.natAbs) (dl q.den) = q := by
  unfold fq
  rw [if_pos vld_canon, val_limbs]
  have hd : dv (dl q.den) = q.den := by
    unfold dv dl
    by_cases h : q.den = 1
    · simp [h]
    · rw [if_neg h, if_neg, val_limbs]
      intro h0
      exact q.den_nz (limbs_nil.1 h0)
  rw [hd]
  exact qv_self q
theorem RatQ.inp {w : World} {v : Value} {q : Rat} {L : Nat} (h : RatQ w v q) (hs : Sz q L) (hL : L ≤ 8388608) : Inp w v q L := by
  obtain ⟨A, n, c, A', m, c', e, h1, h2⟩ := h
  have l1 := h1.len
  have l2 := h2.len
  have l3 := dl_length q.den
  exact ⟨_, A, n, c, A', m, c', _, _, e, h1, h2, by have := hs.1; omega, by have := hs.2; omega, fq_canon q, hs⟩
theorem Inp.below {w w' : World} {v : Value} {q : Rat} {L : Nat} (h : Inp w v q L) (hb : Below w.heap.size w w') : Inp w' v q L := by
  obtain ⟨neg, A, n, c, A', m, c', ln, ld, e, h1, h2, h3⟩ := h
  exact ⟨neg, A, n, c, A', m, c', ln, ld, e, h1.below hb, h2.below hb, h3⟩
end Go.Proofs.YtdlmhgijpgnilaaGreatDoor

namespace Go.Proofs.YtdlmhgijpgnilaaGreatDoor
open Go.RowKit

abbrev R0 : Obj := .cells #[.bool false, .slice none 0 0, .slice none 0 0] 25
abbrev R1 (z0 z1 z2 : Value) : Obj := .cells #[z0, z1, z2] 25
theorem blocks2 (w : World) (z0 z1 z2 u0 u1 u2 : Value) :
    Below w.heap.size w ((w.alloc (R1 z0 z1 z2)).alloc (R1 u0 u1 u2)) ∧ Rc ((w.alloc (R1 z0 z1 z2)).alloc (R1 u0 u1 u2)) w.heap.size z0 z1 z2 ∧ Rc ((w.alloc (R1 z0 z1 z2)).alloc (R1 u0 u1 u2)) (w.heap.size + 1) u0 u1 u2 := by
  refine ⟨((Below.refl _ _).alloc (Nat.le_refl _) _).alloc (by simp) _, (Rc.new w _ _ _).alloc _, ?_⟩
  have := Rc.new (w.alloc (R1 z0 z1 z2)) u0 u1 u2
  rwa [World.size_alloc] at this
theorem blocks3 (w : World) (z0 z1 z2 y0 y1 y2 u0 u1 u2 : Value) :
    Below w.heap.size w (((w.alloc (R1 z0 z1 z2)).alloc (R1 y0 y1 y2)).alloc (R1 u0 u1 u2)) ∧ Rc (((w.alloc (R1 z0 z1 z2)).alloc (R1 y0 y1 y2)).alloc (R1 u0 u1 u2)) w.heap.size z0 z1 z2 ∧
    Rc (((w.alloc (R1 z0 z1 z2)).alloc (R1 y0 y1 y2)).alloc (R1 u0 u1 u2)) (w.heap.size + 1) y0 y1 y2 ∧ Rc (((w.alloc (R1 z0 z1 z2)).alloc (R1 y0 y1 y2)).alloc (R1 u0 u1 u2)) (w.heap.size + 1 + 1) u0 u1 u2 := by
  obtain ⟨h1, h2, h3⟩ := blocks2 w z0 z1 z2 y0 y1 y2
  refine ⟨h1.alloc (by simp; omega) _, h2.alloc _, h3.alloc _, ?_⟩
  have := Rc.new ((w.alloc (R1 z0 z1 z2)).alloc (R1 y0 y1 y2)) u0 u1 u2
  rwa [World.size_alloc, World.size_alloc] at this

theorem dl_or (d : Nat) : dl d = limbs d ∨ (dl d = [] ∧ d = 1) := by
  unfold dl
  split
  · next h => exact .inr ⟨rfl, h⟩
  · exact .inl rfl
theorem add_any (nx ny : Bool) (v v' : Value) (a b g d : Nat) (q : Rat) (w : World) (hT : Tab w) (hx : RatN w v nx a b) (hy : RatN w v' ny g d)
    (ha : (limbs a).length ≤ 1000000) (hb' : (limbs b).length ≤ 1000000) (hg : (limbs g).length ≤ 1000000) (hd' : (limbs d).length ≤ 1000000) (hb : b ≠ 0) (hd : d ≠ 0) (hg1 : Nat.gcd a b = 1) (hg2 : Nat.gcd g d = 1) (hq : qv nx a b + qv ny g d = q) :
    Calls Tryz.prog 67 #[v, v'] w (RetRat w q) := by
  obtain ⟨A, n, c, A', n', c', rfl, h1, h2⟩ := hx
  obtain ⟨B, m, f, B', m', f', rfl, h3, h4⟩ := hy
  have l1 := h1.len
  have l2 := h2.len
  have l3 := h3.len
  have l4 := h4.len
  have l5 := dl_length b
  have l6 := dl_length d
  by_cases h0 : n' = 0 ∧ m' = 0
  · have e1 := (dl_zero h2 hb).1 h0.1
    have e2 := (dl_zero h4 hd).1 h0.2
    rw [h0.1, h0.2]
    exact add_whole nx ny A A' B B' n c c' m f f' a g q w h1 h3 (by omega) (by omega) (by rw [e1, e2] at hq; exact hq)
  · exact add_parts nx ny A A' B B' n c n' c' m f m' f' a b g d q w hT h1 h2 h3 h4 (by omega) (by omega) (by omega) (by omega) hb hd hg1 hg2 h0 hq
theorem qv_num (q : Rat) : qv (decide (q.num < 0)) q.num.natAbs q.den = q := qv_self q
theorem add_q (v v' : Value) (x y : Rat) (w : World) (hT : Tab w) (hx : RatQ w v x) (hy : RatQ w v' y) (sx : Sz x 1000000) (sy : Sz y 1000000) :
    Calls Tryz.prog 67 #[v, v'] w (RetRat w (x + y)) :=
  add_any _ _ v v' _ _ _ _ _ w hT hx hy sx.1 sx.2 sy.1 sy.2 x.den_nz y.den_nz x.reduced y.reduced (by rw [qv_self, qv_self])

set_option maxRecDepth 20000 in
set_option maxHeartbeats 1000000 in
theorem sign_fields (neg : Bool) (A A' : Option Addr) (n c m c' : Nat) (w : World) (V : Int) (H : Hid ((if neg then -1 else if n = 0 then 0 else 1) = V)) :
    Calls Tryz.prog 112 #[.agg #[.bool neg, .slice A n c, .slice A' m c']] w (RetV w (.int .i64 V)) := by
  have hbA : ∀ o, Below w.heap.size w (w.alloc o) := fun o => (Below.refl _ _).alloc (Nat.le_refl _) _
  by_cases h0 : n = 0
  · have hd1 : ((n : Int) == 0) = true := by simp; omega
    cases neg
    all_goals
      go_enter Tryz.func112, Tryz.ntmps112
      go_wp2_with fail
      go_ret
      exact ⟨ret_int (by rw [← H.out]; simp [h0]), hbA _⟩
  · have hd1 : ((n : Int) == 0) = false := by simp; omega
    cases neg
    all_goals
      go_enter Tryz.func112, Tryz.ntmps112
      go_wp2_with fail
      go_ret
      exact ⟨ret_int (by rw [← H.out]; simp [h0]), hbA _⟩
theorem sign_q (v : Value) (x : Rat) (w : World) (hx : RatQ w v x) : Calls Tryz.prog 112 #[v] w (RetV w (.int .i64 x.num.sign)) := by
  obtain ⟨A, n, c, A', n', c', rfl, h1, h2⟩ := hx
  refine sign_fields _ _ _ _ _ _ _ _ _ ?_
  show _ = _
  have l1 := h1.len
  by_cases h : x.num < 0
  · simp [h, Int.sign_eq_neg_one_of_neg h]
  · have : n = 0 ↔ x.num = 0 := by rw [l1, limbs_length_zero]; omega
    by_cases h0 : x.num = 0
    · simp [h0, this.2 h0]
    · have hp : 0 < x.num := by omega
      simp [h, Int.sign_eq_one_of_pos hp, this, h0]

end Go.Proofs.YtdlmhgijpgnilaaGreatDoor

namespace Go.Proofs.YtdlmhgijpgnilaaGreatDoor
open Go.RowKit

theorem clean_i (v : Value) (q : Rat) (L : Nat) (w : World) (hT : Tab w) (h : Inp w v q L) : Calls Tryz.prog 68 #[v] w (RetRat w q) := by
  obtain ⟨neg, A, n, c, A', m, c', ln, ld, rfl, h1, h2, h3, h4, h5, _⟩ := h
  exact clean_any neg A A' n c m c' ln ld q w hT h1 h2 h3 h4 h5
theorem Inp.agg {w : World} {v : Value} {q : Rat} {L : Nat} (h : Inp w v q L) : ∃ nb A n c B m e, v = .agg #[.bool nb, .slice A n c, .slice B m e] := by
  obtain ⟨neg, A, n, c, A', m, c', ln, ld, e, _⟩ := h
  exact ⟨_, _, _, _, _, _, _, e⟩
theorem RatQ.agg {w : World} {v : Value} {q : Rat} (h : RatQ w v q) : ∃ nb A n c B m e, v = .agg #[.bool nb, .slice A n c, .slice B m e] := by
  obtain ⟨A, n, c, A', m, c', e, _⟩ := h
  exact ⟨_, _, _, _, _, _, _, e⟩
theorem RatQ.parts {w : World} {nb : Bool} {A B : Option Addr} {n c m e : Nat} {q : Rat} (h : RatQ w (.agg #[.bool nb, .slice A n c, .slice B m e]) q) : nb = decide (q.num < 0) ∧ Num w (limbs q.num.natAbs) A n c ∧ Num w (dl q.den) B m e := by
  obtain ⟨A1, n1, c1, A2, m2, c2, e, h1, h2⟩ := h
  injection e with e
  injection e with e
  injection e with e1 e
  injection e with e2 e
  injection e with e3 e
  injection e1 with e1
  injection e2 with e21 e22 e23
  injection e3 with e31 e32 e33
  subst e21 e22 e23 e31 e32 e33
  exact ⟨e1, h1, h2⟩
theorem RatQ.set3 {w : World} {v : Value} {q : Rat} (h : RatQ w v q) {g : Nat} {x : Bool} {B1 B2 : Option Addr} {n1 c1 n2 c2 : Nat} (hr : Rc w g (.bool x) (.slice B1 n1 c1) (.slice B2 n2 c2)) (u0 u1 u2 : Value) : RatQ (((w.setCell ⟨g, 0, none⟩ u0).setCell ⟨g, 1, none⟩ u1).setCell ⟨g, 2, none⟩ u2) v q := by
  obtain ⟨A, n, c, A', m, c', e, h1, h2⟩ := h
  exact ⟨A, n, c, A', m, c', e, h1.set3 (h1.ne_rc hr) _ _ _, h2.set3 (h2.ne_rc hr) _ _ _⟩
theorem Rc.far3 {w : World} {g g' : Nat} {z0 z1 z2 : Value} (h : Rc w g z0 z1 z2) (hne : g ≠ g') (u0 u1 u2 : Value) : Rc (((w.setCell ⟨g', 0, none⟩ u0).setCell ⟨g', 1, none⟩ u1).setCell ⟨g', 2, none⟩ u2) g z0 z1 z2 :=
  ((h.far (p := ⟨g', 0, none⟩) hne _).far (p := ⟨g', 1, none⟩) hne _).far (p := ⟨g', 2, none⟩) hne _
theorem size_set3 (w : World) (g : Nat) (u0 u1 u2 : Value) : (((w.setCell ⟨g, 0, none⟩ u0).setCell ⟨g, 1, none⟩ u1).setCell ⟨g, 2, none⟩ u2).heap.size = w.heap.size := by simp
theorem Sz.up {q : Rat} {L : Nat} (h : Sz q L) {M : Nat} (hL : L ≤ M) : (limbs q.num.natAbs).length ≤ M ∧ (limbs q.den).length ≤ M := h.mono hL

set_option maxRecDepth 20000 in
set_option maxHeartbeats 2000000 in
theorem Add_any (v v' : Value) (x y r : Rat) (L : Nat) (w : World) (hT : Tab w) (h : Inp w v x L) (h' : Inp w v' y L) (sx : Sz x 1000000) (sy : Sz y 1000000) (hr : x + y = r) : Calls Tryz.prog 30 #[v, v'] w (RetRat w r) := by
  have HR := Lib.hid hr; clear hr
  obtain ⟨z0, Z, zn, zc, Z', zm, ze, rfl⟩ := h.agg
  obtain ⟨y0, Y, yn, yc, Y', ym, ye, rfl⟩ := h'.agg
  obtain ⟨hbA, hrx, hry, hrr⟩ := blocks3 w (.bool z0) (.slice Z zn zc) (.slice Z' zm ze) (.bool y0) (.slice Y yn yc) (.slice Y' ym ye) (.bool false) (.slice none 0 0) (.slice none 0 0)
  have hI := h.below hbA
  have hI' := h'.below hbA
  have hTW := hT.below hbA
  go_enter Tryz.func30, Tryz.ntmps30
  go_wp2_with fail
  generalize (((w.alloc (R1 (.bool z0) (.slice Z zn zc) (.slice Z' zm ze))).alloc (R1 (.bool y0) (.slice Y yn yc) (.slice Y' ym ye))).alloc (R1 (.bool false) (.slice none 0 0) (.slice none 0 0))) = W at *
  have hgx : w.heap.size < W.drew.heap.size := hrx.lt
  have hgy : w.heap.size + 1 < W.drew.heap.size := hry.lt
  have hgr : w.heap.size + 1 + 1 < W.drew.heap.size := hrr.lt
  replace hrx := hrx.drew
  replace hry := hry.drew
  replace hrr := hrr.drew
  replace hTW := hTW.drew
  replace hI : Inp W.drew _ x L := hI.below (Below.refl _ _).drew
  replace hI' : Inp W.drew _ y L := hI'.below (Below.refl _ _).drew
  replace hbA := hbA.drew
  have hsx := hrx.cells
  have hsy := hry.cells
  go_region_held3 (fun w' => (w'.cell? ⟨w.heap.size, 0, none⟩ = some (.bool z0) ∧ w'.cell? ⟨w.heap.size, 1, none⟩ = some (.slice Z zn zc) ∧ w'.cell? ⟨w.heap.size, 2, none⟩ = some (.slice Z' zm ze)) ∧ (w'.cell? ⟨w.heap.size + 1, 0, none⟩ = some (.bool y0) ∧ w'.cell? ⟨w.heap.size + 1, 1, none⟩ = some (.slice Y yn yc) ∧ w'.cell? ⟨w.heap.size + 1, 2, none⟩ = some (.slice Y' ym ye)))
    (first | exact ⟨hsx, hsy⟩ | exact ⟨⟨cell_set3 (by omega) hsx.1, cell_set3 (by omega) hsx.2.1, cell_set3 (by omega) hsx.2.2⟩, ⟨cell_set3 (by omega) hsy.1, cell_set3 (by omega) hsy.2.1, cell_set3 (by omega) hsy.2.2⟩⟩)
    (first
      | (have _g := hb2; go_at_call 67; refine (add_q _ _ x y _ (hTW.below hb12) (h1.below hb2) h2 sx sy).mono ?_; rw [HR.out]; rintro e w3 ⟨v3, rfl, h3, hb3⟩; have hb13 := hb12.trans (hb3.mono hb12.size); have hsx := (hrx.below hb13 hgx).cells; have hsy := (hry.below hb13 hgy).cells; have hrr3 := hrr.below hb13 hgr; obtain ⟨nb, A, n, c, B, m, e, rfl⟩ := h3.agg; obtain ⟨r0, r1, r2⟩ := hrr3.cells; obtain ⟨f0, f1, f2⟩ := hrr3.frozen)
      | (have _g := hb1; go_at_call 68; refine (clean_i _ y L _ (hTW.below hb1) (hI'.below hb1)).mono ?_; rintro e w2 ⟨v2, rfl, h2, hb2⟩; have hb12 := hb1.trans (hb2.mono hb1.size); have hsx := (hrx.below hb12 hgx).cells; have hsy := (hry.below hb12 hgy).cells)
      | (go_at_call 68; refine (clean_i _ x L _ hTW hI).mono ?_; rintro e w1 ⟨v1, rfl, h1, hb1⟩; have hsx := (hrx.below hb1 hgx).cells; have hsy := (hry.below hb1 hgy).cells))
  go_wp2_with fail
  refine ret_rc Tryz.results30 rfl (hrr3.set _ _ _) rfl ?_
  exact ⟨_, rfl, h3.set3 hrr3 _ _ _, below_set3 (hbA.trans (hb13.mono hbA.size)) (by omega) _ _ _⟩
end Go.Proofs.YtdlmhgijpgnilaaGreatDoor

namespace Go.Proofs.YtdlmhgijpgnilaaGreatDoor
open Go.RowKit

theorem Num.set0 {w : World} {l : List Nat} {A : Option Addr} {n c : Nat} (h : Num w l A n c) {g : Nat} (hA : 0 < n → ∀ a, A = some a → a.block ≠ g) (k : Nat) (u : Value) : Num (w.setCell ⟨g, k, none⟩ u) l A n c :=
  ⟨h.len, h.cap, h.lim, fun hn => by
    obtain ⟨b, o, hA', hb, hc⟩ := h.cells hn
    have hne := hA hn _ hA'
    refine ⟨b, o, hA', by simpa [World.setCell] using hb, fun k x hx => ?_⟩
    rw [World.cell?_setCell_other _ _ _ _ (fun e => hne (by injection e with e1; exact e1.symm))]
    exact hc k x hx⟩
theorem Rc.set0 {w : World} {g : Nat} {z0 z1 z2 : Value} (h : Rc w g z0 z1 z2) (u : Value) : Rc (w.setCell ⟨g, 0, none⟩ u) g u z1 z2 := heap_setCell_same w g 0 _ _ _ h

set_option maxRecDepth 20000 in
set_option maxHeartbeats 2000000 in
theorem Down_in (v : Value) (q r : Rat) (L p : Nat) (w : World) (hT : Tab w) (h : Inp w v q L) (hS : Sz q 4000000) (hp : p ≤ 256) (hr : down q p = r) : Calls Tryz.prog 78 #[v, .int .i64 (p : Int)] w (RetRat w r) := by
  have hq : qv (decide (q.num < 0)) (steps q.num.natAbs q.den p (decide (q.num < 0))) (2 ^ p) = r := by rw [qv_down q.den_nz q.reduced, qv_self, hr]
  have HR := Lib.hid hq; clear hr hq
  obtain ⟨z0, Z, zn, zc, Z', zm, ze, rfl⟩ := h.agg
  obtain ⟨hbA, hrx, hrr⟩ := blocks2 w (.bool z0) (.slice Z zn zc) (.slice Z' zm ze) (.bool false) (.slice none 0 0) (.slice none 0 0)
  go_enter Tryz.func78, Tryz.ntmps78
  go_wp2_with fail
  refine (clean_i _ q L _ (hT.below hbA) (h.below hbA)).mono ?_
  rintro e w1 ⟨v1, rfl, h1, hb1⟩
  have hrx1 := hrx.below hb1 hrx.lt
  have hrr1 := hrr.below hb1 hrr.lt
  obtain ⟨nb, A, n, c, B, m, e, rfl⟩ := h1.agg
  obtain ⟨k0, k1, k2⟩ := hrx1.cells
  obtain ⟨f0, f1, f2⟩ := hrx1.frozen
  have hnb := h1.parts.1
  rw [← hnb] at HR
  clear hnb
  have hb01 := hbA.trans (hb1.mono hbA.size)
  have hrx2 := hrx1.set (.bool nb) (.slice A n c) (.slice B m e)
  have hrr2 := hrr1.far3 (g' := w.heap.size) (by omega) (.bool nb) (.slice A n c) (.slice B m e)
  have h2 := (h1.set3 hrx1 (.bool nb) (.slice A n c) (.slice B m e)).parts.2
  have hb02 := below_set3 hb01 (Nat.le_refl _) (.bool nb) (.slice A n c) (.slice B m e)
  go_wp2_with fail
  generalize (((w1.setCell ⟨w.heap.size, 0, none⟩ (.bool nb)).setCell ⟨w.heap.size, 1, none⟩ (.slice A n c)).setCell ⟨w.heap.size, 2, none⟩ (.slice B m e)) = W2 at *
  refine (rounded_any nb nb _ _ _ _ _ _ _ _ p r _ (hT.below hb02) h2.1 h2.2 (by have := hS.1; have := h2.1.len; omega) (by have := hS.2; have := h2.2.len; have := dl_length q.den; omega) q.den_nz hp HR.out).mono ?_
  rintro e3 w3 ⟨v3, rfl, h3, hb3⟩
  have hrr3 := hrr2.below hb3 hrr2.lt
  obtain ⟨nb3, A3, n3, c3, B3, m3, e3, rfl⟩ := h3.agg
  obtain ⟨r0, r1, r2⟩ := hrr3.cells
  obtain ⟨g0, g1, g2⟩ := hrr3.frozen
  go_wp2_with fail
  refine ret_rc Tryz.results78 rfl (hrr3.set _ _ _) rfl ?_
  exact ⟨_, rfl, h3.set3 hrr3 _ _ _, below_set3 (hb02.trans (hb3.mono hb02.size)) (by omega) _ _ _⟩

set_option maxRecDepth 20000 in
set_option maxHeartbeats 2000000 in
theorem Down_out (v : Value) (q : Rat) (L : Nat) (p : Int) (w : World) (hT : Tab w) (h : Inp w v q L) (hp : decide (p < 0) = true ∨ (decide (p < 0) = false ∧ decide (256 < p) = true)) : Calls Tryz.prog 78 #[v, .int .i64 p] w (RetRat w 0) := by
  have HP : Hid (decide (p < 0) = true ∨ (decide (p < 0) = false ∧ decide (256 < p) = true)) := hp
  clear hp
  obtain ⟨z0, Z, zn, zc, Z', zm, ze, rfl⟩ := h.agg
  obtain ⟨hbA, hrx, hrr⟩ := blocks2 w (.bool z0) (.slice Z zn zc) (.slice Z' zm ze) (.bool false) (.slice none 0 0) (.slice none 0 0)
  go_enter Tryz.func78, Tryz.ntmps78
  go_wp2_with fail
  refine (clean_i _ q L _ (hT.below hbA) (h.below hbA)).mono ?_
  rintro e w1 ⟨v1, rfl, h1, hb1⟩
  have hrx1 := hrx.below hb1 hrx.lt
  have hrr1 := hrr.below hb1 hrr.lt
  obtain ⟨nb, A, n, c, B, m, e, rfl⟩ := h1.agg
  obtain ⟨k0, k1, k2⟩ := hrx1.cells
  obtain ⟨f0, f1, f2⟩ := hrx1.frozen
  have hb01 := hbA.trans (hb1.mono hbA.size)
  have hrx2 := hrx1.set (.bool nb) (.slice A n c) (.slice B m e)
  have hrr2 := hrr1.far3 (g' := w.heap.size) (by omega) (.bool nb) (.slice A n c) (.slice B m e)
  have hb02 := below_set3 hb01 (Nat.le_refl _) (.bool nb) (.slice A n c) (.slice B m e)
  go_wp2_with fail
  generalize (((w1.setCell ⟨w.heap.size, 0, none⟩ (.bool nb)).setCell ⟨w.heap.size, 1, none⟩ (.slice A n c)).setCell ⟨w.heap.size, 2, none⟩ (.slice B m e)) = W2 at *
  refine (rounded_out _ _ p _ ⟨_, _, _, rfl⟩ HP.out).mono ?_
  rintro e3 w3 ⟨v3, rfl, h3, hb3⟩
  have hrr3 := hrr2.below hb3 hrr2.lt
  obtain ⟨nb3, A3, n3, c3, B3, m3, e3, rfl⟩ := h3.agg
  obtain ⟨r0, r1, r2⟩ := hrr3.cells
  obtain ⟨g0, g1, g2⟩ := hrr3.frozen
  go_wp2_with fail
  refine ret_rc Tryz.results78 rfl (hrr3.set _ _ _) rfl ?_
  exact ⟨_, rfl, h3.set3 hrr3 _ _ _, below_set3 (hb02.trans (hb3.mono hb02.size)) (by omega) _ _ _⟩

set_option maxRecDepth 20000 in
set_option maxHeartbeats 2000000 in
theorem Sub_any (v v' : Value) (x y r : Rat) (L : Nat) (w : World) (hT : Tab w) (h : Inp w v x L) (h' : Inp w v' y L) (sx : Sz x 1000000) (sy : Sz y 1000000) (hr : x - y = r) : Calls Tryz.prog 77 #[v, v'] w (RetRat w r) := by
  have hr' : qv (decide (x.num < 0)) x.num.natAbs x.den + qv (!decide (y.num < 0)) y.num.natAbs y.den = r := by rw [← qv_neg, qv_self, qv_self, ← Rat.sub_eq_add_neg, hr]
  have HR := Lib.hid hr'; clear hr hr'
  obtain ⟨z0, Z, zn, zc, Z', zm, ze, rfl⟩ := h.agg
  obtain ⟨y0, Y, yn, yc, Y', ym, ye, rfl⟩ := h'.agg
  obtain ⟨hbA, hrx, hry, hrr⟩ := blocks3 w (.bool z0) (.slice Z zn zc) (.slice Z' zm ze) (.bool y0) (.slice Y yn yc) (.slice Y' ym ye) (.bool false) (.slice none 0 0) (.slice none 0 0)
  go_enter Tryz.func77, Tryz.ntmps77
  go_wp2_with fail
  refine (clean_i _ y L _ (hT.below hbA) (h'.below hbA)).mono ?_
  rintro e w1 ⟨v1, rfl, h1, hb1⟩
  have hrx1 := hrx.below hb1 hrx.lt
  have hry1 := hry.below hb1 hry.lt
  have hrr1 := hrr.below hb1 hrr.lt
  obtain ⟨nb, A, n, c, B, m, e, rfl⟩ := h1.agg
  obtain ⟨k0, k1, k2⟩ := hry1.cells
  obtain ⟨f0, f1, f2⟩ := hry1.frozen
  have hb01 := hbA.trans (hb1.mono hbA.size)
  have hry2 := hry1.set (.bool nb) (.slice A n c) (.slice B m e)
  have hrx2 := hrx1.far3 (g' := w.heap.size + 1) (by omega) (.bool nb) (.slice A n c) (.slice B m e)
  have hrr2 := hrr1.far3 (g' := w.heap.size + 1) (by omega) (.bool nb) (.slice A n c) (.slice B m e)
  obtain ⟨hnb, h2, h2'⟩ := (h1.set3 hry1 (.bool nb) (.slice A n c) (.slice B m e)).parts
  have hb02 := below_set3 hb01 (Nat.le_succ _) (.bool nb) (.slice A n c) (.slice B m e)
  rw [← hnb] at HR
  clear hnb
  go_wp2_with fail
  generalize (((w1.setCell ⟨w.heap.size + 1, 0, none⟩ (.bool nb)).setCell ⟨w.heap.size + 1, 1, none⟩ (.slice A n c)).setCell ⟨w.heap.size + 1, 2, none⟩ (.slice B m e)) = W2 at *
  have hry3 := hry2.set0 (.bool !nb)
  have hrx3 : Rc (W2.setCell ⟨w.heap.size + 1, 0, none⟩ (.bool !nb)) _ _ _ _ := hrx2.far (p := ⟨w.heap.size + 1, 0, none⟩) (Nat.ne_of_lt (Nat.lt_succ_self _)) _
  have hrr3 : Rc (W2.setCell ⟨w.heap.size + 1, 0, none⟩ (.bool !nb)) _ _ _ _ := hrr2.far (p := ⟨w.heap.size + 1, 0, none⟩) (Nat.succ_ne_self _) _
  have h3 := h2.set0 (h2.ne_rc hry2) 0 (.bool !nb)
  have h3' := h2'.set0 (h2'.ne_rc hry2) 0 (.bool !nb)
  have hb03 := hb02.setCell (p := ⟨w.heap.size + 1, 0, none⟩) (Nat.le_succ _) (.bool !nb)
  clear hry hry1 hry2 hrx hrx1 hrx2 hrr hrr1 hrr2 h1 h2 h2' hb1 hb01 hb02 k0 k1 k2 f0 f1 f2
  generalize (W2.setCell ⟨w.heap.size + 1, 0, none⟩ (.bool !nb)) = W3 at *
  have hgx : w.heap.size < W3.drew.heap.size := hrx3.lt
  have hgy : w.heap.size + 1 < W3.drew.heap.size := hry3.lt
  have hgr : w.heap.size + 1 + 1 < W3.drew.heap.size := hrr3.lt
  replace hrx3 := hrx3.drew
  replace hry3 := hry3.drew
  replace hrr3 := hrr3.drew
  replace h3 := h3.drew
  replace h3' := h3'.drew
  replace hb03 := hb03.drew
  have hsx := hrx3.cells
  have hsy := hry3.cells
  go_region_held3 (fun w' => (w'.cell? ⟨w.heap.size, 0, none⟩ = some (.bool z0) ∧ w'.cell? ⟨w.heap.size, 1, none⟩ = some (.slice Z zn zc) ∧ w'.cell? ⟨w.heap.size, 2, none⟩ = some (.slice Z' zm ze)) ∧ (w'.cell? ⟨w.heap.size + 1, 0, none⟩ = some (.bool !nb) ∧ w'.cell? ⟨w.heap.size + 1, 1, none⟩ = some (.slice A n c) ∧ w'.cell? ⟨w.heap.size + 1, 2, none⟩ = some (.slice B m e)))
    (first | exact ⟨hsx, hsy⟩ | exact ⟨⟨cell_set3 (by omega) hsx.1, cell_set3 (by omega) hsx.2.1, cell_set3 (by omega) hsx.2.2⟩, ⟨cell_set3 (by omega) hsy.1, cell_set3 (by omega) hsy.2.1, cell_set3 (by omega) hsy.2.2⟩⟩)
    (first
      | (have _g := hb4; go_at_call 67; refine (add_any (decide (x.num < 0)) (!nb) _ _ x.num.natAbs x.den y.num.natAbs y.den r _ ((hT.below hb03).below hb4) h4 ⟨A, n, c, B, m, e, rfl, h3.below hb4, h3'.below hb4⟩ sx.1 sx.2 sy.1 sy.2 x.den_nz y.den_nz x.reduced y.reduced HR.out).mono ?_; rintro e' w5 ⟨v5, rfl, h5, hb5⟩; have hb45 := hb4.trans (hb5.mono hb4.size); have hsx := (hrx3.below hb45 hgx).cells; have hsy := (hry3.below hb45 hgy).cells; have hrr5 := hrr3.below hb45 hgr; obtain ⟨nb5, A5, n5, c5, B5, m5, e5, rfl⟩ := h5.agg; obtain ⟨r0, r1, r2⟩ := hrr5.cells; obtain ⟨g0, g1, g2⟩ := hrr5.frozen)
      | (go_at_call 68; refine (clean_i _ x L _ (hT.below hb03) (h.below hb03)).mono ?_; rintro e' w4 ⟨v4, rfl, h4, hb4⟩; have hsx := (hrx3.below hb4 hgx).cells; have hsy := (hry3.below hb4 hgy).cells))
  go_wp2_with fail
  refine ret_rc Tryz.results77 rfl (hrr5.set _ _ _) rfl ?_
  exact ⟨_, rfl, h5.set3 hrr5 _ _ _, below_set3 (hb03.trans (hb45.mono hb03.size)) (by omega) _ _ _⟩
end Go.Proofs.YtdlmhgijpgnilaaGreatDoor
