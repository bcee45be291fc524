import Derived.Test.YtifeekomegoijaaGreatDoorY10
import Derived.Deep.RegionHeld3
set_option linter.unusedVariables false
set_option linter.unusedSimpArgs false
set_option maxRecDepth 20000
set_option maxHeartbeats 2000000
namespace Go.Proofs.YtifeekomegoijaaGreatDoor
open Go.RowKit
theorem Rc.drew {w : World} {g : Nat} {z0 z1 z2 : Value} (h : Rc w g z0 z1 z2) : Rc w.drew g z0 z1 z2 := h
theorem cell_set3 {w : World} {b g k : Nat} {x u0 u1 u2 : Value} (h : b ≠ g) (hc : w.cell? ⟨b, k, none⟩ = some x) : (((w.setCell ⟨g, 0, none⟩ u0).setCell ⟨g, 1, none⟩ u1).setCell ⟨g, 2, none⟩ u2).cell? ⟨b, k, none⟩ = some x := by
 rw [World.cell?_setCell_other _ _ _ _ (fun e => h (by injection e with e1; exact e1.symm)), World.cell?_setCell_other _ _ _ _ (fun e => h (by injection e with e1; exact e1.symm)), World.cell?_setCell_other _ _ _ _ (fun e => h (by injection e with e1; exact e1.symm))]
 exact hc
theorem dl_zero {w : World} {A : Option Addr} {m c d : Nat} (h : Num w (dl d) A m c) (hd : d ≠ 0) : m = 0 ↔ d = 1 := by
 rw [h.len]
 unfold dl
 split
 ·next e => simp [e]
 ·next e => exact ⟨fun h => absurd (limbs_length_zero.1 h) hd, fun h => absurd h e⟩
theorem length_add (a b : Nat) : (limbs (a + b)).length <= (limbs a).length + (limbs b).length + 1 := by
 refine limbs_length_le ?_
 have h1 := lt_P_length a
 have h2 := lt_P_length b
 have h3 := P_le (Nat.le_add_right (limbs a).length (limbs b).length)
 have h4 := P_le (Nat.le_add_left (limbs b).length (limbs a).length)
 have := P_pos ((limbs a).length + (limbs b).length)
 rw [P_succ]; omega
theorem length_sgn {z x y : Bool} {t a b : Nat} (h : sgn z t = sgn x a + sgn y b) : (limbs t).length <= (limbs a).length + (limbs b).length + 1 := by
 refine Nat.le_trans (length_mono ?_) (length_add a b)
 unfold sgn at h
 cases x <;> cases y <;> cases z <;> simp at h <;> omega
theorem add_whole (nx ny : Bool) (A A' B B' : Option Addr) (n c c' m f f' a b : Nat) (q : Rat) (w : World) (hx : Num w (limbs a) A n c) (hy : Num w (limbs b) B m f) (hn : n <= 4000000) (hm : m <= 4000000) (hq : qv nx a 1 + qv ny b 1 = q) :
 Calls Tryz.prog 103 #[.agg #[.bool nx, .slice A n c, .slice A' 0 c'], .agg #[.bool ny, .slice B m f, .slice B' 0 f']] w (RetRat w q) := by
 have hbA : Below w.heap.size w (((w.alloc (.cells #[.bool nx, .slice A n c, .slice A' 0 c'] 25)).alloc (.cells #[.bool ny, .slice B m f, .slice B' 0 f'] 25)).alloc (.cells #[.bool false, .slice none 0 0, .slice none 0 0] 25)) := (((Below.refl _ _).alloc (Nat.le_refl _) _).alloc (by simp) _).alloc (by simp; omega) _
 have hrr : Rc (((w.alloc (.cells #[.bool nx, .slice A n c, .slice A' 0 c'] 25)).alloc (.cells #[.bool ny, .slice B m f, .slice B' 0 f'] 25)).alloc (.cells #[.bool false, .slice none 0 0, .slice none 0 0] 25)) (w.heap.size + 1 + 1) (.bool false) (.slice none 0 0) (.slice none 0 0) := by
  have := Rc.new ((w.alloc (.cells #[.bool nx, .slice A n c, .slice A' 0 c'] 25)).alloc (.cells #[.bool ny, .slice B m f, .slice B' 0 f'] 25)) (.bool false) (.slice none 0 0) (.slice none 0 0)
  rwa [World.size_alloc, World.size_alloc] at this
 have hxW := hx.below hbA
 have hyW := hy.below hbA
 go_enter Tryz.func103, Tryz.ntmps103
 go_wp2_with fail
 generalize (((w.alloc (.cells #[.bool nx, .slice A n c, .slice A' 0 c'] 25)).alloc (.cells #[.bool ny, .slice B m f, .slice B' 0 f'] 25)).alloc (.cells #[.bool false, .slice none 0 0, .slice none 0 0] 25)) = W at *
 have hgr := hrr.lt
 refine (balanced_any nx ny _ _ _ _ _ _ a b _ hxW hyW (by omega) (by omega)).mono ?_
 rintro e w1 ⟨z, t, A1, n1, c1, rfl, hV, h1, hb1⟩
 have hn1 : n1 <= 8000001 := by
  have := length_sgn (z := z) hV
  have := h1.len; have := hx.len; have := hy.len
  omega
 have HQ : Hid (qv z t 1 = q) := by
  show _ = _
  rw [<- hq]
  have := qv_add (x := nx) (y := ny) (a := a) (c := b) (b := 1) (d := 1) (g := 1) (z := z) (t := t) (by decide) (by decide) (Nat.gcd_one_right _) (Nat.gcd_one_right _) rfl (by simpa [sgn] using hV)
  simpa using this.1
 clear hq hV
 go_wp2_with fail
 refine (fraction_any z _ _ _ _ _ _ t 1 [] _ h1 (Num.nil _ _ _) (by omega) (by omega) (.inr ⟨rfl, rfl⟩)).mono ?_
 rintro e w2 hr
 obtain ⟨v, rfl, ⟨A9, n9, c9, B9, m9, e9, rfl, g1, g2⟩, hb2⟩ := RetFrac.rat (by decide) (Nat.gcd_one_right _) HQ.out hr
 have hb12 := hb1.trans (hb2.mono hb1.size)
 have hrr9 := hrr.below hb12 hgr
 obtain ⟨nb, hnb⟩ : ∃ nb, (decide (q.num < 0)) = nb := ⟨_, rfl⟩
 rw [hnb]
 have HNB := Lib.hid hnb; clear hnb
 have hne1 := g1.ne_rc hrr9
 have hne2 := g2.ne_rc hrr9
 obtain ⟨r0, r1, r2⟩ := hrr9.cells
 obtain ⟨f0, f1, f2⟩ := hrr9.frozen
 go_wp2_with fail
 refine ret_rc Tryz.results103 rfl (hrr9.set _ _ _) rfl ?_
 exact ⟨_, rfl, ⟨A9, n9, c9, B9, m9, e9, by rw [HNB.out], g1.set3 hne1 _ _ _, g2.set3 hne2 _ _ _⟩, below_set3 (hbA.trans (hb12.mono hbA.size)) (by omega) _ _ _⟩
theorem dl_len {w : World} {A : Option Addr} {m c d : Nat} (h : Num w (dl d) A m c) : (limbs d).length <= m + 1 := by
 have := h.len
 unfold dl at this
 split at this
 ·next h => rw [h, limbs_one]; simp
 ·omega
theorem add_parts (nx ny : Bool) (A A' B B' : Option Addr) (n c n' c' m f m' f' a b g d : Nat) (q : Rat) (w : World) (hT : Tab w) (hx : Num w (limbs a) A n c) (hx' : Num w (dl b) A' n' c') (hy : Num w (limbs g) B m f) (hy' : Num w (dl d) B' m' f')
 (hn : n <= 1000000) (hn' : n' <= 1000000) (hm : m <= 1000000) (hm' : m' <= 1000000) (hb : b ≠ 0) (hd : d ≠ 0) (hg1 : Nat.gcd a b = 1) (hg2 : Nat.gcd g d = 1) (hne : ¬ (n' = 0 /\ m' = 0)) (hq : qv nx a b + qv ny g d = q) :
 Calls Tryz.prog 103 #[.agg #[.bool nx, .slice A n c, .slice A' n' c'], .agg #[.bool ny, .slice B m f, .slice B' m' f']] w (RetRat w q) := by
 have hbA : Below w.heap.size w (((w.alloc (.cells #[.bool nx, .slice A n c, .slice A' n' c'] 25)).alloc (.cells #[.bool ny, .slice B m f, .slice B' m' f'] 25)).alloc (.cells #[.bool false, .slice none 0 0, .slice none 0 0] 25)) := (((Below.refl _ _).alloc (Nat.le_refl _) _).alloc (by simp) _).alloc (by simp; omega) _
 have hrr : Rc (((w.alloc (.cells #[.bool nx, .slice A n c, .slice A' n' c'] 25)).alloc (.cells #[.bool ny, .slice B m f, .slice B' m' f'] 25)).alloc (.cells #[.bool false, .slice none 0 0, .slice none 0 0] 25)) (w.heap.size + 1 + 1) (.bool false) (.slice none 0 0) (.slice none 0 0) := by
  have := Rc.new ((w.alloc (.cells #[.bool nx, .slice A n c, .slice A' n' c'] 25)).alloc (.cells #[.bool ny, .slice B m f, .slice B' m' f'] 25)) (.bool false) (.slice none 0 0) (.slice none 0 0)
  rwa [World.size_alloc, World.size_alloc] at this
 have hrx : Rc (((w.alloc (.cells #[.bool nx, .slice A n c, .slice A' n' c'] 25)).alloc (.cells #[.bool ny, .slice B m f, .slice B' m' f'] 25)).alloc (.cells #[.bool false, .slice none 0 0, .slice none 0 0] 25)) w.heap.size (.bool nx) (.slice A n c) (.slice A' n' c') := ((Rc.new w _ _ _).alloc _).alloc _
 have hry : Rc (((w.alloc (.cells #[.bool nx, .slice A n c, .slice A' n' c'] 25)).alloc (.cells #[.bool ny, .slice B m f, .slice B' m' f'] 25)).alloc (.cells #[.bool false, .slice none 0 0, .slice none 0 0] 25)) (w.heap.size + 1) (.bool ny) (.slice B m f) (.slice B' m' f') := by
  have := (Rc.new (w.alloc (.cells #[.bool nx, .slice A n c, .slice A' n' c'] 25)) (.bool ny) (.slice B m f) (.slice B' m' f')).alloc (.cells #[.bool false, .slice none 0 0, .slice none 0 0] 25)
  rwa [World.size_alloc] at this
 have hTW := hT.below hbA
 have hxW := hx.below hbA
 have hyW := hy.below hbA
 have hxW' := hx'.below hbA
 have hyW' := hy'.below hbA
 have hcase : (n' ≠ 0) \/ (n' = 0 /\ m' ≠ 0) := by omega
 have HB := Lib.hid hb
 have HD := Lib.hid hd
 have HQ := Lib.hid hq
 have HG1 := Lib.hid hg1
 have HG2 := Lib.hid hg2
 clear hne hb hd hq hg1 hg2
 refine Or.elim hcase (fun hc => ?ca) (fun hc' => ?cb)
 all_goals clear hcase
 case' ca =>
  have hd1 : ((n' : Int) == 0) = false := by simp; omega
  clear hc
  go_enter Tryz.func103, Tryz.ntmps103
  go_wp2_with fail
  generalize (((w.alloc (.cells #[.bool nx, .slice A n c, .slice A' n' c'] 25)).alloc (.cells #[.bool ny, .slice B m f, .slice B' m' f'] 25)).alloc (.cells #[.bool false, .slice none 0 0, .slice none 0 0] 25)) = W at *
 case' cb =>
  have hd1 : ((n' : Int) == 0) = true := by simp; omega
  have hd2 : ((m' : Int) == 0) = false := by simp; omega
  clear hc'
  go_enter Tryz.func103, Tryz.ntmps103
  go_wp2_with fail
  generalize (((w.alloc (.cells #[.bool nx, .slice A n c, .slice A' n' c'] 25)).alloc (.cells #[.bool ny, .slice B m f, .slice B' m' f'] 25)).alloc (.cells #[.bool false, .slice none 0 0, .slice none 0 0] 25)) = W at *
 all_goals
  have hgx : w.heap.size < W.drew.heap.size := hrx.lt
  have hgy : w.heap.size + 1 < W.drew.heap.size := hry.lt
  have hgr : w.heap.size + 1 + 1 < W.drew.heap.size := hrr.lt
  replace hrx := hrx.drew
  replace hry := hry.drew
  replace hrr := hrr.drew
  replace hTW := hTW.drew
  replace hxW := hxW.drew
  replace hyW := hyW.drew
  replace hxW' := hxW'.drew
  replace hyW' := hyW'.drew
  replace hbA := hbA.drew
  have hsx := hrx.cells
  have hsy := hry.cells
  go_region_held3 (fun w' => (w'.cell? ⟨w.heap.size, 0, none⟩ = some (.bool nx) /\ w'.cell? ⟨w.heap.size, 1, none⟩ = some (.slice A n c) /\ w'.cell? ⟨w.heap.size, 2, none⟩ = some (.slice A' n' c')) /\ (w'.cell? ⟨w.heap.size + 1, 0, none⟩ = some (.bool ny) /\ w'.cell? ⟨w.heap.size + 1, 1, none⟩ = some (.slice B m f) /\ w'.cell? ⟨w.heap.size + 1, 2, none⟩ = some (.slice B' m' f')))
   (exact ⟨hsx, hsy⟩)
   (first
    | (have _g := hb1; go_at_call 102; refine (denominator_any ny B B' m f m' f' d _ (hyW'.below hb1) HD.out).mono ?_; rintro e w2 ⟨A2, n2, c2, rfl, h2, hb2⟩; have hb12 := hb1.trans (hb2.mono hb1.size); have hsx := (hrx.below hb12 hgx).cells; have hsy := (hry.below hb12 hgy).cells)
    | (go_at_call 102; refine (denominator_any nx A A' n c n' c' b _ hxW' HB.out).mono ?_; rintro e w1 ⟨A1, n1, c1, rfl, h1, hb1⟩; have hsx := (hrx.below hb1 hgx).cells; have hsy := (hry.below hb1 hgy).cells))
  have hl1 : n1 <= 1000001 := by have := dl_len hx'; have := h1.len; omega
  have hl2 : n2 <= 1000001 := by have := dl_len hy'; have := h2.len; omega
  go_wp2_with fail
  refine (divisor_any _ _ _ _ _ _ b d _ (hTW.below hb12) (h1.below hb2) h2 (by omega) (by omega)).mono ?_
  rintro e w3 ⟨A3, n3, c3, rfl, h3, hb3⟩
  have hb13 := hb12.trans (hb3.mono hb12.size)
  have hl3 : n3 <= 1000001 := by
   have := length_mono (Nat.le_of_dvd (Nat.pos_of_ne_zero HD.out) (Nat.gcd_dvd_right b d)); have := h3.len; have := h2.len; omega
  obtain ⟨G, hG⟩ : ∃ G, Nat.gcd b d = G := ⟨_, rfl⟩
  have HG0 : Hid (G ≠ 0) := by
   show _ ≠ _
   rw [<- hG]; exact fun h => HD.out (Nat.eq_zero_of_gcd_eq_zero_right h)
  rw [hG] at h3
  have HG := Lib.hid hG; clear hG
  go_wp2_with fail
  refine (part_any _ _ _ _ _ _ b G _ (h1.below (hb2.trans (hb3.mono hb2.size))) h3.num (by omega) (by omega) HG0.out).mono ?_
  rintro e w4 ⟨A4, n4, c4, rfl, h4, hb4⟩
  have hb14 := hb13.trans (hb4.mono hb13.size)
  go_wp2_with fail
  refine (part_any _ _ _ _ _ _ d G _ (h2.below (hb3.trans (hb4.mono hb3.size))) (h3.num.below hb4) (by omega) (by omega) HG0.out).mono ?_
  rintro e w5 ⟨A5, n5, c5, rfl, h5, hb5⟩
  have hb15 := hb14.trans (hb5.mono hb14.size)
  have hl4 : n4 <= 1000001 := by have := length_mono (Nat.div_le_self b G); have := h4.len; have := h1.len; omega
  have hl5 : n5 <= 1000001 := by have := length_mono (Nat.div_le_self d G); have := h5.len; have := h2.len; omega
  obtain ⟨b', hb'⟩ : ∃ x, b / G = x := ⟨_, rfl⟩
  obtain ⟨d', hd'⟩ : ∃ x, d / G = x := ⟨_, rfl⟩
  rw [hb'] at h4
  rw [hd'] at h5
  have HB' := Lib.hid hb'; clear hb'
  have HD' := Lib.hid hd'; clear hd'
  have hb15d := hb15.drew
  have hsx := (hrx.below hb15d hgx).cells
  have hsy := (hry.below hb15d hgy).cells
  have h3d := (h3.num.below (hb4.trans (hb5.mono hb4.size))).drew
  have h4d := (h4.below hb5).drew
  have h5d := h5.drew
  go_wp2_with fail
  go_region_held3 (fun w' => (w'.cell? ⟨w.heap.size, 0, none⟩ = some (.bool nx) /\ w'.cell? ⟨w.heap.size, 1, none⟩ = some (.slice A n c) /\ w'.cell? ⟨w.heap.size, 2, none⟩ = some (.slice A' n' c')) /\ (w'.cell? ⟨w.heap.size + 1, 0, none⟩ = some (.bool ny) /\ w'.cell? ⟨w.heap.size + 1, 1, none⟩ = some (.slice B m f) /\ w'.cell? ⟨w.heap.size + 1, 2, none⟩ = some (.slice B' m' f')))
   (exact ⟨hsx, hsy⟩)
   (first
    | (go_at_call 134; refine (balanced_any nx ny _ _ _ _ _ _ (a * d') (g * b') _ (h6.num.below hb7) h7.num ?_ ?_).mono ?_; (have := length_mul a d'; have := h6.len; have := hx.len; have := h5.len; omega); (have := length_mul g b'; have := h7.len; have := hy.len; have := h4.len; omega); rintro e w8 ⟨z, t, A8, n8, c8, rfl, hV, h8, hb8⟩; have hb18 := hb17.trans (hb8.mono hb17.size); have hsx := (hrx.below hb18 hgx).cells; have hsy := (hry.below hb18 hgy).cells)
    | (have _g := hb6; go_at_call 107; refine (product_any _ _ _ _ _ _ g b' _ ((hyW.below hb15d).below hb6) (h4d.below hb6) (by omega) (by omega)).mono ?_; rintro e w7 ⟨A7, n7, c7, rfl, h7, hb7⟩; have hb17 := hb16.trans (hb7.mono hb16.size); have hsx := (hrx.below hb17 hgx).cells; have hsy := (hry.below hb17 hgy).cells)
    | (go_at_call 107; refine (product_any _ _ _ _ _ _ a d' _ (hxW.below hb15d) h5d (by omega) (by omega)).mono ?_; rintro e w6 ⟨A6, n6, c6, rfl, h6, hb6⟩; have hb16 := hb15d.trans (hb6.mono hb15d.size); have hsx := (hrx.below hb16 hgx).cells; have hsy := (hry.below hb16 hgy).cells))
  have hl8 : n8 <= 4000005 := by
   have := length_sgn (z := z) hV
   have := length_mul a d'; have := length_mul g b'
   have := h8.len; have := hx.len; have := hy.len; have := h4.len; have := h5.len
   omega
  have HS : Hid (qv z (t / Nat.gcd t G) (b' * d' * (G / Nat.gcd t G)) = q /\ b' * d' * (G / Nat.gcd t G) ≠ 0 /\ Nat.gcd (t / Nat.gcd t G) (b' * d' * (G / Nat.gcd t G)) = 1) := by
   have := qv_add (x := nx) (y := ny) (t := t) (z := z) HB.out HD.out HG1.out HG2.out HG.out (by rw [HB'.out, HD'.out]; exact hV)
   rw [HB'.out, HD'.out, HQ.out] at this
   exact this
  clear hV
  have hb78 := (hb6.trans (hb7.mono hb6.size)).trans (hb8.mono (hb6.trans (hb7.mono hb6.size)).size)
  go_wp2_with fail
  refine (cancel_any _ _ _ _ _ _ t G _ (hTW.below hb18) h8 (h3d.below hb78) (by omega) (by omega) (fun h => HG0.out h.2)).mono ?_
  rintro e w9 ⟨A9, n9, c9, A10, n10, c10, rfl, h9, h10, hb9⟩
  have hb19 := hb18.trans (hb9.mono hb18.size)
  have hl9 : n9 <= 4000005 := by have := length_mono (Nat.div_le_self t (Nat.gcd t G)); have := h9.len; have := h8.len; omega
  have hl10 : n10 <= 1000001 := by have := length_mono (Nat.div_le_self G (Nat.gcd t G)); have := h10.len; have := h3.num.len; omega
  obtain ⟨t', ht'⟩ : ∃ x, t / Nat.gcd t G = x := ⟨_, rfl⟩
  obtain ⟨G', hG'⟩ : ∃ x, G / Nat.gcd t G = x := ⟨_, rfl⟩
  rw [ht'] at h9
  rw [hG'] at h10
  simp only [ht', hG'] at HS
  clear ht' hG'
  go_wp2_with fail
  refine (product_any _ _ _ _ _ _ b' d' _ (h4d.below (hb78.trans (hb9.mono hb78.size))) (h5d.below (hb78.trans (hb9.mono hb78.size))) (by omega) (by omega)).mono ?_
  rintro e w10 ⟨A11, n11, c11, rfl, h11, hb10⟩
  have hb110 := hb19.trans (hb10.mono hb19.size)
  have hl11 : n11 <= 2000002 := by have := length_mul b' d'; have := h11.len; have := h4.len; have := h5.len; omega
  go_wp2_with fail
  refine (product_any _ _ _ _ _ _ (b' * d') G' _ h11.num (h10.below hb10) (by omega) (by omega)).mono ?_
  rintro e w11 ⟨A12, n12, c12, rfl, h12, hb11⟩
  have hb111 := hb110.trans (hb11.mono hb110.size)
  have hl12 : n12 <= 3000003 := by have := length_mul (b' * d') G'; have := h12.len; have := h11.len; have := h10.len; omega
  go_wp2_with fail
  refine (fraction_any z _ _ _ _ _ _ t' (b' * d' * G') _ _ (h9.below (hb10.trans (hb11.mono hb10.size))) h12.num (by omega) (by omega) (.inl rfl)).mono ?_
  rintro e w12 hr
  obtain ⟨v, rfl, ⟨A13, n13, c13, A14, n14, c14, rfl, g1, g2⟩, hb12'⟩ := RetFrac.rat HS.out.2.1 HS.out.2.2 HS.out.1 hr
  have hb112 := hb111.trans (hb12'.mono hb111.size)
  have hrr9 := hrr.below hb112 hgr
  obtain ⟨nb, hnb⟩ : ∃ nb, (decide (q.num < 0)) = nb := ⟨_, rfl⟩
  rw [hnb]
  have HNB := Lib.hid hnb; clear hnb
  have hne1 := g1.ne_rc hrr9
  have hne2 := g2.ne_rc hrr9
  obtain ⟨r0, r1, r2⟩ := hrr9.cells
  obtain ⟨f0, f1, f2⟩ := hrr9.frozen
  go_wp2_with fail
  refine ret_rc Tryz.results103 rfl (hrr9.set _ _ _) rfl ?_
  exact ⟨_, rfl, ⟨A13, n13, c13, A14, n14, c14, by rw [HNB.out], g1.set3 hne1 _ _ _, g2.set3 hne2 _ _ _⟩, below_set3 (hbA.trans (hb112.mono hbA.size)) (by omega) _ _ _⟩
def dv (ld : List Nat) : Nat := if ld = [] then 1 else val ld
def fq (neg : Bool) (ln ld : List Nat) : Rat := if vld neg ln ld then qv neg (val ln) (dv ld) else 0
theorem vld_true {neg : Bool} {ln ld : List Nat} (hl : Lim ln) (hl' : Lim ld) (h : vld neg ln ld = true) :
 ln = limbs (val ln) /\ ld = dl (dv ld) /\ dv ld ≠ 0 /\ Nat.gcd (val ln) (dv ld) = 1 /\ (neg && decide (val ln ≠ 0)) = neg := by
 unfold vld at h
 split at h
 ·cases h
 ·next hp =>
  split at h
  ·cases h
  ·next hp' =>
   split at h
   ·cases h
   ·next h1 =>
    have e1 := canon_of_pad hl (by simpa using hp)
    have e2 := canon_of_pad hl' (by simpa using hp')
    have hden : ld = dl (dv ld) /\ dv ld ≠ 0 := by
     unfold dv
     by_cases hn : ld = []
     ·rw [if_pos hn, hn]; exact ⟨rfl, by decide⟩
     ·rw [if_neg hn]
      have hne : val ld ≠ 0 := fun h0 => hn (by rw [e2, h0, limbs_zero])
      have hne1 : val ld ≠ 1 := fun h0 => h1 (by rw [e2, h0, limbs_one])
      exact ⟨by rw [dl_ne hne1]; exact e2, hne⟩
    refine ⟨e1, hden.1, hden.2, ?_⟩
    split at h
    ·next hn =>
     simp only [Bool.and_eq_true, decide_eq_true_eq, Bool.not_eq_true'] at h
     have hv : val ln = 0 := by rw [hn]; rfl
     have hd : dv ld = 1 := by unfold dv; rw [if_pos h.1]
     rw [hv, hd, h.2]
     exact ⟨rfl, rfl⟩
    ·next hn =>
     have hv : val ln ≠ 0 := fun h0 => hn (by rw [e1, h0, limbs_zero])
     refine ⟨?_, by simp [hv]⟩
     simp only [Bool.or_eq_true, decide_eq_true_eq, beq_iff_eq] at h
     unfold dv
     rcases h with h | h
     ·rw [if_pos h, Nat.gcd_one_right]
     ·split
      ·rw [Nat.gcd_one_right]
      ·exact h
theorem ratq_zero (w : World) : RatQ w (.agg #[.bool false, .slice none 0 0, .slice none 0 0]) 0 :=
 ⟨none, 0, 0, none, 0, 0, rfl, by rw [show (0 : Rat).num.natAbs = 0 from rfl, limbs_zero]; exact Num.nil _ _ _, by rw [show (0 : Rat).den = 1 from rfl, dl_one]; exact Num.nil _ _ _⟩
theorem ratq_of {w : World} {neg : Bool} {A A' : Option Addr} {n c m c' : Nat} {ln ld : List Nat} (h : vld neg ln ld = true) (hx : Num w ln A n c) (hy : Num w ld A' m c') : RatQ w (.agg #[.bool neg, .slice A n c, .slice A' m c']) (fq neg ln ld) := by
 obtain ⟨e1, e2, e3, e4, e5⟩ := vld_true hx.lim hy.lim h
 unfold fq
 rw [if_pos h]
 unfold RatQ
 rw [(qv_low e3 e4).1, (qv_low e3 e4).2, sgn_abs, sgn_neg, e5]
 exact ⟨A, n, c, A', m, c', rfl, by rw [<- e1]; exact hx, by rw [<- e2]; exact hy⟩
theorem RatQ.below {w w' : World} {v : Value} {q : Rat} (h : RatQ w v q) (hb : Below w.heap.size w w') : RatQ w' v q := by
 obtain ⟨A, n, c, A', m, c', e, h1, h2⟩ := h
 exact ⟨A, n, c, A', m, c', e, h1.below hb, h2.below hb⟩
theorem clean_any (neg : Bool) (A A' : Option Addr) (n c m c' : Nat) (ln ld : List Nat) (q : Rat) (w : World) (hT : Tab w) (hx : Num w ln A n c) (hy : Num w ld A' m c') (hn : n <= 8388608) (hm : m <= 8388608) (hq : fq neg ln ld = q) :
 Calls Tryz.prog 93 #[.agg #[.bool neg, .slice A n c, .slice A' m c']] w (RetRat w q) := by
 obtain ⟨V, hV⟩ : ∃ V, vld neg ln ld = V := ⟨_, rfl⟩
 have HV := Lib.hid hV
 have HQ := Lib.hid hq
 clear hV hq
 have hbA : Below w.heap.size w ((w.alloc (.cells #[.bool neg, .slice A n c, .slice A' m c'] 25)).alloc (.cells #[.bool false, .slice none 0 0, .slice none 0 0] 25)) := ((Below.refl _ _).alloc (Nat.le_refl _) _).alloc (by simp) _
 have hrx : Rc ((w.alloc (.cells #[.bool neg, .slice A n c, .slice A' m c'] 25)).alloc (.cells #[.bool false, .slice none 0 0, .slice none 0 0] 25)) w.heap.size (.bool neg) (.slice A n c) (.slice A' m c') := (Rc.new w _ _ _).alloc _
 have hrr : Rc ((w.alloc (.cells #[.bool neg, .slice A n c, .slice A' m c'] 25)).alloc (.cells #[.bool false, .slice none 0 0, .slice none 0 0] 25)) (w.heap.size + 1) (.bool false) (.slice none 0 0) (.slice none 0 0) := by
  have := Rc.new (w.alloc (.cells #[.bool neg, .slice A n c, .slice A' m c'] 25)) (.bool false) (.slice none 0 0) (.slice none 0 0)
  rwa [World.size_alloc] at this
 have hTW := hT.below hbA
 have hxW := hx.below hbA
 have hyW := hy.below hbA
 go_enter Tryz.func93, Tryz.ntmps93
 go_wp2_with fail
 generalize ((w.alloc (.cells #[.bool neg, .slice A n c, .slice A' m c'] 25)).alloc (.cells #[.bool false, .slice none 0 0, .slice none 0 0] 25)) = W at *
 refine (valid_any neg _ _ _ _ _ _ ln ld _ V hTW hxW hyW hn hm HV).mono ?_
 rintro e w1 ⟨rfl, hb1⟩
 have hrx1 := hrx.below hb1 hrx.lt
 have hrr1 := hrr.below hb1 hrr.lt
 have hx1 := hxW.below hb1
 have hy1 := hyW.below hb1
 have hne1 := hx1.ne_rc hrr1
 have hne2 := hy1.ne_rc hrr1
 obtain ⟨k0, k1, k2⟩ := hrx1.cells
 obtain ⟨r0, r1, r2⟩ := hrr1.cells
 obtain ⟨f0, f1, f2⟩ := hrr1.frozen
 have hb01 := hbA.trans (hb1.mono hbA.size)
 cases V
 ·have hq0 : q = 0 := by rw [<- HQ.out]; unfold fq; rw [HV.out]; rfl
  subst hq0
  go_wp2_with fail
  refine ret_rc Tryz.results93 rfl (hrr1.set _ _ _) rfl ?_
  exact ⟨_, rfl, ratq_zero _, below_set3 hb01 (by omega) _ _ _⟩
 ·go_wp2_with fail
  refine ret_rc Tryz.results93 rfl (hrr1.set _ _ _) rfl ?_
  refine ⟨_, rfl, ?_, below_set3 hb01 (by omega) _ _ _⟩
  rw [<- HQ.out]
  exact ratq_of HV.out (hx1.set3 hne1 _ _ _) (hy1.set3 hne2 _ _ _)
def Sz (q : Rat) (L : Nat) : Prop := (limbs q.num.natAbs).length <= L /\ (limbs q.den).length <= L
theorem Sz.mono {q : Rat} {L M : Nat} (h : Sz q L) (hm : L <= M) : Sz q M := ⟨Nat.le_trans h.1 hm, Nat.le_trans h.2 hm⟩
theorem dl_length (d : Nat) : (dl d).length <= (limbs d).length := by
 unfold dl
 split
 ·simp
 ·exact Nat.le_refl _
def Inp (w : World) (v : Value) (q : Rat) (L : Nat) : Prop :=
 ∃ neg A n c A' m c' ln ld, v = .agg #[.bool neg, .slice A n c, .slice A' m c'] /\ Num w ln A n c /\ Num w ld A' m c' /\ n <= 8388608 /\ m <= 8388608 /\ fq neg ln ld = q /\ Sz q L
theorem vld_canon {q : Rat} : vld (decide (q.num < 0)) (limbs q.num.natAbs) (dl q.den) = true := by
 have hp : ∀ a, pad (limbs a) = false := fun a => by
  unfold pad
  simp only [decide_eq_false_iff_not, not_and]
  intro h
  obtain ⟨k, hk⟩ : ∃ k, (limbs a).length = k + 1 := ⟨_, (Nat.succ_pred_eq_of_pos h).symm⟩
  rw [hk, Nat.add_sub_cancel]
  exact limbs_last hk
 have hpd : ∀ a, pad (dl a) = false := fun a => by
  unfold dl; split
  ·rfl
  ·exact hp a
 unfold vld
 rw [hp, hpd, if_neg (by decide), if_neg (by decide), if_neg]
 ·split
  ·next h =>
   have h0 := limbs_nil.1 h
   have hg : q.den = 1 := by
    have := q.reduced
    rw [h0] at this
    simpa using this
   have hn : ¬ q.num < 0 := by omega
   rw [hg]
   simp [dl_one, hn]
  ·by_cases hd : q.den = 1
   ·rw [hd]; simp [dl_one]
   ·rw [dl_ne hd, val_limbs, val_limbs]
    have : Nat.gcd q.num.natAbs q.den = 1 := q.reduced
    simp [this]
 ·intro h
  unfold dl at h
  split at h
  ·cases h
  ·next h1 => exact h1 (limbs_eq_one.1 h)
theorem fq_canon (q : Rat) : fq (decide (q.num < 0)) (limbs q.num.natAbs) (dl q.den) = q := by
 unfold fq
 rw [if_pos vld_canon, val_limbs]
 have hd : dv (dl q.den) = q.den := by
  unfold dv dl
  by_cases h : q.den = 1
  ·simp [h]
  ·rw [if_neg h, if_neg, val_limbs]
   intro h0
   exact q.den_nz (limbs_nil.1 h0)
 rw [hd]
 exact qv_self q
theorem RatQ.inp {w : World} {v : Value} {q : Rat} {L : Nat} (h : RatQ w v q) (hs : Sz q L) (hL : L <= 8388608) : Inp w v q L := by
 obtain ⟨A, n, c, A', m, c', e, h1, h2⟩ := h
 have l1 := h1.len
 have l2 := h2.len
 have l3 := dl_length q.den
 exact ⟨_, A, n, c, A', m, c', _, _, e, h1, h2, by have := hs.1; omega, by have := hs.2; omega, fq_canon q, hs⟩
theorem Inp.below {w w' : World} {v : Value} {q : Rat} {L : Nat} (h : Inp w v q L) (hb : Below w.heap.size w w') : Inp w' v q L := by
 obtain ⟨neg, A, n, c, A', m, c', ln, ld, e, h1, h2, h3⟩ := h
 exact ⟨neg, A, n, c, A', m, c', ln, ld, e, h1.below hb, h2.below hb, h3⟩
abbrev R0 : Obj := .cells #[.bool false, .slice none 0 0, .slice none 0 0] 25
abbrev R1 (z0 z1 z2 : Value) : Obj := .cells #[z0, z1, z2] 25
theorem blocks2 (w : World) (z0 z1 z2 u0 u1 u2 : Value) :
 Below w.heap.size w ((w.alloc (R1 z0 z1 z2)).alloc (R1 u0 u1 u2)) /\ Rc ((w.alloc (R1 z0 z1 z2)).alloc (R1 u0 u1 u2)) w.heap.size z0 z1 z2 /\ Rc ((w.alloc (R1 z0 z1 z2)).alloc (R1 u0 u1 u2)) (w.heap.size + 1) u0 u1 u2 := by
 refine ⟨((Below.refl _ _).alloc (Nat.le_refl _) _).alloc (by simp) _, (Rc.new w _ _ _).alloc _, ?_⟩
 have := Rc.new (w.alloc (R1 z0 z1 z2)) u0 u1 u2
 rwa [World.size_alloc] at this
theorem blocks3 (w : World) (z0 z1 z2 y0 y1 y2 u0 u1 u2 : Value) :
 Below w.heap.size w (((w.alloc (R1 z0 z1 z2)).alloc (R1 y0 y1 y2)).alloc (R1 u0 u1 u2)) /\ Rc (((w.alloc (R1 z0 z1 z2)).alloc (R1 y0 y1 y2)).alloc (R1 u0 u1 u2)) w.heap.size z0 z1 z2 /\
 Rc (((w.alloc (R1 z0 z1 z2)).alloc (R1 y0 y1 y2)).alloc (R1 u0 u1 u2)) (w.heap.size + 1) y0 y1 y2 /\ Rc (((w.alloc (R1 z0 z1 z2)).alloc (R1 y0 y1 y2)).alloc (R1 u0 u1 u2)) (w.heap.size + 1 + 1) u0 u1 u2 := by
 obtain ⟨h1, h2, h3⟩ := blocks2 w z0 z1 z2 y0 y1 y2
 refine ⟨h1.alloc (by simp; omega) _, h2.alloc _, h3.alloc _, ?_⟩
 have := Rc.new ((w.alloc (R1 z0 z1 z2)).alloc (R1 y0 y1 y2)) u0 u1 u2
 rwa [World.size_alloc, World.size_alloc] at this
theorem dl_or (d : Nat) : dl d = limbs d \/ (dl d = [] /\ d = 1) := by
 unfold dl
 split
 ·next h => exact .inr ⟨rfl, h⟩
 ·exact .inl rfl
theorem add_any (nx ny : Bool) (v v' : Value) (a b g d : Nat) (q : Rat) (w : World) (hT : Tab w) (hx : RatN w v nx a b) (hy : RatN w v' ny g d)
 (ha : (limbs a).length <= 1000000) (hb' : (limbs b).length <= 1000000) (hg : (limbs g).length <= 1000000) (hd' : (limbs d).length <= 1000000) (hb : b ≠ 0) (hd : d ≠ 0) (hg1 : Nat.gcd a b = 1) (hg2 : Nat.gcd g d = 1) (hq : qv nx a b + qv ny g d = q) :
 Calls Tryz.prog 103 #[v, v'] w (RetRat w q) := by
 obtain ⟨A, n, c, A', n', c', rfl, h1, h2⟩ := hx
 obtain ⟨B, m, f, B', m', f', rfl, h3, h4⟩ := hy
 have l1 := h1.len
 have l2 := h2.len
 have l3 := h3.len
 have l4 := h4.len
 have l5 := dl_length b
 have l6 := dl_length d
 by_cases h0 : n' = 0 /\ m' = 0
 ·have e1 := (dl_zero h2 hb).1 h0.1
  have e2 := (dl_zero h4 hd).1 h0.2
  rw [h0.1, h0.2]
  exact add_whole nx ny A A' B B' n c c' m f f' a g q w h1 h3 (by omega) (by omega) (by rw [e1, e2] at hq; exact hq)
 ·exact add_parts nx ny A A' B B' n c n' c' m f m' f' a b g d q w hT h1 h2 h3 h4 (by omega) (by omega) (by omega) (by omega) hb hd hg1 hg2 h0 hq
theorem add_q (v v' : Value) (x y : Rat) (w : World) (hT : Tab w) (hx : RatQ w v x) (hy : RatQ w v' y) (sx : Sz x 1000000) (sy : Sz y 1000000) :
 Calls Tryz.prog 103 #[v, v'] w (RetRat w (x + y)) :=
 add_any _ _ v v' _ _ _ _ _ w hT hx hy sx.1 sx.2 sy.1 sy.2 x.den_nz y.den_nz x.reduced y.reduced (by rw [qv_self, qv_self])
theorem sign_fields (neg : Bool) (A A' : Option Addr) (n c m c' : Nat) (w : World) (V : Int) (H : Hid ((if neg then -1 else if n = 0 then 0 else 1) = V)) :
 Calls Tryz.prog 92 #[.agg #[.bool neg, .slice A n c, .slice A' m c']] w (RetV w (.int .i64 V)) := by
 have hbA : ∀ o, Below w.heap.size w (w.alloc o) := fun o => (Below.refl _ _).alloc (Nat.le_refl _) _
 by_cases h0 : n = 0
 ·have hd1 : ((n : Int) == 0) = true := by simp; omega
  cases neg
  all_goals
   go_enter Tryz.func92, Tryz.ntmps92
   go_wp2_with fail
   go_ret
   exact ⟨ret_int (by rw [<- H.out]; simp [h0]), hbA _⟩
 ·have hd1 : ((n : Int) == 0) = false := by simp; omega
  cases neg
  all_goals
   go_enter Tryz.func92, Tryz.ntmps92
   go_wp2_with fail
   go_ret
   exact ⟨ret_int (by rw [<- H.out]; simp [h0]), hbA _⟩
theorem sign_q (v : Value) (x : Rat) (w : World) (hx : RatQ w v x) : Calls Tryz.prog 92 #[v] w (RetV w (.int .i64 x.num.sign)) := by
 obtain ⟨A, n, c, A', n', c', rfl, h1, h2⟩ := hx
 refine sign_fields _ _ _ _ _ _ _ _ _ ?_
 show _ = _
 have l1 := h1.len
 by_cases h : x.num < 0
 ·simp [h, Int.sign_eq_neg_one_of_neg h]
 ·have : n = 0 ↔ x.num = 0 := by rw [l1, limbs_length_zero]; omega
  by_cases h0 : x.num = 0
  ·simp [h0, this.2 h0]
  ·have hp : 0 < x.num := by omega
   simp [h, Int.sign_eq_one_of_pos hp, this, h0]
theorem signed_any (neg neg' : Bool) (v : Value) (a d : Nat) (q : Rat) (w : World) (hx : RatN w v neg' a d) (ha : (limbs a).length <= 4000000) (hd' : (limbs d).length <= 4000000) (hd : d ≠ 0) (hg : Nat.gcd a d = 1) (hq : qv neg a d = q) :
 Calls Tryz.prog 108 #[.bool neg, v] w (RetRat w q) := by
 obtain ⟨A, n, c, A', m, c', rfl, h1, h2⟩ := hx
 have hn : n <= 4000000 := by have := h1.len; omega
 have hm : m <= 4000000 := by have := h2.len; have := dl_length d; omega
 have HD := Lib.hid hd
 have HG := Lib.hid hg
 have HQ := Lib.hid hq
 clear hd hg hq ha hd'
 obtain ⟨hbA, hrx, hrr⟩ := blocks2 w (.bool neg') (.slice A n c) (.slice A' m c') (.bool false) (.slice none 0 0) (.slice none 0 0)
 have hxW := h1.below hbA
 have hyW := h2.below hbA
 go_enter Tryz.func108, Tryz.ntmps108
 go_wp2_with fail
 generalize ((w.alloc (R1 (.bool neg') (.slice A n c) (.slice A' m c'))).alloc (R1 (.bool false) (.slice none 0 0) (.slice none 0 0))) = W at *
 have hgx : w.heap.size < W.drew.heap.size := hrx.lt
 have hgr : w.heap.size + 1 < W.drew.heap.size := hrr.lt
 replace hrx := hrx.drew
 replace hrr := hrr.drew
 replace hxW := hxW.drew
 replace hyW := hyW.drew
 replace hbA := hbA.drew
 have hs := hrx.cells
 go_region_held3 (fun w' => w'.cell? ⟨w.heap.size, 0, none⟩ = some (.bool neg') /\ w'.cell? ⟨w.heap.size, 1, none⟩ = some (.slice A n c) /\ w'.cell? ⟨w.heap.size, 2, none⟩ = some (.slice A' m c'))
  (first | exact hs | exact ⟨cell_set3 (Nat.ne_of_lt (Nat.lt_succ_self _)) hs.1, cell_set3 (Nat.ne_of_lt (Nat.lt_succ_self _)) hs.2.1, cell_set3 (Nat.ne_of_lt (Nat.lt_succ_self _)) hs.2.2⟩)
  (first
   | (go_at_call 132; refine (fraction_any neg _ _ _ _ _ _ a d (dl d) _ (g1.num.below hb2) g2.num ?_ ?_ ?_).mono ?_; (have := g1.len; have := h1.len; omega); (have := g2.len; have := h2.len; omega); exact dl_or d; rintro e w3 hr; obtain ⟨v, rfl, ⟨A9, n9, c9, B9, m9, e9, rfl, g3, g4⟩, hb3⟩ := RetFrac.rat HD.out HG.out HQ.out hr; have hb13 := hb12.trans (hb3.mono hb12.size); have hs := (hrx.below hb13 hgx).cells; have hrr9 := hrr.below hb13 hgr; obtain ⟨nb, hnb⟩ : ∃ nb, (decide (q.num < 0)) = nb := ⟨_, rfl⟩; rw [hnb]; have HNB := Lib.hid hnb; clear hnb; have hne1 := g3.ne_rc hrr9; have hne2 := g4.ne_rc hrr9; obtain ⟨r0, r1, r2⟩ := hrr9.cells; obtain ⟨f0, f1, f2⟩ := hrr9.frozen)
   | (have _g := hb1; go_at_call 61; refine (clone_l _ _ _ (dl d) _ (hyW.below hb1) (by omega)).mono ?_; rintro e w2 ⟨A2, n2, c2, rfl, g2, hb2⟩; have hb12 := hb1.trans (hb2.mono hb1.size); have hs := (hrx.below hb12 hgx).cells)
   | (go_at_call 61; refine (clone_l _ _ _ (limbs a) _ hxW (by omega)).mono ?_; rintro e w1 ⟨A1, n1, c1, rfl, g1, hb1⟩; have hs := (hrx.below hb1 hgx).cells))
 go_wp2_with fail
 refine ret_rc Tryz.results108 rfl (hrr9.set _ _ _) rfl ?_
 exact ⟨_, rfl, ⟨A9, n9, c9, B9, m9, e9, by rw [HNB.out], g3.set3 hne1 _ _ _, g4.set3 hne2 _ _ _⟩, below_set3 (hbA.trans (hb13.mono hbA.size)) (Nat.le_succ _) _ _ _⟩
theorem clean_i (v : Value) (q : Rat) (L : Nat) (w : World) (hT : Tab w) (h : Inp w v q L) : Calls Tryz.prog 93 #[v] w (RetRat w q) := by
 obtain ⟨neg, A, n, c, A', m, c', ln, ld, rfl, h1, h2, h3, h4, h5, _⟩ := h
 exact clean_any neg A A' n c m c' ln ld q w hT h1 h2 h3 h4 h5
theorem Inp.agg {w : World} {v : Value} {q : Rat} {L : Nat} (h : Inp w v q L) : ∃ nb A n c B m e, v = .agg #[.bool nb, .slice A n c, .slice B m e] := by
 obtain ⟨neg, A, n, c, A', m, c', ln, ld, e, _⟩ := h
 exact ⟨_, _, _, _, _, _, _, e⟩
theorem RatQ.agg {w : World} {v : Value} {q : Rat} (h : RatQ w v q) : ∃ nb A n c B m e, v = .agg #[.bool nb, .slice A n c, .slice B m e] := by
 obtain ⟨A, n, c, A', m, c', e, _⟩ := h
 exact ⟨_, _, _, _, _, _, _, e⟩
theorem RatQ.parts {w : World} {nb : Bool} {A B : Option Addr} {n c m e : Nat} {q : Rat} (h : RatQ w (.agg #[.bool nb, .slice A n c, .slice B m e]) q) : nb = decide (q.num < 0) /\ Num w (limbs q.num.natAbs) A n c /\ Num w (dl q.den) B m e := by
 obtain ⟨A1, n1, c1, A2, m2, c2, e, h1, h2⟩ := h
 injection e with e
 injection e with e
 injection e with e1 e
 injection e with e2 e
 injection e with e3 e
 injection e1 with e1
 injection e2 with e21 e22 e23
 injection e3 with e31 e32 e33
 subst e21 e22 e23 e31 e32 e33
 exact ⟨e1, h1, h2⟩
theorem RatQ.set3 {w : World} {v : Value} {q : Rat} (h : RatQ w v q) {g : Nat} {x : Bool} {B1 B2 : Option Addr} {n1 c1 n2 c2 : Nat} (hr : Rc w g (.bool x) (.slice B1 n1 c1) (.slice B2 n2 c2)) (u0 u1 u2 : Value) : RatQ (((w.setCell ⟨g, 0, none⟩ u0).setCell ⟨g, 1, none⟩ u1).setCell ⟨g, 2, none⟩ u2) v q := by
 obtain ⟨A, n, c, A', m, c', e, h1, h2⟩ := h
 exact ⟨A, n, c, A', m, c', e, h1.set3 (h1.ne_rc hr) _ _ _, h2.set3 (h2.ne_rc hr) _ _ _⟩
theorem Rc.far3 {w : World} {g g' : Nat} {z0 z1 z2 : Value} (h : Rc w g z0 z1 z2) (hne : g ≠ g') (u0 u1 u2 : Value) : Rc (((w.setCell ⟨g', 0, none⟩ u0).setCell ⟨g', 1, none⟩ u1).setCell ⟨g', 2, none⟩ u2) g z0 z1 z2 :=
 ((h.far (p := ⟨g', 0, none⟩) hne _).far (p := ⟨g', 1, none⟩) hne _).far (p := ⟨g', 2, none⟩) hne _
theorem size_set3 (w : World) (g : Nat) (u0 u1 u2 : Value) : (((w.setCell ⟨g, 0, none⟩ u0).setCell ⟨g, 1, none⟩ u1).setCell ⟨g, 2, none⟩ u2).heap.size = w.heap.size := by simp
theorem Sign_any (v : Value) (q : Rat) (L : Nat) (w : World) (hT : Tab w) (h : Inp w v q L) : Calls Tryz.prog 47 #[v] w (RetV w (.int .i64 q.num.sign)) := by
 obtain ⟨z0, Z, zn, zc, Z', zm, ze, rfl⟩ := h.agg
 have hbA : Below w.heap.size w (w.alloc (R1 (.bool z0) (.slice Z zn zc) (.slice Z' zm ze))) := (Below.refl _ _).alloc (Nat.le_refl _) _
 have hrx := Rc.new w (.bool z0) (.slice Z zn zc) (.slice Z' zm ze)
 go_enter Tryz.func47, Tryz.ntmps47
 go_wp2_with fail
 refine (clean_i _ q L _ (hT.below hbA) (h.below hbA)).mono ?_
 rintro e w1 ⟨v1, rfl, h1, hb1⟩
 go_wp2_with fail
 refine (sign_q _ q _ h1).mono ?_
 rintro e w2 ⟨rfl, hb2⟩
 go_wp2_with fail
 go_ret
 exact ⟨rfl, hbA.trans ((hb1.trans (hb2.mono hb1.size)).mono hbA.size)⟩
theorem Abs_any (v : Value) (q r : Rat) (L : Nat) (w : World) (hT : Tab w) (h : Inp w v q L) (hS : Sz q 4000000) (hr : qv false q.num.natAbs q.den = r) : Calls Tryz.prog 67 #[v] w (RetRat w r) := by
 obtain ⟨z0, Z, zn, zc, Z', zm, ze, rfl⟩ := h.agg
 obtain ⟨hbA, hrx, hrr⟩ := blocks2 w (.bool z0) (.slice Z zn zc) (.slice Z' zm ze) (.bool false) (.slice none 0 0) (.slice none 0 0)
 have HR := Lib.hid hr; clear hr
 go_enter Tryz.func67, Tryz.ntmps67
 go_wp2_with fail
 refine (clean_i _ q L _ (hT.below hbA) (h.below hbA)).mono ?_
 rintro e w1 ⟨v1, rfl, h1, hb1⟩
 go_wp2_with fail
 refine (signed_any false _ _ _ _ r _ h1 hS.1 hS.2 q.den_nz q.reduced HR.out).mono ?_
 rintro e w2 ⟨v2, rfl, h2, hb2⟩
 have hb12 := hb1.trans (hb2.mono hb1.size)
 have hrr2 := hrr.below hb12 hrr.lt
 obtain ⟨nb, A, n, c, B, m, e, rfl⟩ := h2.agg
 obtain ⟨r0, r1, r2⟩ := hrr2.cells
 obtain ⟨f0, f1, f2⟩ := hrr2.frozen
 go_wp2_with fail
 refine ret_rc Tryz.results67 rfl (hrr2.set _ _ _) rfl ?_
 exact ⟨_, rfl, h2.set3 hrr2 _ _ _, below_set3 (hbA.trans (hb12.mono hbA.size)) (by omega) _ _ _⟩
theorem Neg_any (v : Value) (q : Rat) (L : Nat) (w : World) (hT : Tab w) (h : Inp w v q L) (hS : Sz q 4000000) : Calls Tryz.prog 113 #[v] w (RetRat w (-q)) := by
 obtain ⟨r, hr⟩ : ∃ r, -q = r := ⟨_, rfl⟩
 have hq : qv (!decide (q.num < 0)) q.num.natAbs q.den = r := by rw [<- qv_neg, qv_self, hr]
 rw [hr]
 have HR := Lib.hid hq; clear hr hq
 obtain ⟨z0, Z, zn, zc, Z', zm, ze, rfl⟩ := h.agg
 obtain ⟨hbA, hrx, hrr⟩ := blocks2 w (.bool z0) (.slice Z zn zc) (.slice Z' zm ze) (.bool false) (.slice none 0 0) (.slice none 0 0)
 go_enter Tryz.func113, Tryz.ntmps113
 go_wp2_with fail
 refine (clean_i _ q L _ (hT.below hbA) (h.below hbA)).mono ?_
 rintro e w1 ⟨v1, rfl, h1, hb1⟩
 have hrx1 := hrx.below hb1 hrx.lt
 have hrr1 := hrr.below hb1 hrr.lt
 obtain ⟨nb, A, n, c, B, m, e, rfl⟩ := h1.agg
 obtain ⟨k0, k1, k2⟩ := hrx1.cells
 obtain ⟨f0, f1, f2⟩ := hrx1.frozen
 have hnb := h1.parts.1
 have HNB := Lib.hid hnb; clear hnb
 have hb01 := hbA.trans (hb1.mono hbA.size)
 have hrx2 := hrx1.set (.bool nb) (.slice A n c) (.slice B m e)
 have hrr2 := hrr1.far3 (g' := w.heap.size) (by omega) (.bool nb) (.slice A n c) (.slice B m e)
 have h2 := h1.set3 hrx1 (.bool nb) (.slice A n c) (.slice B m e)
 have hb02 := below_set3 hb01 (Nat.le_refl _) (.bool nb) (.slice A n c) (.slice B m e)
 go_wp2_with fail
 generalize (((w1.setCell ⟨w.heap.size, 0, none⟩ (.bool nb)).setCell ⟨w.heap.size, 1, none⟩ (.slice A n c)).setCell ⟨w.heap.size, 2, none⟩ (.slice B m e)) = W2 at *
 have HR2 : qv (!nb) q.num.natAbs q.den = r := by rw [HNB.out]; exact HR.out
 refine (signed_any (!nb) _ _ _ _ r _ h2 hS.1 hS.2 q.den_nz q.reduced HR2).mono ?_
 rintro e3 w3 ⟨v3, rfl, h3, hb3⟩
 have hrr3 := hrr2.below hb3 hrr2.lt
 obtain ⟨nb3, A3, n3, c3, B3, m3, e3, rfl⟩ := h3.agg
 obtain ⟨r0, r1, r2⟩ := hrr3.cells
 obtain ⟨g0, g1, g2⟩ := hrr3.frozen
 go_wp2_with fail
 refine ret_rc Tryz.results113 rfl (hrr3.set _ _ _) rfl ?_
 exact ⟨_, rfl, h3.set3 hrr3 _ _ _, below_set3 (hb02.trans (hb3.mono hb02.size)) (by omega) _ _ _⟩
theorem Add_any (v v' : Value) (x y r : Rat) (L : Nat) (w : World) (hT : Tab w) (h : Inp w v x L) (h' : Inp w v' y L) (sx : Sz x 1000000) (sy : Sz y 1000000) (hr : x + y = r) : Calls Tryz.prog 65 #[v, v'] w (RetRat w r) := by
 have HR := Lib.hid hr; clear hr
 obtain ⟨z0, Z, zn, zc, Z', zm, ze, rfl⟩ := h.agg
 obtain ⟨y0, Y, yn, yc, Y', ym, ye, rfl⟩ := h'.agg
 obtain ⟨hbA, hrx, hry, hrr⟩ := blocks3 w (.bool z0) (.slice Z zn zc) (.slice Z' zm ze) (.bool y0) (.slice Y yn yc) (.slice Y' ym ye) (.bool false) (.slice none 0 0) (.slice none 0 0)
 have hI := h.below hbA
 have hI' := h'.below hbA
 have hTW := hT.below hbA
 go_enter Tryz.func65, Tryz.ntmps65
 go_wp2_with fail
 generalize (((w.alloc (R1 (.bool z0) (.slice Z zn zc) (.slice Z' zm ze))).alloc (R1 (.bool y0) (.slice Y yn yc) (.slice Y' ym ye))).alloc (R1 (.bool false) (.slice none 0 0) (.slice none 0 0))) = W at *
 have hgx : w.heap.size < W.drew.heap.size := hrx.lt
 have hgy : w.heap.size + 1 < W.drew.heap.size := hry.lt
 have hgr : w.heap.size + 1 + 1 < W.drew.heap.size := hrr.lt
 replace hrx := hrx.drew
 replace hry := hry.drew
 replace hrr := hrr.drew
 replace hTW := hTW.drew
 replace hI : Inp W.drew _ x L := hI.below (Below.refl _ _).drew
 replace hI' : Inp W.drew _ y L := hI'.below (Below.refl _ _).drew
 replace hbA := hbA.drew
 have hsx := hrx.cells
 have hsy := hry.cells
 go_region_held3 (fun w' => (w'.cell? ⟨w.heap.size, 0, none⟩ = some (.bool z0) /\ w'.cell? ⟨w.heap.size, 1, none⟩ = some (.slice Z zn zc) /\ w'.cell? ⟨w.heap.size, 2, none⟩ = some (.slice Z' zm ze)) /\ (w'.cell? ⟨w.heap.size + 1, 0, none⟩ = some (.bool y0) /\ w'.cell? ⟨w.heap.size + 1, 1, none⟩ = some (.slice Y yn yc) /\ w'.cell? ⟨w.heap.size + 1, 2, none⟩ = some (.slice Y' ym ye)))
  (first | exact ⟨hsx, hsy⟩ | exact ⟨⟨cell_set3 (by omega) hsx.1, cell_set3 (by omega) hsx.2.1, cell_set3 (by omega) hsx.2.2⟩, ⟨cell_set3 (by omega) hsy.1, cell_set3 (by omega) hsy.2.1, cell_set3 (by omega) hsy.2.2⟩⟩)
  (first
   | (have _g := hb2; go_at_call 103; refine (add_q _ _ x y _ (hTW.below hb12) (h1.below hb2) h2 sx sy).mono ?_; rw [HR.out]; rintro e w3 ⟨v3, rfl, h3, hb3⟩; have hb13 := hb12.trans (hb3.mono hb12.size); have hsx := (hrx.below hb13 hgx).cells; have hsy := (hry.below hb13 hgy).cells; have hrr3 := hrr.below hb13 hgr; obtain ⟨nb, A, n, c, B, m, e, rfl⟩ := h3.agg; obtain ⟨r0, r1, r2⟩ := hrr3.cells; obtain ⟨f0, f1, f2⟩ := hrr3.frozen)
   | (have _g := hb1; go_at_call 93; refine (clean_i _ y L _ (hTW.below hb1) (hI'.below hb1)).mono ?_; rintro e w2 ⟨v2, rfl, h2, hb2⟩; have hb12 := hb1.trans (hb2.mono hb1.size); have hsx := (hrx.below hb12 hgx).cells; have hsy := (hry.below hb12 hgy).cells)
   | (go_at_call 93; refine (clean_i _ x L _ hTW hI).mono ?_; rintro e w1 ⟨v1, rfl, h1, hb1⟩; have hsx := (hrx.below hb1 hgx).cells; have hsy := (hry.below hb1 hgy).cells))
 go_wp2_with fail
 refine ret_rc Tryz.results65 rfl (hrr3.set _ _ _) rfl ?_
 exact ⟨_, rfl, h3.set3 hrr3 _ _ _, below_set3 (hbA.trans (hb13.mono hbA.size)) (by omega) _ _ _⟩
theorem Num.set0 {w : World} {l : List Nat} {A : Option Addr} {n c : Nat} (h : Num w l A n c) {g : Nat} (hA : 0 < n -> ∀ a, A = some a -> a.block ≠ g) (k : Nat) (u : Value) : Num (w.setCell ⟨g, k, none⟩ u) l A n c :=
 ⟨h.len, h.cap, h.lim, fun hn => by
  obtain ⟨b, o, hA', hb, hc⟩ := h.cells hn
  have hne := hA hn _ hA'
  refine ⟨b, o, hA', by simpa [World.setCell] using hb, fun k x hx => ?_⟩
  rw [World.cell?_setCell_other _ _ _ _ (fun e => hne (by injection e with e1; exact e1.symm))]
  exact hc k x hx⟩
theorem Rc.set0 {w : World} {g : Nat} {z0 z1 z2 : Value} (h : Rc w g z0 z1 z2) (u : Value) : Rc (w.setCell ⟨g, 0, none⟩ u) g u z1 z2 := heap_setCell_same w g 0 _ _ _ h
theorem Sub_any (v v' : Value) (x y r : Rat) (L : Nat) (w : World) (hT : Tab w) (h : Inp w v x L) (h' : Inp w v' y L) (sx : Sz x 1000000) (sy : Sz y 1000000) (hr : x - y = r) : Calls Tryz.prog 69 #[v, v'] w (RetRat w r) := by
 have hr' : qv (decide (x.num < 0)) x.num.natAbs x.den + qv (!decide (y.num < 0)) y.num.natAbs y.den = r := by rw [<- qv_neg, qv_self, qv_self, <- Rat.sub_eq_add_neg, hr]
 have HR := Lib.hid hr'; clear hr hr'
 obtain ⟨z0, Z, zn, zc, Z', zm, ze, rfl⟩ := h.agg
 obtain ⟨y0, Y, yn, yc, Y', ym, ye, rfl⟩ := h'.agg
 obtain ⟨hbA, hrx, hry, hrr⟩ := blocks3 w (.bool z0) (.slice Z zn zc) (.slice Z' zm ze) (.bool y0) (.slice Y yn yc) (.slice Y' ym ye) (.bool false) (.slice none 0 0) (.slice none 0 0)
 go_enter Tryz.func69, Tryz.ntmps69
 go_wp2_with fail
 refine (clean_i _ y L _ (hT.below hbA) (h'.below hbA)).mono ?_
 rintro e w1 ⟨v1, rfl, h1, hb1⟩
 have hrx1 := hrx.below hb1 hrx.lt
 have hry1 := hry.below hb1 hry.lt
 have hrr1 := hrr.below hb1 hrr.lt
 obtain ⟨nb, A, n, c, B, m, e, rfl⟩ := h1.agg
 obtain ⟨k0, k1, k2⟩ := hry1.cells
 obtain ⟨f0, f1, f2⟩ := hry1.frozen
 have hb01 := hbA.trans (hb1.mono hbA.size)
 have hry2 := hry1.set (.bool nb) (.slice A n c) (.slice B m e)
 have hrx2 := hrx1.far3 (g' := w.heap.size + 1) (by omega) (.bool nb) (.slice A n c) (.slice B m e)
 have hrr2 := hrr1.far3 (g' := w.heap.size + 1) (by omega) (.bool nb) (.slice A n c) (.slice B m e)
 obtain ⟨hnb, h2, h2'⟩ := (h1.set3 hry1 (.bool nb) (.slice A n c) (.slice B m e)).parts
 have hb02 := below_set3 hb01 (Nat.le_succ _) (.bool nb) (.slice A n c) (.slice B m e)
 rw [<- hnb] at HR
 clear hnb
 go_wp2_with fail
 generalize (((w1.setCell ⟨w.heap.size + 1, 0, none⟩ (.bool nb)).setCell ⟨w.heap.size + 1, 1, none⟩ (.slice A n c)).setCell ⟨w.heap.size + 1, 2, none⟩ (.slice B m e)) = W2 at *
 have hry3 := hry2.set0 (.bool !nb)
 have hrx3 : Rc (W2.setCell ⟨w.heap.size + 1, 0, none⟩ (.bool !nb)) _ _ _ _ := hrx2.far (p := ⟨w.heap.size + 1, 0, none⟩) (Nat.ne_of_lt (Nat.lt_succ_self _)) _
 have hrr3 : Rc (W2.setCell ⟨w.heap.size + 1, 0, none⟩ (.bool !nb)) _ _ _ _ := hrr2.far (p := ⟨w.heap.size + 1, 0, none⟩) (Nat.succ_ne_self _) _
 have h3 := h2.set0 (h2.ne_rc hry2) 0 (.bool !nb)
 have h3' := h2'.set0 (h2'.ne_rc hry2) 0 (.bool !nb)
 have hb03 := hb02.setCell (p := ⟨w.heap.size + 1, 0, none⟩) (Nat.le_succ _) (.bool !nb)
 clear hry hry1 hry2 hrx hrx1 hrx2 hrr hrr1 hrr2 h1 h2 h2' hb1 hb01 hb02 k0 k1 k2 f0 f1 f2
 generalize (W2.setCell ⟨w.heap.size + 1, 0, none⟩ (.bool !nb)) = W3 at *
 have hgx : w.heap.size < W3.drew.heap.size := hrx3.lt
 have hgy : w.heap.size + 1 < W3.drew.heap.size := hry3.lt
 have hgr : w.heap.size + 1 + 1 < W3.drew.heap.size := hrr3.lt
 replace hrx3 := hrx3.drew
 replace hry3 := hry3.drew
 replace hrr3 := hrr3.drew
 replace h3 := h3.drew
 replace h3' := h3'.drew
 replace hb03 := hb03.drew
 have hsx := hrx3.cells
 have hsy := hry3.cells
 go_region_held3 (fun w' => (w'.cell? ⟨w.heap.size, 0, none⟩ = some (.bool z0) /\ w'.cell? ⟨w.heap.size, 1, none⟩ = some (.slice Z zn zc) /\ w'.cell? ⟨w.heap.size, 2, none⟩ = some (.slice Z' zm ze)) /\ (w'.cell? ⟨w.heap.size + 1, 0, none⟩ = some (.bool !nb) /\ w'.cell? ⟨w.heap.size + 1, 1, none⟩ = some (.slice A n c) /\ w'.cell? ⟨w.heap.size + 1, 2, none⟩ = some (.slice B m e)))
  (first | exact ⟨hsx, hsy⟩ | exact ⟨⟨cell_set3 (by omega) hsx.1, cell_set3 (by omega) hsx.2.1, cell_set3 (by omega) hsx.2.2⟩, ⟨cell_set3 (by omega) hsy.1, cell_set3 (by omega) hsy.2.1, cell_set3 (by omega) hsy.2.2⟩⟩)
  (first
   | (have _g := hb4; go_at_call 103; refine (add_any (decide (x.num < 0)) (!nb) _ _ x.num.natAbs x.den y.num.natAbs y.den r _ ((hT.below hb03).below hb4) h4 ⟨A, n, c, B, m, e, rfl, h3.below hb4, h3'.below hb4⟩ sx.1 sx.2 sy.1 sy.2 x.den_nz y.den_nz x.reduced y.reduced HR.out).mono ?_; rintro e' w5 ⟨v5, rfl, h5, hb5⟩; have hb45 := hb4.trans (hb5.mono hb4.size); have hsx := (hrx3.below hb45 hgx).cells; have hsy := (hry3.below hb45 hgy).cells; have hrr5 := hrr3.below hb45 hgr; obtain ⟨nb5, A5, n5, c5, B5, m5, e5, rfl⟩ := h5.agg; obtain ⟨r0, r1, r2⟩ := hrr5.cells; obtain ⟨g0, g1, g2⟩ := hrr5.frozen)
   | (go_at_call 93; refine (clean_i _ x L _ (hT.below hb03) (h.below hb03)).mono ?_; rintro e' w4 ⟨v4, rfl, h4, hb4⟩; have hsx := (hrx3.below hb4 hgx).cells; have hsy := (hry3.below hb4 hgy).cells))
 go_wp2_with fail
 refine ret_rc Tryz.results69 rfl (hrr5.set _ _ _) rfl ?_
 exact ⟨_, rfl, h5.set3 hrr5 _ _ _, below_set3 (hb03.trans (hb45.mono hb03.size)) (by omega) _ _ _⟩
end Go.Proofs.YtifeekomegoijaaGreatDoor
namespace Go.Proofs.YtifeekomegoijaaGreatDoor
def sumL {α : Type} (l : List α) (f : α -> Rat) : Rat := l.foldr (fun x s => f x + s) 0
@[simp] theorem sumL_nil {α : Type} (f : α -> Rat) : sumL [] f = 0 := rfl
@[simp] theorem sumL_cons {α : Type} (x : α) (l : List α) (f : α -> Rat) : sumL (x :: l) f = f x + sumL l f := rfl
theorem sumL_append {α : Type} (l m : List α) (f : α -> Rat) : sumL (l ++ m) f = sumL l f + sumL m f := by
 induction l with
 | nil => simp; grind
 | cons x l ih => simp [ih]; grind
theorem sumL_congr {α : Type} {l : List α} {f g : α -> Rat} (h : ∀ x ∈ l, f x = g x) : sumL l f = sumL l g := by
 induction l with
 | nil => rfl
 | cons x l ih => simp only [sumL_cons]; rw [h x (by simp), ih (fun y hy => h y (by simp [hy]))]
theorem sumL_zero {α : Type} {l : List α} {f : α -> Rat} (h : ∀ x ∈ l, f x = 0) : sumL l f = 0 := by
 rw [sumL_congr h]
 induction l with
 | nil => rfl
 | cons x l ih => simp only [sumL_cons]; rw [ih (fun y hy => h y (by simp [hy]))]; grind
theorem sumL_one {α : Type} {l : List α} (hn : l.Nodup) {a : α} (ha : a ∈ l) {f : α -> Rat} (h : ∀ x ∈ l, x ≠ a -> f x = 0) : sumL l f = f a := by
 induction l with
 | nil => cases ha
 | cons x l ih =>
   obtain ⟨h1, h2⟩ := List.nodup_cons.1 hn
   simp only [sumL_cons]
   by_cases e : x = a
   ·subst e
    rw [sumL_zero (fun y hy => h y (by simp [hy]) (fun e => h1 (e ▸ hy)))]; grind
   ·rw [h x (by simp) e, ih h2 (by rcases List.mem_cons.1 ha with h | h; exact absurd h.symm e; exact h) (fun y hy => h y (by simp [hy]))]; grind
theorem sumL_map {α β : Type} (l : List α) (g : α -> β) (f : β -> Rat) : sumL (l.map g) f = sumL l (fun x => f (g x)) := by
 induction l with
 | nil => rfl
 | cons x l ih => simp [ih]
theorem sumL_filter {α : Type} (l : List α) (p : α -> Bool) (f : α -> Rat) : sumL (l.filter p) f = sumL l (fun x => if p x = true then f x else 0) := by
 induction l with
 | nil => rfl
 | cons x l ih =>
   by_cases h : p x = true
   ·simp [h, ih]
   ·simp [h, ih]; grind
abbrev Ex := Nat × Nat × Nat
def deg (e : Ex) : Nat := e.1 + e.2.1 + e.2.2
def eadd (e f : Ex) : Ex := (e.1 + f.1, e.2.1 + f.2.1, e.2.2 + f.2.2)
theorem eadd_comm (e f : Ex) : eadd e f = eadd f e := by unfold eadd; rw [Nat.add_comm e.1, Nat.add_comm e.2.1, Nat.add_comm e.2.2]
theorem eadd_zero (e : Ex) : eadd e (0, 0, 0) = e := rfl
def elt (e f : Ex) : Bool := decide (e.1 < f.1 \/ (e.1 = f.1 /\ (e.2.1 < f.2.1 \/ (e.2.1 = f.2.1 /\ e.2.2 < f.2.2))))
theorem elt_iff {e f : Ex} : elt e f = true ↔ (e.1 < f.1 \/ (e.1 = f.1 /\ (e.2.1 < f.2.1 \/ (e.2.1 = f.2.1 /\ e.2.2 < f.2.2)))) := by unfold elt; exact decide_eq_true_iff
theorem elt_irrefl (e : Ex) : elt e e = false := by unfold elt; exact decide_eq_false (by omega)
theorem elt_trans {e f g : Ex} (h : elt e f = true) (h' : elt f g = true) : elt e g = true := by rw [elt_iff] at *; omega
theorem elt_asymm {e f : Ex} (h : elt e f = true) (h' : elt f e = true) : False := by rw [elt_iff] at *; omega
theorem elt_total {e f : Ex} (h : e ≠ f) : elt e f = true \/ elt f e = true := by
 rw [elt_iff, elt_iff]
 have : ¬ (e.1 = f.1 /\ e.2.1 = f.2.1 /\ e.2.2 = f.2.2) := fun ⟨h1, h2, h3⟩ => h (Prod.ext h1 (Prod.ext h2 h3))
 omega
def allE : List Ex := (List.range 6).reverse.flatMap fun a => (List.range (6 - a)).reverse.flatMap fun b => (List.range (6 - a - b)).reverse.map fun c => (a, b, c)
theorem mem_allE (e : Ex) : e ∈ allE ↔ deg e <= 5 := by
 obtain ⟨a, b, c⟩ := e
 simp only [allE, List.mem_flatMap, List.mem_map, List.mem_reverse, List.mem_range, Prod.mk.injEq, deg]
 constructor
 ·rintro ⟨a', h1, b', h2, c', h3, rfl, rfl, rfl⟩; omega
 ·intro h; exact ⟨a, by omega, b, by omega, c, by omega, rfl, rfl, rfl⟩
theorem sorted_allE : allE.Pairwise (fun e f => elt f e = true) := by decide +kernel
theorem nodup_allE : allE.Nodup := sorted_allE.imp (fun h e => by subst e; rw [elt_irrefl] at h; cases h)
theorem length_allE : allE.length = 56 := by decide +kernel
abbrev Co := Ex -> Rat
abbrev Mon := Ex × Rat
def listOf (c : Co) : List Mon := (allE.filter (fun e => decide (c e ≠ 0))).map (fun e => (e, c e))
def co (l : List Mon) : Co := fun e => sumL l (fun m => if m.1 = e then m.2 else 0)
def VP (l : List Mon) : Prop := (∀ m ∈ l, deg m.1 <= 5 /\ m.2 ≠ 0) /\ l.Pairwise (fun m n => elt n.1 m.1 = true)
theorem listOf_congr {c d : Co} (h : ∀ e, deg e <= 5 -> c e = d e) : listOf c = listOf d := by
 unfold listOf
 have h1 : allE.filter (fun e => decide (c e ≠ 0)) = allE.filter (fun e => decide (d e ≠ 0)) := List.filter_congr (fun e he => by rw [h e ((mem_allE e).1 he)])
 rw [h1]
 exact List.map_congr_left (fun e he => by rw [h e ((mem_allE e).1 (List.mem_filter.1 he).1)])
theorem mem_listOf {c : Co} {m : Mon} : m ∈ listOf c ↔ deg m.1 <= 5 /\ m.2 ≠ 0 /\ m.2 = c m.1 := by
 unfold listOf
 rw [List.mem_map]
 constructor
 ·rintro ⟨e, he, rfl⟩
  obtain ⟨h1, h2⟩ := List.mem_filter.1 he
  exact ⟨(mem_allE e).1 h1, of_decide_eq_true h2, rfl⟩
 ·rintro ⟨h1, h2, h3⟩
  exact ⟨m.1, List.mem_filter.2 ⟨(mem_allE _).2 h1, decide_eq_true (h3 ▸ h2)⟩, by rw [<- h3]⟩
theorem vp_listOf (c : Co) : VP (listOf c) := by
 refine ⟨fun m hm => ⟨(mem_listOf.1 hm).1, (mem_listOf.1 hm).2.1⟩, ?_⟩
 unfold listOf
 rw [List.pairwise_map]
 exact sorted_allE.filter _
theorem vp_nodup {l : List Mon} (h : VP l) : (l.map (·.1)).Nodup := by
 unfold List.Nodup
 rw [List.pairwise_map]
 exact h.2.imp (fun {m n} h e => by rw [e, elt_irrefl] at h; cases h)
theorem vp_nodup' {l : List Mon} (h : VP l) : l.Nodup := h.2.imp (fun {m n} h e => by rw [e, elt_irrefl] at h; cases h)
theorem vp_key {l : List Mon} (h : VP l) {m n : Mon} (hm : m ∈ l) (hn : n ∈ l) (e : m.1 = n.1) : m = n := by
 have := vp_nodup h
 induction l with
 | nil => cases hm
 | cons x l ih =>
   obtain ⟨h1, h2⟩ := List.nodup_cons.1 (show (x.1 :: l.map (·.1)).Nodup from this)
   have hl : VP l := ⟨fun m hm => h.1 m (by simp [hm]), (List.pairwise_cons.1 h.2).2⟩
   rcases List.mem_cons.1 hm with rfl | hm' <;> rcases List.mem_cons.1 hn with rfl | hn'
   ·rfl
   ·exact absurd (List.mem_map.2 ⟨n, hn', e.symm⟩) h1
   ·exact absurd (List.mem_map.2 ⟨m, hm', e⟩) h1
   ·exact ih hl hm' hn' h2
theorem co_mem {l : List Mon} (h : VP l) {m : Mon} (hm : m ∈ l) : co l m.1 = m.2 := by
 unfold co
 rw [sumL_one (vp_nodup' h) hm (fun x hx hne => if_neg (fun e => hne (vp_key h hx hm e)))]
 exact if_pos rfl
theorem co_absent {l : List Mon} {e : Ex} (h : ∀ m ∈ l, m.1 ≠ e) : co l e = 0 := sumL_zero (fun m hm => if_neg (h m hm))
theorem vp_ext {l k : List Mon} (h : VP l) (h' : VP k) (hm : ∀ m, m ∈ l ↔ m ∈ k) : l = k := by
 have hp : l.Perm k := (List.perm_ext_iff_of_nodup (vp_nodup' h) (vp_nodup' h')).2 hm
 exact hp.eq_of_pairwise (fun a b _ _ h1 h2 => absurd h2 (fun h2 => elt_asymm h1 h2)) h.2 h'.2
theorem listOf_co {l : List Mon} (h : VP l) : listOf (co l) = l := by
 refine vp_ext (vp_listOf _) h (fun m => ?_)
 rw [mem_listOf]
 constructor
 ·rintro ⟨h1, h2, h3⟩
  by_cases hx : ∃ n ∈ l, n.1 = m.1
  ·obtain ⟨n, hn, e⟩ := hx
   have := co_mem h hn
   rw [e] at this
   rw [show m = n from Prod.ext e.symm (by rw [h3, this])]; exact hn
  ·exact absurd (h3.trans (co_absent (fun n hn e => hx ⟨n, hn, e⟩))) h2
 ·intro hm
  exact ⟨(h.1 m hm).1, (h.1 m hm).2, (co_mem h hm).symm⟩
theorem sumL_listOf (c : Co) (f : Ex -> Rat -> Rat) (h0 : ∀ e, f e 0 = 0) : sumL (listOf c) (fun m => f m.1 m.2) = sumL allE (fun e => f e (c e)) := by
 unfold listOf
 rw [sumL_map, sumL_filter]
 refine sumL_congr (fun e _ => ?_)
 by_cases h : c e = 0
 ·simp [h, h0]
 ·simp [h]
theorem co_listOf (c : Co) (e : Ex) : co (listOf c) e = if deg e <= 5 then c e else 0 := by
 unfold co
 rw [sumL_listOf c (fun f x => if f = e then x else 0) (fun f => by split <;> rfl)]
 by_cases h : deg e <= 5
 ·rw [sumL_one nodup_allE ((mem_allE e).2 h) (fun x _ hne => if_neg hne), if_pos rfl, if_pos h]
 ·rw [sumL_zero (fun x hx => if_neg (fun (e' : x = e) => h ((mem_allE e).1 (e' ▸ hx)))), if_neg h]
def addAt (c : Co) (e : Ex) (x : Rat) : Co := fun f => c f + if f = e then x else 0
def zeroC : Co := fun _ => 0
def addL (c : Co) (l : List Mon) : Co := l.foldl (fun c m => addAt c m.1 m.2) c
theorem addL_eq (l : List Mon) (c : Co) (e : Ex) : addL c l e = c e + co l e := by
 unfold addL co
 induction l generalizing c with
 | nil => simp; grind
 | cons m l ih =>
   simp only [List.foldl_cons, sumL_cons]
   rw [ih]
   unfold addAt
   by_cases h : e = m.1
   ·rw [if_pos h, if_pos h.symm]; grind
   ·rw [if_neg h, if_neg (fun e' => h e'.symm)]; grind
def addM (c : Co) (q : List Mon) (e : Ex) (x : Rat) : Co := q.foldl (fun c n => addAt c (eadd n.1 e) (n.2 * x)) c
theorem addM_eq (q : List Mon) (c : Co) (e : Ex) (x : Rat) (f : Ex) : addM c q e x f = c f + sumL q (fun n => if eadd n.1 e = f then n.2 * x else 0) := by
 unfold addM
 induction q generalizing c with
 | nil => simp; grind
 | cons m l ih =>
   simp only [List.foldl_cons, sumL_cons]
   rw [ih]
   unfold addAt
   by_cases h : f = eadd m.1 e
   ·rw [if_pos h, if_pos h.symm]; grind
   ·rw [if_neg h, if_neg (fun e' => h e'.symm)]; grind
def mulL (p q : List Mon) : Co := p.foldl (fun c m => addM c q m.1 m.2) zeroC
theorem foldl_addM_eq (p q : List Mon) (c : Co) (f : Ex) : p.foldl (fun c m => addM c q m.1 m.2) c f = c f + sumL p (fun m => sumL q (fun n => if eadd n.1 m.1 = f then n.2 * m.2 else 0)) := by
 induction p generalizing c with
 | nil => simp; grind
 | cons m l ih =>
   simp only [List.foldl_cons, sumL_cons]
   rw [ih, addM_eq]; grind
theorem mulL_eq (p q : List Mon) (f : Ex) : mulL p q f = sumL p (fun m => sumL q (fun n => if eadd n.1 m.1 = f then n.2 * m.2 else 0)) := by
 unfold mulL
 rw [foldl_addM_eq]; unfold zeroC; grind
def Low (c : Co) : Prop := ∀ e, ¬ deg e <= 5 -> c e = 0
def addC (c d : Co) : Co := fun e => c e + d e
def mulC (c d : Co) : Co := fun e => if deg e <= 5 then sumL allE (fun a => sumL allE (fun b => if eadd a b = e then c a * d b else 0)) else 0
def oneC : Co := fun e => if e = (0, 0, 0) then 1 else 0
def constC (x : Rat) : Co := fun e => if e = (0, 0, 0) then x else 0
theorem low_const (x : Rat) : Low (constC x) := fun e he => if_neg (fun h => he (by subst h; decide))
theorem co_of_listOf {c : Co} (h : Low c) : co (listOf c) = c := by
 funext e
 rw [co_listOf]
 split
 ·rfl
 ·next he => exact (h e he).symm
theorem mulL_mulC {p q : List Mon} (hp : VP p) (hq : VP q) {f : Ex} (hf : deg f <= 5) : mulL p q f = mulC (co p) (co q) f := by
 rw [mulL_eq]
 unfold mulC
 rw [if_pos hf]
 have e1 : ∀ m : Mon, sumL q (fun n => if eadd n.1 m.1 = f then n.2 * m.2 else 0) = sumL allE (fun b => if eadd b m.1 = f then co q b * m.2 else 0) := fun m => by
  have := sumL_listOf (co q) (fun b y => if eadd b m.1 = f then y * m.2 else 0) (fun b => by split <;> simp)
  rw [listOf_co hq] at this
  exact this
 rw [sumL_congr (fun m _ => e1 m)]
 have e2 := sumL_listOf (co p) (fun a x => sumL allE (fun b => if eadd b a = f then co q b * x else 0)) (fun a => sumL_zero (fun b _ => by split <;> simp))
 rw [listOf_co hp] at e2
 rw [e2]
 refine sumL_congr (fun a _ => sumL_congr (fun b _ => ?_))
 rw [eadd_comm, Rat.mul_comm]
def setAt (c : Co) (e : Ex) (x : Rat) : Co := fun f => if f = e then x else c f
def starStep (rest : List Mon) (k : Rat) (c : Co) (e : Ex) : Co := addM (setAt c e (c e * k)) rest e (c e * k)
def starC (rest : List Mon) (k : Rat) : Co := allE.reverse.foldl (starStep rest k) oneC
def upTo (c : Co) (K : List Ex) : List Mon := (K.filter (fun e => decide (c e ≠ 0))).map (fun e => (e, c e))
theorem mem_upTo {c : Co} {K : List Ex} {m : Mon} : m ∈ upTo c K ↔ m.1 ∈ K /\ m.2 ≠ 0 /\ m.2 = c m.1 := by
 unfold upTo
 rw [List.mem_map]
 constructor
 ·rintro ⟨e, he, rfl⟩
  obtain ⟨h1, h2⟩ := List.mem_filter.1 he
  exact ⟨h1, of_decide_eq_true h2, rfl⟩
 ·rintro ⟨h1, h2, h3⟩
  exact ⟨m.1, List.mem_filter.2 ⟨h1, decide_eq_true (h3 ▸ h2)⟩, by rw [<- h3]⟩
theorem upTo_reverse {c : Co} {K : List Ex} (hs : K.Pairwise (fun e f => elt e f = true)) (hk : ∀ e ∈ K, deg e <= 5) (h0 : ∀ e, deg e <= 5 -> e ∉ K -> c e = 0) : (upTo c K).reverse = listOf c := by
 refine vp_ext ⟨fun m hm => ?_, ?_⟩ (vp_listOf c) (fun m => ?_)
 ·have := mem_upTo.1 (List.mem_reverse.1 hm)
  exact ⟨hk _ this.1, this.2.1⟩
 ·rw [List.pairwise_reverse]
  unfold upTo
  rw [List.pairwise_map]
  exact hs.filter _
 ·rw [List.mem_reverse, mem_upTo, mem_listOf]
  constructor
  ·rintro ⟨h1, h2, h3⟩; exact ⟨hk _ h1, h2, h3⟩
  ·rintro ⟨h1, h2, h3⟩
   refine ⟨?_, h2, h3⟩
   by_cases hm : m.1 ∈ K
   ·exact hm
   ·exact absurd (h3.trans (h0 _ h1 hm)) h2
def nextE (e : Ex) : Ex × Bool :=
 if deg e + 1 <= 5 then ((e.1, e.2.1, e.2.2 + 1), true)
 else if e.1 + e.2.1 + 1 <= 5 then ((e.1, e.2.1 + 1, 0), true)
 else if e.1 + 1 <= 5 then ((e.1 + 1, 0, 0), true)
 else ((0, 0, 0), false)
def asc (i : Nat) : Ex := allE.reverse.getD i (0, 0, 0)
theorem asc_next_all : ((List.range 56).all fun i => nextE (asc i) == (asc (i + 1), decide (i < 55))) = true := by decide +kernel
theorem asc_next {i : Nat} (h : i < 56) : nextE (asc i) = (asc (i + 1), decide (i < 55)) := by
 have := List.all_eq_true.1 asc_next_all i (List.mem_range.2 h)
 exact eq_of_beq this
theorem asc_zero : asc 0 = (0, 0, 0) := by decide +kernel
theorem asc_deg_all : ((List.range 57).all fun i => decide (deg (asc i) <= 5)) = true := by decide +kernel
theorem asc_deg {i : Nat} (h : i <= 56) : deg (asc i) <= 5 := of_decide_eq_true (List.all_eq_true.1 asc_deg_all i (List.mem_range.2 (by omega)))
theorem asc_take {i : Nat} (h : i < 56) : allE.reverse.take (i + 1) = allE.reverse.take i ++ [asc i] := by
 have hl : i < allE.reverse.length := by rw [List.length_reverse, length_allE]; exact h
 rw [List.take_succ_eq_append_getElem hl]
 congr 2
 unfold asc
 rw [List.getD_eq_getElem?_getD, List.getElem?_eq_getElem hl, Option.getD_some]
theorem asc_all : allE.reverse.take 56 = allE.reverse := List.take_of_length_le (by rw [List.length_reverse, length_allE]; exact Nat.le_refl _)
end Go.Proofs.YtifeekomegoijaaGreatDoor
namespace Go.Proofs.YtifeekomegoijaaGreatDoor
open Go.RowKit
def Cs (w : World) (g : Nat) (l : List Value) (t : TypeId) : Prop := w.heap[g]? = some (.cells l.toArray t (0, 0))
theorem Cs.lt {w : World} {g : Nat} {l : List Value} {t : TypeId} (h : Cs w g l t) : g < w.heap.size := heap_lt h
theorem Cs.new (w : World) (l : List Value) (t : TypeId) : Cs (w.alloc (.cells l.toArray t)) w.heap.size l t := heap_alloc_new w _
theorem Cs.cell {w : World} {g : Nat} {l : List Value} {t : TypeId} (h : Cs w g l t) {k : Nat} {v : Value} (hk : l[k]? = some v) : w.cell? ⟨g, k, none⟩ = some v := by
 rw [cell_of_row w g k _ _ _ h, List.getElem?_toArray]; exact hk
theorem Cs.frozen {w : World} {g : Nat} {l : List Value} {t : TypeId} (h : Cs w g l t) (k : Nat) : w.frozen? ⟨g, k, none⟩ = false := frozen_of_row w g k _ _ h
theorem Cs.below {w w' : World} {B g : Nat} {l : List Value} {t : TypeId} (h : Cs w g l t) (hb : Below B w w') (hg : g < B) : Cs w' g l t := (hb.block g hg).trans h
theorem Cs.alloc {w : World} {g : Nat} {l : List Value} {t : TypeId} (h : Cs w g l t) (o : Obj) : Cs (w.alloc o) g l t := (Below.heap_alloc w o g h.lt).trans h
theorem Cs.drew {w : World} {g : Nat} {l : List Value} {t : TypeId} (h : Cs w g l t) : Cs w.drew g l t := h
theorem Cs.far {w : World} {g : Nat} {l : List Value} {t : TypeId} (h : Cs w g l t) {p : Addr} (hp : g ≠ p.block) (u : Value) : Cs (w.setCell p u) g l t := (Below.heap_setCell w p u g hp).trans h
theorem Cs.set {w : World} {g : Nat} {l : List Value} {t : TypeId} (h : Cs w g l t) (k : Nat) (u : Value) : Cs (w.setCell ⟨g, k, none⟩ u) g (l.set k u) t := by
 have := heap_setCell_same w g k _ _ u h
 unfold Cs; rw [this]
 congr 2
 apply Array.ext'
 simp
def setL (w : World) (g : Nat) : Nat -> List Value -> World
 | _, [] => w
 | k, u :: us => setL (w.setCell ⟨g, k, none⟩ u) g (k + 1) us
theorem Cs.setL' {g : Nat} {t : TypeId} : ∀ (us : List Value) (k : Nat) (w : World) (l : List Value), Cs w g l t -> k + us.length = l.length -> Cs (setL w g k us) g (l.take k ++ us) t
 | [], k, w, l, h, hk => by
   rw [List.append_nil, List.take_of_length_le (by simp at hk; omega)]; exact h
 | u :: us, k, w, l, h, hk => by
   have := Cs.setL' us (k + 1) _ _ (h.set k u) (by simp at hk ⊢; omega)
   have e : (l.set k u).take (k + 1) ++ us = l.take k ++ u :: us := by
    have hlt : k < (l.set k u).length := by simp at hk ⊢; omega
    rw [List.take_succ_eq_append_getElem hlt, List.getElem_set_self, List.take_set_of_le (Nat.le_refl _), List.append_assoc]; rfl
   rw [e] at this
   exact this
theorem Cs.setL {w : World} {g : Nat} {l : List Value} {t : TypeId} (h : Cs w g l t) (us : List Value) (hl : us.length = l.length) : Cs (setL w g 0 us) g us t := by
 have := Cs.setL' us 0 w l h (by omega)
 simpa using this
theorem Cs.farL {g : Nat} {l : List Value} {t : TypeId} {g' : Nat} (hne : g ≠ g') : ∀ (us : List Value) (k : Nat) {w : World}, Cs w g l t -> Cs (Go.Proofs.YtifeekomegoijaaGreatDoor.setL w g' k us) g l t
 | [], _, _, h => h
 | u :: us, k, _, h => Cs.farL hne us (k + 1) (h.far (p := ⟨g', k, none⟩) hne u)
theorem below_setL {B g : Nat} (hg : B <= g) {a : World} : ∀ (us : List Value) (k : Nat) {w : World}, Below B a w -> Below B a (setL w g k us)
 | [], _, _, h => h
 | u :: us, k, _, h => below_setL hg us (k + 1) (h.setCell (p := ⟨g, k, none⟩) hg u)
theorem size_setL (g : Nat) : ∀ (us : List Value) (k : Nat) (w : World), (setL w g k us).heap.size = w.heap.size
 | [], _, _ => rfl
 | u :: us, k, w => by rw [show setL w g k (u :: us) = setL (w.setCell ⟨g, k, none⟩ u) g (k + 1) us from rfl, size_setL g us]; simp
theorem Num.set1k {w : World} {l : List Nat} {A : Option Addr} {n c : Nat} (h : Num w l A n c) {g k : Nat} (hA : 0 < n -> ∀ a, A = some a -> a.block ≠ g) (u : Value) : Num (w.setCell ⟨g, k, none⟩ u) l A n c :=
 ⟨h.len, h.cap, h.lim, fun hn => by
  obtain ⟨b, o, hA', hb, hc⟩ := h.cells hn
  have hne := hA hn _ hA'
  refine ⟨b, o, hA', by simpa [World.setCell] using hb, fun k x hx => ?_⟩
  rw [World.cell?_setCell_other _ _ _ _ (fun e => hne (by injection e with e1; exact e1.symm))]
  exact hc k x hx⟩
theorem Num.setL {l : List Nat} {A : Option Addr} {n c g : Nat} (hA : 0 < n -> ∀ a, A = some a -> a.block ≠ g) : ∀ (us : List Value) (k : Nat) {w : World}, Num w l A n c -> Num (Go.Proofs.YtifeekomegoijaaGreatDoor.setL w g k us) l A n c
 | [], _, _, h => h
 | u :: us, k, _, h => Num.setL hA us (k + 1) (h.set1k hA u)
theorem Num.ne_cs {w : World} {l : List Nat} {A : Option Addr} {n c g : Nat} (h : Num w l A n c) {l' : List Value} {t : TypeId} (hr : Cs w g l' t) (hl : ∀ v ∈ l', ∀ x : Nat, v ≠ .int .u32 (x : Int)) : 0 < n -> ∀ a, A = some a -> a.block ≠ g := by
 intro hn a ha e
 obtain ⟨b, o, y, hA, _, _, _, hc⟩ := h.at_ hn
 rw [ha] at hA
 cases hA
 simp only at e
 subst e
 rw [cell_of_row w b _ _ _ _ hr, List.getElem?_toArray] at hc
 exact hl _ (List.mem_of_getElem? hc) _ rfl
theorem Cs.at {w : World} {g : Nat} {l : List Value} {t : TypeId} (h : Cs w g l t) (k : Nat) (hk : k < l.length) : w.cell? ⟨g, k, none⟩ = some l[k] := h.cell (List.getElem?_eq_getElem hk)
theorem cs_own3 {w : World} {g : Nat} {l : List Value} {t : TypeId} (h : Cs w g l t) (hl : l.length = 3) (u0 u1 u2 : Value) : Cs (((w.setCell ⟨g, 0, none⟩ u0).setCell ⟨g, 1, none⟩ u1).setCell ⟨g, 2, none⟩ u2) g [u0, u1, u2] t := Cs.setL h [u0, u1, u2] hl.symm
theorem below_s3 {B g : Nat} {a w : World} (h : Below B a w) (hg : B <= g) (u0 u1 u2 : Value) : Below B a (((w.setCell ⟨g, 0, none⟩ u0).setCell ⟨g, 1, none⟩ u1).setCell ⟨g, 2, none⟩ u2) := below_setL hg [u0, u1, u2] 0 h
theorem num_s3 {w : World} {l : List Nat} {A : Option Addr} {n c g : Nat} (h : Num w l A n c) (hA : 0 < n -> ∀ a, A = some a -> a.block ≠ g) (u0 u1 u2 : Value) : Num (((w.setCell ⟨g, 0, none⟩ u0).setCell ⟨g, 1, none⟩ u1).setCell ⟨g, 2, none⟩ u2) l A n c := Num.setL hA [u0, u1, u2] 0 h
theorem blk1 (w : World) (l : List Value) (t : TypeId) : Below w.heap.size w (w.alloc (.cells l.toArray t)) /\ Cs (w.alloc (.cells l.toArray t)) w.heap.size l t :=
 ⟨(Below.refl _ _).alloc (Nat.le_refl _) _, Cs.new w l t⟩
theorem blk2 (w : World) (l l' : List Value) (t t' : TypeId) : Below w.heap.size w ((w.alloc (.cells l.toArray t)).alloc (.cells l'.toArray t')) /\ Cs ((w.alloc (.cells l.toArray t)).alloc (.cells l'.toArray t')) w.heap.size l t /\
 Cs ((w.alloc (.cells l.toArray t)).alloc (.cells l'.toArray t')) (w.heap.size + 1) l' t' := by
 obtain ⟨h1, h2⟩ := blk1 w l t
 have h3 := Cs.new (w.alloc (.cells l.toArray t)) l' t'
 rw [show (w.alloc (.cells l.toArray t)).heap.size = w.heap.size + 1 by simp] at h3
 exact ⟨h1.alloc (by simp) _, h2.alloc _, h3⟩
theorem blk3 (w : World) (l l' l'' : List Value) (t t' t'' : TypeId) : Below w.heap.size w (((w.alloc (.cells l.toArray t)).alloc (.cells l'.toArray t')).alloc (.cells l''.toArray t'')) /\ Cs (((w.alloc (.cells l.toArray t)).alloc (.cells l'.toArray t')).alloc (.cells l''.toArray t'')) w.heap.size l t /\
 Cs (((w.alloc (.cells l.toArray t)).alloc (.cells l'.toArray t')).alloc (.cells l''.toArray t'')) (w.heap.size + 1) l' t' /\ Cs (((w.alloc (.cells l.toArray t)).alloc (.cells l'.toArray t')).alloc (.cells l''.toArray t'')) (w.heap.size + 1 + 1) l'' t'' := by
 obtain ⟨h1, h2, h3⟩ := blk2 w l l' t t'
 have h4 := Cs.new ((w.alloc (.cells l.toArray t)).alloc (.cells l'.toArray t')) l'' t''
 rw [show ((w.alloc (.cells l.toArray t)).alloc (.cells l'.toArray t')).heap.size = w.heap.size + 1 + 1 by simp] at h4
 exact ⟨h1.alloc (by simp; omega) _, h2.alloc _, h3.alloc _, h4⟩
structure RdK (w : World) (k : Nat) (xs : List (List Value)) (A : Option Addr) (n c : Nat) : Prop where
 len : n = xs.length
 cap : n <= c
 cells : 0 < n -> ∃ b o, A = some ⟨b, o, none⟩ /\ b < w.heap.size /\ ∀ (i : Nat) (x : List Value), xs[i]? = some x -> ∀ (j : Nat) (v : Value), x[j]? = some v -> w.cell? ⟨b, o + i * k + j, none⟩ = some v
theorem RdK.keep {w w' : World} {k : Nat} {xs : List (List Value)} {A : Option Addr} {n c : Nat} (h : RdK w k xs A n c) (hs : w.heap.size <= w'.heap.size) (hk : ∀ b, b < w.heap.size -> w'.heap[b]? = w.heap[b]?) : RdK w' k xs A n c :=
 ⟨h.len, h.cap, fun hn => by
  obtain ⟨b, o, hA, hb, hc⟩ := h.cells hn
  exact ⟨b, o, hA, by omega, fun i x hx j v hv => (World.cell?_of_block (w := w) (hk b hb)).trans (hc i x hx j v hv)⟩⟩
theorem RdK.below {w w' : World} {k : Nat} {xs : List (List Value)} {A : Option Addr} {n c : Nat} (h : RdK w k xs A n c) (hb : Below w.heap.size w w') : RdK w' k xs A n c := h.keep hb.size hb.block
theorem RdK.nil (w : World) (k : Nat) (A : Option Addr) (c : Nat) : RdK w k [] A 0 c := ⟨rfl, Nat.zero_le _, fun h => absurd h (by omega)⟩
theorem RdK.take {w : World} {k : Nat} {xs : List (List Value)} {A : Option Addr} {n c : Nat} (h : RdK w k xs A n c) {m : Nat} (hm : m <= n) : RdK w k (xs.take m) A m c :=
 ⟨by rw [List.length_take, Nat.min_eq_left (by have := h.len; omega)], by have := h.cap; omega, fun hn => by
  obtain ⟨b, o, hA, hb, hc⟩ := h.cells (by omega)
  refine ⟨b, o, hA, hb, fun i x hx => hc i x ?_⟩
  rw [List.getElem?_take] at hx
  split at hx
  ·exact hx
  ·cases hx⟩
def At6 (w : World) (b o : Nat) (z0 z1 z2 z3 z4 z5 : Value) : Prop :=
 w.cell? ⟨b, o, none⟩ = some z0 /\ w.cell? ⟨b, o + 1, none⟩ = some z1 /\ w.cell? ⟨b, o + 2, none⟩ = some z2 /\ w.cell? ⟨b, o + 3, none⟩ = some z3 /\ w.cell? ⟨b, o + 4, none⟩ = some z4 /\ w.cell? ⟨b, o + 5, none⟩ = some z5
theorem RdK.at6 {w : World} {xs : List (List Value)} {A : Option Addr} {n c : Nat} (h : RdK w 6 xs A n c) {i : Nat} {z0 z1 z2 z3 z4 z5 : Value} (hx : xs[i]? = some [z0, z1, z2, z3, z4, z5]) :
 ∃ b o, A = some ⟨b, o, none⟩ /\ b < w.heap.size /\ At6 w b (o + i * 6) z0 z1 z2 z3 z4 z5 := by
 have hi : i < xs.length := (List.getElem?_eq_some_iff.1 hx).1
 obtain ⟨b, o, hA, hb, hc⟩ := h.cells (by have := h.len; omega)
 exact ⟨b, o, hA, hb, hc i _ hx 0 _ rfl, hc i _ hx 1 _ rfl, hc i _ hx 2 _ rfl, hc i _ hx 3 _ rfl, hc i _ hx 4 _ rfl, hc i _ hx 5 _ rfl⟩
theorem At6.keep {w w' : World} {b o : Nat} {z0 z1 z2 z3 z4 z5 : Value} (h : At6 w b o z0 z1 z2 z3 z4 z5) (hb : w'.heap[b]? = w.heap[b]?) : At6 w' b o z0 z1 z2 z3 z4 z5 :=
 ⟨(World.cell?_of_block hb).trans h.1, (World.cell?_of_block hb).trans h.2.1, (World.cell?_of_block hb).trans h.2.2.1, (World.cell?_of_block hb).trans h.2.2.2.1, (World.cell?_of_block hb).trans h.2.2.2.2.1, (World.cell?_of_block hb).trans h.2.2.2.2.2⟩
theorem At6.below {w w' : World} {B b o : Nat} {z0 z1 z2 z3 z4 z5 : Value} (h : At6 w b o z0 z1 z2 z3 z4 z5) (hb : Below B w w') (hlt : b < B) : At6 w' b o z0 z1 z2 z3 z4 z5 := h.keep (hb.block b hlt)
abbrev RawM := (Int × Int × Int) × Rat
abbrev mcells (e : Int × Int × Int) (z0 z1 z2 : Value) : List Value := [.int .i64 e.1, .int .i64 e.2.1, .int .i64 e.2.2, z0, z1, z2]
def PBy (R : Value -> Rat -> Prop) (w : World) (v : Value) (l : List RawM) : Prop :=
 ∃ A n c xs, v = .slice A n c /\ RdK w 6 xs A n c /\ xs.length = l.length /\ ∀ (i : Nat) (e : Int × Int × Int) (q : Rat), l[i]? = some (e, q) -> ∃ z0 z1 z2, xs[i]? = some (mcells e z0 z1 z2) /\ R (.agg #[z0, z1, z2]) q
theorem PBy.imp {R R' : Value -> Rat -> Prop} {w w' : World} {v : Value} {l : List RawM} (h : PBy R w v l) (hR : ∀ z q, R z q -> R' z q) (hs : w.heap.size <= w'.heap.size) (hk : ∀ b, b < w.heap.size -> w'.heap[b]? = w.heap[b]?) : PBy R' w' v l := by
 obtain ⟨A, n, c, xs, e, h1, h2, h3⟩ := h
 refine ⟨A, n, c, xs, e, h1.keep hs hk, h2, fun i e q hi => ?_⟩
 obtain ⟨z0, z1, z2, hx, hr⟩ := h3 i e q hi
 exact ⟨z0, z1, z2, hx, hR _ _ hr⟩
theorem PBy.slice {R : Value -> Rat -> Prop} {w : World} {v : Value} {l : List RawM} (h : PBy R w v l) : ∃ A c, v = .slice A l.length c := by
 obtain ⟨A, n, c, xs, e, h1, h2, _⟩ := h
 exact ⟨A, c, by rw [e, <- h2, <- h1.len]⟩
theorem PBy.at {R : Value -> Rat -> Prop} {w : World} {A : Option Addr} {n c : Nat} {l : List RawM} (h : PBy R w (.slice A n c) l) {i : Nat} {e : Int × Int × Int} {q : Rat} (hi : l[i]? = some (e, q)) :
 ∃ b o z0 z1 z2, A = some ⟨b, o, none⟩ /\ b < w.heap.size /\ At6 w b (o + i * 6) (.int .i64 e.1) (.int .i64 e.2.1) (.int .i64 e.2.2) z0 z1 z2 /\ R (.agg #[z0, z1, z2]) q := by
 obtain ⟨A', n', c', xs, e', h1, h2, h3⟩ := h
 cases e'
 obtain ⟨z0, z1, z2, hx, hr⟩ := h3 i e q hi
 obtain ⟨b, o, hA, hb, hc⟩ := h1.at6 hx
 exact ⟨b, o, z0, z1, z2, hA, hb, hc, hr⟩
theorem PBy.take {R : Value -> Rat -> Prop} {w : World} {A : Option Addr} {n c : Nat} {l : List RawM} (h : PBy R w (.slice A n c) l) {m : Nat} (hm : m <= n) : PBy R w (.slice A m c) (l.take m) := by
 obtain ⟨A', n', c', xs, e', h1, h2, h3⟩ := h
 cases e'
 refine ⟨A, m, c, xs.take m, rfl, h1.take hm, by rw [List.length_take, List.length_take, h2], fun i e q hi => ?_⟩
 rw [List.getElem?_take] at hi
 split at hi
 ·next hlt =>
  obtain ⟨z0, z1, z2, hx, hr⟩ := h3 i e q hi
  exact ⟨z0, z1, z2, by rw [List.getElem?_take, if_pos hlt]; exact hx, hr⟩
 ·cases hi
theorem PBy.nil (R : Value -> Rat -> Prop) (w : World) (A : Option Addr) (c : Nat) : PBy R w (.slice A 0 c) [] := ⟨A, 0, c, [], rfl, RdK.nil _ _ _ _, rfl, fun i e q hi => by simp at hi⟩
def PIn (w : World) (v : Value) (l : List RawM) (L : Nat) : Prop := PBy (fun z q => Inp w z q L) w v l /\ l.length <= 1000000
theorem PIn.below {w w' : World} {v : Value} {l : List RawM} {L : Nat} (h : PIn w v l L) (hb : Below w.heap.size w w') : PIn w' v l L := ⟨h.1.imp (fun _ _ hr => hr.below hb) hb.size hb.block, h.2⟩
def rawOf (m : Mon) : RawM := (((m.1.1 : Int), (m.1.2.1 : Int), (m.1.2.2 : Int)), m.2)
def Pol (w : World) (v : Value) (l : List Mon) : Prop := PBy (RatQ w) w v (l.map rawOf)
theorem Pol.below {w w' : World} {v : Value} {l : List Mon} (h : Pol w v l) (hb : Below w.heap.size w w') : Pol w' v l := PBy.imp h (fun _ _ hr => hr.below hb) hb.size hb.block
theorem Pol.slice {w : World} {v : Value} {l : List Mon} (h : Pol w v l) : ∃ A c, v = .slice A l.length c := by
 obtain ⟨A, c, e⟩ := PBy.slice h
 exact ⟨A, c, by rw [e, List.length_map]⟩
theorem Pol.at {w : World} {A : Option Addr} {n c : Nat} {l : List Mon} (h : Pol w (.slice A n c) l) {i : Nat} {m : Mon} (hi : l[i]? = some m) :
 ∃ b o z0 z1 z2, A = some ⟨b, o, none⟩ /\ b < w.heap.size /\ At6 w b (o + i * 6) (.int .i64 (m.1.1 : Int)) (.int .i64 (m.1.2.1 : Int)) (.int .i64 (m.1.2.2 : Int)) z0 z1 z2 /\ RatQ w (.agg #[z0, z1, z2]) m.2 :=
 PBy.at h (by rw [List.getElem?_map, hi]; rfl)
theorem Pol.nil (w : World) (A : Option Addr) (c : Nat) : Pol w (.slice A 0 c) [] := PBy.nil _ _ _ _
def RetPol (w0 : World) (l : List Mon) (e : Ending) (w' : World) : Prop := ∃ v, e = .returned v /\ Pol w' v l /\ Below w0.heap.size w0 w'
def SzL (l : List Mon) (L : Nat) : Prop := ∀ m ∈ l, Sz m.2 L
theorem SzL.mono {l : List Mon} {L M : Nat} (h : SzL l L) (hm : L <= M) : SzL l M := fun m hm' => (h m hm').mono hm
def knownI (e : Int × Int × Int) : Bool := decide (0 <= e.1 /\ e.1 <= 5 /\ 0 <= e.2.1 /\ e.2.1 <= 5 /\ 0 <= e.2.2 /\ e.2.2 <= 5 /\ e.1 + e.2.1 + e.2.2 <= 5)
def lexI (e f : Int × Int × Int) : Int := if e.1 < f.1 then -1 else if f.1 < e.1 then 1 else if e.2.1 < f.2.1 then -1 else if f.2.1 < e.2.1 then 1 else if e.2.2 < f.2.2 then -1 else if f.2.2 < e.2.2 then 1 else 0
def okAt (l : List RawM) (i : Nat) : Prop := ∀ m, l[i]? = some m -> knownI m.1 = true /\ m.2 ≠ 0 /\ (0 < i -> ∀ p, l[i - 1]? = some p -> 0 < lexI p.1 m.1)
def vraw (l : List RawM) : Prop := ∀ i, i < l.length -> okAt l i
def monOf (m : RawM) : Mon := ((m.1.1.toNat, m.1.2.1.toNat, m.1.2.2.toNat), m.2)
noncomputable def cleanL (l : List RawM) : List Mon := by classical exact if vraw l then l.map monOf else []
theorem cleanL_pos {l : List RawM} (h : vraw l) : cleanL l = l.map monOf := by unfold cleanL; exact if_pos h
theorem cleanL_neg {l : List RawM} (h : ¬ vraw l) : cleanL l = [] := by unfold cleanL; exact if_neg h
theorem knownI_iff {e : Int × Int × Int} : knownI e = true ↔ (0 <= e.1 /\ 0 <= e.2.1 /\ 0 <= e.2.2 /\ e.1 + e.2.1 + e.2.2 <= 5) := by
 unfold knownI
 rw [decide_eq_true_iff]
 omega
theorem lexI_pos {e f : Int × Int × Int} (h : 0 < lexI e f) (he : knownI e = true) (hf : knownI f = true) : elt (f.1.toNat, f.2.1.toNat, f.2.2.toNat) (e.1.toNat, e.2.1.toNat, e.2.2.toNat) = true := by
 rw [knownI_iff] at he hf
 rw [elt_iff]
 unfold lexI at h
 simp only
 split at h
 ·omega
 ·split at h
  ·omega
  ·split at h
   ·omega
   ·split at h
    ·omega
    ·split at h
     ·omega
     ·split at h
      ·omega
      ·omega
theorem pairwise_of_steps {α : Type} {R : α -> α -> Prop} (ht : ∀ {a b c}, R a b -> R b c -> R a c) : ∀ (l : List α), (∀ i a b, l[i]? = some a -> l[i + 1]? = some b -> R a b) -> l.Pairwise R
 | [], _ => List.Pairwise.nil
 | [a], _ => List.pairwise_singleton _ _
 | a :: b :: l, h => by
   have ih := pairwise_of_steps (R := R) ht (b :: l) (fun i x y hx hy => h (i + 1) x y (by simpa using hx) (by simpa using hy))
   refine List.pairwise_cons.2 ⟨fun c hc => ?_, ih⟩
   have hab : R a b := h 0 a b rfl rfl
   rcases List.mem_cons.1 hc with rfl | hc
   ·exact hab
   ·exact ht hab ((List.pairwise_cons.1 ih).1 c hc)
theorem vraw_vp {l : List RawM} (h : vraw l) : VP (l.map monOf) := by
 refine ⟨fun m hm => ?_, ?_⟩
 ·obtain ⟨r, hr, rfl⟩ := List.mem_map.1 hm
  obtain ⟨i, hi, rfl⟩ := List.getElem_of_mem hr
  obtain ⟨h1, h2, _⟩ := h i hi _ (List.getElem?_eq_getElem hi)
  rw [knownI_iff] at h1
  exact ⟨by unfold deg monOf; simp only; omega, h2⟩
 ·refine pairwise_of_steps (R := fun m n : Mon => elt n.1 m.1 = true) (fun h1 h2 => elt_trans h2 h1) _ (fun i a b ha hb => ?_)
  rw [List.getElem?_map] at ha hb
  obtain ⟨x, hx, rfl⟩ := Option.map_eq_some_iff.1 ha
  obtain ⟨y, hy, rfl⟩ := Option.map_eq_some_iff.1 hb
  have h1 := h i (List.getElem?_eq_some_iff.1 hx).1 x hx
  have h2 := h (i + 1) (List.getElem?_eq_some_iff.1 hy).1 y hy
  exact lexI_pos (h2.2.2 (by omega) x hx) h1.1 h2.1
theorem vp_cleanL (l : List RawM) : VP (cleanL l) := by
 classical
 by_cases h : vraw l
 ·rw [cleanL_pos h]; exact vraw_vp h
 ·rw [cleanL_neg h]; exact ⟨fun m hm => absurd hm (List.not_mem_nil), List.Pairwise.nil⟩
theorem raw_mon {e : RawM} (h : knownI e.1 = true) : rawOf (monOf e) = e := by
 rw [knownI_iff] at h
 obtain ⟨⟨a, b, c⟩, q⟩ := e
 simp only [rawOf, monOf, Prod.mk.injEq, and_true]
 simp only at h
 omega
theorem vraw_raw {l : List RawM} (h : vraw l) : (l.map monOf).map rawOf = l := by
 rw [List.map_map]
 conv => rhs; rw [<- List.map_id l]
 refine List.map_congr_left (fun e he => ?_)
 obtain ⟨i, hi, rfl⟩ := List.getElem_of_mem he
 exact raw_mon (h i hi _ (List.getElem?_eq_getElem hi)).1
theorem mon_raw (m : Mon) : monOf (rawOf m) = m := rfl
theorem vraw_of_vp {l : List Mon} (h : VP l) : vraw (l.map rawOf) := by
 intro i hi m hm
 rw [List.getElem?_map] at hm
 obtain ⟨x, hx, rfl⟩ := Option.map_eq_some_iff.1 hm
 have hmem := List.mem_of_getElem? hx
 have hd := (h.1 x hmem).1
 unfold deg at hd
 refine ⟨knownI_iff.2 (by unfold rawOf; simp only; omega), (h.1 x hmem).2, fun h0 p hp => ?_⟩
 rw [List.getElem?_map] at hp
 obtain ⟨y, hy, rfl⟩ := Option.map_eq_some_iff.1 hp
 have hlt : elt x.1 y.1 = true := by
  have h1 := List.pairwise_iff_getElem.1 h.2 (i - 1) i (List.getElem?_eq_some_iff.1 hy).1 (List.getElem?_eq_some_iff.1 hx).1 (by omega)
  rwa [(List.getElem?_eq_some_iff.1 hy).2, (List.getElem?_eq_some_iff.1 hx).2] at h1
 rw [elt_iff] at hlt
 unfold lexI rawOf
 simp only
 split
 ·omega
 ·split
  ·omega
  ·split
   ·omega
   ·split
    ·omega
    ·split
     ·omega
     ·split
      ·omega
      ·omega
theorem cleanL_raw {l : List Mon} (h : VP l) : cleanL (l.map rawOf) = l := by
 rw [cleanL_pos (vraw_of_vp h), List.map_map]
 conv => rhs; rw [<- List.map_id l]
 exact List.map_congr_left (fun m _ => mon_raw m)
theorem Pol.pin {w : World} {v : Value} {l : List Mon} {L : Nat} (h : Pol w v l) (hs : SzL l L) (hL : L <= 8388608) (hn : l.length <= 1000000) : PIn w v (l.map rawOf) L := by
 refine ⟨?_, by rw [List.length_map]; exact hn⟩
 obtain ⟨A, n, c, xs, e, h1, h2, h3⟩ := h
 refine ⟨A, n, c, xs, e, h1, h2, fun i e q hi => ?_⟩
 obtain ⟨z0, z1, z2, hx, hr⟩ := h3 i e q hi
 refine ⟨z0, z1, z2, hx, hr.inp ?_ hL⟩
 rw [List.getElem?_map] at hi
 obtain ⟨m, hm, he⟩ := Option.map_eq_some_iff.1 hi
 have := hs m (List.mem_of_getElem? hm)
 rw [show m.2 = q from congrArg Prod.snd he] at this
 exact this
theorem vp_length {l : List Mon} (h : VP l) : l.length <= 56 := by
 rw [<- listOf_co h]
 unfold listOf
 rw [List.length_map, <- length_allE]
 exact List.length_filter_le _ _
theorem Inp.ratq {w : World} {v : Value} {q : Rat} {L : Nat} (h : Inp w v q L) (h0 : q ≠ 0) : RatQ w v q := by
 obtain ⟨neg, A, n, c, A', m, c', ln, ld, rfl, h1, h2, _, _, h5, _⟩ := h
 subst h5
 by_cases hv : vld neg ln ld = true
 ·exact ratq_of hv h1 h2
 ·exact absurd (by unfold fq; rw [if_neg hv]) h0
theorem Inp.sz {w : World} {v : Value} {q : Rat} {L : Nat} (h : Inp w v q L) : Sz q L := by
 obtain ⟨_, _, _, _, _, _, _, _, _, _, _, _, _, _, _, h6⟩ := h
 exact h6
theorem PIn.pol {w : World} {v : Value} {l : List RawM} {L : Nat} (h : PIn w v l L) (hv : vraw l) : Pol w v (cleanL l) := by
 rw [cleanL_pos hv]
 unfold Pol
 rw [vraw_raw hv]
 obtain ⟨⟨A, n, c, xs, e, h1, h2, h3⟩, _⟩ := h
 refine ⟨A, n, c, xs, e, h1, h2, fun i e q hi => ?_⟩
 obtain ⟨z0, z1, z2, hx, hr⟩ := h3 i e q hi
 exact ⟨z0, z1, z2, hx, hr.ratq (hv i (List.getElem?_eq_some_iff.1 hi).1 _ hi).2.1⟩
theorem PIn.szl {w : World} {v : Value} {l : List RawM} {L : Nat} (h : PIn w v l L) : SzL (cleanL l) L := by
 classical
 by_cases hv : vraw l
 ·rw [cleanL_pos hv]
  intro m hm
  obtain ⟨r, hr, rfl⟩ := List.mem_map.1 hm
  obtain ⟨i, hi, rfl⟩ := List.getElem_of_mem hr
  obtain ⟨⟨A, n, c, xs, e, h1, h2, h3⟩, _⟩ := h
  obtain ⟨z0, z1, z2, hx, hr⟩ := h3 i _ _ (List.getElem?_eq_getElem hi)
  exact hr.sz
 ·rw [cleanL_neg hv]; intro m hm; cases hm
end Go.Proofs.YtifeekomegoijaaGreatDoor
