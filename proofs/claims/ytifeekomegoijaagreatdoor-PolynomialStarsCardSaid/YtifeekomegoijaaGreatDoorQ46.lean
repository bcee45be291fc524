/- texts -/
import Derived.Test.YtifeekomegoijaaGreatDoorQ45
import Derived.Test.YtifeekomegoijaaGreatDoorQ01
import Derived.Test.YtifeekomegoijaaGreatDoorQ03
import Derived.Test.YtifeekomegoijaaGreatDoorQ39
import Derived.Test.YtifeekomegoijaaGreatDoorQ37
set_option linter.unusedVariables false
set_option linter.unusedSimpArgs false
namespace Go.Proofs.YtifeekomegoijaaGreatDoor
open Go.RowKit

def RetNumb (w0 : World) (e : Ending) (w' : World) : Prop := ∃ v q, e = .returned v ∧ RatQ w' v q ∧ Sz q 1 ∧ Below w0.heap.size w0 w'
theorem sz_made (b : Bool) {a d : Nat} (ha : a ≤ 6) (hd : d ≠ 0) (hd3 : d ≤ 3) : Sz (qv b a d) 1 := by
 unfold qv
 refine sz_le hd (small_len ?_) (small_len (by omega))
 unfold sgn
 split <;> omega
set_option maxRecDepth 20000 in
set_option maxHeartbeats 2000000 in
theorem Number_any (k : Int) (w : World) (hk1 : -9223372036854775808 ≤ k) (hk2 : k ≤ 9223372036854775807) : Calls Tryz.prog 42 #[.int .i64 k] w (RetNumb w) := by
 obtain ⟨hb1, c1⟩ := blk1 w [.bool false, .slice none 0 0, .slice none 0 0] 25
 have hM := Mod_in k 13 (w.alloc (R1 (.bool false) (.slice none 0 0) (.slice none 0 0))) hk1 hk2 (by omega) (by omega)
 have HM := Lib.hid hM
 have HB1 := Lib.hid hb1
 have HC1 := Lib.hid c1
 clear hM hb1 c1
 obtain ⟨y, hy⟩ : ∃ y, k.tdiv 13 = y := ⟨_, rfl⟩
 have hy1 : -9223372036854775808 ≤ y ∧ y ≤ 9223372036854775807 := by
  have h1 : y.natAbs = k.natAbs / 13 := by rw [← hy]; exact Int.natAbs_tdiv k 13
  omega
 have HM2 := Lib.hid (fun W => Mod_in y 3 W hy1.1 hy1.2 (by omega) (by omega))
 have hd13 : ((13 : Int) == 0) = false := by decide
 obtain ⟨hy1, hy2⟩ := hy1
 have hwy : IntKind.i64.wrap y = y := IntWalk.i64_in _ (by omega)
 go_enter Tryz.func42, Tryz.ntmps42
 go_wp2_with fail
 refine HM.out.mono ?_
 rintro e2 w2 ⟨r, hr, rfl, rfl⟩
 have hwr : IntKind.i64.wrap ((r : Int) - 6) = (r : Int) - 6 := IntWalk.i64_in _ (by omega)
 go_wp2_with fail
 refine (HM2.out _).mono ?_
 rintro e3 w3 ⟨s, hs, rfl, rfl⟩
 have hws : IntKind.i64.wrap (1 + (s : Int)) = 1 + (s : Int) := IntWalk.i64_in _ (by omega)
 go_wp2_with fail
 refine (r_Of ((r : Int) - 6) (1 + (s : Int)) _ (by omega) _ rfl (by omega) (by omega) (by omega) (by omega)).mono ?_
 rintro e4 w4 ⟨v4, rfl, hq4, hb4⟩
 have hsz : Sz (qv (decide ((r : Int) - 6 < 0) != decide (1 + (s : Int) < 0)) ((r : Int) - 6).natAbs (1 + (s : Int)).natAbs) 1 := sz_made _ (by omega) (by omega) (by omega)
 generalize qv (decide ((r : Int) - 6 < 0) != decide (1 + (s : Int) < 0)) ((r : Int) - 6).natAbs (1 + (s : Int)).natAbs = q at *
 obtain ⟨nb, A, n, c, B, m, d, rfl⟩ := hq4.agg
 have c4 := HC1.out.below hb4 HC1.out.lt
 have f0 := c4.frozen 0
 have f1 := c4.frozen 1
 have f2 := c4.frozen 2
 obtain ⟨r0, r1, r2⟩ := c4.c3
 have HEND := Lib.hid (And.intro (hq4.setL c4 (by simp) (k := 0) [.bool nb, .slice A n c, .slice B m d]) (And.intro hsz (below_setL (g := w.heap.size) (Nat.le_refl _) [.bool nb, .slice A n c, .slice B m d] 0 (HB1.out.trans (hb4.mono HB1.out.size)))))
 have HCS := Lib.hid (c4.setL [.bool nb, .slice A n c, .slice B m d] rfl)
 clear hq4 hb4 c4 hsz
 go_wp2_with fail
 refine ret_cs Tryz.results42 Tryz.underlying25 (by kernel_rfl) rfl HCS.out rfl ?_
 exact ⟨_, q, rfl, HEND.out⟩
set_option maxRecDepth 20000 in
set_option maxHeartbeats 2000000 in
theorem pow_any (i : Nat) (hi : i < 3) (w : World) : Calls Tryz.prog 83 #[.int .i64 4, .int .i64 (i : Int)] w (fun e w' => e = .returned (.int .i64 ((4 ^ i : Nat) : Int)) ∧ w = w') := by
 match i, hi with
 | 0, _ =>
  go_enter Tryz.func83, Tryz.ntmps83
  go_wp2_with fail
  refine wp_loop_rounds 1 ?_
  rw [rounds_succ]
  go_wp2_with fail
  go_ret
  exact ⟨rfl, rfl⟩
 | 1, _ =>
  go_enter Tryz.func83, Tryz.ntmps83
  go_wp2_with fail
  refine wp_loop_rounds 2 ?_
  rw [rounds_succ]
  go_wp2_with fail
  rw [rounds_succ]
  go_wp2_with fail
  go_ret
  exact ⟨rfl, rfl⟩
 | 2, _ =>
  go_enter Tryz.func83, Tryz.ntmps83
  go_wp2_with fail
  refine wp_loop_rounds 3 ?_
  rw [rounds_succ]
  go_wp2_with fail
  rw [rounds_succ]
  go_wp2_with fail
  rw [rounds_succ]
  go_wp2_with fail
  go_ret
  exact ⟨rfl, rfl⟩
end Go.Proofs.YtifeekomegoijaaGreatDoor

namespace Go.Proofs.YtifeekomegoijaaGreatDoor
open Go.RowKit

theorem deg_uE (j : Nat) : deg (uE j) ≤ 5 := by
 match j with
 | 0 => decide
 | 1 => decide
 | _ + 2 => exact (by decide : deg (0, 0, 1) ≤ 5)
theorem vp_uE (j : Nat) : VP [(uE j, (1 : Rat))] := ⟨fun m hm => by rw [List.mem_singleton.1 hm]; exact ⟨deg_uE j, (by decide : (1 : Rat) ≠ 0)⟩, List.pairwise_singleton _ _⟩
theorem szL_uE (j : Nat) : SzL [(uE j, (1 : Rat))] 1 := fun m hm => by rw [List.mem_singleton.1 hm]; exact sz_one' 1 (Nat.le_refl _)
theorem szL_monL (e : Ex) {q : Rat} {L : Nat} (h : Sz q L) : SzL (monL e q) L := fun m hm => by
 unfold monL at hm
 split at hm
 ·rw [List.mem_singleton.1 hm]; exact h
 ·simp at hm
theorem cell_keep {B : Nat} {w w' : World} (hb : Below B w w') {b o : Nat} {x : Value} (hlt : b < B) (h : w.cell? ⟨b, o, none⟩ = some x) : w'.cell? ⟨b, o, none⟩ = some x := by
 rw [← h]
 unfold World.cell?
 simp only []
 rw [hb.block b hlt]
theorem tdiv_range {x : Int} {P : Nat} (hP : 1 ≤ P) (h : -9223372036854775808 ≤ x ∧ x ≤ 9223372036854775807) : -9223372036854775808 ≤ x.tdiv P ∧ x.tdiv P ≤ 9223372036854775807 := by
 have h1 : (x.tdiv P).natAbs = x.natAbs / P := Int.natAbs_tdiv x P
 have h2 : x.natAbs / P ≤ x.natAbs := Nat.div_le_self _ _
 rcases Int.lt_or_le x 0 with hx | hx
 ·have h3 : (-x).tdiv P = -(x.tdiv P) := Int.neg_tdiv ..
  have h4 : 0 ≤ (-x).tdiv P := Int.tdiv_nonneg (by omega) (by omega)
  omega
 ·omega
def RetPoly (w0 : World) (e : Ending) (w' : World) : Prop := ∃ v l, e = .returned v ∧ Pol w' v l ∧ VP l ∧ l.length ≤ 4 ∧ SzL l 9 ∧ Below w0.heap.size w0 w'
set_option maxRecDepth 40000 in
set_option maxHeartbeats 8000000 in
theorem poly_any (A : Option Addr) (n c : Nat) (l : List Int) (w : World) (h : Ints w l A n c) (hr : ∀ x ∈ l, -9223372036854775808 ≤ x ∧ x ≤ 9223372036854775807) :
  Calls Tryz.prog 38 #[.slice A n c, .int .i64 4] w (RetPoly w) := by
 have HL := Lib.hid h
 have HR := Lib.hid hr
 have HN := Lib.hid h.len
 clear h hr
 go_enter Tryz.func38, Tryz.ntmps38
 go_wp2_with fail
 go_loopw [5, 6] (fun v i wr => ∃ (t : Nat) (p : List Mon), t ≤ 4 ∧ i = .int .i64 ((2 * t : Nat) : Int) ∧ Pol wr v p ∧ Hid (VP p ∧ p.length ≤ t ∧ SzL p (1 + 2 * t)) ∧ Below w.heap.size w wr) (fun _ i _ => (8 - intOf i).toNat)
 case atStart => exact ⟨0, [], by omega, rfl, Pol.nil _ _ _, Lib.hid ⟨⟨fun m hm => by simp at hm, List.Pairwise.nil⟩, Nat.le_refl _, fun m hm => by simp at hm⟩, Below.refl _ _⟩
 case round =>
  obtain ⟨t, p, ht, rfl, hp, HF, hb⟩ := hrel
  obtain ⟨wo, rfl⟩ : ∃ wo, wo = wr := ⟨_, rfl⟩
  obtain ⟨i2, hi2⟩ : ∃ i2, 2 * t = i2 := ⟨_, rfl⟩
  rw [hi2]
  have hw1 : IntKind.i64.wrap ((i2 : Int) + 1) = (i2 : Int) + 1 := IntWalk.i64_in _ (by omega)
  by_cases h1 : (i2 : Int) + 1 < (n : Int)
  ·by_cases h2 : (i2 : Int) < 8
   ·obtain ⟨b0, o0, rfl, hb0, hc1⟩ := (HL.out.below hb).at_ (k := i2 + 1) (by omega)
    obtain ⟨b1, o1, he1, _, hc2⟩ := (HL.out.below hb).at_ (k := i2) (by omega)
    obtain ⟨rfl, rfl⟩ : b0 = b1 ∧ o0 = o1 := by injection he1 with he1; injection he1 with a1 a2; exact ⟨a1, a2⟩
    obtain ⟨z, hz⟩ : ∃ z, l.getD (i2 + 1) 0 = z := ⟨_, rfl⟩
    obtain ⟨x, hx⟩ : ∃ x, l.getD i2 0 = x := ⟨_, rfl⟩
    have hzr := HR.out _ (mem_getD (l := l) (k := i2 + 1) (by have := HN.out; omega))
    have hxr := HR.out _ (mem_getD (l := l) (k := i2) (by have := HN.out; omega))
    rw [hz] at hc1 hzr
    rw [hx] at hc2 hxr
    have HXR := Lib.hid hxr
    have HC2 := Lib.hid hc2
    have HB0 := Lib.hid hb0
    have HP := Lib.hid hp
    have HB := Lib.hid hb
    have HNUM := Lib.hid (fun W => Number_any z W hzr.1 hzr.2)
    have ht4 : t ≤ 3 := by omega
    have hlt2 : (i2 + 1 : Nat) < n := by omega
    have hw2 : wrap64 ((i2 + 1 : Nat) : Int) = ((i2 + 1 : Nat) : Int) := IntWalk.wrap64_in _ ⟨by omega, by omega⟩
    clear hz hx hxr hzr hc2 hp hb he1 hb0
    go_wp2_with fail
    refine (HNUM.out _).mono ?_
    rintro e2 w2 ⟨v2, q, rfl, hq2, hs2, hb2⟩
    clear hc1
    go_wp2_with fail
    refine (r2_Constant _ q _ (hq2.inr hs2 (by omega)) (hs2.mono (by omega))).mono ?_
    rintro e3 w3 ⟨v3, rfl, hp3, hb3⟩
    rw [const_monL] at hp3
    have HSQ := Lib.hid hs2
    have HB3 := Lib.hid (hb2.trans (hb3.mono hb2.size))
    have HP3 := Lib.hid hp3
    clear hq2 hs2 hb2 hb3 hp3 HNUM
    go_wp2_with fail
    go_loopw [7, 8] (fun mv jv wr => ∃ (j : Nat) (e : Ex), j ≤ 3 ∧ jv = .int .i64 (j : Int) ∧ Pol wr mv (monL e q) ∧ Below wo.heap.size wo wr) (fun _ jv _ => (3 - intOf jv).toNat)
    case atStart => exact ⟨0, (0, 0, 0), by omega, rfl, HP3.out, HB3.out⟩
    case round =>
     obtain ⟨j, e0, hj, rfl, hp, hb⟩ := hrel
     obtain ⟨wi, rfl⟩ : ∃ wi, wi = wr := ⟨_, rfl⟩
     rcases Nat.lt_or_ge j 3 with hj3 | hj3
     ·have HJ := Lib.hid hj3
      have HPJ := Lib.hid hp
      have HBJ := Lib.hid hb
      obtain ⟨P4, hP4⟩ : ∃ P4 : Nat, 4 ^ j = P4 := ⟨_, rfl⟩
      have hP : 1 ≤ P4 := by rw [← hP4]; exact Nat.pow_pos (by decide)
      have HPOW : Hid (∀ W, Calls Tryz.prog 83 #[.int .i64 4, .int .i64 (j : Int)] W (fun e w' => e = .returned (.int .i64 (P4 : Int)) ∧ W = w')) := Lib.hid (fun W => hP4 ▸ pow_any j hj3 W)
      obtain ⟨y, hy⟩ : ∃ y, x.tdiv (P4 : Int) = y := ⟨_, rfl⟩
      have hy1 : -9223372036854775808 ≤ y ∧ y ≤ 9223372036854775807 := by
       rw [← hy]; exact tdiv_range hP HXR.out
      have HMOD := Lib.hid (fun W => Mod_in y 4 W hy1.1 hy1.2 (by omega) (by omega))
      have HY := Lib.hid hy
      have HPZ : Hid (¬ P4 = 0) := Lib.hid (by omega)
      have HWY : Hid (IntKind.i64.wrap y = y) := Lib.hid (IntWalk.i64_in _ (by omega))
      have hj3' : (j : Int) < 3 := by omega
      clear hj hj3 hp hb hy hy1 hP4 hP
      go_wp2_with fail
      go_loopw [7, 9] (fun mv kv wr => ∃ (k : Nat) (e : Ex), k ≤ 3 ∧ kv = .int .i64 (k : Int) ∧ Pol wr mv (monL e q) ∧ Below wo.heap.size wo wr) (fun _ kv _ => (3 - intOf kv).toNat)
      case atStart => exact ⟨0, e0, by omega, rfl, HPJ.out, HBJ.out⟩
      case round =>
       obtain ⟨k, e, hk, rfl, hp, hb⟩ := hrel
       obtain ⟨wk, rfl⟩ : ∃ wk, wk = wr := ⟨_, rfl⟩
       have HBW := Lib.hid hb.drew
       have HPW := Lib.hid (hp.below (Below.refl _ _).drew)
       have HCE : Hid (wk.drew.cell? ⟨b0, o0 + i2, none⟩ = some (.int .i64 x)) := Lib.hid (cell_keep HBW.out HB0.out HC2.out)
       have HBL : Hid (b0 < wk.drew.heap.size) := Lib.hid (Nat.lt_of_lt_of_le HB0.out HBW.out.size)
       have hlt2 : i2 < n := by omega
       have hw2 : wrap64 (i2 : Int) = (i2 : Int) := IntWalk.wrap64_in _ ⟨by omega, by omega⟩
       clear hp hb
       go_upto_region 10 with (fail)
       refine wp_region6 9 [34, 35, 36, 37, 38, 39, 40, 41, 42] [.val (.int .i64 (k : Int)), .val (.slice (some ⟨b0, o0, none⟩) n c), .val (.int .i64 (i2 : Int)), .val (.pointer (some ⟨b0, o0 + i2, none⟩)), .val (.int .i64 x), .val (.int .i64 (j : Int)), .val (.int .i64 (P4 : Int)), .val (.int .i64 y), .st (fun w a => ∃ r : Nat, r < 4 ∧ a = .int .i64 (r : Int))] (by kernel_rfl) (by kernel_rfl) (by kernel_rfl) (by kernel_rfl) ?step 1 (by kernel_rfl) _ rfl ?fin
       case step =>
        intro i hi oi ho f wx hB hdep K hK
        simp only [frontAct, List.foldl_cons, List.foldl_nil, List.setIfInBounds_toArray, List.set_cons_succ, List.set_cons_zero] at hK ⊢
        have hcell := cell_keep hB HBL.out HCE.out
        obtain rfl | rfl | rfl | rfl | rfl | rfl | rfl | rfl | rfl : i = 0 ∨ i = 1 ∨ i = 2 ∨ i = 3 ∨ i = 4 ∨ i = 5 ∨ i = 6 ∨ i = 7 ∨ i = 8 := by omega
        all_goals
         obtain rfl := Option.some.inj ho
         simp only [Act.put, List.setIfInBounds_toArray, List.set_cons_succ, List.set_cons_zero] at hK
        rotate_left
        rotate_left
        rotate_left
        have e35 := dv6 (hdep ⟨1, .data⟩ (by simp) rfl) rfl
        have e36 := dv6 (hdep ⟨2, .data⟩ (by simp) rfl) rfl
        simp only [List.getD_cons_succ, List.getD_cons_zero] at e35 e36
        generalize f 35 = f35 at *; subst e35
        generalize f 36 = f36 at *; subst e36
        rotate_left
        have e37 := dv6 (hdep ⟨3, .data⟩ (by simp) rfl) rfl
        simp only [List.getD_cons_succ, List.getD_cons_zero] at e37
        generalize f 37 = f37 at *; subst e37
        rotate_left
        rotate_left
        ·have e39 := dv6 (hdep ⟨5, .data⟩ (by simp) rfl) rfl
         simp only [List.getD_cons_succ, List.getD_cons_zero] at e39
         generalize f 39 = f39 at *; subst e39
         go_simp
         refine (HPOW.out wx).mono ?_
         rintro e0 w' ⟨rfl, rfl⟩
         exact hK (.int .i64 (P4 : Int)) wx (gv6 rfl) (Below.refl _ _) hB (nb6 rfl rfl)
        have e38 := dv6 (hdep ⟨4, .data⟩ (by simp) rfl) rfl
        have e40 := dv6 (hdep ⟨6, .data⟩ (by simp) rfl) rfl
        simp only [List.getD_cons_succ, List.getD_cons_zero] at e38 e40
        generalize f 38 = f38 at *; subst e38
        generalize f 40 = f40 at *; subst e40
        have hy := HY.out
        have hpz := HPZ.out
        have hwy := HWY.out
        rotate_left
        ·have e41 := dv6 (hdep ⟨7, .data⟩ (by simp) rfl) rfl
         simp only [List.getD_cons_succ, List.getD_cons_zero] at e41
         generalize f 41 = f41 at *; subst e41
         go_simp
         refine (HMOD.out wx).mono ?_
         rintro e0 w' ⟨r, hr, rfl, rfl⟩
         exact hK (.int .i64 (r : Int)) wx (gs6 rfl (fun _ _ => ⟨r, hr, rfl⟩)) (Below.refl _ _) hB (nb6 rfl rfl)
        all_goals go_simp
        all_goals exact hK _ wx (gv6 rfl) (Below.refl _ _) hB (nb6 rfl rfl)
       case fin =>
        intro f wx hB hG hne
        have e34 := dv6 (a := f 34) (hG 0 (by decide)) rfl
        have e42 : ∃ r : Nat, r < 4 ∧ f 42 = .int .i64 (r : Int) := ds6 (hG 8 (by decide)) rfl
        clear hG hne
        simp only [frontAct, List.foldl_cons, List.foldl_nil, List.setIfInBounds_toArray, List.set_cons_succ, List.set_cons_zero]
        generalize f 34 = f34 at *; subst e34
        generalize f 42 = f42 at *
        obtain ⟨r, hr, rfl⟩ := e42
        have HBX := Lib.hid (HBW.out.trans (hB.mono HBW.out.size))
        have HP3 := Lib.hid (HPW.out.below hB)
        clear hB
        by_cases hkr : (k : Int) < (r : Int)
        ·refine wpAny_ready (rs := [9]) (by kernel_rfl) (by simp) ?_
         refine AllReady.cons rfl (fun K hK => ?_) AllReady.nil
         have HQ := Lib.hid hK
         clear hK
         go_simp
         refine HQ.out _ _ ?_
         clear HQ K
         refine wpAny_done (by kernel_rfl) ?_ _
         have HKR : Hid (k < 3) := Lib.hid (by omega)
         go_wp2_with fail
         refine (r2_Parameter j _ HJ.out).mono ?_
         rintro e6 w6 ⟨v6, rfl, hp6, hb6⟩
         go_wp2_with fail
         refine (r2_Mul _ _ (monL e q) [(uE j, 1)] 1 1 200000 w6 ((HP3.out.below hb6).pir (monL_vp _ _) (szL_monL e HSQ.out) (by omega)) (hp6.pir (vp_uE j) (szL_uE j) (by omega)) (by omega) (by omega) (Nat.le_refl _) (fun i => szC_mulMin (vp_take (monL_vp _ _) i) (vp_uE j) (szL_uE j) (fun m hm => szL_monL e HSQ.out m (List.mem_of_mem_take hm)) (by simp))).mono ?_
         rintro e7 w7 ⟨v7, rfl, hp7, hb7⟩
         rw [mul_monL e (uE j) q (deg_uE j)] at hp7
         have HEND := Lib.hid (And.intro hp7 (HBX.out.trans ((hb6.trans (hb7.mono hb6.size)).mono HBX.out.size)))
         have hk3 := HKR.out
         clear hp6 hp7 hb6 hb7
         go_wp2_with fail
         go_roundw
         case rel => exact ⟨k + 1, eadd e (uE j), by omega, congrArg (Value.int _) (by omega), HEND.out⟩
         case measure => simp [intOf]; omega
        ·refine wpAny_ready (rs := [9]) (by kernel_rfl) (by simp) ?_
         refine AllReady.cons rfl (fun K hK => ?_) AllReady.nil
         have HQ := Lib.hid hK
         clear hK
         go_simp
         refine HQ.out _ _ ?_
         clear HQ K
         refine wpAny_done (by kernel_rfl) ?_ _
         have HEND := Lib.hid (And.intro HP3.out HBX.out)
         have hj3 := HJ.out
         go_wp2_with fail
         go_roundw
         case rel => exact ⟨j + 1, e, HJ.out, congrArg (Value.int _) (by omega), HEND.out⟩
         case measure => simp [intOf]; omega
     ·obtain rfl : j = 3 := by omega
      have h33 : ¬ (3 : Int) < 3 := by omega
      obtain ⟨hvp, hlen, hsz⟩ := HF.out
      have HVP := Lib.hid hvp
      have HLEN := Lib.hid hlen
      have HSZ := Lib.hid hsz
      have HEND := Lib.hid (And.intro hp hb)
      clear hvp hlen hsz hp hb hj hj3
      go_wp2_with fail
      refine (r2_Add _ _ p (monL e0 q) 20 wi ((HP.out.below HEND.out.2).pir HVP.out (HSZ.out.mono (by omega)) (by omega)) (HEND.out.1.pir (monL_vp _ _) ((szL_monL e0 HSQ.out).mono (by omega)) (by omega)) (by omega) (by omega)).mono ?_
      rintro e6 w6 ⟨v6, rfl, hp6, hb6⟩
      have HE6 := Lib.hid (And.intro hp6 ((HB.out.trans (HEND.out.2.mono HB.out.size)).trans (hb6.mono (HB.out.trans (HEND.out.2.mono HB.out.size)).size)))
      clear hp6 hb6
      go_wp2_with fail
      go_roundw
      case rel =>
       refine ⟨t + 1, listOf (addC (co p) (co (monL e0 q))), by omega, congrArg (Value.int _) (by omega), HE6.out.1, Lib.hid ⟨vp_listOf _, Nat.le_trans (len_addC p (monL e0 q)) (Nat.add_le_add HLEN.out (monL_len _ _)), szL_listOf (fun e he => ?_)⟩, HE6.out.2⟩
       exact sz_add (szC_co HVP.out HSZ.out (by omega) e he) (szC_co (monL_vp _ _) (szL_monL e0 HSQ.out) (Nat.le_refl _) e he) (by omega)
      case measure => simp [intOf]; omega
   ·have HEND := Lib.hid (And.intro hp hb)
    clear hp hb
    go_wp2_with fail
    go_ret
    exact ⟨_, p, rfl, HEND.out.1, HF.out.1, Nat.le_trans HF.out.2.1 ht, HF.out.2.2.mono (by omega), HEND.out.2⟩
  ·have HEND := Lib.hid (And.intro hp hb)
   clear hp hb
   go_wp2_with fail
   go_ret
   exact ⟨_, p, rfl, HEND.out.1, HF.out.1, Nat.le_trans HF.out.2.1 ht, HF.out.2.2.mono (by omega), HEND.out.2⟩
end Go.Proofs.YtifeekomegoijaaGreatDoor

namespace Go.Proofs.YtifeekomegoijaaGreatDoor
open Go.RowKit

theorem szB {l : List Mon} (h : (l.all fun m => decide (m.2.num.natAbs < 4294967296 ∧ m.2.den < 4294967296)) = true) : SzL l 1 := fun m hm => by
 have := List.all_eq_true.1 h m hm
 simp only [decide_eq_true_eq] at this
 exact ⟨small_len this.1, small_len this.2⟩
theorem szQ {q : Rat} (h : q.num.natAbs < 4294967296 ∧ q.den < 4294967296) : Sz q 1 := ⟨small_len h.1, small_len h.2⟩
theorem txt_sq : (fmtP pSq) = [97, 94, 50, 32, 43, 32, 50, 42, 97, 42, 98, 32, 43, 32, 98, 94, 50] := by decide +kernel
theorem txt_st : (fmtP pSt) = [54, 52, 42, 97, 94, 53, 32, 43, 32, 51, 50, 42, 97, 94, 52, 32, 43, 32, 49, 54, 42, 97, 94, 51, 32, 43, 32, 56, 42, 97, 94, 50, 32, 43, 32, 52, 42, 97, 32, 43, 32, 50] := by decide +kernel
theorem rest_pAH : restL pAH = [((1, 0, 0), 1)] := by decide +kernel
set_option maxRecDepth 20000 in
set_option maxHeartbeats 4000000 in
theorem awake2_any (w : World) (hT : TxF w) : Calls Tryz.prog 13 #[] w (RetV w (.bool true)) := by
 have HT := Lib.hid hT
 have sA : SzL pA 1 := szB (by decide +kernel)
 have sB : SzL pB 1 := szB (by decide +kernel)
 have sAB : SzL pAB 1 := szB (by decide +kernel)
 have sAH : SzL pAH 1 := szB (by decide +kernel)
 have sSq : SzL pSq 1 := szB (by decide +kernel)
 have sSt : SzL pSt 1 := szB (by decide +kernel)
 have q2 : qv (decide ((1 : Int) < 0) != decide ((2 : Int) < 0)) (1 : Int).natAbs (2 : Int).natAbs = mkRat 1 2 := by decide +kernel
 have E1 := Lib.hid ex_add
 have E2 := Lib.hid ex_half
 have E3 := Lib.hid ex_sq
 have E4 := Lib.hid ex_star
 clear hT
 go_enter Tryz.func13, Tryz.ntmps13
 go_wp2_with fail
 refine (Parameter_in 0 w (by decide)).mono ?_
 rintro e1 w1 ⟨v1, rfl, h1, hb1⟩
 go_wp2_with fail
 refine (Parameter_in 1 w1 (by decide)).mono ?_
 rintro e2 w2 ⟨v2, rfl, h2, hb2⟩
 have hB2 := hb1.trans (hb2.mono hb1.size)
 have hA2 := h1.below hb2
 go_wp2_with fail
 refine (Add_p v1 v2 pA pB 1 w2 (HT.out.tab.below hB2) (Pol.pi (p := pA) hA2 vp_pA sA (by decide)) (Pol.pi (p := pB) h2 vp_pB sB (by decide)) (by decide)).mono ?_
 rintro e3 w3 ⟨v3, rfl, h3, hb3⟩
 rw [E1.out] at h3
 have hB3 := hB2.trans (hb3.mono hB2.size)
 have hA3 := hA2.below hb3
 go_wp2_with fail
 refine (r_Of 1 2 _ (by decide) _ q2 (by decide) (by decide) (by decide) (by decide)).mono ?_
 rintro e4 w4 ⟨v4, rfl, h4, hb4⟩
 have hB4 := hB3.trans (hb4.mono hB3.size)
 go_wp2_with fail
 refine (Constant_p v4 (mkRat 1 2) w4 (HT.out.tab.below hB4) (h4.inp ((szQ (by decide +kernel)).mono (show 1 ≤ 1000000 by decide)) (by decide))).mono ?_
 rintro e5 w5 ⟨v5, rfl, h5, hb5⟩
 have hB5 := hB4.trans (hb5.mono hB4.size)
 have hb35 := hb4.trans (hb5.mono hb4.size)
 go_wp2_with fail
 refine (Add_p v1 v5 pA (listOf (constC (mkRat 1 2))) 1 w5 (HT.out.tab.below hB5) (Pol.pi (p := pA) (hA3.below hb35) vp_pA sA (by decide)) (h5.pi (vp_listOf _) (szL_const (szQ (by decide +kernel)) (by decide)) (by decide)) (by decide)).mono ?_
 rintro e6 w6 ⟨v6, rfl, h6, hb6⟩
 rw [co_const, E2.out] at h6
 have hB6 := hB5.trans (hb6.mono hB5.size)
 have hb36 := hb35.trans (hb6.mono hb35.size)
 go_wp2_with fail
 refine (Star_ok v6 pAH 1 2 (mkRat 1 2) (mkRat 1 2) 2 (-1) w6 (HT.out.tab.below hB6) (Pol.pi h6 vp_pAH sAH (by decide)) (by decide) (by decide) (Lib.hid (by decide +kernel)) (Lib.hid (by decide +kernel)) (by decide) (Lib.hid (by decide +kernel)) (Lib.hid (by decide +kernel)) (Lib.hid (by decide +kernel)) ((szQ (by decide +kernel)).mono (by decide))).mono ?_
 rintro e7 w7 ⟨v7, rfl, h7, hb7⟩
 rw [rest_pAH, E4.out] at h7
 have hB7 := hB6.trans (hb7.mono hB6.size)
 have hb37 := hb36.trans (hb7.mono hb36.size)
 have h37 := h3.below hb37
 go_wp2_with fail
 refine (Mul_p v3 v3 pAB pAB 1 1 w7 (HT.out.tab.below hB7) (Pol.pi h37 vp_pAB sAB (by decide)) (Pol.pi h37 vp_pAB sAB (by decide)) (by decide) (by decide)).mono ?_
 rintro e8 w8 ⟨v8, rfl, h8, hb8⟩
 rw [E3.out] at h8
 have hB8 := hB7.trans (hb8.mono hB7.size)
 have h78 := h7.below hb8
 go_wp2_with fail
 refine (Format_p v8 pSq 1 w8 (HT.out.below hB8) (Pol.pi h8 vp_pSq sSq (by decide)) (by decide)).mono ?_
 rintro e9 w9 ⟨rfl, hb9⟩
 rw [txt_sq]
 have hB9 := hB8.trans (hb9.mono hB8.size)
 have h79 := h78.below hb9
 go_wp2_with fail
 refine (Format_p v7 pSt 1 w9 (HT.out.below hB9) (Pol.pi h79 vp_pSt sSt (by decide)) (by decide)).mono ?_
 rintro e10 w10 ⟨rfl, hb10⟩
 rw [txt_st]
 have hB10 := hB9.trans (hb10.mono hB9.size)
 go_wp2_with fail
 go_ret
 exact ⟨rfl, hB10⟩
end Go.Proofs.YtifeekomegoijaaGreatDoor

namespace Go.Proofs.YtifeekomegoijaaGreatDoor
open Go.RowKit

theorem listOf_star (r : List Mon) (k : Rat) : listOf (starC r k) = listOf (lowC (starC r k)) := listOf_congr (fun e he => by unfold lowC; rw [if_pos he])
theorem star_solves {p : List Mon} (hv : VP p) (hl : lowL p ≠ 1) : Solves (co p) (lowC (starC (restL p) (1 / (1 - lowL p)))) := starC_solves hv (vp_rest hv) rest_ne (rest_sum p) hl
theorem star_unique {p : List Mon} (hv : VP p) (hl : lowL p ≠ 1) {s : Co} (hs : Solves (co p) s) : listOf (starC (restL p) (1 / (1 - lowL p))) = listOf s := by
 rw [listOf_star, solves_unique (c := co p) (show co p (0, 0, 0) ≠ 1 from hl) (star_solves hv hl) hs]
theorem star_sumPow {p : List Mon} (hv : VP p) (hl : lowL p ≠ 1) : listOf (starC (restL p) (1 / (1 - lowL p))) = listOf (sumPow (scaleC (addC (co p) (constC (-lowL p))) (1 / (1 - lowL p))) (1 / (1 - lowL p)) 6) :=
 star_unique hv hl (sumPow_solves (c := co p) (l := lowL p) rfl hl)
end Go.Proofs.YtifeekomegoijaaGreatDoor

namespace Go.Proofs.YtifeekomegoijaaGreatDoor
open Go.RowKit

theorem absq_abs (l : Rat) : qv false l.num.natAbs l.den = l.abs := by
 have h : mkRat l.abs.num l.abs.den = l.abs := Rat.mkRat_self _
 rw [abs_num, abs_den] at h
 rw [← h]
 rfl
theorem cmp_neg {a : Rat} : cmpQ a 1 < 0 ↔ a < 1 := by
 unfold cmpQ
 split
 ·rename_i h; simp [h]
 ·rename_i h
  constructor
  ·intro h2; split at h2 <;> omega
  ·intro h2; exact absurd h2 h
theorem star_fix {p : List Mon} (hv : VP p) (hl : lowL p ≠ 1) : listOf (addC (constC 1) (mulC (co p) (co (listOf (starC (restL p) (1 / (1 - lowL p))))))) = listOf (starC (restL p) (1 / (1 - lowL p))) := by
 obtain ⟨h1, h2⟩ := star_solves hv hl
 rw [listOf_star, co_of_listOf h1]
 refine listOf_congr (fun e he => ?_)
 rw [h2 e he]
 rfl
theorem szL_star {p : List Mon} {r : Rat} {L U : Nat} (hv : VP p) (hs : SzL p L) (hr : Sz r U) (hU : L + 1 ≤ U) : SzL (listOf (starC (restL p) r)) (1493 * U) := by
 rw [← starTo_all]
 exact szL_listOf (szC_starTo (vp_rest hv) rest_ne (rest_szl hs) hr hU (Nat.le_refl 56))
theorem szL_mul {p q : List Mon} {L Lq : Nat} (hp : VP p) (hq : VP q) (hl : SzL q Lq) (h : SzL p L) : SzL (listOf (mulC (co p) (co q))) (1 + p.length * (Lq + L + 1)) := szL_listOf (fun e he => by
 rw [← mulL_mulC hp hq he, ← mulTo_all]
 exact szC_mulTo hq hl p h e he)
theorem szC_take {p q : List Mon} {L Lq n M : Nat} (hq : VP q) (hl : SzL q Lq) (h : SzL p L) (hn : p.length ≤ n) (hM : 1 + n * (Lq + L + 1) ≤ M) (i : Nat) : SzC (mulTo q (p.take i)) M :=
 (szC_mulTo hq hl (p.take i) (fun m hm => h m (List.mem_of_mem_take hm))).mono (Nat.le_trans (Nat.add_le_add_left (Nat.mul_le_mul_right _ (by rw [List.length_take]; omega)) 1) hM)

set_option maxRecDepth 40000 in
set_option maxHeartbeats 8000000 in
theorem starSolves_law (A : Option Addr) (n c : Nat) (l : List Int) (w : World) (hT : TxF w) (h : Ints w l A n c) (hr : ∀ x ∈ l, -9223372036854775808 ≤ x ∧ x ≤ 9223372036854775807) :
  Calls Tryz.prog 8 #[.slice A n c] w (RetV w (.bool true)) := by
 have HP := Lib.hid (poly_any A n c l w h hr)
 have HT := Lib.hid hT
 clear h hr hT
 go_enter Tryz.func8, Tryz.ntmps8
 go_wp2_with fail
 refine HP.out.mono ?_
 rintro e1 w1 ⟨v1, p, rfl, hp1, hvp, hlen, hsz, hb1⟩
 have HV := Lib.hid hvp
 have HLEN := Lib.hid hlen
 have HSZ := Lib.hid hsz
 have HP1 := Lib.hid hp1
 have HB1 := Lib.hid hb1
 have HLOW : Hid (Sz (lowL p) 10) := Lib.hid (sz_low hvp hsz)
 clear hp1 hvp hlen hsz hb1 HP
 by_cases hlt : (lowL p).abs < 1
 ·have hne : lowL p ≠ 1 := fun h => by rw [h] at hlt; exact absurd hlt (by decide)
  have hne2 := abs_lt_ne hlt
  have hs1 : Sz (1 - lowL p) 12 := sz_sub (sz_one' 1 (Nat.le_refl _)) HLOW.out (by omega)
  have hs2 : Sz (1 / (1 - lowL p)) 13 := sz_div (sz_one' 1 (Nat.le_refl _)) hs1 hne2 (by omega)
  have HST := Lib.hid (Star_ok v1 p 9 13 _ _ _ _ w1 (HT.out.tab.below HB1.out) (HP1.out.pi HV.out HSZ.out (by omega)) (by omega) (by omega) (Lib.hid (absq_abs (lowL p))) (Lib.hid rfl) (cmp_neg.2 hlt) (Lib.hid rfl) (Lib.hid hne2) (Lib.hid rfl) hs2)
  have HFIX := Lib.hid (star_fix HV.out hne)
  have HSS := Lib.hid (szL_star HV.out HSZ.out hs2 (by omega))
  have HLT := Lib.hid (decide_eq_true hlt)
  have hvS := vp_listOf (starC (restL p) (1 / (1 - lowL p)))
  obtain ⟨S, hS⟩ : ∃ S, listOf (starC (restL p) (1 / (1 - lowL p))) = S := ⟨_, rfl⟩
  rw [hS] at HST HFIX HSS hvS
  have HVS := Lib.hid hvS
  clear hne hne2 hs1 hs2 hS hvS hlt
  go_wp2_with fail
  refine HST.out.mono ?_
  rintro e2 w2 ⟨v2, rfl, hp2, hb2⟩
  have HB2 := Lib.hid (HB1.out.trans (hb2.mono HB1.out.size))
  have HP2 := Lib.hid (HP1.out.below hb2)
  have HS2 := Lib.hid hp2
  clear hb2 hp2 HST
  go_wp2_with fail
  refine (r2_Lowest v1 p 9 w2 (HP2.out.pir HV.out HSZ.out (by omega))).mono ?_
  rintro e3 w3 ⟨v3, rfl, hq3, hb3⟩
  have HB3 := Lib.hid (HB2.out.trans (hb3.mono HB2.out.size))
  go_wp2_with fail
  refine (r_Abs _ _ _ (hq3.inr HLOW.out (by omega))).mono ?_
  rintro e4 w4 ⟨v4, rfl, hq4, hb4⟩
  have HB4 := Lib.hid (HB3.out.trans (hb4.mono HB3.out.size))
  go_wp2_with fail
  refine (r_Of 1 1 _ (by decide) 1 (by decide +kernel) (by decide) (by decide) (by decide) (by decide)).mono ?_
  rintro e5 w5 ⟨v5, rfl, hq5, hb5⟩
  have HB5 := Lib.hid (HB4.out.trans (hb5.mono HB4.out.size))
  have hsa : Sz (lowL p).abs 10 := by
   unfold Sz
   rw [abs_num, abs_den]
   have h9 := HLOW.out
   unfold Sz at h9
   simpa using h9
  go_wp2_with fail
  refine (r_Less _ _ _ 1 true w5 ((hq4.below hb5).inr hsa (by omega)) (hq5.inr (sz_one' 1 (Nat.le_refl _)) (by omega)) (hsa.mono (by omega)) (sz_one' _ (by omega)) HLT).mono ?_
  rintro e6 w6 ⟨rfl, hb6⟩
  have HB6 := Lib.hid (HB5.out.trans (hb6.mono HB5.out.size))
  have hb26 := (hb3.trans (hb4.mono hb3.size)).trans ((hb5.trans (hb6.mono hb5.size)).mono (hb3.trans (hb4.mono hb3.size)).size)
  have HP6 := Lib.hid (HP2.out.below hb26)
  have HS6 := Lib.hid (HS2.out.below hb26)
  clear hq3 hq4 hq5 hb3 hb4 hb5 hb6 hsa hb26
  go_wp2_with fail
  refine (awake2_any w6 (HT.out.below HB6.out)).mono ?_
  rintro e7 w7 ⟨rfl, hb7⟩
  have HB7 := Lib.hid (HB6.out.trans (hb7.mono HB6.out.size))
  have HP7 := Lib.hid (HP6.out.below hb7)
  have HS7 := Lib.hid (HS6.out.below hb7)
  clear hb7
  go_wp2_with fail
  refine (valid_p v2 (S.map rawOf) (1493 * 13) w7 (HT.out.tab.below HB7.out) (HS7.out.pin HSS.out (by omega) (by have := vp_length HVS.out; omega)) true (Lib.hid ⟨fun _ => vraw_of_vp HVS.out, fun _ => rfl⟩)).mono ?_
  rintro e8 w8 ⟨rfl, hb8⟩
  have HB8 := Lib.hid (HB7.out.trans (hb8.mono HB7.out.size))
  have HP8 := Lib.hid (HP7.out.below hb8)
  have HS8 := Lib.hid (HS7.out.below hb8)
  clear hb8
  go_wp2_with fail
  refine (r_Of 1 1 _ (by decide) 1 (by decide +kernel) (by decide) (by decide) (by decide) (by decide)).mono ?_
  rintro e9 w9 ⟨v9, rfl, hq9, hb9⟩
  have HB9 := Lib.hid (HB8.out.trans (hb9.mono HB8.out.size))
  go_wp2_with fail
  refine (r2_Constant v9 1 w9 (hq9.inr (sz_one' 1 (Nat.le_refl _)) (by omega)) (sz_one' _ (by omega))).mono ?_
  rintro e10 w10 ⟨v10, rfl, hp10, hb10⟩
  have HB10 := Lib.hid (HB9.out.trans (hb10.mono HB9.out.size))
  have HP10 := Lib.hid (HP8.out.below (hb9.trans (hb10.mono hb9.size)))
  have HS10 := Lib.hid (HS8.out.below (hb9.trans (hb10.mono hb9.size)))
  have HC10 := Lib.hid hp10
  clear hq9 hb9 hb10 hp10
  go_wp2_with fail
  refine (r2_Mul v1 v2 p S 9 (1493 * 13) 200000 w10 (HP10.out.pir HV.out HSZ.out (by omega)) (HS10.out.pir HVS.out HSS.out (by omega)) (by omega) (by omega) (Nat.le_refl _) (szC_take HVS.out HSS.out HSZ.out HLEN.out (by decide))).mono ?_
  rintro e11 w11 ⟨v11, rfl, hp11, hb11⟩
  have HB11 := Lib.hid (HB10.out.trans (hb11.mono HB10.out.size))
  have HM11 := Lib.hid hp11
  have HC11 := Lib.hid (HC10.out.below hb11)
  have HS11 := Lib.hid (HS10.out.below hb11)
  have HSM : Hid (SzL (listOf (mulC (co p) (co S))) 90000) := Lib.hid ((szL_mul HV.out HVS.out HSS.out HSZ.out).mono (by
   have := Nat.mul_le_mul_right (1493 * 13 + 9 + 1) HLEN.out
   omega))
  clear hp11 hb11
  go_wp2_with fail
  refine (r2_Add v10 v11 _ _ 90000 w11 (HC11.out.pir (vp_listOf _) ((szL_const (sz_one' 1 (Nat.le_refl _)) (Nat.le_refl _)).mono (by omega)) (by omega)) (HM11.out.pir (vp_listOf _) HSM.out (by omega)) (by omega) (by omega)).mono ?_
  rintro e12 w12 ⟨v12, rfl, hp12, hb12⟩
  rw [co_const, co_of_listOf (low_mul _ _), HFIX.out] at hp12
  have HB12 := Lib.hid (HB11.out.trans (hb12.mono HB11.out.size))
  have HS12 := Lib.hid (HS11.out.below hb12)
  have HR12 := Lib.hid hp12
  clear hp12 hb12
  go_wp2_with fail
  refine (r2_Same v2 v12 S S w12 HS12.out HR12.out (HSS.out.mono (by omega)) (HSS.out.mono (by omega)) (by have := vp_length HVS.out; omega) (by have := vp_length HVS.out; omega)).mono ?_
  rw [decide_eq_true rfl]
  rintro e13 w13 ⟨rfl, hb13⟩
  have HB13 := Lib.hid (HB12.out.trans (hb13.mono HB12.out.size))
  clear hb13
  go_wp2_with fail
  go_ret
  exact ⟨rfl, HB13.out⟩
 ·have hcmp : 0 ≤ cmpQ (lowL p).abs 1 := Int.not_lt.1 (fun h => hlt (cmp_neg.1 h))
  have HST := Lib.hid (Star_err v1 p 9 _ _ w1 (HT.out.tab.below HB1.out) (HP1.out.pi HV.out HSZ.out (by omega)) (by omega) (Lib.hid (absq_abs (lowL p))) (Lib.hid rfl) hcmp)
  have HLT := Lib.hid (decide_eq_false hlt)
  clear hcmp hlt
  go_wp2_with fail
  refine HST.out.mono ?_
  rintro e2 w2 ⟨v2, rfl, hp2, hb2⟩
  have HB2 := Lib.hid (HB1.out.trans (hb2.mono HB1.out.size))
  have HP2 := Lib.hid (HP1.out.below hb2)
  obtain ⟨A2, c2, rfl⟩ := hp2.slice
  clear hb2 hp2 HST
  go_wp2_with fail
  refine (r2_Lowest v1 p 9 w2 (HP2.out.pir HV.out HSZ.out (by omega))).mono ?_
  rintro e3 w3 ⟨v3, rfl, hq3, hb3⟩
  have HB3 := Lib.hid (HB2.out.trans (hb3.mono HB2.out.size))
  go_wp2_with fail
  refine (r_Abs _ _ _ (hq3.inr HLOW.out (by omega))).mono ?_
  rintro e4 w4 ⟨v4, rfl, hq4, hb4⟩
  have HB4 := Lib.hid (HB3.out.trans (hb4.mono HB3.out.size))
  go_wp2_with fail
  refine (r_Of 1 1 _ (by decide) 1 (by decide +kernel) (by decide) (by decide) (by decide) (by decide)).mono ?_
  rintro e5 w5 ⟨v5, rfl, hq5, hb5⟩
  have HB5 := Lib.hid (HB4.out.trans (hb5.mono HB4.out.size))
  have hsa : Sz (lowL p).abs 10 := by
   unfold Sz
   rw [abs_num, abs_den]
   have h9 := HLOW.out
   unfold Sz at h9
   simpa using h9
  go_wp2_with fail
  refine (r_Less _ _ _ 1 false w5 ((hq4.below hb5).inr hsa (by omega)) (hq5.inr (sz_one' 1 (Nat.le_refl _)) (by omega)) (hsa.mono (by omega)) (sz_one' _ (by omega)) HLT).mono ?_
  rintro e6 w6 ⟨rfl, hb6⟩
  have HB6 := Lib.hid (HB5.out.trans (hb6.mono HB5.out.size))
  clear hq3 hq4 hq5 hb3 hb4 hb5 hb6 hsa
  go_wp2_with fail
  refine (awake2_any w6 (HT.out.below HB6.out)).mono ?_
  rintro e7 w7 ⟨rfl, hb7⟩
  have HB7 := Lib.hid (HB6.out.trans (hb7.mono HB6.out.size))
  clear hb7
  go_wp2_with fail
  go_ret
  exact ⟨rfl, HB7.out⟩
end Go.Proofs.YtifeekomegoijaaGreatDoor

namespace Go.Proofs.YtifeekomegoijaaGreatDoor
open Go.RowKit

theorem star_card (A1 : Option Addr) (n1 c1 : Nat) (l1 : List Int) (w : World) (hT : TxF w) (h1 : Ints w l1 A1 n1 c1) (r1 : ∀ x ∈ l1, -9223372036854775808 ≤ x ∧ x ≤ 9223372036854775807) :
  Calls Tryz.prog 8 #[.slice A1 n1 c1] w (RetV w (.bool true)) := starSolves_law A1 n1 c1 l1 w hT h1 r1
end Go.Proofs.YtifeekomegoijaaGreatDoor

namespace Go.Proofs.YtifeekomegoijaaGreatDoor
open Go.RowKit

structure PX (w : World) (v : Value) (c : Co) (L : Nat) : Prop where
 pol : Pol w v (listOf c)
 low : Low c
 sz : SzL (listOf c) L
theorem PX.below {w w' : World} {v : Value} {c : Co} {L : Nat} (h : PX w v c L) (hb : Below w.heap.size w w') : PX w' v c L := ⟨h.pol.below hb, h.low, h.sz⟩
theorem PX.of {w : World} {v : Value} {l : List Mon} {L : Nat} (h : Pol w v l) (hv : VP l) (hs : SzL l L) : PX w v (co l) L := by
 have e := listOf_co hv
 exact ⟨by rw [e]; exact h, low_co hv, by rw [e]; exact hs⟩
theorem PX.pi {w : World} {v : Value} {c : Co} {L M : Nat} (h : PX w v c L) (hM : L ≤ M) (h2 : M ≤ 8388608) : PI w v (listOf c) M := h.pol.pi (vp_listOf _) (h.sz.mono hM) h2
def RetPX (w0 : World) (c : Co) (L : Nat) (e : Ending) (w' : World) : Prop := ∃ v, e = .returned v ∧ PX w' v c L ∧ Below w0.heap.size w0 w'
theorem szL_add {c d : Co} {L M : Nat} (hc : Low c) (hd : Low d) (h : SzL (listOf c) L) (h' : SzL (listOf d) M) : SzL (listOf (addC c d)) (L + 1 + (M + 1) + 1) := szL_listOf (fun e he => by
 have h1 := szC_co (vp_listOf c) (h.mono (Nat.le_succ L)) (by omega) e he
 have h2 := szC_co (vp_listOf d) (h'.mono (Nat.le_succ M)) (by omega) e he
 rw [co_of_listOf hc] at h1
 rw [co_of_listOf hd] at h2
 exact sz_add h1 h2 (Nat.le_refl _))
theorem Add_x (v u : Value) (c d : Co) (L M : Nat) (w : World) (hT : TxF w) (h : PX w v c L) (h' : PX w u d M) (hL : L ≤ 400000) (hM : M ≤ 400000) : Calls Tryz.prog 17 #[v, u] w (RetPX w (addC c d) (L + M + 3)) := by
 refine (Add_p v u (listOf c) (listOf d) 400000 w hT.tab (h.pi hL (by omega)) (h'.pi hM (by omega)) (Nat.le_refl _)).mono ?_
 rintro e w' ⟨v', rfl, hp, hb⟩
 rw [co_of_listOf h.low, co_of_listOf h'.low] at hp
 exact ⟨v', rfl, ⟨hp, low_add h.low h'.low, (szL_add h.low h'.low h.sz h'.sz).mono (by omega)⟩, hb⟩
theorem Mul_x (v u : Value) (c d : Co) (L M : Nat) (w : World) (hT : TxF w) (h : PX w v c L) (h' : PX w u d M) (hL : L + M ≤ 16000) : Calls Tryz.prog 19 #[v, u] w (RetPX w (mulC c d) (1 + 56 * (M + L + 1))) := by
 have hlen := vp_length (vp_listOf c)
 have hm : (listOf c).length * (M + L + 1) ≤ 56 * (M + L + 1) := Nat.mul_le_mul_right _ hlen
 refine (Mul_p v u (listOf c) (listOf d) L M w hT.tab (h.pi (Nat.le_refl _) (by omega)) (h'.pi (Nat.le_refl _) (by omega)) (by omega) (by omega)).mono ?_
 rintro e w' ⟨v', rfl, hp, hb⟩
 have hz := szL_mul (vp_listOf c) (vp_listOf d) h'.sz h.sz
 rw [co_of_listOf h.low, co_of_listOf h'.low] at hp hz
 exact ⟨v', rfl, ⟨hp, low_mul _ _, hz.mono (by omega)⟩, hb⟩
theorem Same_x (v u : Value) (c d : Co) (L M : Nat) (w : World) (h : PX w v c L) (h' : PX w u d M) (e : c = d) (hL : L ≤ 100000000) (hM : M ≤ 100000000) : Calls Tryz.prog 16 #[v, u] w (RetV w (.bool true)) := by
 subst e
 have hlen := vp_length (vp_listOf c)
 have := r2_Same v u (listOf c) (listOf c) w h.pol h'.pol (h.sz.mono hL) (h'.sz.mono hM) (by omega) (by omega)
 rwa [decide_eq_true rfl] at this
theorem px_nil (w : World) : PX w (.slice none 0 0) zeroC 1 := ⟨pol_zero w [], fun _ _ => rfl, szL_listOf (szC_zero 1 (Nat.le_refl _))⟩
theorem Constant_x (v : Value) (q : Rat) (L : Nat) (w : World) (hT : TxF w) (h : RatQ w v q) (hs : Sz q L) (hL1 : 1 ≤ L) (hL : L ≤ 1000000) : Calls Tryz.prog 26 #[v] w (RetPX w (constC q) L) := by
 refine (Constant_p v q w hT.tab (h.inp (hs.mono hL) (by omega))).mono ?_
 rintro e w' ⟨v', rfl, hp, hb⟩
 exact ⟨v', rfl, ⟨hp, low_const q, szL_const hs hL1⟩, hb⟩
theorem Scale_x (v z : Value) (c : Co) (x : Rat) (L M : Nat) (w : World) (hT : TxF w) (h : PX w v c L) (hx : RatQ w z x) (hs : Sz x M) (hL1 : 1 ≤ M) (hL : L + M ≤ 16000) : Calls Tryz.prog 21 #[v, z] w (RetPX w (mulC c (constC x)) (1 + 56 * (M + L + 1))) := by
 have hlen := vp_length (vp_listOf c)
 have hm : (listOf c).length * (M + L + 1) ≤ 56 * (M + L + 1) := Nat.mul_le_mul_right _ hlen
 refine (Scale_p v z (listOf c) x L M w hT.tab (h.pi (Nat.le_refl _) (by omega)) (hx.inp hs (by omega)) (by omega)).mono ?_
 rintro e w' ⟨v', rfl, hp, hb⟩
 have hz := szL_mul (vp_listOf c) (vp_listOf (constC x)) (szL_const hs hL1) h.sz
 rw [co_of_listOf h.low, co_const] at hz
 rw [co_of_listOf h.low] at hp
 exact ⟨v', rfl, ⟨hp, low_mul _ _, hz.mono (by omega)⟩, hb⟩
theorem add_nil {c : Co} : addC c zeroC = c := funext fun e => Rat.add_zero _
theorem add_neg {c : Co} (hc : Low c) : addC c (mulC c (constC (-1))) = zeroC := funext fun e => by
 show c e + mulC c (constC (-1)) e = 0
 rw [mulC_const c hc, Rat.mul_neg, Rat.mul_one, Rat.add_neg_cancel]
theorem PX.zero_len {w : World} {v : Value} {c : Co} {L : Nat} (h : PX w v c L) (hc : c = zeroC) : ∃ A d, v = .slice A 0 d := by
 subst hc
 have h1 := h.pol
 rw [show listOf zeroC = [] by unfold listOf zeroC; simp] at h1
 obtain ⟨A, d, e⟩ := h1.slice
 exact ⟨A, d, e⟩
theorem RetPoly.px {w0 w' : World} {e : Ending} (h : RetPoly w0 e w') : ∃ v c, e = .returned v ∧ PX w' v c 9 ∧ Below w0.heap.size w0 w' := by
 obtain ⟨v, l, rfl, hp, hv, _, hs, hb⟩ := h
 exact ⟨v, co l, rfl, PX.of hp hv hs, hb⟩

set_option maxRecDepth 40000 in
set_option maxHeartbeats 8000000 in
theorem ring_law (A1 A2 A3 : Option Addr) (n1 c1 n2 c2 n3 c3 : Nat) (l1 l2 l3 : List Int) (w : World) (hT : TxF w) (h1 : Ints w l1 A1 n1 c1) (h2 : Ints w l2 A2 n2 c2) (h3 : Ints w l3 A3 n3 c3)
  (r1 : ∀ x ∈ l1, -9223372036854775808 ≤ x ∧ x ≤ 9223372036854775807) (r2 : ∀ x ∈ l2, -9223372036854775808 ≤ x ∧ x ≤ 9223372036854775807) (r3 : ∀ x ∈ l3, -9223372036854775808 ≤ x ∧ x ≤ 9223372036854775807) :
  Calls Tryz.prog 7 #[.slice A1 n1 c1, .slice A2 n2 c2, .slice A3 n3 c3] w (RetV w (.bool true)) := by
 have HT := Lib.hid hT
 have I1 := Lib.hid h1
 have I2 := Lib.hid h2
 have I3 := Lib.hid h3
 have HR1 := Lib.hid r1
 have HR2 := Lib.hid r2
 have HR3 := Lib.hid r3
 clear hT h1 h2 h3 r1 r2 r3
 go_enter Tryz.func7, Tryz.ntmps7
 go_wp2_with fail
 refine (poly_any A1 n1 c1 l1 w I1.out HR1.out).mono ?_
 rintro e1 w1 hret
 obtain ⟨p, cp, rfl, hp, hb⟩ := hret.px
 have P := Lib.hid hp
 have B1 := Lib.hid hb
 clear hp hb hret
 go_wp2_with fail
 refine (poly_any A2 n2 c2 l2 w1 (I2.out.below B1.out) HR2.out).mono ?_
 rintro e2 w2 hret
 obtain ⟨q, cq, rfl, hp, hb⟩ := hret.px
 have Q := Lib.hid hp
 have B2 := Lib.hid (B1.out.trans (hb.mono B1.out.size))
 replace P := Lib.hid (P.out.below hb)
 clear hp hb hret
 go_wp2_with fail
 refine (poly_any A3 n3 c3 l3 w2 (I3.out.below B2.out) HR3.out).mono ?_
 rintro e3 w3 hret
 obtain ⟨r, cr, rfl, hp, hb⟩ := hret.px
 have R := Lib.hid hp
 have B3 := Lib.hid (B2.out.trans (hb.mono B2.out.size))
 replace P := Lib.hid (P.out.below hb)
 replace Q := Lib.hid (Q.out.below hb)
 clear hp hb hret I1 I2 I3 HR1 HR2 HR3
 go_wp2_with fail
 refine (r_Of 1 1 w3 (by decide) (1) (by decide +kernel) (by decide) (by decide) (by decide) (by decide)).mono ?_
 rintro e4 w4 ⟨v4, rfl, hp, hb⟩
 have B4 := Lib.hid (B3.out.trans (hb.mono B3.out.size))
 replace P := Lib.hid (P.out.below hb)
 replace Q := Lib.hid (Q.out.below hb)
 replace R := Lib.hid (R.out.below hb)
 have ONE := Lib.hid hp
 clear hp hb
 go_wp2_with fail
 refine (Constant_x v4 1 1 w4 (HT.out.below B4.out) ONE.out (sz_one' 1 (Nat.le_refl _)) (by omega) (by omega)).mono ?_
 rintro e5 w5 ⟨v5, rfl, hp, hb⟩
 have B5 := Lib.hid (B4.out.trans (hb.mono B4.out.size))
 replace P := Lib.hid (P.out.below hb)
 replace Q := Lib.hid (Q.out.below hb)
 replace R := Lib.hid (R.out.below hb)
 replace ONE := Lib.hid (ONE.out.below hb)
 have C1 := Lib.hid hp
 clear hp hb
 clear ONE
 go_wp2_with fail
 refine (awake2_any w5 (HT.out.below B5.out)).mono ?_
 rintro e6 w6 ⟨rfl, hb⟩
 have B6 := Lib.hid (B5.out.trans (hb.mono B5.out.size))
 replace P := Lib.hid (P.out.below hb)
 replace Q := Lib.hid (Q.out.below hb)
 replace R := Lib.hid (R.out.below hb)
 replace C1 := Lib.hid (C1.out.below hb)
 clear hb
 go_wp2_with fail
 refine (Add_x p q _ _ _ _ w6 (HT.out.below B6.out) P.out Q.out (by omega) (by omega)).mono ?_
 rintro e7 w7 ⟨v7, rfl, hp, hb⟩
 have B7 := Lib.hid (B6.out.trans (hb.mono B6.out.size))
 replace P := Lib.hid (P.out.below hb)
 replace Q := Lib.hid (Q.out.below hb)
 replace R := Lib.hid (R.out.below hb)
 replace C1 := Lib.hid (C1.out.below hb)
 have X := Lib.hid hp
 clear hp hb
 go_wp2_with fail
 refine (Add_x q p _ _ _ _ w7 (HT.out.below B7.out) Q.out P.out (by omega) (by omega)).mono ?_
 rintro e8 w8 ⟨v8, rfl, hp, hb⟩
 have B8 := Lib.hid (B7.out.trans (hb.mono B7.out.size))
 replace P := Lib.hid (P.out.below hb)
 replace Q := Lib.hid (Q.out.below hb)
 replace R := Lib.hid (R.out.below hb)
 replace C1 := Lib.hid (C1.out.below hb)
 replace X := Lib.hid (X.out.below hb)
 have Y := Lib.hid hp
 clear hp hb
 go_wp2_with fail
 refine (Same_x v7 v8 _ _ _ _ w8 X.out Y.out (addC_comm _ _) (by omega) (by omega)).mono ?_
 rintro e9 w9 ⟨rfl, hb⟩
 have B9 := Lib.hid (B8.out.trans (hb.mono B8.out.size))
 replace P := Lib.hid (P.out.below hb)
 replace Q := Lib.hid (Q.out.below hb)
 replace R := Lib.hid (R.out.below hb)
 replace C1 := Lib.hid (C1.out.below hb)
 replace X := Lib.hid (X.out.below hb)
 replace Y := Lib.hid (Y.out.below hb)
 clear hb
 clear X Y
 go_wp2_with fail
 refine (Mul_x p q _ _ _ _ w9 (HT.out.below B9.out) P.out Q.out (by omega)).mono ?_
 rintro e10 w10 ⟨v10, rfl, hp, hb⟩
 have B10 := Lib.hid (B9.out.trans (hb.mono B9.out.size))
 replace P := Lib.hid (P.out.below hb)
 replace Q := Lib.hid (Q.out.below hb)
 replace R := Lib.hid (R.out.below hb)
 replace C1 := Lib.hid (C1.out.below hb)
 have X := Lib.hid hp
 clear hp hb
 go_wp2_with fail
 refine (Mul_x q p _ _ _ _ w10 (HT.out.below B10.out) Q.out P.out (by omega)).mono ?_
 rintro e11 w11 ⟨v11, rfl, hp, hb⟩
 have B11 := Lib.hid (B10.out.trans (hb.mono B10.out.size))
 replace P := Lib.hid (P.out.below hb)
 replace Q := Lib.hid (Q.out.below hb)
 replace R := Lib.hid (R.out.below hb)
 replace C1 := Lib.hid (C1.out.below hb)
 replace X := Lib.hid (X.out.below hb)
 have Y := Lib.hid hp
 clear hp hb
 go_wp2_with fail
 refine (Same_x v10 v11 _ _ _ _ w11 X.out Y.out (mulC_comm _ _) (by omega) (by omega)).mono ?_
 rintro e12 w12 ⟨rfl, hb⟩
 have B12 := Lib.hid (B11.out.trans (hb.mono B11.out.size))
 replace P := Lib.hid (P.out.below hb)
 replace Q := Lib.hid (Q.out.below hb)
 replace R := Lib.hid (R.out.below hb)
 replace C1 := Lib.hid (C1.out.below hb)
 replace X := Lib.hid (X.out.below hb)
 replace Y := Lib.hid (Y.out.below hb)
 clear hb
 clear X Y
 go_wp2_with fail
 refine (Add_x p q _ _ _ _ w12 (HT.out.below B12.out) P.out Q.out (by omega) (by omega)).mono ?_
 rintro e13 w13 ⟨v13, rfl, hp, hb⟩
 have B13 := Lib.hid (B12.out.trans (hb.mono B12.out.size))
 replace P := Lib.hid (P.out.below hb)
 replace Q := Lib.hid (Q.out.below hb)
 replace R := Lib.hid (R.out.below hb)
 replace C1 := Lib.hid (C1.out.below hb)
 have X := Lib.hid hp
 clear hp hb
 go_wp2_with fail
 refine (Add_x v13 r _ _ _ _ w13 (HT.out.below B13.out) X.out R.out (by omega) (by omega)).mono ?_
 rintro e14 w14 ⟨v14, rfl, hp, hb⟩
 have B14 := Lib.hid (B13.out.trans (hb.mono B13.out.size))
 replace P := Lib.hid (P.out.below hb)
 replace Q := Lib.hid (Q.out.below hb)
 replace R := Lib.hid (R.out.below hb)
 replace C1 := Lib.hid (C1.out.below hb)
 replace X := Lib.hid (X.out.below hb)
 have Y := Lib.hid hp
 clear hp hb
 go_wp2_with fail
 refine (Add_x q r _ _ _ _ w14 (HT.out.below B14.out) Q.out R.out (by omega) (by omega)).mono ?_
 rintro e15 w15 ⟨v15, rfl, hp, hb⟩
 have B15 := Lib.hid (B14.out.trans (hb.mono B14.out.size))
 replace P := Lib.hid (P.out.below hb)
 replace Q := Lib.hid (Q.out.below hb)
 replace R := Lib.hid (R.out.below hb)
 replace C1 := Lib.hid (C1.out.below hb)
 replace X := Lib.hid (X.out.below hb)
 replace Y := Lib.hid (Y.out.below hb)
 have Z := Lib.hid hp
 clear hp hb
 go_wp2_with fail
 refine (Add_x p v15 _ _ _ _ w15 (HT.out.below B15.out) P.out Z.out (by omega) (by omega)).mono ?_
 rintro e16 w16 ⟨v16, rfl, hp, hb⟩
 have B16 := Lib.hid (B15.out.trans (hb.mono B15.out.size))
 replace P := Lib.hid (P.out.below hb)
 replace Q := Lib.hid (Q.out.below hb)
 replace R := Lib.hid (R.out.below hb)
 replace C1 := Lib.hid (C1.out.below hb)
 replace X := Lib.hid (X.out.below hb)
 replace Y := Lib.hid (Y.out.below hb)
 replace Z := Lib.hid (Z.out.below hb)
 have U := Lib.hid hp
 clear hp hb
 go_wp2_with fail
 refine (Same_x v14 v16 _ _ _ _ w16 Y.out U.out (addC_assoc _ _ _) (by omega) (by omega)).mono ?_
 rintro e17 w17 ⟨rfl, hb⟩
 have B17 := Lib.hid (B16.out.trans (hb.mono B16.out.size))
 replace P := Lib.hid (P.out.below hb)
 replace Q := Lib.hid (Q.out.below hb)
 replace R := Lib.hid (R.out.below hb)
 replace C1 := Lib.hid (C1.out.below hb)
 replace X := Lib.hid (X.out.below hb)
 replace Y := Lib.hid (Y.out.below hb)
 replace Z := Lib.hid (Z.out.below hb)
 replace U := Lib.hid (U.out.below hb)
 clear hb
 clear X Y Z U
 go_wp2_with fail
 refine (Mul_x p q _ _ _ _ w17 (HT.out.below B17.out) P.out Q.out (by omega)).mono ?_
 rintro e18 w18 ⟨v18, rfl, hp, hb⟩
 have B18 := Lib.hid (B17.out.trans (hb.mono B17.out.size))
 replace P := Lib.hid (P.out.below hb)
 replace Q := Lib.hid (Q.out.below hb)
 replace R := Lib.hid (R.out.below hb)
 replace C1 := Lib.hid (C1.out.below hb)
 have X := Lib.hid hp
 clear hp hb
 go_wp2_with fail
 refine (Mul_x v18 r _ _ _ _ w18 (HT.out.below B18.out) X.out R.out (by omega)).mono ?_
 rintro e19 w19 ⟨v19, rfl, hp, hb⟩
 have B19 := Lib.hid (B18.out.trans (hb.mono B18.out.size))
 replace P := Lib.hid (P.out.below hb)
 replace Q := Lib.hid (Q.out.below hb)
 replace R := Lib.hid (R.out.below hb)
 replace C1 := Lib.hid (C1.out.below hb)
 replace X := Lib.hid (X.out.below hb)
 have Y := Lib.hid hp
 clear hp hb
 go_wp2_with fail
 refine (Mul_x q r _ _ _ _ w19 (HT.out.below B19.out) Q.out R.out (by omega)).mono ?_
 rintro e20 w20 ⟨v20, rfl, hp, hb⟩
 have B20 := Lib.hid (B19.out.trans (hb.mono B19.out.size))
 replace P := Lib.hid (P.out.below hb)
 replace Q := Lib.hid (Q.out.below hb)
 replace R := Lib.hid (R.out.below hb)
 replace C1 := Lib.hid (C1.out.below hb)
 replace X := Lib.hid (X.out.below hb)
 replace Y := Lib.hid (Y.out.below hb)
 have Z := Lib.hid hp
 clear hp hb
 go_wp2_with fail
 refine (Mul_x p v20 _ _ _ _ w20 (HT.out.below B20.out) P.out Z.out (by omega)).mono ?_
 rintro e21 w21 ⟨v21, rfl, hp, hb⟩
 have B21 := Lib.hid (B20.out.trans (hb.mono B20.out.size))
 replace P := Lib.hid (P.out.below hb)
 replace Q := Lib.hid (Q.out.below hb)
 replace R := Lib.hid (R.out.below hb)
 replace C1 := Lib.hid (C1.out.below hb)
 replace X := Lib.hid (X.out.below hb)
 replace Y := Lib.hid (Y.out.below hb)
 replace Z := Lib.hid (Z.out.below hb)
 have U := Lib.hid hp
 clear hp hb
 go_wp2_with fail
 refine (Same_x v19 v21 _ _ _ _ w21 Y.out U.out (mulC_assoc _ _ _) (by omega) (by omega)).mono ?_
 rintro e22 w22 ⟨rfl, hb⟩
 have B22 := Lib.hid (B21.out.trans (hb.mono B21.out.size))
 replace P := Lib.hid (P.out.below hb)
 replace Q := Lib.hid (Q.out.below hb)
 replace R := Lib.hid (R.out.below hb)
 replace C1 := Lib.hid (C1.out.below hb)
 replace X := Lib.hid (X.out.below hb)
 replace Y := Lib.hid (Y.out.below hb)
 replace Z := Lib.hid (Z.out.below hb)
 replace U := Lib.hid (U.out.below hb)
 clear hb
 clear X Y Z U
 go_wp2_with fail
 refine (Add_x q r _ _ _ _ w22 (HT.out.below B22.out) Q.out R.out (by omega) (by omega)).mono ?_
 rintro e23 w23 ⟨v23, rfl, hp, hb⟩
 have B23 := Lib.hid (B22.out.trans (hb.mono B22.out.size))
 replace P := Lib.hid (P.out.below hb)
 replace Q := Lib.hid (Q.out.below hb)
 replace R := Lib.hid (R.out.below hb)
 replace C1 := Lib.hid (C1.out.below hb)
 have X := Lib.hid hp
 clear hp hb
 go_wp2_with fail
 refine (Mul_x p v23 _ _ _ _ w23 (HT.out.below B23.out) P.out X.out (by omega)).mono ?_
 rintro e24 w24 ⟨v24, rfl, hp, hb⟩
 have B24 := Lib.hid (B23.out.trans (hb.mono B23.out.size))
 replace P := Lib.hid (P.out.below hb)
 replace Q := Lib.hid (Q.out.below hb)
 replace R := Lib.hid (R.out.below hb)
 replace C1 := Lib.hid (C1.out.below hb)
 replace X := Lib.hid (X.out.below hb)
 have Y := Lib.hid hp
 clear hp hb
 go_wp2_with fail
 refine (Mul_x p q _ _ _ _ w24 (HT.out.below B24.out) P.out Q.out (by omega)).mono ?_
 rintro e25 w25 ⟨v25, rfl, hp, hb⟩
 have B25 := Lib.hid (B24.out.trans (hb.mono B24.out.size))
 replace P := Lib.hid (P.out.below hb)
 replace Q := Lib.hid (Q.out.below hb)
 replace R := Lib.hid (R.out.below hb)
 replace C1 := Lib.hid (C1.out.below hb)
 replace X := Lib.hid (X.out.below hb)
 replace Y := Lib.hid (Y.out.below hb)
 have Z := Lib.hid hp
 clear hp hb
 go_wp2_with fail
 refine (Mul_x p r _ _ _ _ w25 (HT.out.below B25.out) P.out R.out (by omega)).mono ?_
 rintro e26 w26 ⟨v26, rfl, hp, hb⟩
 have B26 := Lib.hid (B25.out.trans (hb.mono B25.out.size))
 replace P := Lib.hid (P.out.below hb)
 replace Q := Lib.hid (Q.out.below hb)
 replace R := Lib.hid (R.out.below hb)
 replace C1 := Lib.hid (C1.out.below hb)
 replace X := Lib.hid (X.out.below hb)
 replace Y := Lib.hid (Y.out.below hb)
 replace Z := Lib.hid (Z.out.below hb)
 have U := Lib.hid hp
 clear hp hb
 go_wp2_with fail
 refine (Add_x v25 v26 _ _ _ _ w26 (HT.out.below B26.out) Z.out U.out (by omega) (by omega)).mono ?_
 rintro e27 w27 ⟨v27, rfl, hp, hb⟩
 have B27 := Lib.hid (B26.out.trans (hb.mono B26.out.size))
 replace P := Lib.hid (P.out.below hb)
 replace Q := Lib.hid (Q.out.below hb)
 replace R := Lib.hid (R.out.below hb)
 replace C1 := Lib.hid (C1.out.below hb)
 replace X := Lib.hid (X.out.below hb)
 replace Y := Lib.hid (Y.out.below hb)
 replace Z := Lib.hid (Z.out.below hb)
 replace U := Lib.hid (U.out.below hb)
 have V := Lib.hid hp
 clear hp hb
 go_wp2_with fail
 refine (Same_x v24 v27 _ _ _ _ w27 Y.out V.out (mulC_add _ _ _) (by omega) (by omega)).mono ?_
 rintro e28 w28 ⟨rfl, hb⟩
 have B28 := Lib.hid (B27.out.trans (hb.mono B27.out.size))
 replace P := Lib.hid (P.out.below hb)
 replace Q := Lib.hid (Q.out.below hb)
 replace R := Lib.hid (R.out.below hb)
 replace C1 := Lib.hid (C1.out.below hb)
 replace X := Lib.hid (X.out.below hb)
 replace Y := Lib.hid (Y.out.below hb)
 replace Z := Lib.hid (Z.out.below hb)
 replace U := Lib.hid (U.out.below hb)
 replace V := Lib.hid (V.out.below hb)
 clear hb
 clear X Y Z U V
 go_wp2_with fail
 refine (Mul_x p v5 _ _ _ _ w28 (HT.out.below B28.out) P.out C1.out (by omega)).mono ?_
 rintro e29 w29 ⟨v29, rfl, hp, hb⟩
 have B29 := Lib.hid (B28.out.trans (hb.mono B28.out.size))
 replace P := Lib.hid (P.out.below hb)
 replace Q := Lib.hid (Q.out.below hb)
 replace R := Lib.hid (R.out.below hb)
 replace C1 := Lib.hid (C1.out.below hb)
 have X := Lib.hid hp
 clear hp hb
 go_wp2_with fail
 refine (Same_x v29 p _ _ _ _ w29 X.out P.out (mulC_one P.out.low) (by omega) (by omega)).mono ?_
 rintro e30 w30 ⟨rfl, hb⟩
 have B30 := Lib.hid (B29.out.trans (hb.mono B29.out.size))
 replace P := Lib.hid (P.out.below hb)
 replace Q := Lib.hid (Q.out.below hb)
 replace R := Lib.hid (R.out.below hb)
 replace C1 := Lib.hid (C1.out.below hb)
 replace X := Lib.hid (X.out.below hb)
 clear hb
 clear X
 go_wp2_with fail
 refine (Add_x p (.slice none 0 0) _ zeroC _ 1 w30 (HT.out.below B30.out) P.out (px_nil _) (by omega) (by omega)).mono ?_
 rintro e31 w31 ⟨v31, rfl, hp, hb⟩
 have B31 := Lib.hid (B30.out.trans (hb.mono B30.out.size))
 replace P := Lib.hid (P.out.below hb)
 replace Q := Lib.hid (Q.out.below hb)
 replace R := Lib.hid (R.out.below hb)
 replace C1 := Lib.hid (C1.out.below hb)
 have X := Lib.hid hp
 clear hp hb
 go_wp2_with fail
 refine (Same_x v31 p _ _ _ _ w31 X.out P.out (add_nil) (by omega) (by omega)).mono ?_
 rintro e32 w32 ⟨rfl, hb⟩
 have B32 := Lib.hid (B31.out.trans (hb.mono B31.out.size))
 replace P := Lib.hid (P.out.below hb)
 replace Q := Lib.hid (Q.out.below hb)
 replace R := Lib.hid (R.out.below hb)
 replace C1 := Lib.hid (C1.out.below hb)
 replace X := Lib.hid (X.out.below hb)
 clear hb
 clear X
 go_wp2_with fail
 refine (r_Of (-1) 1 w32 (by decide) (-1) (by decide +kernel) (by decide) (by decide) (by decide) (by decide)).mono ?_
 rintro e33 w33 ⟨v33, rfl, hp, hb⟩
 have B33 := Lib.hid (B32.out.trans (hb.mono B32.out.size))
 replace P := Lib.hid (P.out.below hb)
 replace Q := Lib.hid (Q.out.below hb)
 replace R := Lib.hid (R.out.below hb)
 replace C1 := Lib.hid (C1.out.below hb)
 have ONE := Lib.hid hp
 clear hp hb
 go_wp2_with fail
 refine (Scale_x p v33 _ (-1) _ 1 w33 (HT.out.below B33.out) P.out ONE.out (sz_neg (sz_one' 1 (Nat.le_refl _))) (by omega) (by omega)).mono ?_
 rintro e34 w34 ⟨v34, rfl, hp, hb⟩
 have B34 := Lib.hid (B33.out.trans (hb.mono B33.out.size))
 replace P := Lib.hid (P.out.below hb)
 replace Q := Lib.hid (Q.out.below hb)
 replace R := Lib.hid (R.out.below hb)
 replace C1 := Lib.hid (C1.out.below hb)
 replace ONE := Lib.hid (ONE.out.below hb)
 have S := Lib.hid hp
 clear hp hb
 go_wp2_with fail
 refine (Add_x p v34 _ _ _ _ w34 (HT.out.below B34.out) P.out S.out (by omega) (by omega)).mono ?_
 rintro e35 w35 ⟨v35, rfl, hp, hb⟩
 have B35 := Lib.hid (B34.out.trans (hb.mono B34.out.size))
 replace P := Lib.hid (P.out.below hb)
 replace Q := Lib.hid (Q.out.below hb)
 replace R := Lib.hid (R.out.below hb)
 replace C1 := Lib.hid (C1.out.below hb)
 replace ONE := Lib.hid (ONE.out.below hb)
 replace S := Lib.hid (S.out.below hb)
 have X := Lib.hid hp
 clear hp hb
 obtain ⟨A9, d9, hv9⟩ := X.out.zero_len (add_neg P.out.low)
 subst hv9
 go_wp2_with fail
 go_ret
 exact ⟨rfl, B35.out⟩
end Go.Proofs.YtifeekomegoijaaGreatDoor

namespace Go.Proofs.YtifeekomegoijaaGreatDoor
open Go.RowKit

theorem ring_card (A1 : Option Addr) (n1 c1 : Nat) (l1 : List Int) (A2 : Option Addr) (n2 c2 : Nat) (l2 : List Int) (A3 : Option Addr) (n3 c3 : Nat) (l3 : List Int) (w : World) (hT : TxF w) (h1 : Ints w l1 A1 n1 c1) (r1 : ∀ x ∈ l1, -9223372036854775808 ≤ x ∧ x ≤ 9223372036854775807) (h2 : Ints w l2 A2 n2 c2) (r2 : ∀ x ∈ l2, -9223372036854775808 ≤ x ∧ x ≤ 9223372036854775807) (h3 : Ints w l3 A3 n3 c3) (r3 : ∀ x ∈ l3, -9223372036854775808 ≤ x ∧ x ≤ 9223372036854775807) :
  Calls Tryz.prog 7 #[.slice A1 n1 c1, .slice A2 n2 c2, .slice A3 n3 c3] w (RetV w (.bool true)) := ring_law A1 A2 A3 n1 c1 n2 c2 n3 c3 l1 l2 l3 w hT h1 h2 h3 r1 r2 r3
end Go.Proofs.YtifeekomegoijaaGreatDoor

namespace Go.Proofs.YtifeekomegoijaaGreatDoor
open Go.RowKit

def degTo (p : List Mon) (k : Nat) : Nat := (p.take k).foldl (fun a m => max a (deg m.1)) 0
def degL (p : List Mon) : Nat := degTo p p.length
theorem degTo_succ {p : List Mon} {k : Nat} {m : Mon} (h : p[k]? = some m) : degTo p (k + 1) = max (degTo p k) (deg m.1) := by
 obtain ⟨hk, e⟩ := List.getElem?_eq_some_iff.1 h
 unfold degTo
 rw [List.take_succ_eq_append_getElem hk, List.foldl_append, e]
 rfl
theorem degTo_le {p : List Mon} (hv : VP p) : ∀ k, degTo p k ≤ 5
 | 0 => by show (0 : Nat) ≤ 5; omega
 | k + 1 => by
  rcases Nat.lt_or_ge k p.length with h | h
  ·obtain ⟨m, hm⟩ : ∃ m, p[k]? = some m := ⟨p[k], List.getElem?_eq_getElem h⟩
   rw [degTo_succ hm]
   have := (hv.1 m (List.mem_of_getElem? hm)).1
   have := degTo_le hv k
   omega
  ·have := degTo_le hv k
   unfold degTo at this ⊢
   rwa [List.take_of_length_le (by omega)] at this ⊢
theorem deg_le_degL {p : List Mon} {m : Mon} (hm : m ∈ p) : deg m.1 ≤ degL p := by
 have h : ∀ (l : List Mon) (a : Nat), a ≤ l.foldl (fun a m => max a (deg m.1)) a ∧ (m ∈ l → deg m.1 ≤ l.foldl (fun a m => max a (deg m.1)) a) := by
  intro l
  induction l with
  | nil => intro a; exact ⟨Nat.le_refl _, fun h => by simp at h⟩
  | cons x l ih =>
   intro a
   obtain ⟨h1, h2⟩ := ih (max a (deg x.1))
   refine ⟨Nat.le_trans (Nat.le_max_left _ _) h1, fun hx => ?_⟩
   rcases List.mem_cons.1 hx with rfl | hx
   ·exact Nat.le_trans (Nat.le_max_right _ _) h1
   ·exact h2 hx
 unfold degL degTo
 rw [List.take_length]
 exact (h p 0).2 hm
theorem max_deg (d : Nat) (m : Ex) : max (d : Int) ((m.1 : Int) + (m.2.1 : Int) + (m.2.2 : Int)) = ((max d (deg m) : Nat) : Int) := by
 unfold deg
 omega
set_option maxRecDepth 40000 in
set_option maxHeartbeats 8000000 in
theorem degree_any (v : Value) (p : List Mon) (w : World) (h : Pol w v p) (hv : VP p) (D : Nat) (HD : Hid (degL p = D)) : Calls Tryz.prog 44 #[v] w (RetV w (.int .i64 (D : Int))) := by
 obtain ⟨A, c, rfl⟩ := h.slice
 have hlp := vp_length hv
 have HP := Lib.hid h
 have HV := Lib.hid hv
 have HLP := Lib.hid hlp
 clear h hv
 go_enter Tryz.func44, Tryz.ntmps44
 go_wp2_with fail
 go_loopw [3, 4] (fun dv kv wr => ∃ k : Nat, k ≤ p.length ∧ kv = .int .i64 (k : Int) ∧ dv = .int .i64 (degTo p k : Int) ∧ Below w.heap.size w wr) (fun _ kv _ => (p.length - intOf kv).toNat)
 case atStart => exact ⟨0, Nat.zero_le _, rfl, rfl, Below.refl _ _⟩
 case round =>
  obtain ⟨k, hk, rfl, rfl, hb⟩ := hrel
  rcases Nat.lt_or_ge k p.length with hkn | hkn
  ·obtain ⟨m, hm⟩ : ∃ m, p[k]? = some m := ⟨p[k], List.getElem?_eq_getElem hkn⟩
   obtain ⟨bq, oq, y0, y1, y2, rfl, hbq, hat, hcoef⟩ := HP.out.at hm
   have hdm := (HV.out.1 m (List.mem_of_getElem? hm)).1
   unfold deg at hdm
   have hlt : (k : Int) < (p.length : Int) := by omega
   have HAT : Hid (At6 wr.drew bq (oq + k * 6) _ _ _ _ _ _) := Lib.hid (hat.below hb.drew hbq)
   have HBQ : Hid (bq < wr.drew.heap.size) := Lib.hid (Nat.lt_of_lt_of_le hbq hb.size)
   have HBW := Lib.hid hb.drew
   have HK := Lib.hid hkn
   have HM := Lib.hid hm
   have hdk := degTo_le HV.out k
   obtain ⟨d, hd⟩ : ∃ d, degTo p k = d := ⟨_, rfl⟩
   rw [hd] at hdk ⊢
   have hw1 : IntKind.i64.wrap ((m.1.1 : Int) + (m.1.2.1 : Int)) = (m.1.1 : Int) + (m.1.2.1 : Int) := IntWalk.i64_in _ (by omega)
   have hw2 : IntKind.i64.wrap ((m.1.1 : Int) + (m.1.2.1 : Int) + (m.1.2.2 : Int)) = (m.1.1 : Int) + (m.1.2.1 : Int) + (m.1.2.2 : Int) := IntWalk.i64_in _ (by omega)
   have HDK := Lib.hid hd
   clear hk hkn hm hat hbq hcoef hb hd
   go_upto_region 5 with (fail)
   refine wp_region6 22 [11, 12, 13, 14, 15, 16, 17, 18, 19, 20, 21, 22, 23, 24, 25, 26, 27, 28, 29, 30, 31, 32] [.val (.int .i64 (d : Int)), .val (.slice (some ⟨bq, oq, none⟩) p.length c), .val (.int .i64 (k : Int)), .val (.pointer (some ⟨bq, oq + k * 6, none⟩)), .val (.pointer (some ⟨bq, oq + k * 6, none⟩)), .val (.pointer (some ⟨bq, oq + k * 6, none⟩)), .val (.int .i64 (m.1.1 : Int)), .val (.slice (some ⟨bq, oq, none⟩) p.length c), .val (.int .i64 (k : Int)), .val (.pointer (some ⟨bq, oq + k * 6, none⟩)), .val (.pointer (some ⟨bq, oq + k * 6, none⟩)), .val (.pointer (some ⟨bq, oq + k * 6 + 1, none⟩)), .val (.int .i64 (m.1.2.1 : Int)), .val (.int .i64 ((m.1.1 : Int) + (m.1.2.1 : Int))), .val (.slice (some ⟨bq, oq, none⟩) p.length c), .val (.int .i64 (k : Int)), .val (.pointer (some ⟨bq, oq + k * 6, none⟩)), .val (.pointer (some ⟨bq, oq + k * 6, none⟩)), .val (.pointer (some ⟨bq, oq + k * 6 + 2, none⟩)), .val (.int .i64 (m.1.2.2 : Int)), .val (.int .i64 ((m.1.1 : Int) + (m.1.2.1 : Int) + (m.1.2.2 : Int))), .val (.int .i64 (max (d : Int) ((m.1.1 : Int) + (m.1.2.1 : Int) + (m.1.2.2 : Int))))] (by kernel_rfl) (by kernel_rfl) (by kernel_rfl) (by kernel_rfl) ?step 1 (by kernel_rfl) _ rfl ?fin
   case step =>
    intro i hi oi ho f wx hB hdep K hK
    simp only [frontAct, List.foldl_cons, List.foldl_nil, List.setIfInBounds_toArray, List.set_cons_succ, List.set_cons_zero] at hK ⊢
    obtain ⟨x0, x1, x2, x3, x4, x5⟩ := HAT.out.below hB HBQ.out
    obtain rfl | rfl | rfl | rfl | rfl | rfl | rfl | rfl | rfl | rfl | rfl | rfl | rfl | rfl | rfl | rfl | rfl | rfl | rfl | rfl | rfl | rfl : i = 0 ∨ i = 1 ∨ i = 2 ∨ i = 3 ∨ i = 4 ∨ i = 5 ∨ i = 6 ∨ i = 7 ∨ i = 8 ∨ i = 9 ∨ i = 10 ∨ i = 11 ∨ i = 12 ∨ i = 13 ∨ i = 14 ∨ i = 15 ∨ i = 16 ∨ i = 17 ∨ i = 18 ∨ i = 19 ∨ i = 20 ∨ i = 21 := by omega
    all_goals
     obtain rfl := Option.some.inj ho
     simp only [Act.put, List.setIfInBounds_toArray, List.set_cons_succ, List.set_cons_zero] at hK
    rotate_left
    rotate_left
    rotate_left
    have e12 := dv6 (hdep ⟨1, .data⟩ (by simp) rfl) rfl
    have e13 := dv6 (hdep ⟨2, .data⟩ (by simp) rfl) rfl
    simp only [List.getD_cons_succ, List.getD_cons_zero] at e12 e13
    generalize f 12 = f12 at *; subst e12
    generalize f 13 = f13 at *; subst e13
    rotate_left
    have e14 := dv6 (hdep ⟨3, .data⟩ (by simp) rfl) rfl
    simp only [List.getD_cons_succ, List.getD_cons_zero] at e14
    generalize f 14 = f14 at *; subst e14
    rotate_left
    have e15 := dv6 (hdep ⟨4, .data⟩ (by simp) rfl) rfl
    simp only [List.getD_cons_succ, List.getD_cons_zero] at e15
    generalize f 15 = f15 at *; subst e15
    rotate_left
    have e16 := dv6 (hdep ⟨5, .data⟩ (by simp) rfl) rfl
    simp only [List.getD_cons_succ, List.getD_cons_zero] at e16
    generalize f 16 = f16 at *; subst e16
    rotate_left
    rotate_left
    rotate_left
    have e18 := dv6 (hdep ⟨7, .data⟩ (by simp) rfl) rfl
    have e19 := dv6 (hdep ⟨8, .data⟩ (by simp) rfl) rfl
    simp only [List.getD_cons_succ, List.getD_cons_zero] at e18 e19
    generalize f 18 = f18 at *; subst e18
    generalize f 19 = f19 at *; subst e19
    rotate_left
    have e20 := dv6 (hdep ⟨9, .data⟩ (by simp) rfl) rfl
    simp only [List.getD_cons_succ, List.getD_cons_zero] at e20
    generalize f 20 = f20 at *; subst e20
    rotate_left
    have e21 := dv6 (hdep ⟨10, .data⟩ (by simp) rfl) rfl
    simp only [List.getD_cons_succ, List.getD_cons_zero] at e21
    generalize f 21 = f21 at *; subst e21
    rotate_left
    have e22 := dv6 (hdep ⟨11, .data⟩ (by simp) rfl) rfl
    simp only [List.getD_cons_succ, List.getD_cons_zero] at e22
    generalize f 22 = f22 at *; subst e22
    rotate_left
    have e17 := dv6 (hdep ⟨6, .data⟩ (by simp) rfl) rfl
    have e23 := dv6 (hdep ⟨12, .data⟩ (by simp) rfl) rfl
    simp only [List.getD_cons_succ, List.getD_cons_zero] at e17 e23
    generalize f 17 = f17 at *; subst e17
    generalize f 23 = f23 at *; subst e23
    rotate_left
    rotate_left
    rotate_left
    have e25 := dv6 (hdep ⟨14, .data⟩ (by simp) rfl) rfl
    have e26 := dv6 (hdep ⟨15, .data⟩ (by simp) rfl) rfl
    simp only [List.getD_cons_succ, List.getD_cons_zero] at e25 e26
    generalize f 25 = f25 at *; subst e25
    generalize f 26 = f26 at *; subst e26
    rotate_left
    have e27 := dv6 (hdep ⟨16, .data⟩ (by simp) rfl) rfl
    simp only [List.getD_cons_succ, List.getD_cons_zero] at e27
    generalize f 27 = f27 at *; subst e27
    rotate_left
    have e28 := dv6 (hdep ⟨17, .data⟩ (by simp) rfl) rfl
    simp only [List.getD_cons_succ, List.getD_cons_zero] at e28
    generalize f 28 = f28 at *; subst e28
    rotate_left
    have e29 := dv6 (hdep ⟨18, .data⟩ (by simp) rfl) rfl
    simp only [List.getD_cons_succ, List.getD_cons_zero] at e29
    generalize f 29 = f29 at *; subst e29
    rotate_left
    have e24 := dv6 (hdep ⟨13, .data⟩ (by simp) rfl) rfl
    have e30 := dv6 (hdep ⟨19, .data⟩ (by simp) rfl) rfl
    simp only [List.getD_cons_succ, List.getD_cons_zero] at e24 e30
    generalize f 24 = f24 at *; subst e24
    generalize f 30 = f30 at *; subst e30
    rotate_left
    have e11 := dv6 (hdep ⟨0, .data⟩ (by simp) rfl) rfl
    have e31 := dv6 (hdep ⟨20, .data⟩ (by simp) rfl) rfl
    simp only [List.getD_cons_succ, List.getD_cons_zero] at e11 e31
    generalize f 11 = f11 at *; subst e11
    generalize f 31 = f31 at *; subst e31
    rotate_left
    all_goals go_simp
    all_goals exact hK _ wx (gv6 rfl) (Below.refl _ _) hB (nb6 rfl rfl)
   case fin =>
    intro f wx hB hG hne
    have e32 := dv6 (a := f 32) (hG 21 (by decide)) rfl
    clear hG hne
    simp only [frontAct, List.foldl_cons, List.foldl_nil, List.setIfInBounds_toArray, List.set_cons_succ, List.set_cons_zero]
    generalize f 32 = f32 at *; subst e32
    have HBX := Lib.hid (HBW.out.trans (hB.mono HBW.out.size))
    clear hB
    refine wpAny_ready (rs := [22]) (by kernel_rfl) (by simp) ?_
    refine AllReady.cons rfl (fun K hK => ?_) AllReady.nil
    have HQ := Lib.hid hK
    clear hK
    go_simp
    refine HQ.out _ _ ?_
    clear HQ K
    refine wpAny_done (by kernel_rfl) ?_ _
    have hk1 := HK.out
    have hl1 := HLP.out
    go_wp2_with fail
    go_roundw
    case rel => exact ⟨k + 1, HK.out, congrArg (Value.int _) (by omega), congrArg (Value.int _) (by rw [degTo_succ HM.out, HDK.out]; exact max_deg d m.1), HBX.out⟩
    case measure => simp [intOf]; omega
  ·obtain rfl : k = p.length := by omega
   have hlt : ¬ (p.length : Int) < (p.length : Int) := by omega
   have HB := Lib.hid hb
   have hd : degTo p p.length = D := HD.out
   rw [hd]
   clear hb hk hkn
   go_wp2_with fail
   go_ret
   exact ⟨rfl, HB.out⟩
end Go.Proofs.YtifeekomegoijaaGreatDoor
