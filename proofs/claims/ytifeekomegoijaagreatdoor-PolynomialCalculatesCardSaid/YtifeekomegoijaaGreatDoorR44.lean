/- texts -/
import Derived.Test.YtifeekomegoijaaGreatDoorR43
set_option linter.unusedVariables false
set_option linter.unusedSimpArgs false
namespace Go.Proofs.YtifeekomegoijaaGreatDoor
open Go.RowKit

theorem put_listOf (c : Co) (e : Ex) (q : Rat) : listOf (addAt (co (listOf c)) e q) = listOf (addAt c e q) := listOf_congr (fun f hf => by unfold addAt; rw [co_listOf, if_pos hf])
theorem vp_take {l : List Mon} (h : VP l) (k : Nat) : VP (l.take k) := ⟨fun m hm => h.1 m (List.mem_of_mem_take hm), h.2.sublist (List.take_sublist _ _)⟩
theorem listOf_addAt_idle {l : List Mon} (h : VP l) {e : Ex} {q : Rat} (h0 : ¬ deg e ≤ 5 ∨ q = 0) : listOf (addAt (co l) e q) = l := by
 conv => rhs; rw [← listOf_co h]
 refine listOf_congr (fun f hf => ?_)
 unfold addAt
 rcases h0 with h0 | h0
 ·rw [if_neg (fun (e' : f = e) => h0 (e' ▸ hf)), Rat.add_zero]
 ·subst h0; split <;> rw [Rat.add_zero]
theorem app_none {w : World} {B : Nat} {v : Value} {l : List Mon} (h : OwnP w B v l) : Hid (∀ A c, Hid ((Builtin.append_ #[22, 22] 22 #[v, .slice A 0 c]).run Tryz.prog w = .ok v w)) := Lib.hid (fun A c => by
 obtain ⟨i0, hi, hz0, hz1, hz2⟩ := info_parts info_mon
 obtain ⟨ys, hown, _⟩ := h.row
 refine Lib.hid ?_
 rcases hown.2 with ⟨rfl, _⟩ | ⟨g, cap, cur, rfl, _, _, hnc, _⟩
 ·cases A <;> simp [Builtin.append_, run_underlying Tryz.underlying22, sizeOf, typeInfo, hi, Builtin.lenOf, Builtin.firstCells, hz1, loadCells, loadCellsFrom, storeCells]
 ·cases A <;> simp [Builtin.append_, run_underlying Tryz.underlying22, sizeOf, typeInfo, hi, Builtin.lenOf, Builtin.firstCells, hz1, hnc, loadCells, loadCellsFrom, storeCells])

set_option maxRecDepth 40000 in
set_option maxHeartbeats 16000000 in
theorem r2_put_nil0 (c1 : Nat) (e : Ex) (q : Rat) (nb : Bool) (A B : Option Addr) (n c m k : Nat) (w : World) (hq : RatQ w (.agg #[.bool nb, .slice A n c, .slice B m k]) q) (hS : Sz q 200000) (hd : deg e ≤ 5) (h0 : q ≠ 0) :
  Calls Tryz.prog 57 #[.slice none 0 c1, .agg #[.int .i64 (e.1 : Int), .int .i64 (e.2.1 : Int), .int .i64 (e.2.2 : Int), .bool nb, .slice A n c, .slice B m k]] w (RetPol w [(e, q)]) := by
 obtain ⟨hb6, d6⟩ := new6 w (.int .i64 (e.1 : Int)) (.int .i64 (e.2.1 : Int)) (.int .i64 (e.2.2 : Int)) (.bool nb) (.slice A n c) (.slice B m k)
 have HQ0 := Lib.hid hq
 have HSQ := Lib.hid hS
 have hkn : Hid (knownI ((e.1 : Int), (e.2.1 : Int), (e.2.2 : Int)) = true) := Lib.hid (by rw [knownI_nat]; exact decide_eq_true hd)
 have HNZ := Lib.hid h0
 have y := d6.c6
 clear hq hS hd h0
 go_enter Tryz.func57, Tryz.ntmps57
 go_wp2_with fail
 generalize (w.alloc (M6 (.int .i64 (e.1 : Int)) (.int .i64 (e.2.1 : Int)) (.int .i64 (e.2.2 : Int)) (.bool nb) (.slice A n c) (.slice B m k))) = W at *
 refine (r2_possible _ _ _ _ _ hkn).mono ?_
 rintro e2 w2 ⟨rfl, hb2⟩
 replace hb6 := hb6.trans (hb2.mono hb6.size)
 replace d6 := d6.below hb2 d6.lt
 replace y := d6.c6
 clear hb2 hkn
 obtain ⟨sg, hsg⟩ : ∃ sg, q.num.sign = sg := ⟨_, rfl⟩
 have HSG := Lib.hid hsg
 have hs0 : (sg == 0) = false := by rw [← hsg, sign_zero]; exact decide_eq_false HNZ.out
 have HS0 := Lib.hid hs0
 clear hs0 hsg
 go_wp2_with fail
 refine (r_SignV _ q sg _ ((HQ0.out.below hb6).inr HSQ.out (by omega)) HSG).mono ?_
 rintro e3 w3 ⟨rfl, hb3⟩
 replace hb6 := hb6.trans (hb3.mono hb6.size)
 replace d6 := d6.below hb3 d6.lt
 clear hb3 y
 have hs0 := HS0.out
 go_wp2_with fail
 clear hs0
 refine wp_loop_rounds 2 ?_
 rw [rounds_succ]
 have HBW := Lib.hid hb6.drew
 have HD6 := Lib.hid d6.drew
 clear hb6 d6
 go_upto_region 4 with (fail)
 refine wp_region6 15 [18, 19, 20, 21, 22, 23, 24, 25, 26, 27, 28, 29, 30, 31, 32] [.val (.int .i64 0), .val (.slice none 0 c1), .val (.int .i64 0), .val (.bool false), .val (.bool false), .val (undef), .val (undef), .val (undef), .val (undef), .val (undef), .val (undef), .val (undef), .val (undef), .val (undef), .val (.bool false)] (by kernel_rfl) (by kernel_rfl) (by kernel_rfl) (by kernel_rfl) ?stepa 0 (by kernel_rfl) _ rfl ?fina
 case stepa =>
  intro i hi oi ho f' wx hB hdep K hK
  simp only [frontAct, List.foldl_cons, List.foldl_nil, List.setIfInBounds_toArray, List.set_cons_succ, List.set_cons_zero] at hK ⊢
  obtain ⟨y0, y1, y2, y3, y4, y5⟩ := (HD6.out.below hB HD6.out.lt).c6
  obtain rfl | rfl | rfl | rfl | rfl | rfl | rfl | rfl | rfl | rfl | rfl | rfl | rfl | rfl | rfl : i = 0 ∨ i = 1 ∨ i = 2 ∨ i = 3 ∨ i = 4 ∨ i = 5 ∨ i = 6 ∨ i = 7 ∨ i = 8 ∨ i = 9 ∨ i = 10 ∨ i = 11 ∨ i = 12 ∨ i = 13 ∨ i = 14 := by omega
  all_goals
   obtain rfl := Option.some.inj ho
   simp only [Act.put, List.setIfInBounds_toArray, List.set_cons_succ, List.set_cons_zero] at hK
  rotate_left
  rotate_left
  have e19 := dv6 (hdep ⟨1, .data⟩ (by simp) rfl) rfl
  simp only [List.getD_cons_succ, List.getD_cons_zero] at e19
  generalize f' 19 = f19 at *; subst e19
  rotate_left
  have e18 := dv6 (hdep ⟨0, .data⟩ (by simp) rfl) rfl
  have e20 := dv6 (hdep ⟨2, .data⟩ (by simp) rfl) rfl
  simp only [List.getD_cons_succ, List.getD_cons_zero] at e18 e20
  generalize f' 18 = f18 at *; subst e18
  generalize f' 20 = f20 at *; subst e20
  rotate_left
  have e21 := dv6 (hdep ⟨3, .data⟩ (by simp) rfl) rfl
  simp only [List.getD_cons_succ, List.getD_cons_zero] at e21
  generalize f' 21 = f21 at *; subst e21
  rotate_left
  have e22 := dv6 (hdep ⟨4, .guard⟩ (by simp) rfl) rfl
  simp only [List.getD_cons_succ, List.getD_cons_zero] at e22
  generalize f' 22 = f22 at *; subst e22
  rotate_left
  have e22 := dv6 (hdep ⟨4, .guard⟩ (by simp) rfl) rfl
  simp only [List.getD_cons_succ, List.getD_cons_zero] at e22
  generalize f' 22 = f22 at *; subst e22
  rotate_left
  have e22 := dv6 (hdep ⟨4, .guard⟩ (by simp) rfl) rfl
  simp only [List.getD_cons_succ, List.getD_cons_zero] at e22
  generalize f' 22 = f22 at *; subst e22
  rotate_left
  have e22 := dv6 (hdep ⟨4, .guard⟩ (by simp) rfl) rfl
  simp only [List.getD_cons_succ, List.getD_cons_zero] at e22
  generalize f' 22 = f22 at *; subst e22
  rotate_left
  have e22 := dv6 (hdep ⟨4, .guard⟩ (by simp) rfl) rfl
  simp only [List.getD_cons_succ, List.getD_cons_zero] at e22
  generalize f' 22 = f22 at *; subst e22
  rotate_left
  have e22 := dv6 (hdep ⟨4, .guard⟩ (by simp) rfl) rfl
  simp only [List.getD_cons_succ, List.getD_cons_zero] at e22
  generalize f' 22 = f22 at *; subst e22
  rotate_left
  have e22 := dv6 (hdep ⟨4, .guard⟩ (by simp) rfl) rfl
  simp only [List.getD_cons_succ, List.getD_cons_zero] at e22
  generalize f' 22 = f22 at *; subst e22
  rotate_left
  have e22 := dv6 (hdep ⟨4, .guard⟩ (by simp) rfl) rfl
  simp only [List.getD_cons_succ, List.getD_cons_zero] at e22
  generalize f' 22 = f22 at *; subst e22
  rotate_left
  have e22 := dv6 (hdep ⟨4, .guard⟩ (by simp) rfl) rfl
  simp only [List.getD_cons_succ, List.getD_cons_zero] at e22
  generalize f' 22 = f22 at *; subst e22
  rotate_left
  have e22 := dv6 (hdep ⟨4, .data⟩ (by simp) rfl) rfl
  have e31 := dv6 (hdep ⟨13, .data⟩ (by simp) rfl) rfl
  simp only [List.getD_cons_succ, List.getD_cons_zero] at e22 e31
  generalize f' 22 = f22 at *; subst e22
  generalize f' 31 = f31 at *; subst e31
  rotate_left
  all_goals go_simp
  all_goals exact hK _ wx (gv6 rfl) (Below.refl _ _) hB (nb6 rfl rfl)
 case fina =>
  intro f' wx hB hG hne
  have e32 := dv6 (a := f' 32) (hG 14 (by decide)) rfl
  clear hG hne
  simp only [frontAct, List.foldl_cons, List.foldl_nil, List.setIfInBounds_toArray, List.set_cons_succ, List.set_cons_zero]
  generalize f' 32 = z32 at *; subst e32
  refine wpAny_done (by kernel_rfl) ?_ _
  have HB1 := Lib.hid (HBW.out.trans (hB.mono HBW.out.size)).drew
  have HD1 := Lib.hid (HD6.out.below hB HD6.out.lt).drew
  have HRUN1 := app_none (OwnP.nil wx 0)
  clear hB
  go_upto_region 7 with (at_builtin; refine wpList_appM rfl (.const (.slice none 0 0)) (.tmp 37) rfl rfl _ _ _ _ rfl rfl (HRUN1.out _ _) ?_)
  replace HBW := HB1
  replace HD6 := HD1
  refine wp_region6 15 [39, 40, 41, 42, 43, 44, 45, 46, 47, 48, 49, 50, 51, 52, 53] [.val (.int .i64 0), .val (.slice none 0 c1), .val (.int .i64 0), .val (.bool true), .val (.bool true), .val (undef), .val (undef), .val (undef), .val (undef), .val (undef), .val (undef), .val (undef), .val (undef), .val (undef), .val (.bool true)] (by kernel_rfl) (by kernel_rfl) (by kernel_rfl) (by kernel_rfl) ?stepb 0 (by kernel_rfl) _ rfl ?finb
  case stepb =>
   intro i hi oi ho f' wx hB hdep K hK
   simp only [frontAct, List.foldl_cons, List.foldl_nil, List.setIfInBounds_toArray, List.set_cons_succ, List.set_cons_zero] at hK ⊢
   obtain ⟨y0, y1, y2, y3, y4, y5⟩ := (HD6.out.below hB HD6.out.lt).c6
   obtain rfl | rfl | rfl | rfl | rfl | rfl | rfl | rfl | rfl | rfl | rfl | rfl | rfl | rfl | rfl : i = 0 ∨ i = 1 ∨ i = 2 ∨ i = 3 ∨ i = 4 ∨ i = 5 ∨ i = 6 ∨ i = 7 ∨ i = 8 ∨ i = 9 ∨ i = 10 ∨ i = 11 ∨ i = 12 ∨ i = 13 ∨ i = 14 := by omega
   all_goals
    obtain rfl := Option.some.inj ho
    simp only [Act.put, List.setIfInBounds_toArray, List.set_cons_succ, List.set_cons_zero] at hK
   rotate_left
   rotate_left
   have e40 := dv6 (hdep ⟨1, .data⟩ (by simp) rfl) rfl
   simp only [List.getD_cons_succ, List.getD_cons_zero] at e40
   generalize f' 40 = f40 at *; subst e40
   rotate_left
   have e39 := dv6 (hdep ⟨0, .data⟩ (by simp) rfl) rfl
   have e41 := dv6 (hdep ⟨2, .data⟩ (by simp) rfl) rfl
   simp only [List.getD_cons_succ, List.getD_cons_zero] at e39 e41
   generalize f' 39 = f39 at *; subst e39
   generalize f' 41 = f41 at *; subst e41
   rotate_left
   have e42 := dv6 (hdep ⟨3, .data⟩ (by simp) rfl) rfl
   simp only [List.getD_cons_succ, List.getD_cons_zero] at e42
   generalize f' 42 = f42 at *; subst e42
   rotate_left
   have e43 := dv6 (hdep ⟨4, .guard⟩ (by simp) rfl) rfl
   simp only [List.getD_cons_succ, List.getD_cons_zero] at e43
   generalize f' 43 = f43 at *; subst e43
   rotate_left
   have e43 := dv6 (hdep ⟨4, .guard⟩ (by simp) rfl) rfl
   simp only [List.getD_cons_succ, List.getD_cons_zero] at e43
   generalize f' 43 = f43 at *; subst e43
   rotate_left
   have e43 := dv6 (hdep ⟨4, .guard⟩ (by simp) rfl) rfl
   simp only [List.getD_cons_succ, List.getD_cons_zero] at e43
   generalize f' 43 = f43 at *; subst e43
   rotate_left
   have e43 := dv6 (hdep ⟨4, .guard⟩ (by simp) rfl) rfl
   simp only [List.getD_cons_succ, List.getD_cons_zero] at e43
   generalize f' 43 = f43 at *; subst e43
   rotate_left
   have e43 := dv6 (hdep ⟨4, .guard⟩ (by simp) rfl) rfl
   simp only [List.getD_cons_succ, List.getD_cons_zero] at e43
   generalize f' 43 = f43 at *; subst e43
   rotate_left
   have e43 := dv6 (hdep ⟨4, .guard⟩ (by simp) rfl) rfl
   simp only [List.getD_cons_succ, List.getD_cons_zero] at e43
   generalize f' 43 = f43 at *; subst e43
   rotate_left
   have e43 := dv6 (hdep ⟨4, .guard⟩ (by simp) rfl) rfl
   simp only [List.getD_cons_succ, List.getD_cons_zero] at e43
   generalize f' 43 = f43 at *; subst e43
   rotate_left
   have e43 := dv6 (hdep ⟨4, .guard⟩ (by simp) rfl) rfl
   simp only [List.getD_cons_succ, List.getD_cons_zero] at e43
   generalize f' 43 = f43 at *; subst e43
   rotate_left
   have e43 := dv6 (hdep ⟨4, .guard⟩ (by simp) rfl) rfl
   simp only [List.getD_cons_succ, List.getD_cons_zero] at e43
   generalize f' 43 = f43 at *; subst e43
   rotate_left
   have e43 := dv6 (hdep ⟨4, .data⟩ (by simp) rfl) rfl
   have e52 := dv6 (hdep ⟨13, .data⟩ (by simp) rfl) rfl
   simp only [List.getD_cons_succ, List.getD_cons_zero] at e43 e52
   generalize f' 43 = f43 at *; subst e43
   generalize f' 52 = f52 at *; subst e52
   rotate_left
   all_goals go_simp
   all_goals exact hK _ wx (gv6 rfl) (Below.refl _ _) hB (nb6 rfl rfl)
  case finb =>
   intro f' wx hB hG hne
   have e53 := dv6 (a := f' 53) (hG 14 (by decide)) rfl
   clear hG hne
   simp only [frontAct, List.foldl_cons, List.foldl_nil, List.setIfInBounds_toArray, List.set_cons_succ, List.set_cons_zero]
   generalize f' 53 = z53 at *; subst e53
   refine wpAny_done (by kernel_rfl) ?_ _
   have hBy := HBW.out.trans (hB.mono HBW.out.size)
   have D6y := HD6.out.below hB HD6.out.lt
   have HBY := Lib.hid hBy.drew
   obtain ⟨hb8, d8⟩ := new6 wx.drew (.int .i64 (e.1 : Int)) (.int .i64 (e.2.1 : Int)) (.int .i64 (e.2.2 : Int)) (.bool nb) (.slice A n c) (.slice B m k)
   have hB8 := HBY.out.trans (hb8.mono HBY.out.size)
   obtain ⟨v2, w2', HRUN2, hown2, hg2, hk2⟩ := (OwnP.nil (wx.drew.alloc (M6 (.int .i64 (e.1 : Int)) (.int .i64 (e.2.1 : Int)) (.int .i64 (e.2.2 : Int)) (.bool nb) (.slice A n c) (.slice B m k))) w.heap.size).app1 (m := (e, q)) d8 (HQ0.out.below hB8) (by simp) hB8.size
   have hB9 := hB8.grown hg2 hB8.size (fun j e => by cases e)
   have HRUN3 := app_none hown2
   have HEND : Hid (RetPol w [(e, q)] (.returned v2) w2') := Lib.hid ⟨v2, rfl, hown2.pol, hB9⟩
   obtain ⟨y0, y1, y2, y3, y4, y5⟩ := D6y.drew.c6
   clear hBy D6y hb8 d8 hB8 hown2 hg2 hk2 hB9 hB
   go_upto_region 8 with (fail)
   go_region_law (first | (refine step_appM rfl (.tmp 54) (.tmp 56) rfl rfl _ _ _ _ rfl rfl HRUN2 ?_) | (refine step_appM rfl (.tmp 57) (.tmp 60) rfl rfl _ _ _ _ rfl rfl (HRUN3.out _ _) ?_) | fail)
   all_goals go_wp2_with fail
   all_goals go_ret
   all_goals exact HEND.out

set_option maxRecDepth 40000 in
set_option maxHeartbeats 16000000 in
theorem r2_put_nil1 (a : Addr) (e : Ex) (q : Rat) (nb : Bool) (A B : Option Addr) (n c m k : Nat) (w : World) (hq : RatQ w (.agg #[.bool nb, .slice A n c, .slice B m k]) q) (hS : Sz q 200000) (hd : deg e ≤ 5) (h0 : q ≠ 0) :
  Calls Tryz.prog 57 #[.slice (some a) 0 0, .agg #[.int .i64 (e.1 : Int), .int .i64 (e.2.1 : Int), .int .i64 (e.2.2 : Int), .bool nb, .slice A n c, .slice B m k]] w (RetPol w [(e, q)]) := by
 obtain ⟨hb6, d6⟩ := new6 w (.int .i64 (e.1 : Int)) (.int .i64 (e.2.1 : Int)) (.int .i64 (e.2.2 : Int)) (.bool nb) (.slice A n c) (.slice B m k)
 have HQ0 := Lib.hid hq
 have HSQ := Lib.hid hS
 have hkn : Hid (knownI ((e.1 : Int), (e.2.1 : Int), (e.2.2 : Int)) = true) := Lib.hid (by rw [knownI_nat]; exact decide_eq_true hd)
 have HNZ := Lib.hid h0
 have y := d6.c6
 clear hq hS hd h0
 go_enter Tryz.func57, Tryz.ntmps57
 go_wp2_with fail
 generalize (w.alloc (M6 (.int .i64 (e.1 : Int)) (.int .i64 (e.2.1 : Int)) (.int .i64 (e.2.2 : Int)) (.bool nb) (.slice A n c) (.slice B m k))) = W at *
 refine (r2_possible _ _ _ _ _ hkn).mono ?_
 rintro e2 w2 ⟨rfl, hb2⟩
 replace hb6 := hb6.trans (hb2.mono hb6.size)
 replace d6 := d6.below hb2 d6.lt
 replace y := d6.c6
 clear hb2 hkn
 obtain ⟨sg, hsg⟩ : ∃ sg, q.num.sign = sg := ⟨_, rfl⟩
 have HSG := Lib.hid hsg
 have hs0 : (sg == 0) = false := by rw [← hsg, sign_zero]; exact decide_eq_false HNZ.out
 have HS0 := Lib.hid hs0
 clear hs0 hsg
 go_wp2_with fail
 refine (r_SignV _ q sg _ ((HQ0.out.below hb6).inr HSQ.out (by omega)) HSG).mono ?_
 rintro e3 w3 ⟨rfl, hb3⟩
 replace hb6 := hb6.trans (hb3.mono hb6.size)
 replace d6 := d6.below hb3 d6.lt
 clear hb3 y
 have hs0 := HS0.out
 go_wp2_with fail
 clear hs0
 refine wp_loop_rounds 2 ?_
 rw [rounds_succ]
 have HBW := Lib.hid hb6.drew
 have HD6 := Lib.hid d6.drew
 clear hb6 d6
 go_upto_region 4 with (fail)
 refine wp_region6 15 [18, 19, 20, 21, 22, 23, 24, 25, 26, 27, 28, 29, 30, 31, 32] [.val (.int .i64 0), .val (.slice (some a) 0 0), .val (.int .i64 0), .val (.bool false), .val (.bool false), .val (undef), .val (undef), .val (undef), .val (undef), .val (undef), .val (undef), .val (undef), .val (undef), .val (undef), .val (.bool false)] (by kernel_rfl) (by kernel_rfl) (by kernel_rfl) (by kernel_rfl) ?stepa 0 (by kernel_rfl) _ rfl ?fina
 case stepa =>
  intro i hi oi ho f' wx hB hdep K hK
  simp only [frontAct, List.foldl_cons, List.foldl_nil, List.setIfInBounds_toArray, List.set_cons_succ, List.set_cons_zero] at hK ⊢
  obtain ⟨y0, y1, y2, y3, y4, y5⟩ := (HD6.out.below hB HD6.out.lt).c6
  obtain rfl | rfl | rfl | rfl | rfl | rfl | rfl | rfl | rfl | rfl | rfl | rfl | rfl | rfl | rfl : i = 0 ∨ i = 1 ∨ i = 2 ∨ i = 3 ∨ i = 4 ∨ i = 5 ∨ i = 6 ∨ i = 7 ∨ i = 8 ∨ i = 9 ∨ i = 10 ∨ i = 11 ∨ i = 12 ∨ i = 13 ∨ i = 14 := by omega
  all_goals
   obtain rfl := Option.some.inj ho
   simp only [Act.put, List.setIfInBounds_toArray, List.set_cons_succ, List.set_cons_zero] at hK
  rotate_left
  rotate_left
  have e19 := dv6 (hdep ⟨1, .data⟩ (by simp) rfl) rfl
  simp only [List.getD_cons_succ, List.getD_cons_zero] at e19
  generalize f' 19 = f19 at *; subst e19
  rotate_left
  have e18 := dv6 (hdep ⟨0, .data⟩ (by simp) rfl) rfl
  have e20 := dv6 (hdep ⟨2, .data⟩ (by simp) rfl) rfl
  simp only [List.getD_cons_succ, List.getD_cons_zero] at e18 e20
  generalize f' 18 = f18 at *; subst e18
  generalize f' 20 = f20 at *; subst e20
  rotate_left
  have e21 := dv6 (hdep ⟨3, .data⟩ (by simp) rfl) rfl
  simp only [List.getD_cons_succ, List.getD_cons_zero] at e21
  generalize f' 21 = f21 at *; subst e21
  rotate_left
  have e22 := dv6 (hdep ⟨4, .guard⟩ (by simp) rfl) rfl
  simp only [List.getD_cons_succ, List.getD_cons_zero] at e22
  generalize f' 22 = f22 at *; subst e22
  rotate_left
  have e22 := dv6 (hdep ⟨4, .guard⟩ (by simp) rfl) rfl
  simp only [List.getD_cons_succ, List.getD_cons_zero] at e22
  generalize f' 22 = f22 at *; subst e22
  rotate_left
  have e22 := dv6 (hdep ⟨4, .guard⟩ (by simp) rfl) rfl
  simp only [List.getD_cons_succ, List.getD_cons_zero] at e22
  generalize f' 22 = f22 at *; subst e22
  rotate_left
  have e22 := dv6 (hdep ⟨4, .guard⟩ (by simp) rfl) rfl
  simp only [List.getD_cons_succ, List.getD_cons_zero] at e22
  generalize f' 22 = f22 at *; subst e22
  rotate_left
  have e22 := dv6 (hdep ⟨4, .guard⟩ (by simp) rfl) rfl
  simp only [List.getD_cons_succ, List.getD_cons_zero] at e22
  generalize f' 22 = f22 at *; subst e22
  rotate_left
  have e22 := dv6 (hdep ⟨4, .guard⟩ (by simp) rfl) rfl
  simp only [List.getD_cons_succ, List.getD_cons_zero] at e22
  generalize f' 22 = f22 at *; subst e22
  rotate_left
  have e22 := dv6 (hdep ⟨4, .guard⟩ (by simp) rfl) rfl
  simp only [List.getD_cons_succ, List.getD_cons_zero] at e22
  generalize f' 22 = f22 at *; subst e22
  rotate_left
  have e22 := dv6 (hdep ⟨4, .guard⟩ (by simp) rfl) rfl
  simp only [List.getD_cons_succ, List.getD_cons_zero] at e22
  generalize f' 22 = f22 at *; subst e22
  rotate_left
  have e22 := dv6 (hdep ⟨4, .guard⟩ (by simp) rfl) rfl
  simp only [List.getD_cons_succ, List.getD_cons_zero] at e22
  generalize f' 22 = f22 at *; subst e22
  rotate_left
  have e22 := dv6 (hdep ⟨4, .data⟩ (by simp) rfl) rfl
  have e31 := dv6 (hdep ⟨13, .data⟩ (by simp) rfl) rfl
  simp only [List.getD_cons_succ, List.getD_cons_zero] at e22 e31
  generalize f' 22 = f22 at *; subst e22
  generalize f' 31 = f31 at *; subst e31
  rotate_left
  all_goals go_simp
  all_goals exact hK _ wx (gv6 rfl) (Below.refl _ _) hB (nb6 rfl rfl)
 case fina =>
  intro f' wx hB hG hne
  have e32 := dv6 (a := f' 32) (hG 14 (by decide)) rfl
  clear hG hne
  simp only [frontAct, List.foldl_cons, List.foldl_nil, List.setIfInBounds_toArray, List.set_cons_succ, List.set_cons_zero]
  generalize f' 32 = z32 at *; subst e32
  refine wpAny_done (by kernel_rfl) ?_ _
  have HB1 := Lib.hid (HBW.out.trans (hB.mono HBW.out.size)).drew
  have HD1 := Lib.hid (HD6.out.below hB HD6.out.lt).drew
  have HRUN1 := app_none (OwnP.nil wx 0)
  clear hB
  go_upto_region 7 with (at_builtin; refine wpList_appM rfl (.const (.slice none 0 0)) (.tmp 37) rfl rfl _ _ _ _ rfl rfl (HRUN1.out _ _) ?_)
  replace HBW := HB1
  replace HD6 := HD1
  refine wp_region6 15 [39, 40, 41, 42, 43, 44, 45, 46, 47, 48, 49, 50, 51, 52, 53] [.val (.int .i64 0), .val (.slice (some a) 0 0), .val (.int .i64 0), .val (.bool true), .val (.bool true), .val (undef), .val (undef), .val (undef), .val (undef), .val (undef), .val (undef), .val (undef), .val (undef), .val (undef), .val (.bool true)] (by kernel_rfl) (by kernel_rfl) (by kernel_rfl) (by kernel_rfl) ?stepb 0 (by kernel_rfl) _ rfl ?finb
  case stepb =>
   intro i hi oi ho f' wx hB hdep K hK
   simp only [frontAct, List.foldl_cons, List.foldl_nil, List.setIfInBounds_toArray, List.set_cons_succ, List.set_cons_zero] at hK ⊢
   obtain ⟨y0, y1, y2, y3, y4, y5⟩ := (HD6.out.below hB HD6.out.lt).c6
   obtain rfl | rfl | rfl | rfl | rfl | rfl | rfl | rfl | rfl | rfl | rfl | rfl | rfl | rfl | rfl : i = 0 ∨ i = 1 ∨ i = 2 ∨ i = 3 ∨ i = 4 ∨ i = 5 ∨ i = 6 ∨ i = 7 ∨ i = 8 ∨ i = 9 ∨ i = 10 ∨ i = 11 ∨ i = 12 ∨ i = 13 ∨ i = 14 := by omega
   all_goals
    obtain rfl := Option.some.inj ho
    simp only [Act.put, List.setIfInBounds_toArray, List.set_cons_succ, List.set_cons_zero] at hK
   rotate_left
   rotate_left
   have e40 := dv6 (hdep ⟨1, .data⟩ (by simp) rfl) rfl
   simp only [List.getD_cons_succ, List.getD_cons_zero] at e40
   generalize f' 40 = f40 at *; subst e40
   rotate_left
   have e39 := dv6 (hdep ⟨0, .data⟩ (by simp) rfl) rfl
   have e41 := dv6 (hdep ⟨2, .data⟩ (by simp) rfl) rfl
   simp only [List.getD_cons_succ, List.getD_cons_zero] at e39 e41
   generalize f' 39 = f39 at *; subst e39
   generalize f' 41 = f41 at *; subst e41
   rotate_left
   have e42 := dv6 (hdep ⟨3, .data⟩ (by simp) rfl) rfl
   simp only [List.getD_cons_succ, List.getD_cons_zero] at e42
   generalize f' 42 = f42 at *; subst e42
   rotate_left
   have e43 := dv6 (hdep ⟨4, .guard⟩ (by simp) rfl) rfl
   simp only [List.getD_cons_succ, List.getD_cons_zero] at e43
   generalize f' 43 = f43 at *; subst e43
   rotate_left
   have e43 := dv6 (hdep ⟨4, .guard⟩ (by simp) rfl) rfl
   simp only [List.getD_cons_succ, List.getD_cons_zero] at e43
   generalize f' 43 = f43 at *; subst e43
   rotate_left
   have e43 := dv6 (hdep ⟨4, .guard⟩ (by simp) rfl) rfl
   simp only [List.getD_cons_succ, List.getD_cons_zero] at e43
   generalize f' 43 = f43 at *; subst e43
   rotate_left
   have e43 := dv6 (hdep ⟨4, .guard⟩ (by simp) rfl) rfl
   simp only [List.getD_cons_succ, List.getD_cons_zero] at e43
   generalize f' 43 = f43 at *; subst e43
   rotate_left
   have e43 := dv6 (hdep ⟨4, .guard⟩ (by simp) rfl) rfl
   simp only [List.getD_cons_succ, List.getD_cons_zero] at e43
   generalize f' 43 = f43 at *; subst e43
   rotate_left
   have e43 := dv6 (hdep ⟨4, .guard⟩ (by simp) rfl) rfl
   simp only [List.getD_cons_succ, List.getD_cons_zero] at e43
   generalize f' 43 = f43 at *; subst e43
   rotate_left
   have e43 := dv6 (hdep ⟨4, .guard⟩ (by simp) rfl) rfl
   simp only [List.getD_cons_succ, List.getD_cons_zero] at e43
   generalize f' 43 = f43 at *; subst e43
   rotate_left
   have e43 := dv6 (hdep ⟨4, .guard⟩ (by simp) rfl) rfl
   simp only [List.getD_cons_succ, List.getD_cons_zero] at e43
   generalize f' 43 = f43 at *; subst e43
   rotate_left
   have e43 := dv6 (hdep ⟨4, .guard⟩ (by simp) rfl) rfl
   simp only [List.getD_cons_succ, List.getD_cons_zero] at e43
   generalize f' 43 = f43 at *; subst e43
   rotate_left
   have e43 := dv6 (hdep ⟨4, .data⟩ (by simp) rfl) rfl
   have e52 := dv6 (hdep ⟨13, .data⟩ (by simp) rfl) rfl
   simp only [List.getD_cons_succ, List.getD_cons_zero] at e43 e52
   generalize f' 43 = f43 at *; subst e43
   generalize f' 52 = f52 at *; subst e52
   rotate_left
   all_goals go_simp
   all_goals exact hK _ wx (gv6 rfl) (Below.refl _ _) hB (nb6 rfl rfl)
  case finb =>
   intro f' wx hB hG hne
   have e53 := dv6 (a := f' 53) (hG 14 (by decide)) rfl
   clear hG hne
   simp only [frontAct, List.foldl_cons, List.foldl_nil, List.setIfInBounds_toArray, List.set_cons_succ, List.set_cons_zero]
   generalize f' 53 = z53 at *; subst e53
   refine wpAny_done (by kernel_rfl) ?_ _
   have hBy := HBW.out.trans (hB.mono HBW.out.size)
   have D6y := HD6.out.below hB HD6.out.lt
   have HBY := Lib.hid hBy.drew
   obtain ⟨hb8, d8⟩ := new6 wx.drew (.int .i64 (e.1 : Int)) (.int .i64 (e.2.1 : Int)) (.int .i64 (e.2.2 : Int)) (.bool nb) (.slice A n c) (.slice B m k)
   have hB8 := HBY.out.trans (hb8.mono HBY.out.size)
   obtain ⟨v2, w2', HRUN2, hown2, hg2, hk2⟩ := (OwnP.nil (wx.drew.alloc (M6 (.int .i64 (e.1 : Int)) (.int .i64 (e.2.1 : Int)) (.int .i64 (e.2.2 : Int)) (.bool nb) (.slice A n c) (.slice B m k))) w.heap.size).app1 (m := (e, q)) d8 (HQ0.out.below hB8) (by simp) hB8.size
   have hB9 := hB8.grown hg2 hB8.size (fun j e => by cases e)
   have HRUN3 := app_none hown2
   have HEND : Hid (RetPol w [(e, q)] (.returned v2) w2') := Lib.hid ⟨v2, rfl, hown2.pol, hB9⟩
   obtain ⟨y0, y1, y2, y3, y4, y5⟩ := D6y.drew.c6
   clear hBy D6y hb8 d8 hB8 hown2 hg2 hk2 hB9 hB
   go_upto_region 8 with (fail)
   go_region_law (first | (refine step_appM rfl (.tmp 54) (.tmp 56) rfl rfl _ _ _ _ rfl rfl HRUN2 ?_) | (refine step_appM rfl (.tmp 57) (.tmp 60) rfl rfl _ _ _ _ rfl rfl (HRUN3.out _ _) ?_) | fail)
   all_goals go_wp2_with fail
   all_goals go_ret
   all_goals exact HEND.out

set_option maxRecDepth 40000 in
set_option maxHeartbeats 16000000 in
theorem r2_put_nil2 (a : Addr) (c1 : Nat) (e : Ex) (q : Rat) (nb : Bool) (A B : Option Addr) (n c m k : Nat) (w : World) (hq : RatQ w (.agg #[.bool nb, .slice A n c, .slice B m k]) q) (hS : Sz q 200000) (hd : deg e ≤ 5) (h0 : q ≠ 0) (hc : ¬ c1 = 0) :
  Calls Tryz.prog 57 #[.slice (some a) 0 c1, .agg #[.int .i64 (e.1 : Int), .int .i64 (e.2.1 : Int), .int .i64 (e.2.2 : Int), .bool nb, .slice A n c, .slice B m k]] w (RetPol w [(e, q)]) := by
 obtain ⟨hb6, d6⟩ := new6 w (.int .i64 (e.1 : Int)) (.int .i64 (e.2.1 : Int)) (.int .i64 (e.2.2 : Int)) (.bool nb) (.slice A n c) (.slice B m k)
 have HQ0 := Lib.hid hq
 have HSQ := Lib.hid hS
 have hkn : Hid (knownI ((e.1 : Int), (e.2.1 : Int), (e.2.2 : Int)) = true) := Lib.hid (by rw [knownI_nat]; exact decide_eq_true hd)
 have HNZ := Lib.hid h0
 have y := d6.c6
 clear hq hS hd h0
 go_enter Tryz.func57, Tryz.ntmps57
 go_wp2_with fail
 generalize (w.alloc (M6 (.int .i64 (e.1 : Int)) (.int .i64 (e.2.1 : Int)) (.int .i64 (e.2.2 : Int)) (.bool nb) (.slice A n c) (.slice B m k))) = W at *
 refine (r2_possible _ _ _ _ _ hkn).mono ?_
 rintro e2 w2 ⟨rfl, hb2⟩
 replace hb6 := hb6.trans (hb2.mono hb6.size)
 replace d6 := d6.below hb2 d6.lt
 replace y := d6.c6
 clear hb2 hkn
 obtain ⟨sg, hsg⟩ : ∃ sg, q.num.sign = sg := ⟨_, rfl⟩
 have HSG := Lib.hid hsg
 have hs0 : (sg == 0) = false := by rw [← hsg, sign_zero]; exact decide_eq_false HNZ.out
 have HS0 := Lib.hid hs0
 clear hs0 hsg
 go_wp2_with fail
 refine (r_SignV _ q sg _ ((HQ0.out.below hb6).inr HSQ.out (by omega)) HSG).mono ?_
 rintro e3 w3 ⟨rfl, hb3⟩
 replace hb6 := hb6.trans (hb3.mono hb6.size)
 replace d6 := d6.below hb3 d6.lt
 clear hb3 y
 have hs0 := HS0.out
 go_wp2_with fail
 clear hs0
 refine wp_loop_rounds 2 ?_
 rw [rounds_succ]
 have HBW := Lib.hid hb6.drew
 have HD6 := Lib.hid d6.drew
 clear hb6 d6
 go_upto_region 4 with (fail)
 refine wp_region6 15 [18, 19, 20, 21, 22, 23, 24, 25, 26, 27, 28, 29, 30, 31, 32] [.val (.int .i64 0), .val (.slice (some a) 0 c1), .val (.int .i64 0), .val (.bool false), .val (.bool false), .val (undef), .val (undef), .val (undef), .val (undef), .val (undef), .val (undef), .val (undef), .val (undef), .val (undef), .val (.bool false)] (by kernel_rfl) (by kernel_rfl) (by kernel_rfl) (by kernel_rfl) ?stepa 0 (by kernel_rfl) _ rfl ?fina
 case stepa =>
  intro i hi oi ho f' wx hB hdep K hK
  simp only [frontAct, List.foldl_cons, List.foldl_nil, List.setIfInBounds_toArray, List.set_cons_succ, List.set_cons_zero] at hK ⊢
  obtain ⟨y0, y1, y2, y3, y4, y5⟩ := (HD6.out.below hB HD6.out.lt).c6
  obtain rfl | rfl | rfl | rfl | rfl | rfl | rfl | rfl | rfl | rfl | rfl | rfl | rfl | rfl | rfl : i = 0 ∨ i = 1 ∨ i = 2 ∨ i = 3 ∨ i = 4 ∨ i = 5 ∨ i = 6 ∨ i = 7 ∨ i = 8 ∨ i = 9 ∨ i = 10 ∨ i = 11 ∨ i = 12 ∨ i = 13 ∨ i = 14 := by omega
  all_goals
   obtain rfl := Option.some.inj ho
   simp only [Act.put, List.setIfInBounds_toArray, List.set_cons_succ, List.set_cons_zero] at hK
  rotate_left
  rotate_left
  have e19 := dv6 (hdep ⟨1, .data⟩ (by simp) rfl) rfl
  simp only [List.getD_cons_succ, List.getD_cons_zero] at e19
  generalize f' 19 = f19 at *; subst e19
  rotate_left
  have e18 := dv6 (hdep ⟨0, .data⟩ (by simp) rfl) rfl
  have e20 := dv6 (hdep ⟨2, .data⟩ (by simp) rfl) rfl
  simp only [List.getD_cons_succ, List.getD_cons_zero] at e18 e20
  generalize f' 18 = f18 at *; subst e18
  generalize f' 20 = f20 at *; subst e20
  rotate_left
  have e21 := dv6 (hdep ⟨3, .data⟩ (by simp) rfl) rfl
  simp only [List.getD_cons_succ, List.getD_cons_zero] at e21
  generalize f' 21 = f21 at *; subst e21
  rotate_left
  have e22 := dv6 (hdep ⟨4, .guard⟩ (by simp) rfl) rfl
  simp only [List.getD_cons_succ, List.getD_cons_zero] at e22
  generalize f' 22 = f22 at *; subst e22
  rotate_left
  have e22 := dv6 (hdep ⟨4, .guard⟩ (by simp) rfl) rfl
  simp only [List.getD_cons_succ, List.getD_cons_zero] at e22
  generalize f' 22 = f22 at *; subst e22
  rotate_left
  have e22 := dv6 (hdep ⟨4, .guard⟩ (by simp) rfl) rfl
  simp only [List.getD_cons_succ, List.getD_cons_zero] at e22
  generalize f' 22 = f22 at *; subst e22
  rotate_left
  have e22 := dv6 (hdep ⟨4, .guard⟩ (by simp) rfl) rfl
  simp only [List.getD_cons_succ, List.getD_cons_zero] at e22
  generalize f' 22 = f22 at *; subst e22
  rotate_left
  have e22 := dv6 (hdep ⟨4, .guard⟩ (by simp) rfl) rfl
  simp only [List.getD_cons_succ, List.getD_cons_zero] at e22
  generalize f' 22 = f22 at *; subst e22
  rotate_left
  have e22 := dv6 (hdep ⟨4, .guard⟩ (by simp) rfl) rfl
  simp only [List.getD_cons_succ, List.getD_cons_zero] at e22
  generalize f' 22 = f22 at *; subst e22
  rotate_left
  have e22 := dv6 (hdep ⟨4, .guard⟩ (by simp) rfl) rfl
  simp only [List.getD_cons_succ, List.getD_cons_zero] at e22
  generalize f' 22 = f22 at *; subst e22
  rotate_left
  have e22 := dv6 (hdep ⟨4, .guard⟩ (by simp) rfl) rfl
  simp only [List.getD_cons_succ, List.getD_cons_zero] at e22
  generalize f' 22 = f22 at *; subst e22
  rotate_left
  have e22 := dv6 (hdep ⟨4, .guard⟩ (by simp) rfl) rfl
  simp only [List.getD_cons_succ, List.getD_cons_zero] at e22
  generalize f' 22 = f22 at *; subst e22
  rotate_left
  have e22 := dv6 (hdep ⟨4, .data⟩ (by simp) rfl) rfl
  have e31 := dv6 (hdep ⟨13, .data⟩ (by simp) rfl) rfl
  simp only [List.getD_cons_succ, List.getD_cons_zero] at e22 e31
  generalize f' 22 = f22 at *; subst e22
  generalize f' 31 = f31 at *; subst e31
  rotate_left
  all_goals go_simp
  all_goals exact hK _ wx (gv6 rfl) (Below.refl _ _) hB (nb6 rfl rfl)
 case fina =>
  intro f' wx hB hG hne
  have e32 := dv6 (a := f' 32) (hG 14 (by decide)) rfl
  clear hG hne
  simp only [frontAct, List.foldl_cons, List.foldl_nil, List.setIfInBounds_toArray, List.set_cons_succ, List.set_cons_zero]
  generalize f' 32 = z32 at *; subst e32
  refine wpAny_done (by kernel_rfl) ?_ _
  have HB1 := Lib.hid (HBW.out.trans (hB.mono HBW.out.size)).drew
  have HD1 := Lib.hid (HD6.out.below hB HD6.out.lt).drew
  have HRUN1 := app_none (OwnP.nil wx 0)
  clear hB
  go_upto_region 7 with (at_builtin; refine wpList_appM rfl (.const (.slice none 0 0)) (.tmp 37) rfl rfl _ _ _ _ rfl rfl (HRUN1.out _ _) ?_)
  replace HBW := HB1
  replace HD6 := HD1
  refine wp_region6 15 [39, 40, 41, 42, 43, 44, 45, 46, 47, 48, 49, 50, 51, 52, 53] [.val (.int .i64 0), .val (.slice (some a) 0 c1), .val (.int .i64 0), .val (.bool true), .val (.bool true), .val (undef), .val (undef), .val (undef), .val (undef), .val (undef), .val (undef), .val (undef), .val (undef), .val (undef), .val (.bool true)] (by kernel_rfl) (by kernel_rfl) (by kernel_rfl) (by kernel_rfl) ?stepb 0 (by kernel_rfl) _ rfl ?finb
  case stepb =>
   intro i hi oi ho f' wx hB hdep K hK
   simp only [frontAct, List.foldl_cons, List.foldl_nil, List.setIfInBounds_toArray, List.set_cons_succ, List.set_cons_zero] at hK ⊢
   obtain ⟨y0, y1, y2, y3, y4, y5⟩ := (HD6.out.below hB HD6.out.lt).c6
   obtain rfl | rfl | rfl | rfl | rfl | rfl | rfl | rfl | rfl | rfl | rfl | rfl | rfl | rfl | rfl : i = 0 ∨ i = 1 ∨ i = 2 ∨ i = 3 ∨ i = 4 ∨ i = 5 ∨ i = 6 ∨ i = 7 ∨ i = 8 ∨ i = 9 ∨ i = 10 ∨ i = 11 ∨ i = 12 ∨ i = 13 ∨ i = 14 := by omega
   all_goals
    obtain rfl := Option.some.inj ho
    simp only [Act.put, List.setIfInBounds_toArray, List.set_cons_succ, List.set_cons_zero] at hK
   rotate_left
   rotate_left
   have e40 := dv6 (hdep ⟨1, .data⟩ (by simp) rfl) rfl
   simp only [List.getD_cons_succ, List.getD_cons_zero] at e40
   generalize f' 40 = f40 at *; subst e40
   rotate_left
   have e39 := dv6 (hdep ⟨0, .data⟩ (by simp) rfl) rfl
   have e41 := dv6 (hdep ⟨2, .data⟩ (by simp) rfl) rfl
   simp only [List.getD_cons_succ, List.getD_cons_zero] at e39 e41
   generalize f' 39 = f39 at *; subst e39
   generalize f' 41 = f41 at *; subst e41
   rotate_left
   have e42 := dv6 (hdep ⟨3, .data⟩ (by simp) rfl) rfl
   simp only [List.getD_cons_succ, List.getD_cons_zero] at e42
   generalize f' 42 = f42 at *; subst e42
   rotate_left
   have e43 := dv6 (hdep ⟨4, .guard⟩ (by simp) rfl) rfl
   simp only [List.getD_cons_succ, List.getD_cons_zero] at e43
   generalize f' 43 = f43 at *; subst e43
   rotate_left
   have e43 := dv6 (hdep ⟨4, .guard⟩ (by simp) rfl) rfl
   simp only [List.getD_cons_succ, List.getD_cons_zero] at e43
   generalize f' 43 = f43 at *; subst e43
   rotate_left
   have e43 := dv6 (hdep ⟨4, .guard⟩ (by simp) rfl) rfl
   simp only [List.getD_cons_succ, List.getD_cons_zero] at e43
   generalize f' 43 = f43 at *; subst e43
   rotate_left
   have e43 := dv6 (hdep ⟨4, .guard⟩ (by simp) rfl) rfl
   simp only [List.getD_cons_succ, List.getD_cons_zero] at e43
   generalize f' 43 = f43 at *; subst e43
   rotate_left
   have e43 := dv6 (hdep ⟨4, .guard⟩ (by simp) rfl) rfl
   simp only [List.getD_cons_succ, List.getD_cons_zero] at e43
   generalize f' 43 = f43 at *; subst e43
   rotate_left
   have e43 := dv6 (hdep ⟨4, .guard⟩ (by simp) rfl) rfl
   simp only [List.getD_cons_succ, List.getD_cons_zero] at e43
   generalize f' 43 = f43 at *; subst e43
   rotate_left
   have e43 := dv6 (hdep ⟨4, .guard⟩ (by simp) rfl) rfl
   simp only [List.getD_cons_succ, List.getD_cons_zero] at e43
   generalize f' 43 = f43 at *; subst e43
   rotate_left
   have e43 := dv6 (hdep ⟨4, .guard⟩ (by simp) rfl) rfl
   simp only [List.getD_cons_succ, List.getD_cons_zero] at e43
   generalize f' 43 = f43 at *; subst e43
   rotate_left
   have e43 := dv6 (hdep ⟨4, .guard⟩ (by simp) rfl) rfl
   simp only [List.getD_cons_succ, List.getD_cons_zero] at e43
   generalize f' 43 = f43 at *; subst e43
   rotate_left
   have e43 := dv6 (hdep ⟨4, .data⟩ (by simp) rfl) rfl
   have e52 := dv6 (hdep ⟨13, .data⟩ (by simp) rfl) rfl
   simp only [List.getD_cons_succ, List.getD_cons_zero] at e43 e52
   generalize f' 43 = f43 at *; subst e43
   generalize f' 52 = f52 at *; subst e52
   rotate_left
   all_goals go_simp
   all_goals exact hK _ wx (gv6 rfl) (Below.refl _ _) hB (nb6 rfl rfl)
  case finb =>
   intro f' wx hB hG hne
   have e53 := dv6 (a := f' 53) (hG 14 (by decide)) rfl
   clear hG hne
   simp only [frontAct, List.foldl_cons, List.foldl_nil, List.setIfInBounds_toArray, List.set_cons_succ, List.set_cons_zero]
   generalize f' 53 = z53 at *; subst e53
   refine wpAny_done (by kernel_rfl) ?_ _
   have hBy := HBW.out.trans (hB.mono HBW.out.size)
   have D6y := HD6.out.below hB HD6.out.lt
   have HBY := Lib.hid hBy.drew
   obtain ⟨hb8, d8⟩ := new6 wx.drew (.int .i64 (e.1 : Int)) (.int .i64 (e.2.1 : Int)) (.int .i64 (e.2.2 : Int)) (.bool nb) (.slice A n c) (.slice B m k)
   have hB8 := HBY.out.trans (hb8.mono HBY.out.size)
   obtain ⟨v2, w2', HRUN2, hown2, hg2, hk2⟩ := (OwnP.nil (wx.drew.alloc (M6 (.int .i64 (e.1 : Int)) (.int .i64 (e.2.1 : Int)) (.int .i64 (e.2.2 : Int)) (.bool nb) (.slice A n c) (.slice B m k))) w.heap.size).app1 (m := (e, q)) d8 (HQ0.out.below hB8) (by simp) hB8.size
   have hB9 := hB8.grown hg2 hB8.size (fun j e => by cases e)
   have HRUN3 := app_none hown2
   have HEND : Hid (RetPol w [(e, q)] (.returned v2) w2') := Lib.hid ⟨v2, rfl, hown2.pol, hB9⟩
   obtain ⟨y0, y1, y2, y3, y4, y5⟩ := D6y.drew.c6
   clear hBy D6y hb8 d8 hB8 hown2 hg2 hk2 hB9 hB
   go_upto_region 8 with (fail)
   go_region_law (first | (refine step_appM rfl (.tmp 54) (.tmp 56) rfl rfl _ _ _ _ rfl rfl HRUN2 ?_) | (refine step_appM rfl (.tmp 57) (.tmp 60) rfl rfl _ _ _ _ rfl rfl (HRUN3.out _ _) ?_) | fail)
   all_goals go_wp2_with fail
   all_goals go_ret
   all_goals exact HEND.out

theorem r2_put (v : Value) (l : List Mon) (e : Ex) (q : Rat) (nb : Bool) (A B : Option Addr) (n c m k : Nat) (w : World) (h : Pol w v l) (hv : VP l) (hs : SzL l 200000) (hq : RatQ w (.agg #[.bool nb, .slice A n c, .slice B m k]) q) (hS : Sz q 200000) :
  Calls Tryz.prog 57 #[v, .agg #[.int .i64 (e.1 : Int), .int .i64 (e.2.1 : Int), .int .i64 (e.2.2 : Int), .bool nb, .slice A n c, .slice B m k]] w (RetPol w (listOf (addAt (co l) e q))) := by
 by_cases h0 : ¬ deg e ≤ 5 ∨ q = 0
 ·rw [listOf_addAt_idle hv h0]
  exact r2_put_idle v l e q nb A B n c m k 200000 w h hq hS (by omega) h0
 ·have hd : deg e ≤ 5 := Classical.byContradiction (fun hh => h0 (.inl hh))
  have hz : q ≠ 0 := fun hh => h0 (.inr hh)
  rcases Nat.eq_zero_or_pos l.length with hl | hl
  ·obtain rfl : l = [] := List.eq_nil_of_length_eq_zero hl
   obtain ⟨A1, c1, rfl⟩ := h.slice
   have he : listOf (addAt (co []) e q) = [(e, q)] := by
    have := put_there hv hd hz (fun x hx => by simp at hx)
    simpa using this.symm
   rw [he]
   rcases A1 with _ | a
   ·exact r2_put_nil0 c1 e q nb A B n c m k w hq hS hd hz
   ·by_cases hc : c1 = 0
    ·subst hc
     exact r2_put_nil1 a e q nb A B n c m k w hq hS hd hz
    ·exact r2_put_nil2 a c1 e q nb A B n c m k w hq hS hd hz hc
  ·exact r2_put_some v l e q nb A B n c m k w h hv hl hs hq hS hd hz
end Go.Proofs.YtifeekomegoijaaGreatDoor
