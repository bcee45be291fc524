/- texts -/
import Derived.Test.YtifeekomegoijaaGreatDoorR42
import Derived.Test.YtifeekomegoijaaGreatDoorR16
set_option linter.unusedVariables false
set_option linter.unusedSimpArgs false
namespace Go.Proofs.YtifeekomegoijaaGreatDoor
open Go.RowKit

theorem lexN_pos {m e : Ex} (h : elt e m = true) : lexI ((m.1 : Int), (m.2.1 : Int), (m.2.2 : Int)) ((e.1 : Int), (e.2.1 : Int), (e.2.2 : Int)) = 1 := by
 rw [elt_iff] at h
 unfold lexI
 simp only
 split
 ·omega
 ·split
  ·rfl
  ·split
   ·omega
   ·split
    ·rfl
    ·split
     ·omega
     ·split
      ·rfl
      ·omega
theorem lexN_neg {m e : Ex} (h : elt m e = true) : lexI ((m.1 : Int), (m.2.1 : Int), (m.2.2 : Int)) ((e.1 : Int), (e.2.1 : Int), (e.2.2 : Int)) = -1 := by
 rw [lexI_anti, lexN_pos h]
theorem lexN_same (e : Ex) : lexI ((e.1 : Int), (e.2.1 : Int), (e.2.2 : Int)) ((e.1 : Int), (e.2.1 : Int), (e.2.2 : Int)) = 0 := by
 unfold lexI
 simp

set_option maxRecDepth 40000 in
set_option maxHeartbeats 16000000 in
theorem r2_put_some (v : Value) (l : List Mon) (e : Ex) (q : Rat) (nb : Bool) (A B : Option Addr) (n c m k : Nat) (w : World) (h : Pol w v l) (hv : VP l) (hn0 : 0 < l.length) (hs : SzL l 200000) (hq : RatQ w (.agg #[.bool nb, .slice A n c, .slice B m k]) q) (hS : Sz q 200000) (hd : deg e ≤ 5) (h0 : q ≠ 0) :
  Calls Tryz.prog 57 #[v, .agg #[.int .i64 (e.1 : Int), .int .i64 (e.2.1 : Int), .int .i64 (e.2.2 : Int), .bool nb, .slice A n c, .slice B m k]] w (RetPol w (listOf (addAt (co l) e q))) := by
 obtain ⟨A1, c1, rfl⟩ := h.slice
 have hlen := vp_length hv
 obtain ⟨K, hK⟩ : ∃ K, place l e = K := ⟨_, rfl⟩
 have HKL : Hid (K ≤ l.length) := Lib.hid (by rw [← hK]; exact place_le l e)
 have HBEF : Hid (∀ j m, j < K → l[j]? = some m → elt e m.1 = true) := Lib.hid (fun j m hj hm => place_before (by rw [hK]; exact hj) hm)
 have HAFT : Hid (∀ m, l[K]? = some m → elt e m.1 = false) := Lib.hid (fun m hm => place_at (by rw [hK]; exact hm))
 have HNEW : Hid ((∀ x, l[K]? = some x → x.1 ≠ e) → l.take K ++ ([(e, q)] ++ l.drop K) = listOf (addAt (co l) e q)) := Lib.hid (fun hh => by rw [← hK] at hh ⊢; exact put_there hv hd h0 hh)
 have HOVER : Hid (∀ y, l[K]? = some (e, y) → l.take K ++ ((if q + y = 0 then [] else [(e, q + y)]) ++ l.drop (K + 1)) = listOf (addAt (co l) e q)) := Lib.hid (fun y hh => by rw [← hK] at hh ⊢; exact put_over hv hh)
 clear hK
 obtain ⟨hb6, d6⟩ := new6 w (.int .i64 (e.1 : Int)) (.int .i64 (e.2.1 : Int)) (.int .i64 (e.2.2 : Int)) (.bool nb) (.slice A n c) (.slice B m k)
 have HP := Lib.hid h
 have HQ0 := Lib.hid hq
 have HLEN := Lib.hid hlen
 have HL0 := Lib.hid hn0
 have HSL := Lib.hid hs
 have HSQ := Lib.hid hS
 have hkn : Hid (knownI ((e.1 : Int), (e.2.1 : Int), (e.2.2 : Int)) = true) := Lib.hid (by rw [knownI_nat]; exact decide_eq_true hd)
 have HNZ := Lib.hid h0
 have y := d6.c6
 clear h hq hlen hn0 hs hS hd h0 hv
 go_enter Tryz.func57, Tryz.ntmps57
 go_wp2_with fail
 generalize (w.alloc (M6 (.int .i64 (e.1 : Int)) (.int .i64 (e.2.1 : Int)) (.int .i64 (e.2.2 : Int)) (.bool nb) (.slice A n c) (.slice B m k))) = W at *
 refine (r2_possible _ _ _ _ _ hkn).mono ?_
 rintro e2 w2 ⟨rfl, hb2⟩
 replace hb6 := hb6.trans (hb2.mono hb6.size)
 replace d6 := d6.below hb2 d6.lt
 replace y := d6.c6
 clear hb2 hkn
 obtain ⟨sg, hsg⟩ : ∃ sg, q.num.sign = sg := ⟨_, rfl⟩
 have HSG := Lib.hid hsg
 have hs0 : (sg == 0) = false := by rw [← hsg, sign_zero]; exact decide_eq_false HNZ.out
 have HS0 := Lib.hid hs0
 clear hs0 hsg
 go_wp2_with fail
 refine (r_SignV _ q sg _ ((HQ0.out.below hb6).inr HSQ.out (by omega)) HSG).mono ?_
 rintro e3 w3 ⟨rfl, hb3⟩
 replace hb6 := hb6.trans (hb3.mono hb6.size)
 replace d6 := d6.below hb3 d6.lt
 clear hb3 y
 have HB3 := Lib.hid hb6
 have HD3 := Lib.hid d6
 clear hb6 d6
 have hs0 := HS0.out
 go_wp2_with fail
 clear hs0
 go_loopw [5] (fun i wr => ∃ j, j ≤ K ∧ i = .int .i64 (j : Int) ∧ Below w3.heap.size w3 wr) (fun i _ => (K - intOf i).toNat)
 case atStart => exact ⟨0, Nat.zero_le _, rfl, Below.refl _ _⟩
 case round =>
  obtain ⟨j, hj, rfl, hbr⟩ := hrel
  obtain ⟨b, o, rfl, hb0, _⟩ : ∃ b o, A1 = some ⟨b, o, none⟩ ∧ b < w.heap.size ∧ True := by
   obtain ⟨m0, hm0⟩ : ∃ m, l[0]? = some m := ⟨_, List.getElem?_eq_getElem HL0.out⟩
   obtain ⟨b, o, _, _, _, h1, h2, _⟩ := HP.out.at hm0
   exact ⟨b, o, h1, h2, trivial⟩
  have HBLT := Lib.hid hb0
  have HBR := Lib.hid hbr
  have HBW := Lib.hid (HB3.out.trans (hbr.drew.mono HB3.out.size))
  have HD6 := Lib.hid (HD3.out.below hbr.drew HD3.out.lt)
  have HLT : Hid (b < wr.drew.heap.size) := Lib.hid (Nat.lt_of_lt_of_le hb0 HBW.out.size)
  clear hbr hb0
  by_cases hjK : j < K
  ·obtain ⟨⟨f, y⟩, hx⟩ : ∃ m, l[j]? = some m := ⟨_, List.getElem?_eq_getElem (by have := HKL.out; omega)⟩
   obtain ⟨b', o', z0, z1, z2, hA, hb', hat, _⟩ := HP.out.at hx
   cases hA
   have HAT : Hid (At6 wr.drew b (o + j * 6) _ _ _ _ _ _) := Lib.hid (hat.keep (HBW.out.block b hb'))
   have HV : Hid (lexI ((f.1 : Int), (f.2.1 : Int), (f.2.2 : Int)) ((e.1 : Int), (e.2.1 : Int), (e.2.2 : Int)) = 1) := Lib.hid (lexN_pos (HBEF.out j _ hjK hx))
   have hjl : j < l.length := by have := HKL.out; omega
   have hlt : decide (j < l.length) = true := decide_eq_true hjl
   have hlt2 : (j : Int) < (l.length : Int) := by omega
   have HJ := Lib.hid hjK
   clear hj hjK hx hb' hat hjl
   go_upto_region 4 with (fail)
   refine wp_region6 15 [18, 19, 20, 21, 22, 23, 24, 25, 26, 27, 28, 29, 30, 31, 32] [.val (.int .i64 (j : Int)), .val (.slice (some ⟨b, o, none⟩) l.length c1), .val (.int .i64 (l.length : Int)), .val (.bool true), .val (.bool true), .val (.slice (some ⟨b, o, none⟩) l.length c1), .val (.int .i64 (j : Int)), .val (.pointer (some ⟨b, o + j * 6, none⟩)), .val (.pointer (some ⟨b, o + j * 6, none⟩)), .val (.agg #[.int .i64 (f.1 : Int), .int .i64 (f.2.1 : Int), .int .i64 (f.2.2 : Int)]), .val (.pointer (some ⟨w.heap.size, 0, none⟩)), .val (.agg #[.int .i64 (e.1 : Int), .int .i64 (e.2.1 : Int), .int .i64 (e.2.2 : Int)]), .val (.int .i64 (1)), .val (.bool true), .val (.bool true)] (by kernel_rfl) (by kernel_rfl) (by kernel_rfl) (by kernel_rfl) ?stepa 0 (by kernel_rfl) _ rfl ?fina
   case stepa =>
    intro i hi oi ho f' wx hB hdep K hK
    simp only [frontAct, List.foldl_cons, List.foldl_nil, List.setIfInBounds_toArray, List.set_cons_succ, List.set_cons_zero] at hK ⊢
    obtain ⟨x0, x1, x2, x3, x4, x5⟩ := HAT.out.below hB HLT.out
    obtain ⟨y0, y1, y2, y3, y4, y5⟩ := (HD6.out.below hB HD6.out.lt).c6
    obtain rfl | rfl | rfl | rfl | rfl | rfl | rfl | rfl | rfl | rfl | rfl | rfl | rfl | rfl | rfl : i = 0 ∨ i = 1 ∨ i = 2 ∨ i = 3 ∨ i = 4 ∨ i = 5 ∨ i = 6 ∨ i = 7 ∨ i = 8 ∨ i = 9 ∨ i = 10 ∨ i = 11 ∨ i = 12 ∨ i = 13 ∨ i = 14 := by omega
    all_goals
     obtain rfl := Option.some.inj ho
     simp only [Act.put, List.setIfInBounds_toArray, List.set_cons_succ, List.set_cons_zero] at hK
    rotate_left
    rotate_left
    have e19 := dv6 (hdep ⟨1, .data⟩ (by simp) rfl) rfl
    simp only [List.getD_cons_succ, List.getD_cons_zero] at e19
    generalize f' 19 = f19 at *; subst e19
    rotate_left
    have e18 := dv6 (hdep ⟨0, .data⟩ (by simp) rfl) rfl
    have e20 := dv6 (hdep ⟨2, .data⟩ (by simp) rfl) rfl
    simp only [List.getD_cons_succ, List.getD_cons_zero] at e18 e20
    generalize f' 18 = f18 at *; subst e18
    generalize f' 20 = f20 at *; subst e20
    rotate_left
    have e21 := dv6 (hdep ⟨3, .data⟩ (by simp) rfl) rfl
    simp only [List.getD_cons_succ, List.getD_cons_zero] at e21
    generalize f' 21 = f21 at *; subst e21
    rotate_left
    have e22 := dv6 (hdep ⟨4, .guard⟩ (by simp) rfl) rfl
    simp only [List.getD_cons_succ, List.getD_cons_zero] at e22
    generalize f' 22 = f22 at *; subst e22
    rotate_left
    have e22 := dv6 (hdep ⟨4, .guard⟩ (by simp) rfl) rfl
    simp only [List.getD_cons_succ, List.getD_cons_zero] at e22
    generalize f' 22 = f22 at *; subst e22
    rotate_left
    have e22 := dv6 (hdep ⟨4, .guard⟩ (by simp) rfl) rfl
    have e23 := dv6 (hdep ⟨5, .data⟩ (by simp) rfl) rfl
    have e24 := dv6 (hdep ⟨6, .data⟩ (by simp) rfl) rfl
    simp only [List.getD_cons_succ, List.getD_cons_zero] at e22 e23 e24
    generalize f' 22 = f22 at *; subst e22
    generalize f' 23 = f23 at *; subst e23
    generalize f' 24 = f24 at *; subst e24
    rotate_left
    have e22 := dv6 (hdep ⟨4, .guard⟩ (by simp) rfl) rfl
    have e25 := dv6 (hdep ⟨7, .data⟩ (by simp) rfl) rfl
    simp only [List.getD_cons_succ, List.getD_cons_zero] at e22 e25
    generalize f' 22 = f22 at *; subst e22
    generalize f' 25 = f25 at *; subst e25
    rotate_left
    have e22 := dv6 (hdep ⟨4, .guard⟩ (by simp) rfl) rfl
    have e26 := dv6 (hdep ⟨8, .data⟩ (by simp) rfl) rfl
    simp only [List.getD_cons_succ, List.getD_cons_zero] at e22 e26
    generalize f' 22 = f22 at *; subst e22
    generalize f' 26 = f26 at *; subst e26
    rotate_left
    have e22 := dv6 (hdep ⟨4, .guard⟩ (by simp) rfl) rfl
    simp only [List.getD_cons_succ, List.getD_cons_zero] at e22
    generalize f' 22 = f22 at *; subst e22
    rotate_left
    have e22 := dv6 (hdep ⟨4, .guard⟩ (by simp) rfl) rfl
    have e28 := dv6 (hdep ⟨10, .data⟩ (by simp) rfl) rfl
    simp only [List.getD_cons_succ, List.getD_cons_zero] at e22 e28
    generalize f' 22 = f22 at *; subst e22
    generalize f' 28 = f28 at *; subst e28
    rotate_left
    ·have e22 := dv6 (hdep ⟨4, .guard⟩ (by simp) rfl) rfl
     have e27 := dv6 (hdep ⟨9, .data⟩ (by simp) rfl) rfl
     have e29 := dv6 (hdep ⟨11, .data⟩ (by simp) rfl) rfl
     simp only [List.getD_cons_succ, List.getD_cons_zero] at e22 e27 e29
     generalize f' 22 = f22 at *; subst e22
     generalize f' 27 = f27 at *; subst e27
     generalize f' 29 = f29 at *; subst e29
     go_simp
     refine (r2_order (f.1 : Int) (f.2.1 : Int) (f.2.2 : Int) (e.1 : Int) (e.2.1 : Int) (e.2.2 : Int) wx (1) HV).mono ?_
     rintro e0 w' ⟨rfl, hb⟩
     exact hK (.int .i64 (1)) w' (gv6 rfl) hb (hB.trans (hb.mono hB.size)) (nb6 rfl rfl)
    have e22 := dv6 (hdep ⟨4, .guard⟩ (by simp) rfl) rfl
    have e30 := dv6 (hdep ⟨12, .data⟩ (by simp) rfl) rfl
    simp only [List.getD_cons_succ, List.getD_cons_zero] at e22 e30
    generalize f' 22 = f22 at *; subst e22
    generalize f' 30 = f30 at *; subst e30
    rotate_left
    have e22 := dv6 (hdep ⟨4, .data⟩ (by simp) rfl) rfl
    have e31 := dv6 (hdep ⟨13, .data⟩ (by simp) rfl) rfl
    simp only [List.getD_cons_succ, List.getD_cons_zero] at e22 e31
    generalize f' 22 = f22 at *; subst e22
    generalize f' 31 = f31 at *; subst e31
    rotate_left
    all_goals go_simp
    all_goals exact hK _ wx (gv6 rfl) (Below.refl _ _) hB (nb6 rfl rfl)
   case fina =>
    intro f' wx hB hG hne
    have e32 := dv6 (a := f' 32) (hG 14 (by decide)) rfl
    clear hG hne
    simp only [frontAct, List.foldl_cons, List.foldl_nil, List.setIfInBounds_toArray, List.set_cons_succ, List.set_cons_zero]
    generalize f' 32 = z32 at *; subst e32
    refine wpAny_done (by kernel_rfl) ?_ _
    have hj9 := HJ.out
    have hl9 := HKL.out
    have hl8 := HLEN.out
    go_wp2_with fail
    exact ⟨⟨j + 1, HJ.out, congrArg (Value.int _) (by omega), HBR.out.drew.trans (hB.mono HBR.out.size)⟩, by simp [intOf]; have := HJ.out; have := HKL.out; omega⟩
  obtain rfl : j = K := by omega
  clear hjK hj
  rcases Nat.lt_or_ge j l.length with hjl | hjl
  ·obtain ⟨⟨f, y⟩, hx⟩ : ∃ m, l[j]? = some m := ⟨_, List.getElem?_eq_getElem hjl⟩
   obtain ⟨b', o', z0, z1, z2, hA, hb', hat, hqy⟩ := HP.out.at hx
   cases hA
   have HAT0 := Lib.hid hat
   have HQY := Lib.hid hqy
   have HAT : Hid (At6 wr.drew b (o + j * 6) _ _ _ _ _ _) := Lib.hid (hat.keep (HBW.out.block b hb'))
   have hlt : decide (j < l.length) = true := decide_eq_true hjl
   have hlt2 : (j : Int) < (l.length : Int) := by omega
   have hne0 : ((j : Int) == (l.length : Int)) = false := by simp; omega
   have hltK := Lib.hid hjl
   have HX := Lib.hid hx
   have haft := HAFT.out _ hx
   by_cases hfe : f = e
   ·subst hfe
    have HV : Hid (lexI ((f.1 : Int), (f.2.1 : Int), (f.2.2 : Int)) ((f.1 : Int), (f.2.1 : Int), (f.2.2 : Int)) = 0) := Lib.hid (lexN_same f)
    have HSY := Lib.hid (HSL.out _ (List.mem_of_getElem? hx))
    clear hx hb' hat hqy haft hjl
    go_upto_region 4 with (fail)
    refine wp_region6 15 [18, 19, 20, 21, 22, 23, 24, 25, 26, 27, 28, 29, 30, 31, 32] [.val (.int .i64 (j : Int)), .val (.slice (some ⟨b, o, none⟩) l.length c1), .val (.int .i64 (l.length : Int)), .val (.bool true), .val (.bool true), .val (.slice (some ⟨b, o, none⟩) l.length c1), .val (.int .i64 (j : Int)), .val (.pointer (some ⟨b, o + j * 6, none⟩)), .val (.pointer (some ⟨b, o + j * 6, none⟩)), .val (.agg #[.int .i64 (f.1 : Int), .int .i64 (f.2.1 : Int), .int .i64 (f.2.2 : Int)]), .val (.pointer (some ⟨w.heap.size, 0, none⟩)), .val (.agg #[.int .i64 (f.1 : Int), .int .i64 (f.2.1 : Int), .int .i64 (f.2.2 : Int)]), .val (.int .i64 (0)), .val (.bool false), .val (.bool false)] (by kernel_rfl) (by kernel_rfl) (by kernel_rfl) (by kernel_rfl) ?stepxs 0 (by kernel_rfl) _ rfl ?finxs
    case stepxs =>
     intro i hi oi ho f' wx hB hdep K hK
     simp only [frontAct, List.foldl_cons, List.foldl_nil, List.setIfInBounds_toArray, List.set_cons_succ, List.set_cons_zero] at hK ⊢
     obtain ⟨x0, x1, x2, x3, x4, x5⟩ := HAT.out.below hB HLT.out
     obtain ⟨y0, y1, y2, y3, y4, y5⟩ := (HD6.out.below hB HD6.out.lt).c6
     obtain rfl | rfl | rfl | rfl | rfl | rfl | rfl | rfl | rfl | rfl | rfl | rfl | rfl | rfl | rfl : i = 0 ∨ i = 1 ∨ i = 2 ∨ i = 3 ∨ i = 4 ∨ i = 5 ∨ i = 6 ∨ i = 7 ∨ i = 8 ∨ i = 9 ∨ i = 10 ∨ i = 11 ∨ i = 12 ∨ i = 13 ∨ i = 14 := by omega
     all_goals
      obtain rfl := Option.some.inj ho
      simp only [Act.put, List.setIfInBounds_toArray, List.set_cons_succ, List.set_cons_zero] at hK
     rotate_left
     rotate_left
     have e19 := dv6 (hdep ⟨1, .data⟩ (by simp) rfl) rfl
     simp only [List.getD_cons_succ, List.getD_cons_zero] at e19
     generalize f' 19 = f19 at *; subst e19
     rotate_left
     have e18 := dv6 (hdep ⟨0, .data⟩ (by simp) rfl) rfl
     have e20 := dv6 (hdep ⟨2, .data⟩ (by simp) rfl) rfl
     simp only [List.getD_cons_succ, List.getD_cons_zero] at e18 e20
     generalize f' 18 = f18 at *; subst e18
     generalize f' 20 = f20 at *; subst e20
     rotate_left
     have e21 := dv6 (hdep ⟨3, .data⟩ (by simp) rfl) rfl
     simp only [List.getD_cons_succ, List.getD_cons_zero] at e21
     generalize f' 21 = f21 at *; subst e21
     rotate_left
     have e22 := dv6 (hdep ⟨4, .guard⟩ (by simp) rfl) rfl
     simp only [List.getD_cons_succ, List.getD_cons_zero] at e22
     generalize f' 22 = f22 at *; subst e22
     rotate_left
     have e22 := dv6 (hdep ⟨4, .guard⟩ (by simp) rfl) rfl
     simp only [List.getD_cons_succ, List.getD_cons_zero] at e22
     generalize f' 22 = f22 at *; subst e22
     rotate_left
     have e22 := dv6 (hdep ⟨4, .guard⟩ (by simp) rfl) rfl
     have e23 := dv6 (hdep ⟨5, .data⟩ (by simp) rfl) rfl
     have e24 := dv6 (hdep ⟨6, .data⟩ (by simp) rfl) rfl
     simp only [List.getD_cons_succ, List.getD_cons_zero] at e22 e23 e24
     generalize f' 22 = f22 at *; subst e22
     generalize f' 23 = f23 at *; subst e23
     generalize f' 24 = f24 at *; subst e24
     rotate_left
     have e22 := dv6 (hdep ⟨4, .guard⟩ (by simp) rfl) rfl
     have e25 := dv6 (hdep ⟨7, .data⟩ (by simp) rfl) rfl
     simp only [List.getD_cons_succ, List.getD_cons_zero] at e22 e25
     generalize f' 22 = f22 at *; subst e22
     generalize f' 25 = f25 at *; subst e25
     rotate_left
     have e22 := dv6 (hdep ⟨4, .guard⟩ (by simp) rfl) rfl
     have e26 := dv6 (hdep ⟨8, .data⟩ (by simp) rfl) rfl
     simp only [List.getD_cons_succ, List.getD_cons_zero] at e22 e26
     generalize f' 22 = f22 at *; subst e22
     generalize f' 26 = f26 at *; subst e26
     rotate_left
     have e22 := dv6 (hdep ⟨4, .guard⟩ (by simp) rfl) rfl
     simp only [List.getD_cons_succ, List.getD_cons_zero] at e22
     generalize f' 22 = f22 at *; subst e22
     rotate_left
     have e22 := dv6 (hdep ⟨4, .guard⟩ (by simp) rfl) rfl
     have e28 := dv6 (hdep ⟨10, .data⟩ (by simp) rfl) rfl
     simp only [List.getD_cons_succ, List.getD_cons_zero] at e22 e28
     generalize f' 22 = f22 at *; subst e22
     generalize f' 28 = f28 at *; subst e28
     rotate_left
     ·have e22 := dv6 (hdep ⟨4, .guard⟩ (by simp) rfl) rfl
      have e27 := dv6 (hdep ⟨9, .data⟩ (by simp) rfl) rfl
      have e29 := dv6 (hdep ⟨11, .data⟩ (by simp) rfl) rfl
      simp only [List.getD_cons_succ, List.getD_cons_zero] at e22 e27 e29
      generalize f' 22 = f22 at *; subst e22
      generalize f' 27 = f27 at *; subst e27
      generalize f' 29 = f29 at *; subst e29
      go_simp
      refine (r2_order (f.1 : Int) (f.2.1 : Int) (f.2.2 : Int) (f.1 : Int) (f.2.1 : Int) (f.2.2 : Int) wx (0) HV).mono ?_
      rintro e0 w' ⟨rfl, hb⟩
      exact hK (.int .i64 (0)) w' (gv6 rfl) hb (hB.trans (hb.mono hB.size)) (nb6 rfl rfl)
     have e22 := dv6 (hdep ⟨4, .guard⟩ (by simp) rfl) rfl
     have e30 := dv6 (hdep ⟨12, .data⟩ (by simp) rfl) rfl
     simp only [List.getD_cons_succ, List.getD_cons_zero] at e22 e30
     generalize f' 22 = f22 at *; subst e22
     generalize f' 30 = f30 at *; subst e30
     rotate_left
     have e22 := dv6 (hdep ⟨4, .data⟩ (by simp) rfl) rfl
     have e31 := dv6 (hdep ⟨13, .data⟩ (by simp) rfl) rfl
     simp only [List.getD_cons_succ, List.getD_cons_zero] at e22 e31
     generalize f' 22 = f22 at *; subst e22
     generalize f' 31 = f31 at *; subst e31
     rotate_left
     all_goals go_simp
     all_goals exact hK _ wx (gv6 rfl) (Below.refl _ _) hB (nb6 rfl rfl)
    case finxs =>
     intro f' wx hB hG hne
     have e32 := dv6 (a := f' 32) (hG 14 (by decide)) rfl
     clear hG hne
     simp only [frontAct, List.foldl_cons, List.foldl_nil, List.setIfInBounds_toArray, List.set_cons_succ, List.set_cons_zero]
     generalize f' 32 = z32 at *; subst e32
     have hBx := HBW.out.trans (hB.mono HBW.out.size)
     have D6 := HD6.out.below hB HD6.out.lt
     refine wpAny_done (by kernel_rfl) ?_ _
     obtain ⟨ys, hrd, hcs⟩ := (HP.out.below hBx).cells6
     obtain ⟨v1, w1, HRUN1, hown1, hg1, _⟩ := (OwnP.nil wx (w.heap.size + 1)).app (hrd.take (m := j) HKL.out) (hcs.take j) (by have := HLEN.out; have := HKL.out; simp; omega) D6.lt
     have hb1 : Below w.heap.size w w1 := hBx.grown hg1 hBx.size (fun j e => by cases e)
     have D61 := D6.grw hg1 (fun e => by cases e)
     rw [List.nil_append] at hown1
     have HB1 := Lib.hid hb1
     have HO1 := Lib.hid hown1
     have HD1 := Lib.hid D61
     have HKC : Hid (j ≤ c1 ∧ 0 < c1 ∧ l.length ≤ c1) := Lib.hid ⟨Nat.le_trans HKL.out hrd.cap, by have := hrd.cap; have := HL0.out; omega, hrd.cap⟩
     clear hrd hcs hown1 hg1 hb1 D61 D6 hBx hB
     have hkc := HKC.out.1
     have hkc0 := HKC.out.2.1
     go_upto_region 7 with (at_builtin; refine wpList_appM rfl (.const (.slice none 0 0)) (.tmp 37) rfl rfl _ _ _ _ rfl rfl HRUN1 ?_)
     clear hkc hkc0
     have HBW := Lib.hid HB1.out.drew
     have HD6 := Lib.hid HD1.out.drew
     have HO2 := Lib.hid (HO1.out.below (Below.refl _ _).drew)
     have HAT : Hid (At6 w1.drew b (o + j * 6) _ _ _ _ _ _) := Lib.hid (HAT0.out.keep (HBW.out.block b HBLT.out))
     have HLT : Hid (b < w1.drew.heap.size) := Lib.hid (Nat.lt_of_lt_of_le HBLT.out HBW.out.size)
     refine wp_region6 15 [39, 40, 41, 42, 43, 44, 45, 46, 47, 48, 49, 50, 51, 52, 53] [.val (.int .i64 (j : Int)), .val (.slice (some ⟨b, o, none⟩) l.length c1), .val (.int .i64 (l.length : Int)), .val (.bool false), .val (.bool false), .val (.slice (some ⟨b, o, none⟩) l.length c1), .val (.int .i64 (j : Int)), .val (.pointer (some ⟨b, o + j * 6, none⟩)), .val (.pointer (some ⟨b, o + j * 6, none⟩)), .val (.agg #[.int .i64 (f.1 : Int), .int .i64 (f.2.1 : Int), .int .i64 (f.2.2 : Int)]), .val (.pointer (some ⟨w.heap.size, 0, none⟩)), .val (.agg #[.int .i64 (f.1 : Int), .int .i64 (f.2.1 : Int), .int .i64 (f.2.2 : Int)]), .val (.int .i64 (0)), .val (.bool false), .val (.bool false)] (by kernel_rfl) (by kernel_rfl) (by kernel_rfl) (by kernel_rfl) ?steprs 0 (by kernel_rfl) _ rfl ?finrs
     case steprs =>
      intro i hi oi ho f' wx hB hdep K hK
      simp only [frontAct, List.foldl_cons, List.foldl_nil, List.setIfInBounds_toArray, List.set_cons_succ, List.set_cons_zero] at hK ⊢
      obtain ⟨x0, x1, x2, x3, x4, x5⟩ := HAT.out.below hB HLT.out
      obtain ⟨y0, y1, y2, y3, y4, y5⟩ := (HD6.out.below hB HD6.out.lt).c6
      obtain rfl | rfl | rfl | rfl | rfl | rfl | rfl | rfl | rfl | rfl | rfl | rfl | rfl | rfl | rfl : i = 0 ∨ i = 1 ∨ i = 2 ∨ i = 3 ∨ i = 4 ∨ i = 5 ∨ i = 6 ∨ i = 7 ∨ i = 8 ∨ i = 9 ∨ i = 10 ∨ i = 11 ∨ i = 12 ∨ i = 13 ∨ i = 14 := by omega
      all_goals
       obtain rfl := Option.some.inj ho
       simp only [Act.put, List.setIfInBounds_toArray, List.set_cons_succ, List.set_cons_zero] at hK
      rotate_left
      rotate_left
      have e40 := dv6 (hdep ⟨1, .data⟩ (by simp) rfl) rfl
      simp only [List.getD_cons_succ, List.getD_cons_zero] at e40
      generalize f' 40 = f40 at *; subst e40
      rotate_left
      have e39 := dv6 (hdep ⟨0, .data⟩ (by simp) rfl) rfl
      have e41 := dv6 (hdep ⟨2, .data⟩ (by simp) rfl) rfl
      simp only [List.getD_cons_succ, List.getD_cons_zero] at e39 e41
      generalize f' 39 = f39 at *; subst e39
      generalize f' 41 = f41 at *; subst e41
      rotate_left
      have e42 := dv6 (hdep ⟨3, .data⟩ (by simp) rfl) rfl
      simp only [List.getD_cons_succ, List.getD_cons_zero] at e42
      generalize f' 42 = f42 at *; subst e42
      rotate_left
      have e43 := dv6 (hdep ⟨4, .guard⟩ (by simp) rfl) rfl
      simp only [List.getD_cons_succ, List.getD_cons_zero] at e43
      generalize f' 43 = f43 at *; subst e43
      rotate_left
      have e43 := dv6 (hdep ⟨4, .guard⟩ (by simp) rfl) rfl
      simp only [List.getD_cons_succ, List.getD_cons_zero] at e43
      generalize f' 43 = f43 at *; subst e43
      rotate_left
      have e43 := dv6 (hdep ⟨4, .guard⟩ (by simp) rfl) rfl
      have e44 := dv6 (hdep ⟨5, .data⟩ (by simp) rfl) rfl
      have e45 := dv6 (hdep ⟨6, .data⟩ (by simp) rfl) rfl
      simp only [List.getD_cons_succ, List.getD_cons_zero] at e43 e44 e45
      generalize f' 43 = f43 at *; subst e43
      generalize f' 44 = f44 at *; subst e44
      generalize f' 45 = f45 at *; subst e45
      rotate_left
      have e43 := dv6 (hdep ⟨4, .guard⟩ (by simp) rfl) rfl
      have e46 := dv6 (hdep ⟨7, .data⟩ (by simp) rfl) rfl
      simp only [List.getD_cons_succ, List.getD_cons_zero] at e43 e46
      generalize f' 43 = f43 at *; subst e43
      generalize f' 46 = f46 at *; subst e46
      rotate_left
      have e43 := dv6 (hdep ⟨4, .guard⟩ (by simp) rfl) rfl
      have e47 := dv6 (hdep ⟨8, .data⟩ (by simp) rfl) rfl
      simp only [List.getD_cons_succ, List.getD_cons_zero] at e43 e47
      generalize f' 43 = f43 at *; subst e43
      generalize f' 47 = f47 at *; subst e47
      rotate_left
      have e43 := dv6 (hdep ⟨4, .guard⟩ (by simp) rfl) rfl
      simp only [List.getD_cons_succ, List.getD_cons_zero] at e43
      generalize f' 43 = f43 at *; subst e43
      rotate_left
      have e43 := dv6 (hdep ⟨4, .guard⟩ (by simp) rfl) rfl
      have e49 := dv6 (hdep ⟨10, .data⟩ (by simp) rfl) rfl
      simp only [List.getD_cons_succ, List.getD_cons_zero] at e43 e49
      generalize f' 43 = f43 at *; subst e43
      generalize f' 49 = f49 at *; subst e49
      rotate_left
      ·have e43 := dv6 (hdep ⟨4, .guard⟩ (by simp) rfl) rfl
       have e48 := dv6 (hdep ⟨9, .data⟩ (by simp) rfl) rfl
       have e50 := dv6 (hdep ⟨11, .data⟩ (by simp) rfl) rfl
       simp only [List.getD_cons_succ, List.getD_cons_zero] at e43 e48 e50
       generalize f' 43 = f43 at *; subst e43
       generalize f' 48 = f48 at *; subst e48
       generalize f' 50 = f50 at *; subst e50
       go_simp
       refine (r2_order (f.1 : Int) (f.2.1 : Int) (f.2.2 : Int) (f.1 : Int) (f.2.1 : Int) (f.2.2 : Int) wx (0) HV).mono ?_
       rintro e0 w' ⟨rfl, hb⟩
       exact hK (.int .i64 (0)) w' (gv6 rfl) hb (hB.trans (hb.mono hB.size)) (nb6 rfl rfl)
      have e43 := dv6 (hdep ⟨4, .guard⟩ (by simp) rfl) rfl
      have e51 := dv6 (hdep ⟨12, .data⟩ (by simp) rfl) rfl
      simp only [List.getD_cons_succ, List.getD_cons_zero] at e43 e51
      generalize f' 43 = f43 at *; subst e43
      generalize f' 51 = f51 at *; subst e51
      rotate_left
      have e43 := dv6 (hdep ⟨4, .data⟩ (by simp) rfl) rfl
      have e52 := dv6 (hdep ⟨13, .data⟩ (by simp) rfl) rfl
      simp only [List.getD_cons_succ, List.getD_cons_zero] at e43 e52
      generalize f' 43 = f43 at *; subst e43
      generalize f' 52 = f52 at *; subst e52
      rotate_left
      all_goals go_simp
      all_goals exact hK _ wx (gv6 rfl) (Below.refl _ _) hB (nb6 rfl rfl)
     case finrs =>
      intro f' wx hB hG hne
      have e53 := dv6 (a := f' 53) (hG 14 (by decide)) rfl
      clear hG hne
      simp only [frontAct, List.foldl_cons, List.foldl_nil, List.setIfInBounds_toArray, List.set_cons_succ, List.set_cons_zero]
      generalize f' 53 = z53 at *; subst e53
      have hBy := HBW.out.trans (hB.mono HBW.out.size)
      have D6y := HD6.out.below hB HD6.out.lt
      have hO := HO2.out.below hB
      replace HBW := Lib.hid hBy.drew
      replace HD6 := Lib.hid D6y.drew
      replace HO2 := Lib.hid (hO.below (Below.refl _ _).drew)
      replace HAT : Hid (At6 wx.drew b (o + j * 6) _ _ _ _ _ _) := Lib.hid (HAT0.out.keep (HBW.out.block b HBLT.out))
      replace HLT : Hid (b < wx.drew.heap.size) := Lib.hid (Nat.lt_of_lt_of_le HBLT.out HBW.out.size)
      have HQA := Lib.hid (HQ0.out.below HBW.out)
      have HQB := Lib.hid (HQY.out.below HBW.out)
      clear hBy D6y hO hB
      refine wpAny_done (by kernel_rfl) ?_ _
      go_upto_region 9 with (fail)
      refine wp_region6 9 [62, 63, 64, 65, 66, 67, 68, 69, 70] [.val (.pointer (some ⟨w.heap.size, 3, none⟩)), .val (.agg #[.bool nb, .slice A n c, .slice B m k]), .val (.slice (some ⟨b, o, none⟩) l.length c1), .val (.int .i64 (j : Int)), .val (.pointer (some ⟨b, o + j * 6, none⟩)), .val (.pointer (some ⟨b, o + j * 6 + 3, none⟩)), .val (.agg #[z0, z1, z2]), .st (fun w a => RatQ w a (q + y)), .val (.pointer (some ⟨w.heap.size, 3, none⟩))] (by kernel_rfl) (by kernel_rfl) (by kernel_rfl) (by kernel_rfl) ?stept 1 (by kernel_rfl) _ rfl ?fint
      case stept =>
       intro i hi oi ho f' wx hB hdep K hK
       simp only [frontAct, List.foldl_cons, List.foldl_nil, List.setIfInBounds_toArray, List.set_cons_succ, List.set_cons_zero] at hK ⊢
       obtain ⟨x0, x1, x2, x3, x4, x5⟩ := HAT.out.below hB HLT.out
       obtain ⟨y0, y1, y2, y3, y4, y5⟩ := (HD6.out.below hB HD6.out.lt).c6
       obtain rfl | rfl | rfl | rfl | rfl | rfl | rfl | rfl | rfl : i = 0 ∨ i = 1 ∨ i = 2 ∨ i = 3 ∨ i = 4 ∨ i = 5 ∨ i = 6 ∨ i = 7 ∨ i = 8 := by omega
       all_goals
        obtain rfl := Option.some.inj ho
        simp only [Act.put, List.setIfInBounds_toArray, List.set_cons_succ, List.set_cons_zero] at hK
       rotate_left
       have e62 := dv6 (hdep ⟨0, .data⟩ (by simp) rfl) rfl
       simp only [List.getD_cons_succ, List.getD_cons_zero] at e62
       generalize f' 62 = f62 at *; subst e62
       rotate_left
       rotate_left
       rotate_left
       have e64 := dv6 (hdep ⟨2, .data⟩ (by simp) rfl) rfl
       have e65 := dv6 (hdep ⟨3, .data⟩ (by simp) rfl) rfl
       simp only [List.getD_cons_succ, List.getD_cons_zero] at e64 e65
       generalize f' 64 = f64 at *; subst e64
       generalize f' 65 = f65 at *; subst e65
       rotate_left
       have e66 := dv6 (hdep ⟨4, .data⟩ (by simp) rfl) rfl
       simp only [List.getD_cons_succ, List.getD_cons_zero] at e66
       generalize f' 66 = f66 at *; subst e66
       rotate_left
       have e67 := dv6 (hdep ⟨5, .data⟩ (by simp) rfl) rfl
       simp only [List.getD_cons_succ, List.getD_cons_zero] at e67
       generalize f' 67 = f67 at *; subst e67
       rotate_left
       ·have e63 := dv6 (hdep ⟨1, .data⟩ (by simp) rfl) rfl
        have e68 := dv6 (hdep ⟨6, .data⟩ (by simp) rfl) rfl
        simp only [List.getD_cons_succ, List.getD_cons_zero] at e63 e68
        generalize f' 63 = f63 at *; subst e63
        generalize f' 68 = f68 at *; subst e68
        go_simp
        refine (r_Add _ _ q y wx ((HQA.out.below hB).inr HSQ.out (by omega)) ((HQB.out.below hB).inr HSY.out (by omega)) (HSQ.out.mono (by omega)) (HSY.out.mono (by omega))).mono ?_
        rintro e0 w' ⟨val, rfl, hr, hb⟩
        exact hK val w' (gs6 rfl (fun w2 h2 => hr.below h2)) hb (hB.trans (hb.mono hB.size)) (nb6 rfl rfl)
       rotate_left
       all_goals go_simp
       all_goals exact hK _ wx (gv6 rfl) (Below.refl _ _) hB (nb6 rfl rfl)
      case fint =>
       intro f' wx hB hG hne
       have e69 : RatQ wx (f' 69) (q + y) := ds6 (hG 7 (by decide)) rfl
       have e70 := dv6 (a := f' 70) (hG 8 (by decide)) rfl
       clear hG hne
       simp only [frontAct, List.foldl_cons, List.foldl_nil, List.setIfInBounds_toArray, List.set_cons_succ, List.set_cons_zero]
       generalize f' 69 = f69 at *
       generalize f' 70 = f70 at *; subst e70
       obtain ⟨sb, sA, sn, sc, sB, sm, sd, rfl⟩ := e69.agg
       have D9 := HD6.out.below hB HD6.out.lt
       have hB9 := HBW.out.trans (hB.mono HBW.out.size)
       have hO9 := HO2.out.below hB
       have hno : ∀ v ∈ [Value.int .i64 (f.1 : Int), .int .i64 (f.2.1 : Int), .int .i64 (f.2.2 : Int), .bool nb, .slice A n c, .slice B m k], ∀ x : Nat, v ≠ .int .u32 (x : Int) := by simp
       have hgn : ∀ g, v1.ownBlock = some g → g ≠ w.heap.size := fun g hg => by have := (hO9.lt g hg).1; omega
       obtain ⟨y0, y1, y2, y3, y4, y5⟩ := D9.c6
       have f3 := D9.frozen 3
       have f4 := D9.frozen 4
       have f5 := D9.frozen 5
       have HCS10 : Hid (Cs (((wx.setCell ⟨w.heap.size, 3, none⟩ (.bool sb)).setCell ⟨w.heap.size, 4, none⟩ (.slice sA sn sc)).setCell ⟨w.heap.size, 5, none⟩ (.slice sB sm sd)) w.heap.size [.int .i64 (f.1 : Int), .int .i64 (f.2.1 : Int), .int .i64 (f.2.2 : Int), .bool sb, .slice sA sn sc, .slice sB sm sd] MT) := Lib.hid (Cs.setL' [.bool sb, .slice sA sn sc, .slice sB sm sd] 3 wx _ D9 rfl)
       have HO10 : Hid (OwnP (((wx.setCell ⟨w.heap.size, 3, none⟩ (.bool sb)).setCell ⟨w.heap.size, 4, none⟩ (.slice sA sn sc)).setCell ⟨w.heap.size, 5, none⟩ (.slice sB sm sd)) (w.heap.size + 1) v1 (l.take j)) := Lib.hid (hO9.turn (fun g hg => heap_setL (hgn g hg) [.bool sb, .slice sA sn sc, .slice sB sm sd] 3 wx) (fun z q' hq' => hq'.setL (k := 3) D9 hno [.bool sb, .slice sA sn sc, .slice sB sm sd]))
       have HQ10 : Hid (RatQ (((wx.setCell ⟨w.heap.size, 3, none⟩ (.bool sb)).setCell ⟨w.heap.size, 4, none⟩ (.slice sA sn sc)).setCell ⟨w.heap.size, 5, none⟩ (.slice sB sm sd)) (.agg #[.bool sb, .slice sA sn sc, .slice sB sm sd]) (q + y)) := Lib.hid (e69.setL (k := 3) D9 hno [.bool sb, .slice sA sn sc, .slice sB sm sd])
       have HB10 : Hid (Below w.heap.size w (((wx.setCell ⟨w.heap.size, 3, none⟩ (.bool sb)).setCell ⟨w.heap.size, 4, none⟩ (.slice sA sn sc)).setCell ⟨w.heap.size, 5, none⟩ (.slice sB sm sd))) := Lib.hid (below_setL (Nat.le_refl _) [.bool sb, .slice sA sn sc, .slice sB sm sd] 3 hB9)
       clear e69 hB9 hO9 D9 hno hgn hB
       refine wpAny_ready (rs := [9]) (by kernel_rfl) (by simp) ?_
       refine AllReady.cons rfl (fun K hK => ?_) AllReady.nil
       have HQ := Lib.hid hK
       clear hK
       go_simp
       refine HQ.out _ _ ?_
       clear HQ K
       refine wpAny_done (by kernel_rfl) ?_ _
       generalize (((wx.setCell ⟨w.heap.size, 3, none⟩ (.bool sb)).setCell ⟨w.heap.size, 4, none⟩ (.slice sA sn sc)).setCell ⟨w.heap.size, 5, none⟩ (.slice sB sm sd)) = w10 at *
       clear y0 y1 y2 y3 y4 y5 f3 f4 f5
       obtain ⟨y0, y1, y2, y3, y4, y5⟩ := HCS10.out.c6
       obtain ⟨s2, hs2⟩ : ∃ s, (q + y).num.sign = s := ⟨_, rfl⟩
       have HS2 := Lib.hid hs2
       clear hs2
       have hk1s : (j : Int) + 1 ≤ 57 := by have := hltK.out; have := HLEN.out; omega
       go_wp2_with fail
       refine (r_SignV _ (q + y) s2 w10 (HQ10.out.inr (sz_add HSQ.out HSY.out (Nat.le_refl _)) (by omega)) HS2).mono ?_
       rintro e11 w11 ⟨rfl, hb11⟩
       clear y0 y1 y2 y3 y4 y5
       have HD11 := Lib.hid (HCS10.out.below hb11 HCS10.out.lt)
       have HO11 := Lib.hid (HO10.out.below hb11)
       have HQ11 := Lib.hid (HQ10.out.below hb11)
       have HB11 := Lib.hid (HB10.out.trans (hb11.mono HB10.out.size))
       clear hb11 HCS10 HO10 HQ10 HB10
       obtain ⟨y0, y1, y2, y3, y4, y5⟩ := HD11.out.c6
       by_cases hqy0 : q + y = 0
       ·have hz : (s2 != 0) = false := by rw [← HS2.out, sign_ne, hqy0]; rfl
        have HPUT : Hid (l.take j ++ ([] ++ l.drop (j + 1)) = listOf (addAt (co l) f q)) := Lib.hid (by have := HOVER.out y HX.out; rwa [if_pos hqy0] at this)
        clear hqy0
        have HBZ := HB11
        have HOZ := HO11
        have HZZ : Hid (w.heap.size + 1 ≤ w11.heap.size) := Lib.hid HD11.out.lt
        have hk1l : j + 1 ≤ l.length := hltK.out
        have hl57 := HLEN.out
        have hck := HKC.out.2.2
        by_cases hc9 : c1 = j + 1
        ·have hle : l.length ≤ j + 1 := by omega
         obtain ⟨ys9, hrd9, hcs9⟩ := (HP.out.below HBZ.out).cells6
         obtain ⟨v3, w3', HRUN3, hown3, hg3, _⟩ := HOZ.out.app (show RdK w11 6 [] (some ⟨b, o, none⟩) (l.length - (j + 1)) 0 from by rw [Nat.sub_eq_zero_of_le hle]; exact RdK.nil _ _ _ _) (Cells6.nil _) (by simp only [List.length_append, List.length_take, List.length_cons, List.length_nil]; omega) HZZ.out
         have hB10 := HBZ.out.grown hg3 HBZ.out.size (fun j e => Nat.le_of_succ_le (HOZ.out.lt j e).1)
         have hlist : l.take j ++ [] = listOf (addAt (co l) f q) := by rw [← HPUT.out]; simp [List.drop_eq_nil_of_le hle]
         have HEND : Hid (RetPol w (listOf (addAt (co l) f q)) (.returned v3) w3') := Lib.hid ⟨v3, rfl, hlist ▸ hown3.pol, hB10⟩
         clear hrd9 hcs9 hown3 hg3 hB10 hlist hle
         go_wp2_with (at_builtin; refine wpList_appM rfl (.tmp 79) (.tmp 83) rfl rfl _ _ _ _ rfl rfl HRUN3 ?_)
         go_ret
         exact HEND.out
        ·obtain ⟨ys9, hrd9, hcs9⟩ := (HP.out.below HBZ.out).cells6
         obtain ⟨v3, w3', HRUN3, hown3, hg3, _⟩ := HOZ.out.app (hrd9.drop (j := j + 1) hk1l) (hcs9.drop (j + 1)) (by simp only [List.length_append, List.length_take, List.length_cons, List.length_nil]; omega) HZZ.out
         have hB10 := HBZ.out.grown hg3 HBZ.out.size (fun j e => Nat.le_of_succ_le (HOZ.out.lt j e).1)
         have hlist : l.take j ++ l.drop (j + 1) = listOf (addAt (co l) f q) := by rw [← HPUT.out]; simp
         have HEND : Hid (RetPol w (listOf (addAt (co l) f q)) (.returned v3) w3') := Lib.hid ⟨v3, rfl, hlist ▸ hown3.pol, hB10⟩
         clear hrd9 hcs9 hown3 hg3 hB10 hlist
         go_wp2_with (at_builtin; refine wpList_appM rfl (.tmp 79) (.tmp 83) rfl rfl _ _ _ _ rfl rfl HRUN3 ?_)
         go_ret
         exact HEND.out
       ·have hz : (s2 != 0) = true := by rw [← HS2.out, sign_ne]; exact decide_eq_true hqy0
        have HPUT : Hid (l.take j ++ ([(f, q + y)] ++ l.drop (j + 1)) = listOf (addAt (co l) f q)) := Lib.hid (by have := HOVER.out y HX.out; rwa [if_neg hqy0] at this)
        clear hqy0
        obtain ⟨hb8, d8⟩ := new6 w11 (.int .i64 (f.1 : Int)) (.int .i64 (f.2.1 : Int)) (.int .i64 (f.2.2 : Int)) (.bool sb) (.slice sA sn sc) (.slice sB sm sd)
        have hB8 := HB11.out.trans (hb8.mono HB11.out.size)
        have hO8 := HO11.out.below hb8
        have hz8 : w.heap.size + 1 ≤ (w11.alloc (M6 (.int .i64 (f.1 : Int)) (.int .i64 (f.2.1 : Int)) (.int .i64 (f.2.2 : Int)) (.bool sb) (.slice sA sn sc) (.slice sB sm sd))).heap.size := Nat.le_trans (show w.heap.size + 1 ≤ w11.heap.size from HD11.out.lt) hb8.size
        obtain ⟨v2, w2', HRUN2, hown2, hg2, _⟩ := hO8.app1 (m := (f, q + y)) d8 (HQ11.out.below hb8) (by rw [List.length_take]; have := HLEN.out; omega) hz8
        have HBZ := Lib.hid (hB8.grown hg2 hB8.size (fun j e => Nat.le_of_succ_le (hO8.lt j e).1))
        have HOZ := Lib.hid hown2
        have HZZ : Hid (w.heap.size + 1 ≤ w2'.heap.size) := Lib.hid (Nat.le_trans hz8 hg2.size)
        clear hb8 d8 hB8 hO8 hz8 hown2 hg2
        have hk1l : j + 1 ≤ l.length := hltK.out
        have hl57 := HLEN.out
        have hck := HKC.out.2.2
        by_cases hc9 : c1 = j + 1
        ·have hle : l.length ≤ j + 1 := by omega
         obtain ⟨ys9, hrd9, hcs9⟩ := (HP.out.below HBZ.out).cells6
         obtain ⟨v3, w3', HRUN3, hown3, hg3, _⟩ := HOZ.out.app (show RdK w2' 6 [] (some ⟨b, o, none⟩) (l.length - (j + 1)) 0 from by rw [Nat.sub_eq_zero_of_le hle]; exact RdK.nil _ _ _ _) (Cells6.nil _) (by simp only [List.length_append, List.length_take, List.length_cons, List.length_nil]; omega) HZZ.out
         have hB10 := HBZ.out.grown hg3 HBZ.out.size (fun j e => Nat.le_of_succ_le (HOZ.out.lt j e).1)
         have hlist : (l.take j ++ [(f, q + y)]) ++ [] = listOf (addAt (co l) f q) := by rw [← HPUT.out]; simp [List.drop_eq_nil_of_le hle]
         have HEND : Hid (RetPol w (listOf (addAt (co l) f q)) (.returned v3) w3') := Lib.hid ⟨v3, rfl, hlist ▸ hown3.pol, hB10⟩
         clear hrd9 hcs9 hown3 hg3 hB10 hlist hle
         go_wp2_with ((first | (at_builtin; refine wpList_appM rfl (.tmp 75) (.tmp 77) rfl rfl _ _ _ _ rfl rfl HRUN2 ?_) | (at_builtin; refine wpList_appM rfl (.tmp 79) (.tmp 83) rfl rfl _ _ _ _ rfl rfl HRUN3 ?_) | fail))
         go_ret
         exact HEND.out
        ·obtain ⟨ys9, hrd9, hcs9⟩ := (HP.out.below HBZ.out).cells6
         obtain ⟨v3, w3', HRUN3, hown3, hg3, _⟩ := HOZ.out.app (hrd9.drop (j := j + 1) hk1l) (hcs9.drop (j + 1)) (by simp only [List.length_append, List.length_take, List.length_cons, List.length_nil]; omega) HZZ.out
         have hB10 := HBZ.out.grown hg3 HBZ.out.size (fun j e => Nat.le_of_succ_le (HOZ.out.lt j e).1)
         have hlist : (l.take j ++ [(f, q + y)]) ++ l.drop (j + 1) = listOf (addAt (co l) f q) := by rw [← HPUT.out]; simp
         have HEND : Hid (RetPol w (listOf (addAt (co l) f q)) (.returned v3) w3') := Lib.hid ⟨v3, rfl, hlist ▸ hown3.pol, hB10⟩
         clear hrd9 hcs9 hown3 hg3 hB10 hlist
         go_wp2_with ((first | (at_builtin; refine wpList_appM rfl (.tmp 75) (.tmp 77) rfl rfl _ _ _ _ rfl rfl HRUN2 ?_) | (at_builtin; refine wpList_appM rfl (.tmp 79) (.tmp 83) rfl rfl _ _ _ _ rfl rfl HRUN3 ?_) | fail))
         go_ret
         exact HEND.out
   ·have HV : Hid (lexI ((f.1 : Int), (f.2.1 : Int), (f.2.2 : Int)) ((e.1 : Int), (e.2.1 : Int), (e.2.2 : Int)) = -1) := Lib.hid (lexN_neg (by
     rcases elt_total hfe with h1 | h1
     ·exact h1
     ·rw [haft] at h1; cases h1))
    have HPUT : Hid (l.take j ++ ([(e, q)] ++ l.drop j) = listOf (addAt (co l) e q)) := Lib.hid (HNEW.out (fun x hx2 => by
     rw [hx] at hx2; cases hx2; exact hfe))
    clear hx hb' hat hqy haft hfe hjl
    go_upto_region 4 with (fail)
    refine wp_region6 15 [18, 19, 20, 21, 22, 23, 24, 25, 26, 27, 28, 29, 30, 31, 32] [.val (.int .i64 (j : Int)), .val (.slice (some ⟨b, o, none⟩) l.length c1), .val (.int .i64 (l.length : Int)), .val (.bool true), .val (.bool true), .val (.slice (some ⟨b, o, none⟩) l.length c1), .val (.int .i64 (j : Int)), .val (.pointer (some ⟨b, o + j * 6, none⟩)), .val (.pointer (some ⟨b, o + j * 6, none⟩)), .val (.agg #[.int .i64 (f.1 : Int), .int .i64 (f.2.1 : Int), .int .i64 (f.2.2 : Int)]), .val (.pointer (some ⟨w.heap.size, 0, none⟩)), .val (.agg #[.int .i64 (e.1 : Int), .int .i64 (e.2.1 : Int), .int .i64 (e.2.2 : Int)]), .val (.int .i64 (-1)), .val (.bool false), .val (.bool false)] (by kernel_rfl) (by kernel_rfl) (by kernel_rfl) (by kernel_rfl) ?stepxo 0 (by kernel_rfl) _ rfl ?finxo
    case stepxo =>
     intro i hi oi ho f' wx hB hdep K hK
     simp only [frontAct, List.foldl_cons, List.foldl_nil, List.setIfInBounds_toArray, List.set_cons_succ, List.set_cons_zero] at hK ⊢
     obtain ⟨x0, x1, x2, x3, x4, x5⟩ := HAT.out.below hB HLT.out
     obtain ⟨y0, y1, y2, y3, y4, y5⟩ := (HD6.out.below hB HD6.out.lt).c6
     obtain rfl | rfl | rfl | rfl | rfl | rfl | rfl | rfl | rfl | rfl | rfl | rfl | rfl | rfl | rfl : i = 0 ∨ i = 1 ∨ i = 2 ∨ i = 3 ∨ i = 4 ∨ i = 5 ∨ i = 6 ∨ i = 7 ∨ i = 8 ∨ i = 9 ∨ i = 10 ∨ i = 11 ∨ i = 12 ∨ i = 13 ∨ i = 14 := by omega
     all_goals
      obtain rfl := Option.some.inj ho
      simp only [Act.put, List.setIfInBounds_toArray, List.set_cons_succ, List.set_cons_zero] at hK
     rotate_left
     rotate_left
     have e19 := dv6 (hdep ⟨1, .data⟩ (by simp) rfl) rfl
     simp only [List.getD_cons_succ, List.getD_cons_zero] at e19
     generalize f' 19 = f19 at *; subst e19
     rotate_left
     have e18 := dv6 (hdep ⟨0, .data⟩ (by simp) rfl) rfl
     have e20 := dv6 (hdep ⟨2, .data⟩ (by simp) rfl) rfl
     simp only [List.getD_cons_succ, List.getD_cons_zero] at e18 e20
     generalize f' 18 = f18 at *; subst e18
     generalize f' 20 = f20 at *; subst e20
     rotate_left
     have e21 := dv6 (hdep ⟨3, .data⟩ (by simp) rfl) rfl
     simp only [List.getD_cons_succ, List.getD_cons_zero] at e21
     generalize f' 21 = f21 at *; subst e21
     rotate_left
     have e22 := dv6 (hdep ⟨4, .guard⟩ (by simp) rfl) rfl
     simp only [List.getD_cons_succ, List.getD_cons_zero] at e22
     generalize f' 22 = f22 at *; subst e22
     rotate_left
     have e22 := dv6 (hdep ⟨4, .guard⟩ (by simp) rfl) rfl
     simp only [List.getD_cons_succ, List.getD_cons_zero] at e22
     generalize f' 22 = f22 at *; subst e22
     rotate_left
     have e22 := dv6 (hdep ⟨4, .guard⟩ (by simp) rfl) rfl
     have e23 := dv6 (hdep ⟨5, .data⟩ (by simp) rfl) rfl
     have e24 := dv6 (hdep ⟨6, .data⟩ (by simp) rfl) rfl
     simp only [List.getD_cons_succ, List.getD_cons_zero] at e22 e23 e24
     generalize f' 22 = f22 at *; subst e22
     generalize f' 23 = f23 at *; subst e23
     generalize f' 24 = f24 at *; subst e24
     rotate_left
     have e22 := dv6 (hdep ⟨4, .guard⟩ (by simp) rfl) rfl
     have e25 := dv6 (hdep ⟨7, .data⟩ (by simp) rfl) rfl
     simp only [List.getD_cons_succ, List.getD_cons_zero] at e22 e25
     generalize f' 22 = f22 at *; subst e22
     generalize f' 25 = f25 at *; subst e25
     rotate_left
     have e22 := dv6 (hdep ⟨4, .guard⟩ (by simp) rfl) rfl
     have e26 := dv6 (hdep ⟨8, .data⟩ (by simp) rfl) rfl
     simp only [List.getD_cons_succ, List.getD_cons_zero] at e22 e26
     generalize f' 22 = f22 at *; subst e22
     generalize f' 26 = f26 at *; subst e26
     rotate_left
     have e22 := dv6 (hdep ⟨4, .guard⟩ (by simp) rfl) rfl
     simp only [List.getD_cons_succ, List.getD_cons_zero] at e22
     generalize f' 22 = f22 at *; subst e22
     rotate_left
     have e22 := dv6 (hdep ⟨4, .guard⟩ (by simp) rfl) rfl
     have e28 := dv6 (hdep ⟨10, .data⟩ (by simp) rfl) rfl
     simp only [List.getD_cons_succ, List.getD_cons_zero] at e22 e28
     generalize f' 22 = f22 at *; subst e22
     generalize f' 28 = f28 at *; subst e28
     rotate_left
     ·have e22 := dv6 (hdep ⟨4, .guard⟩ (by simp) rfl) rfl
      have e27 := dv6 (hdep ⟨9, .data⟩ (by simp) rfl) rfl
      have e29 := dv6 (hdep ⟨11, .data⟩ (by simp) rfl) rfl
      simp only [List.getD_cons_succ, List.getD_cons_zero] at e22 e27 e29
      generalize f' 22 = f22 at *; subst e22
      generalize f' 27 = f27 at *; subst e27
      generalize f' 29 = f29 at *; subst e29
      go_simp
      refine (r2_order (f.1 : Int) (f.2.1 : Int) (f.2.2 : Int) (e.1 : Int) (e.2.1 : Int) (e.2.2 : Int) wx (-1) HV).mono ?_
      rintro e0 w' ⟨rfl, hb⟩
      exact hK (.int .i64 (-1)) w' (gv6 rfl) hb (hB.trans (hb.mono hB.size)) (nb6 rfl rfl)
     have e22 := dv6 (hdep ⟨4, .guard⟩ (by simp) rfl) rfl
     have e30 := dv6 (hdep ⟨12, .data⟩ (by simp) rfl) rfl
     simp only [List.getD_cons_succ, List.getD_cons_zero] at e22 e30
     generalize f' 22 = f22 at *; subst e22
     generalize f' 30 = f30 at *; subst e30
     rotate_left
     have e22 := dv6 (hdep ⟨4, .data⟩ (by simp) rfl) rfl
     have e31 := dv6 (hdep ⟨13, .data⟩ (by simp) rfl) rfl
     simp only [List.getD_cons_succ, List.getD_cons_zero] at e22 e31
     generalize f' 22 = f22 at *; subst e22
     generalize f' 31 = f31 at *; subst e31
     rotate_left
     all_goals go_simp
     all_goals exact hK _ wx (gv6 rfl) (Below.refl _ _) hB (nb6 rfl rfl)
    case finxo =>
     intro f' wx hB hG hne
     have e32 := dv6 (a := f' 32) (hG 14 (by decide)) rfl
     clear hG hne
     simp only [frontAct, List.foldl_cons, List.foldl_nil, List.setIfInBounds_toArray, List.set_cons_succ, List.set_cons_zero]
     generalize f' 32 = z32 at *; subst e32
     have hBx := HBW.out.trans (hB.mono HBW.out.size)
     have D6 := HD6.out.below hB HD6.out.lt
     refine wpAny_done (by kernel_rfl) ?_ _
     obtain ⟨ys, hrd, hcs⟩ := (HP.out.below hBx).cells6
     obtain ⟨v1, w1, HRUN1, hown1, hg1, _⟩ := (OwnP.nil wx (w.heap.size + 1)).app (hrd.take (m := j) HKL.out) (hcs.take j) (by have := HLEN.out; have := HKL.out; simp; omega) D6.lt
     have hb1 : Below w.heap.size w w1 := hBx.grown hg1 hBx.size (fun j e => by cases e)
     have D61 := D6.grw hg1 (fun e => by cases e)
     rw [List.nil_append] at hown1
     have HB1 := Lib.hid hb1
     have HO1 := Lib.hid hown1
     have HD1 := Lib.hid D61
     have HKC : Hid (j ≤ c1 ∧ 0 < c1 ∧ l.length ≤ c1) := Lib.hid ⟨Nat.le_trans HKL.out hrd.cap, by have := hrd.cap; have := HL0.out; omega, hrd.cap⟩
     clear hrd hcs hown1 hg1 hb1 D61 D6 hBx hB
     have hkc := HKC.out.1
     have hkc0 := HKC.out.2.1
     go_upto_region 7 with (at_builtin; refine wpList_appM rfl (.const (.slice none 0 0)) (.tmp 37) rfl rfl _ _ _ _ rfl rfl HRUN1 ?_)
     clear hkc hkc0
     have HBW := Lib.hid HB1.out.drew
     have HD6 := Lib.hid HD1.out.drew
     have HO2 := Lib.hid (HO1.out.below (Below.refl _ _).drew)
     have HAT : Hid (At6 w1.drew b (o + j * 6) _ _ _ _ _ _) := Lib.hid (HAT0.out.keep (HBW.out.block b HBLT.out))
     have HLT : Hid (b < w1.drew.heap.size) := Lib.hid (Nat.lt_of_lt_of_le HBLT.out HBW.out.size)
     refine wp_region6 15 [39, 40, 41, 42, 43, 44, 45, 46, 47, 48, 49, 50, 51, 52, 53] [.val (.int .i64 (j : Int)), .val (.slice (some ⟨b, o, none⟩) l.length c1), .val (.int .i64 (l.length : Int)), .val (.bool false), .val (.bool false), .val (.slice (some ⟨b, o, none⟩) l.length c1), .val (.int .i64 (j : Int)), .val (.pointer (some ⟨b, o + j * 6, none⟩)), .val (.pointer (some ⟨b, o + j * 6, none⟩)), .val (.agg #[.int .i64 (f.1 : Int), .int .i64 (f.2.1 : Int), .int .i64 (f.2.2 : Int)]), .val (.pointer (some ⟨w.heap.size, 0, none⟩)), .val (.agg #[.int .i64 (e.1 : Int), .int .i64 (e.2.1 : Int), .int .i64 (e.2.2 : Int)]), .val (.int .i64 (-1)), .val (.bool true), .val (.bool true)] (by kernel_rfl) (by kernel_rfl) (by kernel_rfl) (by kernel_rfl) ?stepro 0 (by kernel_rfl) _ rfl ?finro
     case stepro =>
      intro i hi oi ho f' wx hB hdep K hK
      simp only [frontAct, List.foldl_cons, List.foldl_nil, List.setIfInBounds_toArray, List.set_cons_succ, List.set_cons_zero] at hK ⊢
      obtain ⟨x0, x1, x2, x3, x4, x5⟩ := HAT.out.below hB HLT.out
      obtain ⟨y0, y1, y2, y3, y4, y5⟩ := (HD6.out.below hB HD6.out.lt).c6
      obtain rfl | rfl | rfl | rfl | rfl | rfl | rfl | rfl | rfl | rfl | rfl | rfl | rfl | rfl | rfl : i = 0 ∨ i = 1 ∨ i = 2 ∨ i = 3 ∨ i = 4 ∨ i = 5 ∨ i = 6 ∨ i = 7 ∨ i = 8 ∨ i = 9 ∨ i = 10 ∨ i = 11 ∨ i = 12 ∨ i = 13 ∨ i = 14 := by omega
      all_goals
       obtain rfl := Option.some.inj ho
       simp only [Act.put, List.setIfInBounds_toArray, List.set_cons_succ, List.set_cons_zero] at hK
      rotate_left
      rotate_left
      have e40 := dv6 (hdep ⟨1, .data⟩ (by simp) rfl) rfl
      simp only [List.getD_cons_succ, List.getD_cons_zero] at e40
      generalize f' 40 = f40 at *; subst e40
      rotate_left
      have e39 := dv6 (hdep ⟨0, .data⟩ (by simp) rfl) rfl
      have e41 := dv6 (hdep ⟨2, .data⟩ (by simp) rfl) rfl
      simp only [List.getD_cons_succ, List.getD_cons_zero] at e39 e41
      generalize f' 39 = f39 at *; subst e39
      generalize f' 41 = f41 at *; subst e41
      rotate_left
      have e42 := dv6 (hdep ⟨3, .data⟩ (by simp) rfl) rfl
      simp only [List.getD_cons_succ, List.getD_cons_zero] at e42
      generalize f' 42 = f42 at *; subst e42
      rotate_left
      have e43 := dv6 (hdep ⟨4, .guard⟩ (by simp) rfl) rfl
      simp only [List.getD_cons_succ, List.getD_cons_zero] at e43
      generalize f' 43 = f43 at *; subst e43
      rotate_left
      have e43 := dv6 (hdep ⟨4, .guard⟩ (by simp) rfl) rfl
      simp only [List.getD_cons_succ, List.getD_cons_zero] at e43
      generalize f' 43 = f43 at *; subst e43
      rotate_left
      have e43 := dv6 (hdep ⟨4, .guard⟩ (by simp) rfl) rfl
      have e44 := dv6 (hdep ⟨5, .data⟩ (by simp) rfl) rfl
      have e45 := dv6 (hdep ⟨6, .data⟩ (by simp) rfl) rfl
      simp only [List.getD_cons_succ, List.getD_cons_zero] at e43 e44 e45
      generalize f' 43 = f43 at *; subst e43
      generalize f' 44 = f44 at *; subst e44
      generalize f' 45 = f45 at *; subst e45
      rotate_left
      have e43 := dv6 (hdep ⟨4, .guard⟩ (by simp) rfl) rfl
      have e46 := dv6 (hdep ⟨7, .data⟩ (by simp) rfl) rfl
      simp only [List.getD_cons_succ, List.getD_cons_zero] at e43 e46
      generalize f' 43 = f43 at *; subst e43
      generalize f' 46 = f46 at *; subst e46
      rotate_left
      have e43 := dv6 (hdep ⟨4, .guard⟩ (by simp) rfl) rfl
      have e47 := dv6 (hdep ⟨8, .data⟩ (by simp) rfl) rfl
      simp only [List.getD_cons_succ, List.getD_cons_zero] at e43 e47
      generalize f' 43 = f43 at *; subst e43
      generalize f' 47 = f47 at *; subst e47
      rotate_left
      have e43 := dv6 (hdep ⟨4, .guard⟩ (by simp) rfl) rfl
      simp only [List.getD_cons_succ, List.getD_cons_zero] at e43
      generalize f' 43 = f43 at *; subst e43
      rotate_left
      have e43 := dv6 (hdep ⟨4, .guard⟩ (by simp) rfl) rfl
      have e49 := dv6 (hdep ⟨10, .data⟩ (by simp) rfl) rfl
      simp only [List.getD_cons_succ, List.getD_cons_zero] at e43 e49
      generalize f' 43 = f43 at *; subst e43
      generalize f' 49 = f49 at *; subst e49
      rotate_left
      ·have e43 := dv6 (hdep ⟨4, .guard⟩ (by simp) rfl) rfl
       have e48 := dv6 (hdep ⟨9, .data⟩ (by simp) rfl) rfl
       have e50 := dv6 (hdep ⟨11, .data⟩ (by simp) rfl) rfl
       simp only [List.getD_cons_succ, List.getD_cons_zero] at e43 e48 e50
       generalize f' 43 = f43 at *; subst e43
       generalize f' 48 = f48 at *; subst e48
       generalize f' 50 = f50 at *; subst e50
       go_simp
       refine (r2_order (f.1 : Int) (f.2.1 : Int) (f.2.2 : Int) (e.1 : Int) (e.2.1 : Int) (e.2.2 : Int) wx (-1) HV).mono ?_
       rintro e0 w' ⟨rfl, hb⟩
       exact hK (.int .i64 (-1)) w' (gv6 rfl) hb (hB.trans (hb.mono hB.size)) (nb6 rfl rfl)
      have e43 := dv6 (hdep ⟨4, .guard⟩ (by simp) rfl) rfl
      have e51 := dv6 (hdep ⟨12, .data⟩ (by simp) rfl) rfl
      simp only [List.getD_cons_succ, List.getD_cons_zero] at e43 e51
      generalize f' 43 = f43 at *; subst e43
      generalize f' 51 = f51 at *; subst e51
      rotate_left
      have e43 := dv6 (hdep ⟨4, .data⟩ (by simp) rfl) rfl
      have e52 := dv6 (hdep ⟨13, .data⟩ (by simp) rfl) rfl
      simp only [List.getD_cons_succ, List.getD_cons_zero] at e43 e52
      generalize f' 43 = f43 at *; subst e43
      generalize f' 52 = f52 at *; subst e52
      rotate_left
      all_goals go_simp
      all_goals exact hK _ wx (gv6 rfl) (Below.refl _ _) hB (nb6 rfl rfl)
     case finro =>
      intro f' wx hB hG hne
      have e53 := dv6 (a := f' 53) (hG 14 (by decide)) rfl
      clear hG hne
      simp only [frontAct, List.foldl_cons, List.foldl_nil, List.setIfInBounds_toArray, List.set_cons_succ, List.set_cons_zero]
      generalize f' 53 = z53 at *; subst e53
      have hBy := HBW.out.trans (hB.mono HBW.out.size)
      have D6y := HD6.out.below hB HD6.out.lt
      have hO := HO2.out.below hB
      have HBY := Lib.hid hBy.drew
      obtain ⟨hb8, d8⟩ := new6 wx.drew (.int .i64 (e.1 : Int)) (.int .i64 (e.2.1 : Int)) (.int .i64 (e.2.2 : Int)) (.bool nb) (.slice A n c) (.slice B m k)
      have hB8 := HBY.out.trans (hb8.mono HBY.out.size)
      have hO8 := (hO.below (Below.refl _ _).drew).below hb8
      have hz8 : w.heap.size + 1 ≤ (wx.drew.alloc (M6 (.int .i64 (e.1 : Int)) (.int .i64 (e.2.1 : Int)) (.int .i64 (e.2.2 : Int)) (.bool nb) (.slice A n c) (.slice B m k))).heap.size := Nat.le_trans (show w.heap.size + 1 ≤ wx.drew.heap.size from D6y.lt) hb8.size
      obtain ⟨v2, w2', HRUN2, hown2, hg2, hk2⟩ := hO8.app1 (m := (e, q)) d8 (HQ0.out.below hB8) (by rw [List.length_take]; have := HLEN.out; omega) hz8
      have hB9 := hB8.grown hg2 hB8.size (fun j e => Nat.le_of_succ_le (hO8.lt j e).1)
      obtain ⟨ys9, hrd9, hcs9⟩ := (HP.out.below hB9).cells6
      obtain ⟨v3, w3', HRUN3, hown3, hg3, _⟩ := hown2.app (hrd9.drop (j := j) HKL.out) (hcs9.drop j) (by rw [List.length_append, List.length_take]; have := HLEN.out; have := HKL.out; simp; omega) (Nat.le_trans hz8 hg2.size)
      have hB10 := hB9.grown hg3 hB9.size (fun j e => Nat.le_of_succ_le (hown2.lt j e).1)
      have HEND : Hid (RetPol w (listOf (addAt (co l) e q)) (.returned v3) w3') := Lib.hid ⟨v3, rfl, by rw [← HPUT.out, ← List.append_assoc]; exact hown3.pol, hB10⟩
      obtain ⟨y0, y1, y2, y3, y4, y5⟩ := D6y.drew.c6
      clear hBy D6y hO hb8 d8 hB8 hO8 hz8 hown2 hg2 hk2 hB9 hrd9 hcs9 hown3 hg3 hB10 hB
      have hck := HKC.out.1
      have hjle : j ≤ l.length := HKL.out
      have hcj : ¬ c1 = j := by have := HKC.out.2.2; have := hltK.out; omega
      refine wpAny_done (by kernel_rfl) ?_ _
      go_upto_region 8 with (fail)
      go_region_law (first | (refine step_appM rfl (.tmp 54) (.tmp 56) rfl rfl _ _ _ _ rfl rfl HRUN2 ?_) | (refine step_appM rfl (.tmp 57) (.tmp 60) rfl rfl _ _ _ _ rfl rfl HRUN3 ?_) | fail)
      all_goals go_wp2_with fail
      all_goals go_ret
      all_goals exact HEND.out
  ·obtain rfl : j = l.length := by have := HKL.out; omega
   have HPUT : Hid (l.take l.length ++ ([(e, q)] ++ l.drop l.length) = listOf (addAt (co l) e q)) := Lib.hid (HNEW.out (fun x hx2 => by
    rw [List.getElem?_eq_none (Nat.le_refl _)] at hx2; cases hx2))
   clear hjl
   go_upto_region 4 with (fail)
   refine wp_region6 15 [18, 19, 20, 21, 22, 23, 24, 25, 26, 27, 28, 29, 30, 31, 32] [.val (.int .i64 (l.length : Int)), .val (.slice (some ⟨b, o, none⟩) l.length c1), .val (.int .i64 (l.length : Int)), .val (.bool false), .val (.bool false), .val (undef), .val (undef), .val (undef), .val (undef), .val (undef), .val (undef), .val (undef), .val (undef), .val (undef), .val (.bool false)] (by kernel_rfl) (by kernel_rfl) (by kernel_rfl) (by kernel_rfl) ?stepxn 0 (by kernel_rfl) _ rfl ?finxn
   case stepxn =>
    intro i hi oi ho f' wx hB hdep K hK
    simp only [frontAct, List.foldl_cons, List.foldl_nil, List.setIfInBounds_toArray, List.set_cons_succ, List.set_cons_zero] at hK ⊢
    obtain ⟨y0, y1, y2, y3, y4, y5⟩ := (HD6.out.below hB HD6.out.lt).c6
    obtain rfl | rfl | rfl | rfl | rfl | rfl | rfl | rfl | rfl | rfl | rfl | rfl | rfl | rfl | rfl : i = 0 ∨ i = 1 ∨ i = 2 ∨ i = 3 ∨ i = 4 ∨ i = 5 ∨ i = 6 ∨ i = 7 ∨ i = 8 ∨ i = 9 ∨ i = 10 ∨ i = 11 ∨ i = 12 ∨ i = 13 ∨ i = 14 := by omega
    all_goals
     obtain rfl := Option.some.inj ho
     simp only [Act.put, List.setIfInBounds_toArray, List.set_cons_succ, List.set_cons_zero] at hK
    rotate_left
    rotate_left
    have e19 := dv6 (hdep ⟨1, .data⟩ (by simp) rfl) rfl
    simp only [List.getD_cons_succ, List.getD_cons_zero] at e19
    generalize f' 19 = f19 at *; subst e19
    rotate_left
    have e18 := dv6 (hdep ⟨0, .data⟩ (by simp) rfl) rfl
    have e20 := dv6 (hdep ⟨2, .data⟩ (by simp) rfl) rfl
    simp only [List.getD_cons_succ, List.getD_cons_zero] at e18 e20
    generalize f' 18 = f18 at *; subst e18
    generalize f' 20 = f20 at *; subst e20
    rotate_left
    have e21 := dv6 (hdep ⟨3, .data⟩ (by simp) rfl) rfl
    simp only [List.getD_cons_succ, List.getD_cons_zero] at e21
    generalize f' 21 = f21 at *; subst e21
    rotate_left
    have e22 := dv6 (hdep ⟨4, .guard⟩ (by simp) rfl) rfl
    simp only [List.getD_cons_succ, List.getD_cons_zero] at e22
    generalize f' 22 = f22 at *; subst e22
    rotate_left
    have e22 := dv6 (hdep ⟨4, .guard⟩ (by simp) rfl) rfl
    simp only [List.getD_cons_succ, List.getD_cons_zero] at e22
    generalize f' 22 = f22 at *; subst e22
    rotate_left
    have e22 := dv6 (hdep ⟨4, .guard⟩ (by simp) rfl) rfl
    simp only [List.getD_cons_succ, List.getD_cons_zero] at e22
    generalize f' 22 = f22 at *; subst e22
    rotate_left
    have e22 := dv6 (hdep ⟨4, .guard⟩ (by simp) rfl) rfl
    simp only [List.getD_cons_succ, List.getD_cons_zero] at e22
    generalize f' 22 = f22 at *; subst e22
    rotate_left
    have e22 := dv6 (hdep ⟨4, .guard⟩ (by simp) rfl) rfl
    simp only [List.getD_cons_succ, List.getD_cons_zero] at e22
    generalize f' 22 = f22 at *; subst e22
    rotate_left
    have e22 := dv6 (hdep ⟨4, .guard⟩ (by simp) rfl) rfl
    simp only [List.getD_cons_succ, List.getD_cons_zero] at e22
    generalize f' 22 = f22 at *; subst e22
    rotate_left
    have e22 := dv6 (hdep ⟨4, .guard⟩ (by simp) rfl) rfl
    simp only [List.getD_cons_succ, List.getD_cons_zero] at e22
    generalize f' 22 = f22 at *; subst e22
    rotate_left
    have e22 := dv6 (hdep ⟨4, .guard⟩ (by simp) rfl) rfl
    simp only [List.getD_cons_succ, List.getD_cons_zero] at e22
    generalize f' 22 = f22 at *; subst e22
    rotate_left
    have e22 := dv6 (hdep ⟨4, .guard⟩ (by simp) rfl) rfl
    simp only [List.getD_cons_succ, List.getD_cons_zero] at e22
    generalize f' 22 = f22 at *; subst e22
    rotate_left
    have e22 := dv6 (hdep ⟨4, .data⟩ (by simp) rfl) rfl
    have e31 := dv6 (hdep ⟨13, .data⟩ (by simp) rfl) rfl
    simp only [List.getD_cons_succ, List.getD_cons_zero] at e22 e31
    generalize f' 22 = f22 at *; subst e22
    generalize f' 31 = f31 at *; subst e31
    rotate_left
    all_goals go_simp
    all_goals exact hK _ wx (gv6 rfl) (Below.refl _ _) hB (nb6 rfl rfl)
   case finxn =>
    intro f' wx hB hG hne
    have e32 := dv6 (a := f' 32) (hG 14 (by decide)) rfl
    clear hG hne
    simp only [frontAct, List.foldl_cons, List.foldl_nil, List.setIfInBounds_toArray, List.set_cons_succ, List.set_cons_zero]
    generalize f' 32 = z32 at *; subst e32
    have hBx := HBW.out.trans (hB.mono HBW.out.size)
    have D6 := HD6.out.below hB HD6.out.lt
    refine wpAny_done (by kernel_rfl) ?_ _
    obtain ⟨ys, hrd, hcs⟩ := (HP.out.below hBx).cells6
    obtain ⟨v1, w1, HRUN1, hown1, hg1, _⟩ := (OwnP.nil wx (w.heap.size + 1)).app (hrd.take (m := l.length) HKL.out) (hcs.take l.length) (by have := HLEN.out; have := HKL.out; simp; omega) D6.lt
    have hb1 : Below w.heap.size w w1 := hBx.grown hg1 hBx.size (fun j e => by cases e)
    have D61 := D6.grw hg1 (fun e => by cases e)
    rw [List.nil_append] at hown1
    have HB1 := Lib.hid hb1
    have HO1 := Lib.hid hown1
    have HD1 := Lib.hid D61
    have HKC : Hid (l.length ≤ c1 ∧ 0 < c1 ∧ l.length ≤ c1) := Lib.hid ⟨Nat.le_trans HKL.out hrd.cap, by have := hrd.cap; have := HL0.out; omega, hrd.cap⟩
    clear hrd hcs hown1 hg1 hb1 D61 D6 hBx hB
    have hkc := HKC.out.1
    have hkc0 := HKC.out.2.1
    go_upto_region 7 with (at_builtin; refine wpList_appM rfl (.const (.slice none 0 0)) (.tmp 37) rfl rfl _ _ _ _ rfl rfl HRUN1 ?_)
    clear hkc hkc0
    have HBW := Lib.hid HB1.out.drew
    have HD6 := Lib.hid HD1.out.drew
    have HO2 := Lib.hid (HO1.out.below (Below.refl _ _).drew)
    refine wp_region6 15 [39, 40, 41, 42, 43, 44, 45, 46, 47, 48, 49, 50, 51, 52, 53] [.val (.int .i64 (l.length : Int)), .val (.slice (some ⟨b, o, none⟩) l.length c1), .val (.int .i64 (l.length : Int)), .val (.bool true), .val (.bool true), .val (undef), .val (undef), .val (undef), .val (undef), .val (undef), .val (undef), .val (undef), .val (undef), .val (undef), .val (.bool true)] (by kernel_rfl) (by kernel_rfl) (by kernel_rfl) (by kernel_rfl) ?steprn 0 (by kernel_rfl) _ rfl ?finrn
    case steprn =>
     intro i hi oi ho f' wx hB hdep K hK
     simp only [frontAct, List.foldl_cons, List.foldl_nil, List.setIfInBounds_toArray, List.set_cons_succ, List.set_cons_zero] at hK ⊢
     obtain ⟨y0, y1, y2, y3, y4, y5⟩ := (HD6.out.below hB HD6.out.lt).c6
     obtain rfl | rfl | rfl | rfl | rfl | rfl | rfl | rfl | rfl | rfl | rfl | rfl | rfl | rfl | rfl : i = 0 ∨ i = 1 ∨ i = 2 ∨ i = 3 ∨ i = 4 ∨ i = 5 ∨ i = 6 ∨ i = 7 ∨ i = 8 ∨ i = 9 ∨ i = 10 ∨ i = 11 ∨ i = 12 ∨ i = 13 ∨ i = 14 := by omega
     all_goals
      obtain rfl := Option.some.inj ho
      simp only [Act.put, List.setIfInBounds_toArray, List.set_cons_succ, List.set_cons_zero] at hK
     rotate_left
     rotate_left
     have e40 := dv6 (hdep ⟨1, .data⟩ (by simp) rfl) rfl
     simp only [List.getD_cons_succ, List.getD_cons_zero] at e40
     generalize f' 40 = f40 at *; subst e40
     rotate_left
     have e39 := dv6 (hdep ⟨0, .data⟩ (by simp) rfl) rfl
     have e41 := dv6 (hdep ⟨2, .data⟩ (by simp) rfl) rfl
     simp only [List.getD_cons_succ, List.getD_cons_zero] at e39 e41
     generalize f' 39 = f39 at *; subst e39
     generalize f' 41 = f41 at *; subst e41
     rotate_left
     have e42 := dv6 (hdep ⟨3, .data⟩ (by simp) rfl) rfl
     simp only [List.getD_cons_succ, List.getD_cons_zero] at e42
     generalize f' 42 = f42 at *; subst e42
     rotate_left
     have e43 := dv6 (hdep ⟨4, .guard⟩ (by simp) rfl) rfl
     simp only [List.getD_cons_succ, List.getD_cons_zero] at e43
     generalize f' 43 = f43 at *; subst e43
     rotate_left
     have e43 := dv6 (hdep ⟨4, .guard⟩ (by simp) rfl) rfl
     simp only [List.getD_cons_succ, List.getD_cons_zero] at e43
     generalize f' 43 = f43 at *; subst e43
     rotate_left
     have e43 := dv6 (hdep ⟨4, .guard⟩ (by simp) rfl) rfl
     simp only [List.getD_cons_succ, List.getD_cons_zero] at e43
     generalize f' 43 = f43 at *; subst e43
     rotate_left
     have e43 := dv6 (hdep ⟨4, .guard⟩ (by simp) rfl) rfl
     simp only [List.getD_cons_succ, List.getD_cons_zero] at e43
     generalize f' 43 = f43 at *; subst e43
     rotate_left
     have e43 := dv6 (hdep ⟨4, .guard⟩ (by simp) rfl) rfl
     simp only [List.getD_cons_succ, List.getD_cons_zero] at e43
     generalize f' 43 = f43 at *; subst e43
     rotate_left
     have e43 := dv6 (hdep ⟨4, .guard⟩ (by simp) rfl) rfl
     simp only [List.getD_cons_succ, List.getD_cons_zero] at e43
     generalize f' 43 = f43 at *; subst e43
     rotate_left
     have e43 := dv6 (hdep ⟨4, .guard⟩ (by simp) rfl) rfl
     simp only [List.getD_cons_succ, List.getD_cons_zero] at e43
     generalize f' 43 = f43 at *; subst e43
     rotate_left
     have e43 := dv6 (hdep ⟨4, .guard⟩ (by simp) rfl) rfl
     simp only [List.getD_cons_succ, List.getD_cons_zero] at e43
     generalize f' 43 = f43 at *; subst e43
     rotate_left
     have e43 := dv6 (hdep ⟨4, .guard⟩ (by simp) rfl) rfl
     simp only [List.getD_cons_succ, List.getD_cons_zero] at e43
     generalize f' 43 = f43 at *; subst e43
     rotate_left
     have e43 := dv6 (hdep ⟨4, .data⟩ (by simp) rfl) rfl
     have e52 := dv6 (hdep ⟨13, .data⟩ (by simp) rfl) rfl
     simp only [List.getD_cons_succ, List.getD_cons_zero] at e43 e52
     generalize f' 43 = f43 at *; subst e43
     generalize f' 52 = f52 at *; subst e52
     rotate_left
     all_goals go_simp
     all_goals exact hK _ wx (gv6 rfl) (Below.refl _ _) hB (nb6 rfl rfl)
    case finrn =>
     intro f' wx hB hG hne
     have e53 := dv6 (a := f' 53) (hG 14 (by decide)) rfl
     clear hG hne
     simp only [frontAct, List.foldl_cons, List.foldl_nil, List.setIfInBounds_toArray, List.set_cons_succ, List.set_cons_zero]
     generalize f' 53 = z53 at *; subst e53
     by_cases hc9 : c1 = l.length
     ·have hBy := HBW.out.trans (hB.mono HBW.out.size)
      have D6y := HD6.out.below hB HD6.out.lt
      have hO := HO2.out.below hB
      have HBY := Lib.hid hBy.drew
      obtain ⟨hb8, d8⟩ := new6 wx.drew (.int .i64 (e.1 : Int)) (.int .i64 (e.2.1 : Int)) (.int .i64 (e.2.2 : Int)) (.bool nb) (.slice A n c) (.slice B m k)
      have hB8 := HBY.out.trans (hb8.mono HBY.out.size)
      have hO8 := (hO.below (Below.refl _ _).drew).below hb8
      have hz8 : w.heap.size + 1 ≤ (wx.drew.alloc (M6 (.int .i64 (e.1 : Int)) (.int .i64 (e.2.1 : Int)) (.int .i64 (e.2.2 : Int)) (.bool nb) (.slice A n c) (.slice B m k))).heap.size := Nat.le_trans (show w.heap.size + 1 ≤ wx.drew.heap.size from D6y.lt) hb8.size
      obtain ⟨v2, w2', HRUN2, hown2, hg2, hk2⟩ := hO8.app1 (m := (e, q)) d8 (HQ0.out.below hB8) (by rw [List.length_take]; have := HLEN.out; omega) hz8
      have hB9 := hB8.grown hg2 hB8.size (fun j e => Nat.le_of_succ_le (hO8.lt j e).1)
      obtain ⟨v3, w3', HRUN3, hown3, hg3, _⟩ := hown2.app (RdK.nil _ 6 (some ⟨b, o, none⟩) 0) (Cells6.nil _) (by rw [List.length_append, List.length_take]; have := HLEN.out; simp; omega) (Nat.le_trans hz8 hg2.size)
      have hB10 := hB9.grown hg3 hB9.size (fun j e => Nat.le_of_succ_le (hown2.lt j e).1)
      have hlist : l.take l.length ++ [(e, q)] ++ [] = listOf (addAt (co l) e q) := by rw [← HPUT.out]; simp
      have HEND : Hid (RetPol w (listOf (addAt (co l) e q)) (.returned v3) w3') := Lib.hid ⟨v3, rfl, hlist ▸ hown3.pol, hB10⟩
      obtain ⟨y0, y1, y2, y3, y4, y5⟩ := D6y.drew.c6
      clear hBy D6y hO hb8 d8 hB8 hO8 hz8 hown2 hg2 hk2 hB9 hown3 hg3 hB10 hB hlist
      refine wpAny_done (by kernel_rfl) ?_ _
      go_upto_region 8 with (fail)
      go_region_law (first | (refine step_appM rfl (.tmp 54) (.tmp 56) rfl rfl _ _ _ _ rfl rfl HRUN2 ?_) | (refine step_appM rfl (.tmp 57) (.tmp 60) rfl rfl _ _ _ _ rfl rfl HRUN3 ?_) | fail)
      all_goals go_wp2_with fail
      all_goals go_ret
      all_goals exact HEND.out
     ·have hBy := HBW.out.trans (hB.mono HBW.out.size)
      have D6y := HD6.out.below hB HD6.out.lt
      have hO := HO2.out.below hB
      have HBY := Lib.hid hBy.drew
      obtain ⟨hb8, d8⟩ := new6 wx.drew (.int .i64 (e.1 : Int)) (.int .i64 (e.2.1 : Int)) (.int .i64 (e.2.2 : Int)) (.bool nb) (.slice A n c) (.slice B m k)
      have hB8 := HBY.out.trans (hb8.mono HBY.out.size)
      have hO8 := (hO.below (Below.refl _ _).drew).below hb8
      have hz8 : w.heap.size + 1 ≤ (wx.drew.alloc (M6 (.int .i64 (e.1 : Int)) (.int .i64 (e.2.1 : Int)) (.int .i64 (e.2.2 : Int)) (.bool nb) (.slice A n c) (.slice B m k))).heap.size := Nat.le_trans (show w.heap.size + 1 ≤ wx.drew.heap.size from D6y.lt) hb8.size
      obtain ⟨v2, w2', HRUN2, hown2, hg2, hk2⟩ := hO8.app1 (m := (e, q)) d8 (HQ0.out.below hB8) (by rw [List.length_take]; have := HLEN.out; omega) hz8
      have hB9 := hB8.grown hg2 hB8.size (fun j e => Nat.le_of_succ_le (hO8.lt j e).1)
      obtain ⟨v3, w3', HRUN3, hown3, hg3, _⟩ := hown2.app (RdK.nil _ 6 (some ⟨b, o + l.length * 6, none⟩) (c1 - l.length)) (Cells6.nil _) (by rw [List.length_append, List.length_take]; have := HLEN.out; simp; omega) (Nat.le_trans hz8 hg2.size)
      have hB10 := hB9.grown hg3 hB9.size (fun j e => Nat.le_of_succ_le (hown2.lt j e).1)
      have hlist : l.take l.length ++ [(e, q)] ++ [] = listOf (addAt (co l) e q) := by rw [← HPUT.out]; simp
      have HEND : Hid (RetPol w (listOf (addAt (co l) e q)) (.returned v3) w3') := Lib.hid ⟨v3, rfl, hlist ▸ hown3.pol, hB10⟩
      obtain ⟨y0, y1, y2, y3, y4, y5⟩ := D6y.drew.c6
      clear hBy D6y hO hb8 d8 hB8 hO8 hz8 hown2 hg2 hk2 hB9 hown3 hg3 hB10 hB hlist
      refine wpAny_done (by kernel_rfl) ?_ _
      go_upto_region 8 with (fail)
      go_region_law (first | (refine step_appM rfl (.tmp 54) (.tmp 56) rfl rfl _ _ _ _ rfl rfl HRUN2 ?_) | (refine step_appM rfl (.tmp 57) (.tmp 60) rfl rfl _ _ _ _ rfl rfl HRUN3 ?_) | fail)
      all_goals go_wp2_with fail
      all_goals go_ret
      all_goals exact HEND.out

end Go.Proofs.YtifeekomegoijaaGreatDoor
