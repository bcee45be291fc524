/- texts -/
import Derived.Test.YtifeekomegoijaaGreatDoorU38
import Derived.Test.YtifeekomegoijaaGreatDoorU40
import Derived.Deep.CutRange
set_option linter.unusedVariables false
set_option linter.unusedSimpArgs false
namespace Go.Proofs.YtifeekomegoijaaGreatDoor
open Go.RowKit

def PRe (w : World) (v : Value) (l : List RawM) : Prop := PBy (fun z q => Inr w z q) w v l ∧ l.length ≤ 1000000
theorem PRe.below {w w' : World} {v : Value} {l : List RawM} (h : PRe w v l) (hb : Below w.heap.size w w') : PRe w' v l := ⟨h.1.imp (fun _ _ hr => hr.below hb) hb.size hb.block, h.2⟩
theorem PRe.at6 {w : World} {A : Option Addr} {n c : Nat} {l : List RawM} (h : PRe w (.slice A n c) l) {i : Nat} {e : Int × Int × Int} {q : Rat} (hi : l[i]? = some (e, q)) :
  ∃ b o nb A' n' c' B' m' e', A = some ⟨b, o, none⟩ ∧ b < w.heap.size ∧ At6 w b (o + i * 6) (.int .i64 e.1) (.int .i64 e.2.1) (.int .i64 e.2.2) (.bool nb) (.slice A' n' c') (.slice B' m' e') ∧ Inr w (.agg #[.bool nb, .slice A' n' c', .slice B' m' e']) q := by
 obtain ⟨b, o, z0, z1, z2, hA, hb, hat, hr⟩ := h.1.at hi
 obtain ⟨nb, A', n', c', B', m', e', heq⟩ := hr.agg
 simp only [Value.agg.injEq, Array.mk.injEq, List.cons.injEq, and_true] at heq
 obtain ⟨rfl, rfl, rfl⟩ := heq
 exact ⟨b, o, nb, A', n', c', B', m', e', hA, hb, hat, hr⟩
theorem Inr.parts {w : World} {q : Rat} {nb : Bool} {A B : Option Addr} {n c m d : Nat} (h : Inr w (.agg #[.bool nb, .slice A n c, .slice B m d]) q) : ∃ ln ld, Num w ln A n c ∧ Num w ld B m d ∧ n ≤ 1000000 ∧ m ≤ 1000000 ∧ fq nb ln ld = q := by
 obtain ⟨neg, A1, n1, c1, A2, m1, c2, ln, ld, e, h1, h2, h3, h4, h5⟩ := h
 simp only [Value.agg.injEq, Array.mk.injEq, List.cons.injEq, and_true, Value.bool.injEq, Value.slice.injEq] at e
 obtain ⟨rfl, ⟨rfl, rfl, rfl⟩, rfl, rfl, rfl⟩ := e
 exact ⟨ln, ld, h1, h2, h3, h4, h5⟩
theorem r_SignV (v : Value) (q : Rat) (sg : Int) (w : World) (h : Inr w v q) (hs : Hid (q.num.sign = sg)) : Calls Tryz.prog 51 #[v] w (RetV w (.int .i64 sg)) := by
 rw [← hs.out]; exact r_Sign v q w h
theorem lexI_anti (e f : Int × Int × Int) : lexI e f = - lexI f e := by
 unfold lexI
 repeat' split
 all_goals omega
theorem no_bool {V : Bool} {l : List RawM} {k : Nat} (h : Hid ((V = true ↔ vraw l) ∧ k < l.length ∧ ¬ okAt l k)) : false = V := by
 cases V
 ·rfl
 ·exact absurd (h.out.1.1 rfl k h.out.2.1) h.out.2.2

set_option maxRecDepth 40000 in
set_option maxHeartbeats 16000000 in
theorem r2_Valid (v : Value) (l : List RawM) (w : World) (h : PRe w v l) (V : Bool) (HV : Hid (V = true ↔ vraw l)) : Calls Tryz.prog 15 #[v] w (RetV w (.bool V)) := by
 obtain ⟨A, cap, rfl⟩ := PBy.slice h.1
 have hlen := h.2
 go_enter Tryz.func15, Tryz.ntmps15
 go_wp2_with fail
 go_loopw [3] (fun i wr => ∃ k, k ≤ l.length ∧ i = .int .i64 (k : Int) ∧ Below w.heap.size w wr ∧ Hid (∀ j, j < k → okAt l j)) (fun i _ => (l.length - intOf i).toNat)
 case atStart => exact ⟨0, Nat.zero_le _, rfl, Below.refl _ _, show Hid _ from fun j h1 => by omega⟩
 case round =>
  obtain ⟨k, hk, rfl, hB, HO⟩ := hrel
  rcases Nat.lt_or_ge k l.length with hkn | hkn
  ·obtain ⟨⟨e, q⟩, hm⟩ : ∃ m, l[k]? = some m := ⟨l[k], List.getElem?_eq_getElem hkn⟩
   obtain ⟨b, o, nb, A', n', c', B', m', d', rfl, hb, hat, hr⟩ := h.at6 hm
   obtain ⟨ln, ld, hn1, hn2, hs1, hs2, hfq⟩ := hr.parts
   have hltk : (k : Int) < (l.length : Int) := by omega
   have HK := Lib.hid hkn
   have HM := Lib.hid hm
   have HBW := Lib.hid hB.drew
   have HAT : Hid (At6 wr.drew b (o + k * 6) _ _ _ _ _ _) := Lib.hid ((hat.below hB hb).below (Below.refl _ _).drew (Nat.lt_of_lt_of_le hb hB.size))
   have HLT : Hid (b < wr.drew.heap.size) := Lib.hid (Nat.lt_of_lt_of_le hb hB.size)
   have HN1 := Lib.hid hn1
   have HN2 := Lib.hid hn2
   have HSN := Lib.hid (And.intro hs1 hs2)
   have HIN := Lib.hid hr
   have HFQ := Lib.hid hfq
   have HPW := Lib.hid h
   clear hk hkn hm hB hat hb hn1 hn2 hs1 hs2 hr hfq h
   obtain ⟨kn, hkn⟩ : ∃ kn, knownI (e.1, e.2.1, e.2.2) = kn := ⟨_, rfl⟩
   have hke : knownI e = kn := hkn
   cases kn
   ·have HKN := Lib.hid hkn
    have HNO : Hid ((V = true ↔ vraw l) ∧ k < l.length ∧ ¬ okAt l k) := Lib.hid ⟨HV.out, HK.out, fun ho => by have := (ho _ HM.out).1; rw [hke] at this; cases this⟩
    clear hkn hke
    go_upto_region 4 with (fail)
    refine wp_region6 44 [10, 11, 12, 13, 14, 15, 16, 17, 18, 19, 20, 21, 22, 23, 24, 25, 26, 27, 28, 29, 30, 31, 32, 33, 34, 35, 36, 37, 38, 39, 40, 41, 42, 43, 44, 45, 46, 47, 48, 49, 50, 51, 52, 53] [.val (.slice (some ⟨b, o, none⟩) l.length cap), .val (.int .i64 (k : Int)), .val (.pointer (some ⟨b, o + k * 6, none⟩)), .val (.pointer (some ⟨b, o + k * 6, none⟩)), .val (.agg #[.int .i64 e.1, .int .i64 e.2.1, .int .i64 e.2.2]), .val (.bool false), .val (.bool true), .val (.bool true), .val (undef), .val (undef), .val (undef), .val (undef), .val (undef), .val (undef), .val (undef), .val (.bool true), .val (.bool true), .val (undef), .val (undef), .val (undef), .val (undef), .val (undef), .val (undef), .val (undef), .val (.bool true), .val (.bool true), .val (undef), .val (undef), .val (undef), .val (undef), .val (undef), .val (undef), .val (undef), .val (undef), .val (undef), .val (undef), .val (undef), .val (undef), .val (undef), .val (undef), .val (undef), .val (undef), .val (undef), .val (.bool true)] (by kernel_rfl) (by kernel_rfl) (by kernel_rfl) (by kernel_rfl) ?stepa 0 (by kernel_rfl) _ rfl ?fina
    case stepa =>
     intro i hi oi ho f wx hB hdep K hK
     simp only [frontAct, List.foldl_cons, List.foldl_nil, List.setIfInBounds_toArray, List.set_cons_succ, List.set_cons_zero] at hK ⊢
     obtain ⟨x0, x1, x2, x3, x4, x5⟩ := HAT.out.below hB HLT.out
     obtain rfl | rfl | rfl | rfl | rfl | rfl | rfl | rfl | rfl | rfl | rfl | rfl | rfl | rfl | rfl | rfl | rfl | rfl | rfl | rfl | rfl | rfl | rfl | rfl | rfl | rfl | rfl | rfl | rfl | rfl | rfl | rfl | rfl | rfl | rfl | rfl | rfl | rfl | rfl | rfl | rfl | rfl | rfl | rfl : i = 0 ∨ i = 1 ∨ i = 2 ∨ i = 3 ∨ i = 4 ∨ i = 5 ∨ i = 6 ∨ i = 7 ∨ i = 8 ∨ i = 9 ∨ i = 10 ∨ i = 11 ∨ i = 12 ∨ i = 13 ∨ i = 14 ∨ i = 15 ∨ i = 16 ∨ i = 17 ∨ i = 18 ∨ i = 19 ∨ i = 20 ∨ i = 21 ∨ i = 22 ∨ i = 23 ∨ i = 24 ∨ i = 25 ∨ i = 26 ∨ i = 27 ∨ i = 28 ∨ i = 29 ∨ i = 30 ∨ i = 31 ∨ i = 32 ∨ i = 33 ∨ i = 34 ∨ i = 35 ∨ i = 36 ∨ i = 37 ∨ i = 38 ∨ i = 39 ∨ i = 40 ∨ i = 41 ∨ i = 42 ∨ i = 43 := by omega
     all_goals
      obtain rfl := Option.some.inj ho
      simp only [Act.put, List.setIfInBounds_toArray, List.set_cons_succ, List.set_cons_zero] at hK
     rotate_left
     rotate_left
     have e10 := dv6 (hdep ⟨0, .data⟩ (by simp) rfl) rfl
     have e11 := dv6 (hdep ⟨1, .data⟩ (by simp) rfl) rfl
     simp only [List.getD_cons_succ, List.getD_cons_zero] at e10 e11
     generalize f 10 = f10 at *; subst e10
     generalize f 11 = f11 at *; subst e11
     rotate_left
     have e12 := dv6 (hdep ⟨2, .data⟩ (by simp) rfl) rfl
     simp only [List.getD_cons_succ, List.getD_cons_zero] at e12
     generalize f 12 = f12 at *; subst e12
     rotate_left
     have e13 := dv6 (hdep ⟨3, .data⟩ (by simp) rfl) rfl
     simp only [List.getD_cons_succ, List.getD_cons_zero] at e13
     generalize f 13 = f13 at *; subst e13
     rotate_left
     ·have e14 := dv6 (hdep ⟨4, .data⟩ (by simp) rfl) rfl
      simp only [List.getD_cons_succ, List.getD_cons_zero] at e14
      generalize f 14 = f14 at *; subst e14
      go_simp
      refine (r2_possible e.1 e.2.1 e.2.2 wx false HKN).mono ?_
      rintro e0 w' ⟨rfl, hb⟩
      exact hK (.bool false) w' (gv6 rfl) hb (hB.trans (hb.mono hB.size)) (nb6 rfl rfl)
     have e15 := dv6 (hdep ⟨5, .data⟩ (by simp) rfl) rfl
     simp only [List.getD_cons_succ, List.getD_cons_zero] at e15
     generalize f 15 = f15 at *; subst e15
     rotate_left
     have e16 := dv6 (hdep ⟨6, .data⟩ (by simp) rfl) rfl
     simp only [List.getD_cons_succ, List.getD_cons_zero] at e16
     generalize f 16 = f16 at *; subst e16
     rotate_left
     have e17 := dv6 (hdep ⟨7, .guard⟩ (by simp) rfl) rfl
     simp only [List.getD_cons_succ, List.getD_cons_zero] at e17
     generalize f 17 = f17 at *; subst e17
     rotate_left
     have e17 := dv6 (hdep ⟨7, .guard⟩ (by simp) rfl) rfl
     simp only [List.getD_cons_succ, List.getD_cons_zero] at e17
     generalize f 17 = f17 at *; subst e17
     rotate_left
     have e17 := dv6 (hdep ⟨7, .guard⟩ (by simp) rfl) rfl
     simp only [List.getD_cons_succ, List.getD_cons_zero] at e17
     generalize f 17 = f17 at *; subst e17
     rotate_left
     have e17 := dv6 (hdep ⟨7, .guard⟩ (by simp) rfl) rfl
     simp only [List.getD_cons_succ, List.getD_cons_zero] at e17
     generalize f 17 = f17 at *; subst e17
     rotate_left
     have e17 := dv6 (hdep ⟨7, .guard⟩ (by simp) rfl) rfl
     simp only [List.getD_cons_succ, List.getD_cons_zero] at e17
     generalize f 17 = f17 at *; subst e17
     rotate_left
     have e17 := dv6 (hdep ⟨7, .guard⟩ (by simp) rfl) rfl
     simp only [List.getD_cons_succ, List.getD_cons_zero] at e17
     generalize f 17 = f17 at *; subst e17
     rotate_left
     have e17 := dv6 (hdep ⟨7, .guard⟩ (by simp) rfl) rfl
     simp only [List.getD_cons_succ, List.getD_cons_zero] at e17
     generalize f 17 = f17 at *; subst e17
     rotate_left
     have e17 := dv6 (hdep ⟨7, .data⟩ (by simp) rfl) rfl
     have e24 := dv6 (hdep ⟨14, .data⟩ (by simp) rfl) rfl
     simp only [List.getD_cons_succ, List.getD_cons_zero] at e17 e24
     generalize f 17 = f17 at *; subst e17
     generalize f 24 = f24 at *; subst e24
     rotate_left
     have e25 := dv6 (hdep ⟨15, .data⟩ (by simp) rfl) rfl
     simp only [List.getD_cons_succ, List.getD_cons_zero] at e25
     generalize f 25 = f25 at *; subst e25
     rotate_left
     have e26 := dv6 (hdep ⟨16, .guard⟩ (by simp) rfl) rfl
     simp only [List.getD_cons_succ, List.getD_cons_zero] at e26
     generalize f 26 = f26 at *; subst e26
     rotate_left
     have e26 := dv6 (hdep ⟨16, .guard⟩ (by simp) rfl) rfl
     simp only [List.getD_cons_succ, List.getD_cons_zero] at e26
     generalize f 26 = f26 at *; subst e26
     rotate_left
     have e26 := dv6 (hdep ⟨16, .guard⟩ (by simp) rfl) rfl
     simp only [List.getD_cons_succ, List.getD_cons_zero] at e26
     generalize f 26 = f26 at *; subst e26
     rotate_left
     have e26 := dv6 (hdep ⟨16, .guard⟩ (by simp) rfl) rfl
     simp only [List.getD_cons_succ, List.getD_cons_zero] at e26
     generalize f 26 = f26 at *; subst e26
     rotate_left
     have e26 := dv6 (hdep ⟨16, .guard⟩ (by simp) rfl) rfl
     simp only [List.getD_cons_succ, List.getD_cons_zero] at e26
     generalize f 26 = f26 at *; subst e26
     rotate_left
     have e26 := dv6 (hdep ⟨16, .guard⟩ (by simp) rfl) rfl
     simp only [List.getD_cons_succ, List.getD_cons_zero] at e26
     generalize f 26 = f26 at *; subst e26
     rotate_left
     have e26 := dv6 (hdep ⟨16, .guard⟩ (by simp) rfl) rfl
     simp only [List.getD_cons_succ, List.getD_cons_zero] at e26
     generalize f 26 = f26 at *; subst e26
     rotate_left
     have e26 := dv6 (hdep ⟨16, .data⟩ (by simp) rfl) rfl
     have e33 := dv6 (hdep ⟨23, .data⟩ (by simp) rfl) rfl
     simp only [List.getD_cons_succ, List.getD_cons_zero] at e26 e33
     generalize f 26 = f26 at *; subst e26
     generalize f 33 = f33 at *; subst e33
     rotate_left
     have e34 := dv6 (hdep ⟨24, .data⟩ (by simp) rfl) rfl
     simp only [List.getD_cons_succ, List.getD_cons_zero] at e34
     generalize f 34 = f34 at *; subst e34
     rotate_left
     have e35 := dv6 (hdep ⟨25, .guard⟩ (by simp) rfl) rfl
     simp only [List.getD_cons_succ, List.getD_cons_zero] at e35
     generalize f 35 = f35 at *; subst e35
     rotate_left
     have e35 := dv6 (hdep ⟨25, .guard⟩ (by simp) rfl) rfl
     simp only [List.getD_cons_succ, List.getD_cons_zero] at e35
     generalize f 35 = f35 at *; subst e35
     rotate_left
     have e35 := dv6 (hdep ⟨25, .guard⟩ (by simp) rfl) rfl
     simp only [List.getD_cons_succ, List.getD_cons_zero] at e35
     generalize f 35 = f35 at *; subst e35
     rotate_left
     have e38 := dv6 (hdep ⟨28, .guard⟩ (by simp) rfl) rfl
     simp only [List.getD_cons_succ, List.getD_cons_zero] at e38
     generalize f 38 = f38 at *; subst e38
     rotate_left
     have e38 := dv6 (hdep ⟨28, .guard⟩ (by simp) rfl) rfl
     simp only [List.getD_cons_succ, List.getD_cons_zero] at e38
     generalize f 38 = f38 at *; subst e38
     rotate_left
     have e38 := dv6 (hdep ⟨28, .guard⟩ (by simp) rfl) rfl
     simp only [List.getD_cons_succ, List.getD_cons_zero] at e38
     generalize f 38 = f38 at *; subst e38
     rotate_left
     have e38 := dv6 (hdep ⟨28, .guard⟩ (by simp) rfl) rfl
     simp only [List.getD_cons_succ, List.getD_cons_zero] at e38
     generalize f 38 = f38 at *; subst e38
     rotate_left
     have e38 := dv6 (hdep ⟨28, .guard⟩ (by simp) rfl) rfl
     simp only [List.getD_cons_succ, List.getD_cons_zero] at e38
     generalize f 38 = f38 at *; subst e38
     rotate_left
     have e38 := dv6 (hdep ⟨28, .guard⟩ (by simp) rfl) rfl
     simp only [List.getD_cons_succ, List.getD_cons_zero] at e38
     generalize f 38 = f38 at *; subst e38
     rotate_left
     have e38 := dv6 (hdep ⟨28, .guard⟩ (by simp) rfl) rfl
     simp only [List.getD_cons_succ, List.getD_cons_zero] at e38
     generalize f 38 = f38 at *; subst e38
     rotate_left
     have e38 := dv6 (hdep ⟨28, .guard⟩ (by simp) rfl) rfl
     simp only [List.getD_cons_succ, List.getD_cons_zero] at e38
     generalize f 38 = f38 at *; subst e38
     rotate_left
     have e38 := dv6 (hdep ⟨28, .guard⟩ (by simp) rfl) rfl
     simp only [List.getD_cons_succ, List.getD_cons_zero] at e38
     generalize f 38 = f38 at *; subst e38
     rotate_left
     have e38 := dv6 (hdep ⟨28, .guard⟩ (by simp) rfl) rfl
     simp only [List.getD_cons_succ, List.getD_cons_zero] at e38
     generalize f 38 = f38 at *; subst e38
     rotate_left
     have e38 := dv6 (hdep ⟨28, .guard⟩ (by simp) rfl) rfl
     simp only [List.getD_cons_succ, List.getD_cons_zero] at e38
     generalize f 38 = f38 at *; subst e38
     rotate_left
     have e38 := dv6 (hdep ⟨28, .guard⟩ (by simp) rfl) rfl
     simp only [List.getD_cons_succ, List.getD_cons_zero] at e38
     generalize f 38 = f38 at *; subst e38
     rotate_left
     have e38 := dv6 (hdep ⟨28, .guard⟩ (by simp) rfl) rfl
     simp only [List.getD_cons_succ, List.getD_cons_zero] at e38
     generalize f 38 = f38 at *; subst e38
     rotate_left
     have e35 := dv6 (hdep ⟨25, .guard⟩ (by simp) rfl) rfl
     simp only [List.getD_cons_succ, List.getD_cons_zero] at e35
     generalize f 35 = f35 at *; subst e35
     rotate_left
     have e35 := dv6 (hdep ⟨25, .data⟩ (by simp) rfl) rfl
     have e52 := dv6 (hdep ⟨42, .data⟩ (by simp) rfl) rfl
     simp only [List.getD_cons_succ, List.getD_cons_zero] at e35 e52
     generalize f 35 = f35 at *; subst e35
     generalize f 52 = f52 at *; subst e52
     rotate_left
     all_goals go_simp
     all_goals exact hK _ wx (gv6 rfl) (Below.refl _ _) hB (nb6 rfl rfl)
    case fina =>
     intro f wx hB hG hne
     have e53 := dv6 (a := f 53) (hG 43 (by decide)) rfl
     clear hG hne
     simp only [frontAct, List.foldl_cons, List.foldl_nil, List.setIfInBounds_toArray, List.set_cons_succ, List.set_cons_zero]
     generalize f 53 = f53 at *
     subst e53
     refine wpAny_done (by kernel_rfl) ?_ _
     go_wp2_with fail
     go_ret
     exact ⟨ret_bool (no_bool HNO), HBW.out.trans (hB.mono HBW.out.size)⟩
   have HKN := Lib.hid hkn
   have HKE := Lib.hid hke
   clear hkn hke
   obtain ⟨vd, hvd⟩ : ∃ vd, vld nb ln ld = vd := ⟨_, rfl⟩
   cases vd
   ·have HVD := Lib.hid hvd
    have HNO : Hid ((V = true ↔ vraw l) ∧ k < l.length ∧ ¬ okAt l k) := Lib.hid ⟨HV.out, HK.out, fun ho => (ho _ HM.out).2.1 (by show q = 0; rw [← HFQ.out]; unfold fq; rw [HVD.out]; rfl)⟩
    clear hvd
    go_upto_region 4 with (fail)
    refine wp_region6 44 [10, 11, 12, 13, 14, 15, 16, 17, 18, 19, 20, 21, 22, 23, 24, 25, 26, 27, 28, 29, 30, 31, 32, 33, 34, 35, 36, 37, 38, 39, 40, 41, 42, 43, 44, 45, 46, 47, 48, 49, 50, 51, 52, 53] [.val (.slice (some ⟨b, o, none⟩) l.length cap), .val (.int .i64 (k : Int)), .val (.pointer (some ⟨b, o + k * 6, none⟩)), .val (.pointer (some ⟨b, o + k * 6, none⟩)), .val (.agg #[.int .i64 e.1, .int .i64 e.2.1, .int .i64 e.2.2]), .val (.bool true), .val (.bool false), .val (.bool false), .val (.slice (some ⟨b, o, none⟩) l.length cap), .val (.int .i64 (k : Int)), .val (.pointer (some ⟨b, o + k * 6, none⟩)), .val (.pointer (some ⟨b, o + k * 6 + 3, none⟩)), .val (.agg #[.bool nb, .slice A' n' c', .slice B' m' d']), .val (.bool false), .val (.bool true), .val (.bool true), .val (.bool true), .val (undef), .val (undef), .val (undef), .val (undef), .val (undef), .val (undef), .val (undef), .val (.bool true), .val (.bool true), .val (undef), .val (undef), .val (undef), .val (undef), .val (undef), .val (undef), .val (undef), .val (undef), .val (undef), .val (undef), .val (undef), .val (undef), .val (undef), .val (undef), .val (undef), .val (undef), .val (undef), .val (.bool true)] (by kernel_rfl) (by kernel_rfl) (by kernel_rfl) (by kernel_rfl) ?stepb 0 (by kernel_rfl) _ rfl ?finb
    case stepb =>
     intro i hi oi ho f wx hB hdep K hK
     simp only [frontAct, List.foldl_cons, List.foldl_nil, List.setIfInBounds_toArray, List.set_cons_succ, List.set_cons_zero] at hK ⊢
     obtain ⟨x0, x1, x2, x3, x4, x5⟩ := HAT.out.below hB HLT.out
     obtain rfl | rfl | rfl | rfl | rfl | rfl | rfl | rfl | rfl | rfl | rfl | rfl | rfl | rfl | rfl | rfl | rfl | rfl | rfl | rfl | rfl | rfl | rfl | rfl | rfl | rfl | rfl | rfl | rfl | rfl | rfl | rfl | rfl | rfl | rfl | rfl | rfl | rfl | rfl | rfl | rfl | rfl | rfl | rfl : i = 0 ∨ i = 1 ∨ i = 2 ∨ i = 3 ∨ i = 4 ∨ i = 5 ∨ i = 6 ∨ i = 7 ∨ i = 8 ∨ i = 9 ∨ i = 10 ∨ i = 11 ∨ i = 12 ∨ i = 13 ∨ i = 14 ∨ i = 15 ∨ i = 16 ∨ i = 17 ∨ i = 18 ∨ i = 19 ∨ i = 20 ∨ i = 21 ∨ i = 22 ∨ i = 23 ∨ i = 24 ∨ i = 25 ∨ i = 26 ∨ i = 27 ∨ i = 28 ∨ i = 29 ∨ i = 30 ∨ i = 31 ∨ i = 32 ∨ i = 33 ∨ i = 34 ∨ i = 35 ∨ i = 36 ∨ i = 37 ∨ i = 38 ∨ i = 39 ∨ i = 40 ∨ i = 41 ∨ i = 42 ∨ i = 43 := by omega
     all_goals
      obtain rfl := Option.some.inj ho
      simp only [Act.put, List.setIfInBounds_toArray, List.set_cons_succ, List.set_cons_zero] at hK
     rotate_left
     rotate_left
     have e10 := dv6 (hdep ⟨0, .data⟩ (by simp) rfl) rfl
     have e11 := dv6 (hdep ⟨1, .data⟩ (by simp) rfl) rfl
     simp only [List.getD_cons_succ, List.getD_cons_zero] at e10 e11
     generalize f 10 = f10 at *; subst e10
     generalize f 11 = f11 at *; subst e11
     rotate_left
     have e12 := dv6 (hdep ⟨2, .data⟩ (by simp) rfl) rfl
     simp only [List.getD_cons_succ, List.getD_cons_zero] at e12
     generalize f 12 = f12 at *; subst e12
     rotate_left
     have e13 := dv6 (hdep ⟨3, .data⟩ (by simp) rfl) rfl
     simp only [List.getD_cons_succ, List.getD_cons_zero] at e13
     generalize f 13 = f13 at *; subst e13
     rotate_left
     ·have e14 := dv6 (hdep ⟨4, .data⟩ (by simp) rfl) rfl
      simp only [List.getD_cons_succ, List.getD_cons_zero] at e14
      generalize f 14 = f14 at *; subst e14
      go_simp
      refine (r2_possible e.1 e.2.1 e.2.2 wx true HKN).mono ?_
      rintro e0 w' ⟨rfl, hb⟩
      exact hK (.bool true) w' (gv6 rfl) hb (hB.trans (hb.mono hB.size)) (nb6 rfl rfl)
     have e15 := dv6 (hdep ⟨5, .data⟩ (by simp) rfl) rfl
     simp only [List.getD_cons_succ, List.getD_cons_zero] at e15
     generalize f 15 = f15 at *; subst e15
     rotate_left
     have e16 := dv6 (hdep ⟨6, .data⟩ (by simp) rfl) rfl
     simp only [List.getD_cons_succ, List.getD_cons_zero] at e16
     generalize f 16 = f16 at *; subst e16
     rotate_left
     have e17 := dv6 (hdep ⟨7, .guard⟩ (by simp) rfl) rfl
     simp only [List.getD_cons_succ, List.getD_cons_zero] at e17
     generalize f 17 = f17 at *; subst e17
     rotate_left
     have e17 := dv6 (hdep ⟨7, .guard⟩ (by simp) rfl) rfl
     simp only [List.getD_cons_succ, List.getD_cons_zero] at e17
     generalize f 17 = f17 at *; subst e17
     rotate_left
     have e17 := dv6 (hdep ⟨7, .guard⟩ (by simp) rfl) rfl
     have e18 := dv6 (hdep ⟨8, .data⟩ (by simp) rfl) rfl
     have e19 := dv6 (hdep ⟨9, .data⟩ (by simp) rfl) rfl
     simp only [List.getD_cons_succ, List.getD_cons_zero] at e17 e18 e19
     generalize f 17 = f17 at *; subst e17
     generalize f 18 = f18 at *; subst e18
     generalize f 19 = f19 at *; subst e19
     rotate_left
     have e17 := dv6 (hdep ⟨7, .guard⟩ (by simp) rfl) rfl
     have e20 := dv6 (hdep ⟨10, .data⟩ (by simp) rfl) rfl
     simp only [List.getD_cons_succ, List.getD_cons_zero] at e17 e20
     generalize f 17 = f17 at *; subst e17
     generalize f 20 = f20 at *; subst e20
     rotate_left
     have e17 := dv6 (hdep ⟨7, .guard⟩ (by simp) rfl) rfl
     have e21 := dv6 (hdep ⟨11, .data⟩ (by simp) rfl) rfl
     simp only [List.getD_cons_succ, List.getD_cons_zero] at e17 e21
     generalize f 17 = f17 at *; subst e17
     generalize f 21 = f21 at *; subst e21
     rotate_left
     ·have e17 := dv6 (hdep ⟨7, .guard⟩ (by simp) rfl) rfl
      have e22 := dv6 (hdep ⟨12, .data⟩ (by simp) rfl) rfl
      simp only [List.getD_cons_succ, List.getD_cons_zero] at e17 e22
      generalize f 17 = f17 at *; subst e17
      generalize f 22 = f22 at *; subst e22
      have hB0 := HBW.out.trans (hB.mono HBW.out.size)
      go_simp
      refine (r_Valid nb A' B' n' c' m' d' ln ld wx false (HN1.out.below hB0) (HN2.out.below hB0) HSN.out.1 HSN.out.2 HVD).mono ?_
      rintro e0 w' ⟨rfl, hb⟩
      exact hK (.bool false) w' (gv6 rfl) hb (hB.trans (hb.mono hB.size)) (nb6 rfl rfl)
     have e17 := dv6 (hdep ⟨7, .guard⟩ (by simp) rfl) rfl
     have e23 := dv6 (hdep ⟨13, .data⟩ (by simp) rfl) rfl
     simp only [List.getD_cons_succ, List.getD_cons_zero] at e17 e23
     generalize f 17 = f17 at *; subst e17
     generalize f 23 = f23 at *; subst e23
     rotate_left
     have e17 := dv6 (hdep ⟨7, .data⟩ (by simp) rfl) rfl
     have e24 := dv6 (hdep ⟨14, .data⟩ (by simp) rfl) rfl
     simp only [List.getD_cons_succ, List.getD_cons_zero] at e17 e24
     generalize f 17 = f17 at *; subst e17
     generalize f 24 = f24 at *; subst e24
     rotate_left
     have e25 := dv6 (hdep ⟨15, .data⟩ (by simp) rfl) rfl
     simp only [List.getD_cons_succ, List.getD_cons_zero] at e25
     generalize f 25 = f25 at *; subst e25
     rotate_left
     have e26 := dv6 (hdep ⟨16, .guard⟩ (by simp) rfl) rfl
     simp only [List.getD_cons_succ, List.getD_cons_zero] at e26
     generalize f 26 = f26 at *; subst e26
     rotate_left
     have e26 := dv6 (hdep ⟨16, .guard⟩ (by simp) rfl) rfl
     simp only [List.getD_cons_succ, List.getD_cons_zero] at e26
     generalize f 26 = f26 at *; subst e26
     rotate_left
     have e26 := dv6 (hdep ⟨16, .guard⟩ (by simp) rfl) rfl
     simp only [List.getD_cons_succ, List.getD_cons_zero] at e26
     generalize f 26 = f26 at *; subst e26
     rotate_left
     have e26 := dv6 (hdep ⟨16, .guard⟩ (by simp) rfl) rfl
     simp only [List.getD_cons_succ, List.getD_cons_zero] at e26
     generalize f 26 = f26 at *; subst e26
     rotate_left
     have e26 := dv6 (hdep ⟨16, .guard⟩ (by simp) rfl) rfl
     simp only [List.getD_cons_succ, List.getD_cons_zero] at e26
     generalize f 26 = f26 at *; subst e26
     rotate_left
     have e26 := dv6 (hdep ⟨16, .guard⟩ (by simp) rfl) rfl
     simp only [List.getD_cons_succ, List.getD_cons_zero] at e26
     generalize f 26 = f26 at *; subst e26
     rotate_left
     have e26 := dv6 (hdep ⟨16, .guard⟩ (by simp) rfl) rfl
     simp only [List.getD_cons_succ, List.getD_cons_zero] at e26
     generalize f 26 = f26 at *; subst e26
     rotate_left
     have e26 := dv6 (hdep ⟨16, .data⟩ (by simp) rfl) rfl
     have e33 := dv6 (hdep ⟨23, .data⟩ (by simp) rfl) rfl
     simp only [List.getD_cons_succ, List.getD_cons_zero] at e26 e33
     generalize f 26 = f26 at *; subst e26
     generalize f 33 = f33 at *; subst e33
     rotate_left
     have e34 := dv6 (hdep ⟨24, .data⟩ (by simp) rfl) rfl
     simp only [List.getD_cons_succ, List.getD_cons_zero] at e34
     generalize f 34 = f34 at *; subst e34
     rotate_left
     have e35 := dv6 (hdep ⟨25, .guard⟩ (by simp) rfl) rfl
     simp only [List.getD_cons_succ, List.getD_cons_zero] at e35
     generalize f 35 = f35 at *; subst e35
     rotate_left
     have e35 := dv6 (hdep ⟨25, .guard⟩ (by simp) rfl) rfl
     simp only [List.getD_cons_succ, List.getD_cons_zero] at e35
     generalize f 35 = f35 at *; subst e35
     rotate_left
     have e35 := dv6 (hdep ⟨25, .guard⟩ (by simp) rfl) rfl
     simp only [List.getD_cons_succ, List.getD_cons_zero] at e35
     generalize f 35 = f35 at *; subst e35
     rotate_left
     have e38 := dv6 (hdep ⟨28, .guard⟩ (by simp) rfl) rfl
     simp only [List.getD_cons_succ, List.getD_cons_zero] at e38
     generalize f 38 = f38 at *; subst e38
     rotate_left
     have e38 := dv6 (hdep ⟨28, .guard⟩ (by simp) rfl) rfl
     simp only [List.getD_cons_succ, List.getD_cons_zero] at e38
     generalize f 38 = f38 at *; subst e38
     rotate_left
     have e38 := dv6 (hdep ⟨28, .guard⟩ (by simp) rfl) rfl
     simp only [List.getD_cons_succ, List.getD_cons_zero] at e38
     generalize f 38 = f38 at *; subst e38
     rotate_left
     have e38 := dv6 (hdep ⟨28, .guard⟩ (by simp) rfl) rfl
     simp only [List.getD_cons_succ, List.getD_cons_zero] at e38
     generalize f 38 = f38 at *; subst e38
     rotate_left
     have e38 := dv6 (hdep ⟨28, .guard⟩ (by simp) rfl) rfl
     simp only [List.getD_cons_succ, List.getD_cons_zero] at e38
     generalize f 38 = f38 at *; subst e38
     rotate_left
     have e38 := dv6 (hdep ⟨28, .guard⟩ (by simp) rfl) rfl
     simp only [List.getD_cons_succ, List.getD_cons_zero] at e38
     generalize f 38 = f38 at *; subst e38
     rotate_left
     have e38 := dv6 (hdep ⟨28, .guard⟩ (by simp) rfl) rfl
     simp only [List.getD_cons_succ, List.getD_cons_zero] at e38
     generalize f 38 = f38 at *; subst e38
     rotate_left
     have e38 := dv6 (hdep ⟨28, .guard⟩ (by simp) rfl) rfl
     simp only [List.getD_cons_succ, List.getD_cons_zero] at e38
     generalize f 38 = f38 at *; subst e38
     rotate_left
     have e38 := dv6 (hdep ⟨28, .guard⟩ (by simp) rfl) rfl
     simp only [List.getD_cons_succ, List.getD_cons_zero] at e38
     generalize f 38 = f38 at *; subst e38
     rotate_left
     have e38 := dv6 (hdep ⟨28, .guard⟩ (by simp) rfl) rfl
     simp only [List.getD_cons_succ, List.getD_cons_zero] at e38
     generalize f 38 = f38 at *; subst e38
     rotate_left
     have e38 := dv6 (hdep ⟨28, .guard⟩ (by simp) rfl) rfl
     simp only [List.getD_cons_succ, List.getD_cons_zero] at e38
     generalize f 38 = f38 at *; subst e38
     rotate_left
     have e38 := dv6 (hdep ⟨28, .guard⟩ (by simp) rfl) rfl
     simp only [List.getD_cons_succ, List.getD_cons_zero] at e38
     generalize f 38 = f38 at *; subst e38
     rotate_left
     have e38 := dv6 (hdep ⟨28, .guard⟩ (by simp) rfl) rfl
     simp only [List.getD_cons_succ, List.getD_cons_zero] at e38
     generalize f 38 = f38 at *; subst e38
     rotate_left
     have e35 := dv6 (hdep ⟨25, .guard⟩ (by simp) rfl) rfl
     simp only [List.getD_cons_succ, List.getD_cons_zero] at e35
     generalize f 35 = f35 at *; subst e35
     rotate_left
     have e35 := dv6 (hdep ⟨25, .data⟩ (by simp) rfl) rfl
     have e52 := dv6 (hdep ⟨42, .data⟩ (by simp) rfl) rfl
     simp only [List.getD_cons_succ, List.getD_cons_zero] at e35 e52
     generalize f 35 = f35 at *; subst e35
     generalize f 52 = f52 at *; subst e52
     rotate_left
     all_goals go_simp
     all_goals exact hK _ wx (gv6 rfl) (Below.refl _ _) hB (nb6 rfl rfl)
    case finb =>
     intro f wx hB hG hne
     have e53 := dv6 (a := f 53) (hG 43 (by decide)) rfl
     clear hG hne
     simp only [frontAct, List.foldl_cons, List.foldl_nil, List.setIfInBounds_toArray, List.set_cons_succ, List.set_cons_zero]
     generalize f 53 = f53 at *
     subst e53
     refine wpAny_done (by kernel_rfl) ?_ _
     go_wp2_with fail
     go_ret
     exact ⟨ret_bool (no_bool HNO), HBW.out.trans (hB.mono HBW.out.size)⟩
   have HVD := Lib.hid hvd
   clear hvd
   obtain ⟨sg, hsg⟩ : ∃ sg, q.num.sign = sg := ⟨_, rfl⟩
   have HSG := Lib.hid hsg
   by_cases hq : q = 0
   ·have HSZ : Hid ((sg == 0) = true) := Lib.hid (by rw [← HSG.out, sign_zero, hq]; rfl)
    have HNO : Hid ((V = true ↔ vraw l) ∧ k < l.length ∧ ¬ okAt l k) := Lib.hid ⟨HV.out, HK.out, fun ho => (ho _ HM.out).2.1 hq⟩
    clear hq hsg
    go_upto_region 4 with (fail)
    refine wp_region6 44 [10, 11, 12, 13, 14, 15, 16, 17, 18, 19, 20, 21, 22, 23, 24, 25, 26, 27, 28, 29, 30, 31, 32, 33, 34, 35, 36, 37, 38, 39, 40, 41, 42, 43, 44, 45, 46, 47, 48, 49, 50, 51, 52, 53] [.val (.slice (some ⟨b, o, none⟩) l.length cap), .val (.int .i64 (k : Int)), .val (.pointer (some ⟨b, o + k * 6, none⟩)), .val (.pointer (some ⟨b, o + k * 6, none⟩)), .val (.agg #[.int .i64 e.1, .int .i64 e.2.1, .int .i64 e.2.2]), .val (.bool true), .val (.bool false), .val (.bool false), .val (.slice (some ⟨b, o, none⟩) l.length cap), .val (.int .i64 (k : Int)), .val (.pointer (some ⟨b, o + k * 6, none⟩)), .val (.pointer (some ⟨b, o + k * 6 + 3, none⟩)), .val (.agg #[.bool nb, .slice A' n' c', .slice B' m' d']), .val (.bool true), .val (.bool false), .val (.bool false), .val (.bool false), .val (.slice (some ⟨b, o, none⟩) l.length cap), .val (.int .i64 (k : Int)), .val (.pointer (some ⟨b, o + k * 6, none⟩)), .val (.pointer (some ⟨b, o + k * 6 + 3, none⟩)), .val (.agg #[.bool nb, .slice A' n' c', .slice B' m' d']), .val (.int .i64 sg), .val (.bool true), .val (.bool true), .val (.bool true), .val (undef), .val (undef), .val (undef), .val (undef), .val (undef), .val (undef), .val (undef), .val (undef), .val (undef), .val (undef), .val (undef), .val (undef), .val (undef), .val (undef), .val (undef), .val (undef), .val (undef), .val (.bool true)] (by kernel_rfl) (by kernel_rfl) (by kernel_rfl) (by kernel_rfl) ?stepc 0 (by kernel_rfl) _ rfl ?finc
    case stepc =>
     intro i hi oi ho f wx hB hdep K hK
     simp only [frontAct, List.foldl_cons, List.foldl_nil, List.setIfInBounds_toArray, List.set_cons_succ, List.set_cons_zero] at hK ⊢
     obtain ⟨x0, x1, x2, x3, x4, x5⟩ := HAT.out.below hB HLT.out
     obtain rfl | rfl | rfl | rfl | rfl | rfl | rfl | rfl | rfl | rfl | rfl | rfl | rfl | rfl | rfl | rfl | rfl | rfl | rfl | rfl | rfl | rfl | rfl | rfl | rfl | rfl | rfl | rfl | rfl | rfl | rfl | rfl | rfl | rfl | rfl | rfl | rfl | rfl | rfl | rfl | rfl | rfl | rfl | rfl : i = 0 ∨ i = 1 ∨ i = 2 ∨ i = 3 ∨ i = 4 ∨ i = 5 ∨ i = 6 ∨ i = 7 ∨ i = 8 ∨ i = 9 ∨ i = 10 ∨ i = 11 ∨ i = 12 ∨ i = 13 ∨ i = 14 ∨ i = 15 ∨ i = 16 ∨ i = 17 ∨ i = 18 ∨ i = 19 ∨ i = 20 ∨ i = 21 ∨ i = 22 ∨ i = 23 ∨ i = 24 ∨ i = 25 ∨ i = 26 ∨ i = 27 ∨ i = 28 ∨ i = 29 ∨ i = 30 ∨ i = 31 ∨ i = 32 ∨ i = 33 ∨ i = 34 ∨ i = 35 ∨ i = 36 ∨ i = 37 ∨ i = 38 ∨ i = 39 ∨ i = 40 ∨ i = 41 ∨ i = 42 ∨ i = 43 := by omega
     all_goals
      obtain rfl := Option.some.inj ho
      simp only [Act.put, List.setIfInBounds_toArray, List.set_cons_succ, List.set_cons_zero] at hK
     rotate_left
     rotate_left
     have e10 := dv6 (hdep ⟨0, .data⟩ (by simp) rfl) rfl
     have e11 := dv6 (hdep ⟨1, .data⟩ (by simp) rfl) rfl
     simp only [List.getD_cons_succ, List.getD_cons_zero] at e10 e11
     generalize f 10 = f10 at *; subst e10
     generalize f 11 = f11 at *; subst e11
     rotate_left
     have e12 := dv6 (hdep ⟨2, .data⟩ (by simp) rfl) rfl
     simp only [List.getD_cons_succ, List.getD_cons_zero] at e12
     generalize f 12 = f12 at *; subst e12
     rotate_left
     have e13 := dv6 (hdep ⟨3, .data⟩ (by simp) rfl) rfl
     simp only [List.getD_cons_succ, List.getD_cons_zero] at e13
     generalize f 13 = f13 at *; subst e13
     rotate_left
     ·have e14 := dv6 (hdep ⟨4, .data⟩ (by simp) rfl) rfl
      simp only [List.getD_cons_succ, List.getD_cons_zero] at e14
      generalize f 14 = f14 at *; subst e14
      go_simp
      refine (r2_possible e.1 e.2.1 e.2.2 wx true HKN).mono ?_
      rintro e0 w' ⟨rfl, hb⟩
      exact hK (.bool true) w' (gv6 rfl) hb (hB.trans (hb.mono hB.size)) (nb6 rfl rfl)
     have e15 := dv6 (hdep ⟨5, .data⟩ (by simp) rfl) rfl
     simp only [List.getD_cons_succ, List.getD_cons_zero] at e15
     generalize f 15 = f15 at *; subst e15
     rotate_left
     have e16 := dv6 (hdep ⟨6, .data⟩ (by simp) rfl) rfl
     simp only [List.getD_cons_succ, List.getD_cons_zero] at e16
     generalize f 16 = f16 at *; subst e16
     rotate_left
     have e17 := dv6 (hdep ⟨7, .guard⟩ (by simp) rfl) rfl
     simp only [List.getD_cons_succ, List.getD_cons_zero] at e17
     generalize f 17 = f17 at *; subst e17
     rotate_left
     have e17 := dv6 (hdep ⟨7, .guard⟩ (by simp) rfl) rfl
     simp only [List.getD_cons_succ, List.getD_cons_zero] at e17
     generalize f 17 = f17 at *; subst e17
     rotate_left
     have e17 := dv6 (hdep ⟨7, .guard⟩ (by simp) rfl) rfl
     have e18 := dv6 (hdep ⟨8, .data⟩ (by simp) rfl) rfl
     have e19 := dv6 (hdep ⟨9, .data⟩ (by simp) rfl) rfl
     simp only [List.getD_cons_succ, List.getD_cons_zero] at e17 e18 e19
     generalize f 17 = f17 at *; subst e17
     generalize f 18 = f18 at *; subst e18
     generalize f 19 = f19 at *; subst e19
     rotate_left
     have e17 := dv6 (hdep ⟨7, .guard⟩ (by simp) rfl) rfl
     have e20 := dv6 (hdep ⟨10, .data⟩ (by simp) rfl) rfl
     simp only [List.getD_cons_succ, List.getD_cons_zero] at e17 e20
     generalize f 17 = f17 at *; subst e17
     generalize f 20 = f20 at *; subst e20
     rotate_left
     have e17 := dv6 (hdep ⟨7, .guard⟩ (by simp) rfl) rfl
     have e21 := dv6 (hdep ⟨11, .data⟩ (by simp) rfl) rfl
     simp only [List.getD_cons_succ, List.getD_cons_zero] at e17 e21
     generalize f 17 = f17 at *; subst e17
     generalize f 21 = f21 at *; subst e21
     rotate_left
     ·have e17 := dv6 (hdep ⟨7, .guard⟩ (by simp) rfl) rfl
      have e22 := dv6 (hdep ⟨12, .data⟩ (by simp) rfl) rfl
      simp only [List.getD_cons_succ, List.getD_cons_zero] at e17 e22
      generalize f 17 = f17 at *; subst e17
      generalize f 22 = f22 at *; subst e22
      have hB0 := HBW.out.trans (hB.mono HBW.out.size)
      go_simp
      refine (r_Valid nb A' B' n' c' m' d' ln ld wx true (HN1.out.below hB0) (HN2.out.below hB0) HSN.out.1 HSN.out.2 HVD).mono ?_
      rintro e0 w' ⟨rfl, hb⟩
      exact hK (.bool true) w' (gv6 rfl) hb (hB.trans (hb.mono hB.size)) (nb6 rfl rfl)
     have e17 := dv6 (hdep ⟨7, .guard⟩ (by simp) rfl) rfl
     have e23 := dv6 (hdep ⟨13, .data⟩ (by simp) rfl) rfl
     simp only [List.getD_cons_succ, List.getD_cons_zero] at e17 e23
     generalize f 17 = f17 at *; subst e17
     generalize f 23 = f23 at *; subst e23
     rotate_left
     have e17 := dv6 (hdep ⟨7, .data⟩ (by simp) rfl) rfl
     have e24 := dv6 (hdep ⟨14, .data⟩ (by simp) rfl) rfl
     simp only [List.getD_cons_succ, List.getD_cons_zero] at e17 e24
     generalize f 17 = f17 at *; subst e17
     generalize f 24 = f24 at *; subst e24
     rotate_left
     have e25 := dv6 (hdep ⟨15, .data⟩ (by simp) rfl) rfl
     simp only [List.getD_cons_succ, List.getD_cons_zero] at e25
     generalize f 25 = f25 at *; subst e25
     rotate_left
     have e26 := dv6 (hdep ⟨16, .guard⟩ (by simp) rfl) rfl
     simp only [List.getD_cons_succ, List.getD_cons_zero] at e26
     generalize f 26 = f26 at *; subst e26
     rotate_left
     have e26 := dv6 (hdep ⟨16, .guard⟩ (by simp) rfl) rfl
     simp only [List.getD_cons_succ, List.getD_cons_zero] at e26
     generalize f 26 = f26 at *; subst e26
     rotate_left
     have e26 := dv6 (hdep ⟨16, .guard⟩ (by simp) rfl) rfl
     have e27 := dv6 (hdep ⟨17, .data⟩ (by simp) rfl) rfl
     have e28 := dv6 (hdep ⟨18, .data⟩ (by simp) rfl) rfl
     simp only [List.getD_cons_succ, List.getD_cons_zero] at e26 e27 e28
     generalize f 26 = f26 at *; subst e26
     generalize f 27 = f27 at *; subst e27
     generalize f 28 = f28 at *; subst e28
     rotate_left
     have e26 := dv6 (hdep ⟨16, .guard⟩ (by simp) rfl) rfl
     have e29 := dv6 (hdep ⟨19, .data⟩ (by simp) rfl) rfl
     simp only [List.getD_cons_succ, List.getD_cons_zero] at e26 e29
     generalize f 26 = f26 at *; subst e26
     generalize f 29 = f29 at *; subst e29
     rotate_left
     have e26 := dv6 (hdep ⟨16, .guard⟩ (by simp) rfl) rfl
     have e30 := dv6 (hdep ⟨20, .data⟩ (by simp) rfl) rfl
     simp only [List.getD_cons_succ, List.getD_cons_zero] at e26 e30
     generalize f 26 = f26 at *; subst e26
     generalize f 30 = f30 at *; subst e30
     rotate_left
     ·have e26 := dv6 (hdep ⟨16, .guard⟩ (by simp) rfl) rfl
      have e31 := dv6 (hdep ⟨21, .data⟩ (by simp) rfl) rfl
      simp only [List.getD_cons_succ, List.getD_cons_zero] at e26 e31
      generalize f 26 = f26 at *; subst e26
      generalize f 31 = f31 at *; subst e31
      have hB0 := HBW.out.trans (hB.mono HBW.out.size)
      go_simp
      refine (r_SignV _ q sg wx (HIN.out.below hB0) HSG).mono ?_
      rintro e0 w' ⟨rfl, hb⟩
      exact hK (.int .i64 sg) w' (gv6 rfl) hb (hB.trans (hb.mono hB.size)) (nb6 rfl rfl)
     have e26 := dv6 (hdep ⟨16, .guard⟩ (by simp) rfl) rfl
     have e32 := dv6 (hdep ⟨22, .data⟩ (by simp) rfl) rfl
     simp only [List.getD_cons_succ, List.getD_cons_zero] at e26 e32
     generalize f 26 = f26 at *; subst e26
     generalize f 32 = f32 at *; subst e32
     have hsz := HSZ.out
     rotate_left
     have e26 := dv6 (hdep ⟨16, .data⟩ (by simp) rfl) rfl
     have e33 := dv6 (hdep ⟨23, .data⟩ (by simp) rfl) rfl
     simp only [List.getD_cons_succ, List.getD_cons_zero] at e26 e33
     generalize f 26 = f26 at *; subst e26
     generalize f 33 = f33 at *; subst e33
     rotate_left
     have e34 := dv6 (hdep ⟨24, .data⟩ (by simp) rfl) rfl
     simp only [List.getD_cons_succ, List.getD_cons_zero] at e34
     generalize f 34 = f34 at *; subst e34
     rotate_left
     have e35 := dv6 (hdep ⟨25, .guard⟩ (by simp) rfl) rfl
     simp only [List.getD_cons_succ, List.getD_cons_zero] at e35
     generalize f 35 = f35 at *; subst e35
     rotate_left
     have e35 := dv6 (hdep ⟨25, .guard⟩ (by simp) rfl) rfl
     simp only [List.getD_cons_succ, List.getD_cons_zero] at e35
     generalize f 35 = f35 at *; subst e35
     rotate_left
     have e35 := dv6 (hdep ⟨25, .guard⟩ (by simp) rfl) rfl
     simp only [List.getD_cons_succ, List.getD_cons_zero] at e35
     generalize f 35 = f35 at *; subst e35
     rotate_left
     have e38 := dv6 (hdep ⟨28, .guard⟩ (by simp) rfl) rfl
     simp only [List.getD_cons_succ, List.getD_cons_zero] at e38
     generalize f 38 = f38 at *; subst e38
     rotate_left
     have e38 := dv6 (hdep ⟨28, .guard⟩ (by simp) rfl) rfl
     simp only [List.getD_cons_succ, List.getD_cons_zero] at e38
     generalize f 38 = f38 at *; subst e38
     rotate_left
     have e38 := dv6 (hdep ⟨28, .guard⟩ (by simp) rfl) rfl
     simp only [List.getD_cons_succ, List.getD_cons_zero] at e38
     generalize f 38 = f38 at *; subst e38
     rotate_left
     have e38 := dv6 (hdep ⟨28, .guard⟩ (by simp) rfl) rfl
     simp only [List.getD_cons_succ, List.getD_cons_zero] at e38
     generalize f 38 = f38 at *; subst e38
     rotate_left
     have e38 := dv6 (hdep ⟨28, .guard⟩ (by simp) rfl) rfl
     simp only [List.getD_cons_succ, List.getD_cons_zero] at e38
     generalize f 38 = f38 at *; subst e38
     rotate_left
     have e38 := dv6 (hdep ⟨28, .guard⟩ (by simp) rfl) rfl
     simp only [List.getD_cons_succ, List.getD_cons_zero] at e38
     generalize f 38 = f38 at *; subst e38
     rotate_left
     have e38 := dv6 (hdep ⟨28, .guard⟩ (by simp) rfl) rfl
     simp only [List.getD_cons_succ, List.getD_cons_zero] at e38
     generalize f 38 = f38 at *; subst e38
     rotate_left
     have e38 := dv6 (hdep ⟨28, .guard⟩ (by simp) rfl) rfl
     simp only [List.getD_cons_succ, List.getD_cons_zero] at e38
     generalize f 38 = f38 at *; subst e38
     rotate_left
     have e38 := dv6 (hdep ⟨28, .guard⟩ (by simp) rfl) rfl
     simp only [List.getD_cons_succ, List.getD_cons_zero] at e38
     generalize f 38 = f38 at *; subst e38
     rotate_left
     have e38 := dv6 (hdep ⟨28, .guard⟩ (by simp) rfl) rfl
     simp only [List.getD_cons_succ, List.getD_cons_zero] at e38
     generalize f 38 = f38 at *; subst e38
     rotate_left
     have e38 := dv6 (hdep ⟨28, .guard⟩ (by simp) rfl) rfl
     simp only [List.getD_cons_succ, List.getD_cons_zero] at e38
     generalize f 38 = f38 at *; subst e38
     rotate_left
     have e38 := dv6 (hdep ⟨28, .guard⟩ (by simp) rfl) rfl
     simp only [List.getD_cons_succ, List.getD_cons_zero] at e38
     generalize f 38 = f38 at *; subst e38
     rotate_left
     have e38 := dv6 (hdep ⟨28, .guard⟩ (by simp) rfl) rfl
     simp only [List.getD_cons_succ, List.getD_cons_zero] at e38
     generalize f 38 = f38 at *; subst e38
     rotate_left
     have e35 := dv6 (hdep ⟨25, .guard⟩ (by simp) rfl) rfl
     simp only [List.getD_cons_succ, List.getD_cons_zero] at e35
     generalize f 35 = f35 at *; subst e35
     rotate_left
     have e35 := dv6 (hdep ⟨25, .data⟩ (by simp) rfl) rfl
     have e52 := dv6 (hdep ⟨42, .data⟩ (by simp) rfl) rfl
     simp only [List.getD_cons_succ, List.getD_cons_zero] at e35 e52
     generalize f 35 = f35 at *; subst e35
     generalize f 52 = f52 at *; subst e52
     rotate_left
     all_goals go_simp
     all_goals exact hK _ wx (gv6 rfl) (Below.refl _ _) hB (nb6 rfl rfl)
    case finc =>
     intro f wx hB hG hne
     have e53 := dv6 (a := f 53) (hG 43 (by decide)) rfl
     clear hG hne
     simp only [frontAct, List.foldl_cons, List.foldl_nil, List.setIfInBounds_toArray, List.set_cons_succ, List.set_cons_zero]
     generalize f 53 = f53 at *
     subst e53
     refine wpAny_done (by kernel_rfl) ?_ _
     go_wp2_with fail
     go_ret
     exact ⟨ret_bool (no_bool HNO), HBW.out.trans (hB.mono HBW.out.size)⟩
   have HSZ : Hid ((sg == 0) = false) := Lib.hid (by rw [← HSG.out, sign_zero]; exact decide_eq_false hq)
   have HQ0 := Lib.hid hq
   clear hq hsg
   by_cases h0 : k = 0
   ·have HK0 : Hid (decide (0 < k) = false) := Lib.hid (decide_eq_false (by omega))
    have HYES : Hid (Hid (∀ j, j < k + 1 → okAt l j)) := Lib.hid (Lib.hid (vraw_upto HO.out (fun m hm2 => by
     obtain rfl : (e, q) = m := Option.some.inj (HM.out.symm.trans hm2)
     exact ⟨HKE.out, HQ0.out, fun h => absurd h (by omega)⟩)))
    clear h0
    go_upto_region 4 with (fail)
    refine wp_region6 44 [10, 11, 12, 13, 14, 15, 16, 17, 18, 19, 20, 21, 22, 23, 24, 25, 26, 27, 28, 29, 30, 31, 32, 33, 34, 35, 36, 37, 38, 39, 40, 41, 42, 43, 44, 45, 46, 47, 48, 49, 50, 51, 52, 53] [.val (.slice (some ⟨b, o, none⟩) l.length cap), .val (.int .i64 (k : Int)), .val (.pointer (some ⟨b, o + k * 6, none⟩)), .val (.pointer (some ⟨b, o + k * 6, none⟩)), .val (.agg #[.int .i64 e.1, .int .i64 e.2.1, .int .i64 e.2.2]), .val (.bool true), .val (.bool false), .val (.bool false), .val (.slice (some ⟨b, o, none⟩) l.length cap), .val (.int .i64 (k : Int)), .val (.pointer (some ⟨b, o + k * 6, none⟩)), .val (.pointer (some ⟨b, o + k * 6 + 3, none⟩)), .val (.agg #[.bool nb, .slice A' n' c', .slice B' m' d']), .val (.bool true), .val (.bool false), .val (.bool false), .val (.bool false), .val (.slice (some ⟨b, o, none⟩) l.length cap), .val (.int .i64 (k : Int)), .val (.pointer (some ⟨b, o + k * 6, none⟩)), .val (.pointer (some ⟨b, o + k * 6 + 3, none⟩)), .val (.agg #[.bool nb, .slice A' n' c', .slice B' m' d']), .val (.int .i64 sg), .val (.bool false), .val (.bool false), .val (.bool false), .val (.int .i64 (k : Int)), .val (.bool false), .val (.bool false), .val (undef), .val (undef), .val (undef), .val (undef), .val (undef), .val (undef), .val (undef), .val (undef), .val (undef), .val (undef), .val (undef), .val (undef), .val (undef), .val (.bool false), .val (.bool false)] (by kernel_rfl) (by kernel_rfl) (by kernel_rfl) (by kernel_rfl) ?stepd 0 (by kernel_rfl) _ rfl ?find
    case stepd =>
     intro i hi oi ho f wx hB hdep K hK
     simp only [frontAct, List.foldl_cons, List.foldl_nil, List.setIfInBounds_toArray, List.set_cons_succ, List.set_cons_zero] at hK ⊢
     obtain ⟨x0, x1, x2, x3, x4, x5⟩ := HAT.out.below hB HLT.out
     obtain rfl | rfl | rfl | rfl | rfl | rfl | rfl | rfl | rfl | rfl | rfl | rfl | rfl | rfl | rfl | rfl | rfl | rfl | rfl | rfl | rfl | rfl | rfl | rfl | rfl | rfl | rfl | rfl | rfl | rfl | rfl | rfl | rfl | rfl | rfl | rfl | rfl | rfl | rfl | rfl | rfl | rfl | rfl | rfl : i = 0 ∨ i = 1 ∨ i = 2 ∨ i = 3 ∨ i = 4 ∨ i = 5 ∨ i = 6 ∨ i = 7 ∨ i = 8 ∨ i = 9 ∨ i = 10 ∨ i = 11 ∨ i = 12 ∨ i = 13 ∨ i = 14 ∨ i = 15 ∨ i = 16 ∨ i = 17 ∨ i = 18 ∨ i = 19 ∨ i = 20 ∨ i = 21 ∨ i = 22 ∨ i = 23 ∨ i = 24 ∨ i = 25 ∨ i = 26 ∨ i = 27 ∨ i = 28 ∨ i = 29 ∨ i = 30 ∨ i = 31 ∨ i = 32 ∨ i = 33 ∨ i = 34 ∨ i = 35 ∨ i = 36 ∨ i = 37 ∨ i = 38 ∨ i = 39 ∨ i = 40 ∨ i = 41 ∨ i = 42 ∨ i = 43 := by omega
     all_goals
      obtain rfl := Option.some.inj ho
      simp only [Act.put, List.setIfInBounds_toArray, List.set_cons_succ, List.set_cons_zero] at hK
     rotate_left
     rotate_left
     have e10 := dv6 (hdep ⟨0, .data⟩ (by simp) rfl) rfl
     have e11 := dv6 (hdep ⟨1, .data⟩ (by simp) rfl) rfl
     simp only [List.getD_cons_succ, List.getD_cons_zero] at e10 e11
     generalize f 10 = f10 at *; subst e10
     generalize f 11 = f11 at *; subst e11
     rotate_left
     have e12 := dv6 (hdep ⟨2, .data⟩ (by simp) rfl) rfl
     simp only [List.getD_cons_succ, List.getD_cons_zero] at e12
     generalize f 12 = f12 at *; subst e12
     rotate_left
     have e13 := dv6 (hdep ⟨3, .data⟩ (by simp) rfl) rfl
     simp only [List.getD_cons_succ, List.getD_cons_zero] at e13
     generalize f 13 = f13 at *; subst e13
     rotate_left
     ·have e14 := dv6 (hdep ⟨4, .data⟩ (by simp) rfl) rfl
      simp only [List.getD_cons_succ, List.getD_cons_zero] at e14
      generalize f 14 = f14 at *; subst e14
      go_simp
      refine (r2_possible e.1 e.2.1 e.2.2 wx true HKN).mono ?_
      rintro e0 w' ⟨rfl, hb⟩
      exact hK (.bool true) w' (gv6 rfl) hb (hB.trans (hb.mono hB.size)) (nb6 rfl rfl)
     have e15 := dv6 (hdep ⟨5, .data⟩ (by simp) rfl) rfl
     simp only [List.getD_cons_succ, List.getD_cons_zero] at e15
     generalize f 15 = f15 at *; subst e15
     rotate_left
     have e16 := dv6 (hdep ⟨6, .data⟩ (by simp) rfl) rfl
     simp only [List.getD_cons_succ, List.getD_cons_zero] at e16
     generalize f 16 = f16 at *; subst e16
     rotate_left
     have e17 := dv6 (hdep ⟨7, .guard⟩ (by simp) rfl) rfl
     simp only [List.getD_cons_succ, List.getD_cons_zero] at e17
     generalize f 17 = f17 at *; subst e17
     rotate_left
     have e17 := dv6 (hdep ⟨7, .guard⟩ (by simp) rfl) rfl
     simp only [List.getD_cons_succ, List.getD_cons_zero] at e17
     generalize f 17 = f17 at *; subst e17
     rotate_left
     have e17 := dv6 (hdep ⟨7, .guard⟩ (by simp) rfl) rfl
     have e18 := dv6 (hdep ⟨8, .data⟩ (by simp) rfl) rfl
     have e19 := dv6 (hdep ⟨9, .data⟩ (by simp) rfl) rfl
     simp only [List.getD_cons_succ, List.getD_cons_zero] at e17 e18 e19
     generalize f 17 = f17 at *; subst e17
     generalize f 18 = f18 at *; subst e18
     generalize f 19 = f19 at *; subst e19
     rotate_left
     have e17 := dv6 (hdep ⟨7, .guard⟩ (by simp) rfl) rfl
     have e20 := dv6 (hdep ⟨10, .data⟩ (by simp) rfl) rfl
     simp only [List.getD_cons_succ, List.getD_cons_zero] at e17 e20
     generalize f 17 = f17 at *; subst e17
     generalize f 20 = f20 at *; subst e20
     rotate_left
     have e17 := dv6 (hdep ⟨7, .guard⟩ (by simp) rfl) rfl
     have e21 := dv6 (hdep ⟨11, .data⟩ (by simp) rfl) rfl
     simp only [List.getD_cons_succ, List.getD_cons_zero] at e17 e21
     generalize f 17 = f17 at *; subst e17
     generalize f 21 = f21 at *; subst e21
     rotate_left
     ·have e17 := dv6 (hdep ⟨7, .guard⟩ (by simp) rfl) rfl
      have e22 := dv6 (hdep ⟨12, .data⟩ (by simp) rfl) rfl
      simp only [List.getD_cons_succ, List.getD_cons_zero] at e17 e22
      generalize f 17 = f17 at *; subst e17
      generalize f 22 = f22 at *; subst e22
      have hB0 := HBW.out.trans (hB.mono HBW.out.size)
      go_simp
      refine (r_Valid nb A' B' n' c' m' d' ln ld wx true (HN1.out.below hB0) (HN2.out.below hB0) HSN.out.1 HSN.out.2 HVD).mono ?_
      rintro e0 w' ⟨rfl, hb⟩
      exact hK (.bool true) w' (gv6 rfl) hb (hB.trans (hb.mono hB.size)) (nb6 rfl rfl)
     have e17 := dv6 (hdep ⟨7, .guard⟩ (by simp) rfl) rfl
     have e23 := dv6 (hdep ⟨13, .data⟩ (by simp) rfl) rfl
     simp only [List.getD_cons_succ, List.getD_cons_zero] at e17 e23
     generalize f 17 = f17 at *; subst e17
     generalize f 23 = f23 at *; subst e23
     rotate_left
     have e17 := dv6 (hdep ⟨7, .data⟩ (by simp) rfl) rfl
     have e24 := dv6 (hdep ⟨14, .data⟩ (by simp) rfl) rfl
     simp only [List.getD_cons_succ, List.getD_cons_zero] at e17 e24
     generalize f 17 = f17 at *; subst e17
     generalize f 24 = f24 at *; subst e24
     rotate_left
     have e25 := dv6 (hdep ⟨15, .data⟩ (by simp) rfl) rfl
     simp only [List.getD_cons_succ, List.getD_cons_zero] at e25
     generalize f 25 = f25 at *; subst e25
     rotate_left
     have e26 := dv6 (hdep ⟨16, .guard⟩ (by simp) rfl) rfl
     simp only [List.getD_cons_succ, List.getD_cons_zero] at e26
     generalize f 26 = f26 at *; subst e26
     rotate_left
     have e26 := dv6 (hdep ⟨16, .guard⟩ (by simp) rfl) rfl
     simp only [List.getD_cons_succ, List.getD_cons_zero] at e26
     generalize f 26 = f26 at *; subst e26
     rotate_left
     have e26 := dv6 (hdep ⟨16, .guard⟩ (by simp) rfl) rfl
     have e27 := dv6 (hdep ⟨17, .data⟩ (by simp) rfl) rfl
     have e28 := dv6 (hdep ⟨18, .data⟩ (by simp) rfl) rfl
     simp only [List.getD_cons_succ, List.getD_cons_zero] at e26 e27 e28
     generalize f 26 = f26 at *; subst e26
     generalize f 27 = f27 at *; subst e27
     generalize f 28 = f28 at *; subst e28
     rotate_left
     have e26 := dv6 (hdep ⟨16, .guard⟩ (by simp) rfl) rfl
     have e29 := dv6 (hdep ⟨19, .data⟩ (by simp) rfl) rfl
     simp only [List.getD_cons_succ, List.getD_cons_zero] at e26 e29
     generalize f 26 = f26 at *; subst e26
     generalize f 29 = f29 at *; subst e29
     rotate_left
     have e26 := dv6 (hdep ⟨16, .guard⟩ (by simp) rfl) rfl
     have e30 := dv6 (hdep ⟨20, .data⟩ (by simp) rfl) rfl
     simp only [List.getD_cons_succ, List.getD_cons_zero] at e26 e30
     generalize f 26 = f26 at *; subst e26
     generalize f 30 = f30 at *; subst e30
     rotate_left
     ·have e26 := dv6 (hdep ⟨16, .guard⟩ (by simp) rfl) rfl
      have e31 := dv6 (hdep ⟨21, .data⟩ (by simp) rfl) rfl
      simp only [List.getD_cons_succ, List.getD_cons_zero] at e26 e31
      generalize f 26 = f26 at *; subst e26
      generalize f 31 = f31 at *; subst e31
      have hB0 := HBW.out.trans (hB.mono HBW.out.size)
      go_simp
      refine (r_SignV _ q sg wx (HIN.out.below hB0) HSG).mono ?_
      rintro e0 w' ⟨rfl, hb⟩
      exact hK (.int .i64 sg) w' (gv6 rfl) hb (hB.trans (hb.mono hB.size)) (nb6 rfl rfl)
     have e26 := dv6 (hdep ⟨16, .guard⟩ (by simp) rfl) rfl
     have e32 := dv6 (hdep ⟨22, .data⟩ (by simp) rfl) rfl
     simp only [List.getD_cons_succ, List.getD_cons_zero] at e26 e32
     generalize f 26 = f26 at *; subst e26
     generalize f 32 = f32 at *; subst e32
     have hsz := HSZ.out
     rotate_left
     have e26 := dv6 (hdep ⟨16, .data⟩ (by simp) rfl) rfl
     have e33 := dv6 (hdep ⟨23, .data⟩ (by simp) rfl) rfl
     simp only [List.getD_cons_succ, List.getD_cons_zero] at e26 e33
     generalize f 26 = f26 at *; subst e26
     generalize f 33 = f33 at *; subst e33
     rotate_left
     have e34 := dv6 (hdep ⟨24, .data⟩ (by simp) rfl) rfl
     simp only [List.getD_cons_succ, List.getD_cons_zero] at e34
     generalize f 34 = f34 at *; subst e34
     rotate_left
     have e35 := dv6 (hdep ⟨25, .guard⟩ (by simp) rfl) rfl
     simp only [List.getD_cons_succ, List.getD_cons_zero] at e35
     generalize f 35 = f35 at *; subst e35
     rotate_left
     have e35 := dv6 (hdep ⟨25, .guard⟩ (by simp) rfl) rfl
     have e36 := dv6 (hdep ⟨26, .data⟩ (by simp) rfl) rfl
     simp only [List.getD_cons_succ, List.getD_cons_zero] at e35 e36
     generalize f 35 = f35 at *; subst e35
     generalize f 36 = f36 at *; subst e36
     have hk0 := HK0.out
     rotate_left
     have e35 := dv6 (hdep ⟨25, .guard⟩ (by simp) rfl) rfl
     have e37 := dv6 (hdep ⟨27, .data⟩ (by simp) rfl) rfl
     simp only [List.getD_cons_succ, List.getD_cons_zero] at e35 e37
     generalize f 35 = f35 at *; subst e35
     generalize f 37 = f37 at *; subst e37
     rotate_left
     have e38 := dv6 (hdep ⟨28, .guard⟩ (by simp) rfl) rfl
     simp only [List.getD_cons_succ, List.getD_cons_zero] at e38
     generalize f 38 = f38 at *; subst e38
     rotate_left
     have e38 := dv6 (hdep ⟨28, .guard⟩ (by simp) rfl) rfl
     simp only [List.getD_cons_succ, List.getD_cons_zero] at e38
     generalize f 38 = f38 at *; subst e38
     rotate_left
     have e38 := dv6 (hdep ⟨28, .guard⟩ (by simp) rfl) rfl
     simp only [List.getD_cons_succ, List.getD_cons_zero] at e38
     generalize f 38 = f38 at *; subst e38
     rotate_left
     have e38 := dv6 (hdep ⟨28, .guard⟩ (by simp) rfl) rfl
     simp only [List.getD_cons_succ, List.getD_cons_zero] at e38
     generalize f 38 = f38 at *; subst e38
     rotate_left
     have e38 := dv6 (hdep ⟨28, .guard⟩ (by simp) rfl) rfl
     simp only [List.getD_cons_succ, List.getD_cons_zero] at e38
     generalize f 38 = f38 at *; subst e38
     rotate_left
     have e38 := dv6 (hdep ⟨28, .guard⟩ (by simp) rfl) rfl
     simp only [List.getD_cons_succ, List.getD_cons_zero] at e38
     generalize f 38 = f38 at *; subst e38
     rotate_left
     have e38 := dv6 (hdep ⟨28, .guard⟩ (by simp) rfl) rfl
     simp only [List.getD_cons_succ, List.getD_cons_zero] at e38
     generalize f 38 = f38 at *; subst e38
     rotate_left
     have e38 := dv6 (hdep ⟨28, .guard⟩ (by simp) rfl) rfl
     simp only [List.getD_cons_succ, List.getD_cons_zero] at e38
     generalize f 38 = f38 at *; subst e38
     rotate_left
     have e38 := dv6 (hdep ⟨28, .guard⟩ (by simp) rfl) rfl
     simp only [List.getD_cons_succ, List.getD_cons_zero] at e38
     generalize f 38 = f38 at *; subst e38
     rotate_left
     have e38 := dv6 (hdep ⟨28, .guard⟩ (by simp) rfl) rfl
     simp only [List.getD_cons_succ, List.getD_cons_zero] at e38
     generalize f 38 = f38 at *; subst e38
     rotate_left
     have e38 := dv6 (hdep ⟨28, .guard⟩ (by simp) rfl) rfl
     simp only [List.getD_cons_succ, List.getD_cons_zero] at e38
     generalize f 38 = f38 at *; subst e38
     rotate_left
     have e38 := dv6 (hdep ⟨28, .guard⟩ (by simp) rfl) rfl
     simp only [List.getD_cons_succ, List.getD_cons_zero] at e38
     generalize f 38 = f38 at *; subst e38
     rotate_left
     have e38 := dv6 (hdep ⟨28, .guard⟩ (by simp) rfl) rfl
     simp only [List.getD_cons_succ, List.getD_cons_zero] at e38
     generalize f 38 = f38 at *; subst e38
     rotate_left
     have e35 := dv6 (hdep ⟨25, .guard⟩ (by simp) rfl) rfl
     have e38 := dv6 (hdep ⟨28, .data⟩ (by simp) rfl) rfl
     have e51 := dv6 (hdep ⟨41, .data⟩ (by simp) rfl) rfl
     simp only [List.getD_cons_succ, List.getD_cons_zero] at e35 e38 e51
     generalize f 35 = f35 at *; subst e35
     generalize f 38 = f38 at *; subst e38
     generalize f 51 = f51 at *; subst e51
     rotate_left
     have e35 := dv6 (hdep ⟨25, .data⟩ (by simp) rfl) rfl
     have e52 := dv6 (hdep ⟨42, .data⟩ (by simp) rfl) rfl
     simp only [List.getD_cons_succ, List.getD_cons_zero] at e35 e52
     generalize f 35 = f35 at *; subst e35
     generalize f 52 = f52 at *; subst e52
     rotate_left
     all_goals go_simp
     all_goals exact hK _ wx (gv6 rfl) (Below.refl _ _) hB (nb6 rfl rfl)
    case find =>
     intro f wx hB hG hne
     have e53 := dv6 (a := f 53) (hG 43 (by decide)) rfl
     clear hG hne
     simp only [frontAct, List.foldl_cons, List.foldl_nil, List.setIfInBounds_toArray, List.set_cons_succ, List.set_cons_zero]
     generalize f 53 = f53 at *
     subst e53
     refine wpAny_done (by kernel_rfl) ?_ _
     go_wp2_with fail
     exact ⟨⟨k + 1, HK.out, congrArg (Value.int _) (by omega), HBW.out.trans (hB.mono HBW.out.size), HYES.out⟩, by simp [intOf]; have := HK.out; omega⟩
   have HK0 : Hid (decide (0 < k) = true) := Lib.hid (decide_eq_true (by omega))
   obtain ⟨⟨e1, q1⟩, hm1⟩ : ∃ m, l[k - 1]? = some m := ⟨l[k - 1], List.getElem?_eq_getElem (by have := HK.out; omega)⟩
   obtain ⟨b1, o1, nb1, A1, n1, c1, B1, m1, d1, heq, hb1, hat1, _⟩ := HPW.out.at6 hm1
   obtain ⟨rfl, rfl⟩ : b1 = b ∧ o1 = o := by simpa [eq_comm] using heq
   obtain ⟨k1, hk1⟩ : ∃ k1, k - 1 = k1 := ⟨_, rfl⟩
   rw [hk1] at hat1
   have HAP : Hid (At6 wr.drew b1 (o1 + k1 * 6) _ _ _ _ _ _) := Lib.hid (hat1.below HBW.out hb1)
   have HW1 : Hid (IntKind.i64.wrap ((k : Int) - 1) = (k1 : Int)) := Lib.hid (by rw [show (k : Int) - 1 = (k1 : Int) by omega]; exact IntWalk.i64_in _ (by have := HK.out; omega))
   have HW2 : Hid ((k1 : Int) < (l.length : Int)) := Lib.hid (by have := HK.out; omega)
   obtain ⟨V2, hV2⟩ : ∃ V2, lexI (e.1, e.2.1, e.2.2) (e1.1, e1.2.1, e1.2.2) = V2 := ⟨_, rfl⟩
   have HV2 := Lib.hid hV2
   have hle : lexI e1 e = - V2 := by rw [lexI_anti]; exact congrArg (fun z => -z) hV2
   have HORD : Hid ((0 ≤ V2 → Hid ((V = true ↔ vraw l) ∧ k < l.length ∧ ¬ okAt l k)) ∧ (¬ 0 ≤ V2 → Hid (∀ j, j < k + 1 → okAt l j))) := Lib.hid ⟨fun hv => Lib.hid ⟨HV.out, HK.out, fun ho => by
     have h3 := (ho _ HM.out).2.2 (by omega) (e1, q1) hm1
     have h3' : 0 < lexI e1 e := h3
     rw [hle] at h3'
     omega⟩, fun hv => Lib.hid (vraw_upto HO.out (fun m hm2 => by
     obtain rfl : (e, q) = m := Option.some.inj (HM.out.symm.trans hm2)
     refine ⟨HKE.out, HQ0.out, fun _ p hp => ?_⟩
     obtain rfl : (e1, q1) = p := Option.some.inj (hm1.symm.trans hp)
     show 0 < lexI e1 e
     rw [hle]; omega))⟩
   clear hm1 hat1 hb1 heq h0 hV2 hle hk1
   go_upto_region 4 with (fail)
   refine wp_region6 44 [10, 11, 12, 13, 14, 15, 16, 17, 18, 19, 20, 21, 22, 23, 24, 25, 26, 27, 28, 29, 30, 31, 32, 33, 34, 35, 36, 37, 38, 39, 40, 41, 42, 43, 44, 45, 46, 47, 48, 49, 50, 51, 52, 53] [.val (.slice (some ⟨b1, o1, none⟩) l.length cap), .val (.int .i64 (k : Int)), .val (.pointer (some ⟨b1, o1 + k * 6, none⟩)), .val (.pointer (some ⟨b1, o1 + k * 6, none⟩)), .val (.agg #[.int .i64 e.1, .int .i64 e.2.1, .int .i64 e.2.2]), .val (.bool true), .val (.bool false), .val (.bool false), .val (.slice (some ⟨b1, o1, none⟩) l.length cap), .val (.int .i64 (k : Int)), .val (.pointer (some ⟨b1, o1 + k * 6, none⟩)), .val (.pointer (some ⟨b1, o1 + k * 6 + 3, none⟩)), .val (.agg #[.bool nb, .slice A' n' c', .slice B' m' d']), .val (.bool true), .val (.bool false), .val (.bool false), .val (.bool false), .val (.slice (some ⟨b1, o1, none⟩) l.length cap), .val (.int .i64 (k : Int)), .val (.pointer (some ⟨b1, o1 + k * 6, none⟩)), .val (.pointer (some ⟨b1, o1 + k * 6 + 3, none⟩)), .val (.agg #[.bool nb, .slice A' n' c', .slice B' m' d']), .val (.int .i64 sg), .val (.bool false), .val (.bool false), .val (.bool false), .val (.int .i64 (k : Int)), .val (.bool true), .val (.bool true), .val (.slice (some ⟨b1, o1, none⟩) l.length cap), .val (.int .i64 (k : Int)), .val (.pointer (some ⟨b1, o1 + k * 6, none⟩)), .val (.pointer (some ⟨b1, o1 + k * 6, none⟩)), .val (.agg #[.int .i64 e.1, .int .i64 e.2.1, .int .i64 e.2.2]), .val (.slice (some ⟨b1, o1, none⟩) l.length cap), .val (.int .i64 (k : Int)), .val (.int .i64 (k1 : Int)), .val (.pointer (some ⟨b1, o1 + k1 * 6, none⟩)), .val (.pointer (some ⟨b1, o1 + k1 * 6, none⟩)), .val (.agg #[.int .i64 e1.1, .int .i64 e1.2.1, .int .i64 e1.2.2]), .val (.int .i64 V2), .val (.bool (decide (0 ≤ V2))), .val (.bool (decide (0 ≤ V2))), .val (.bool (decide (0 ≤ V2)))] (by kernel_rfl) (by kernel_rfl) (by kernel_rfl) (by kernel_rfl) ?stepe 0 (by kernel_rfl) _ rfl ?fine
   case stepe =>
    intro i hi oi ho f wx hB hdep K hK
    simp only [frontAct, List.foldl_cons, List.foldl_nil, List.setIfInBounds_toArray, List.set_cons_succ, List.set_cons_zero] at hK ⊢
    obtain ⟨x0, x1, x2, x3, x4, x5⟩ := HAT.out.below hB HLT.out
    obtain ⟨z0, z1, z2, z3, z4, z5⟩ := HAP.out.below hB HLT.out
    obtain rfl | rfl | rfl | rfl | rfl | rfl | rfl | rfl | rfl | rfl | rfl | rfl | rfl | rfl | rfl | rfl | rfl | rfl | rfl | rfl | rfl | rfl | rfl | rfl | rfl | rfl | rfl | rfl | rfl | rfl | rfl | rfl | rfl | rfl | rfl | rfl | rfl | rfl | rfl | rfl | rfl | rfl | rfl | rfl : i = 0 ∨ i = 1 ∨ i = 2 ∨ i = 3 ∨ i = 4 ∨ i = 5 ∨ i = 6 ∨ i = 7 ∨ i = 8 ∨ i = 9 ∨ i = 10 ∨ i = 11 ∨ i = 12 ∨ i = 13 ∨ i = 14 ∨ i = 15 ∨ i = 16 ∨ i = 17 ∨ i = 18 ∨ i = 19 ∨ i = 20 ∨ i = 21 ∨ i = 22 ∨ i = 23 ∨ i = 24 ∨ i = 25 ∨ i = 26 ∨ i = 27 ∨ i = 28 ∨ i = 29 ∨ i = 30 ∨ i = 31 ∨ i = 32 ∨ i = 33 ∨ i = 34 ∨ i = 35 ∨ i = 36 ∨ i = 37 ∨ i = 38 ∨ i = 39 ∨ i = 40 ∨ i = 41 ∨ i = 42 ∨ i = 43 := by omega
    all_goals
     obtain rfl := Option.some.inj ho
     simp only [Act.put, List.setIfInBounds_toArray, List.set_cons_succ, List.set_cons_zero] at hK
    rotate_left
    rotate_left
    have e10 := dv6 (hdep ⟨0, .data⟩ (by simp) rfl) rfl
    have e11 := dv6 (hdep ⟨1, .data⟩ (by simp) rfl) rfl
    simp only [List.getD_cons_succ, List.getD_cons_zero] at e10 e11
    generalize f 10 = f10 at *; subst e10
    generalize f 11 = f11 at *; subst e11
    rotate_left
    have e12 := dv6 (hdep ⟨2, .data⟩ (by simp) rfl) rfl
    simp only [List.getD_cons_succ, List.getD_cons_zero] at e12
    generalize f 12 = f12 at *; subst e12
    rotate_left
    have e13 := dv6 (hdep ⟨3, .data⟩ (by simp) rfl) rfl
    simp only [List.getD_cons_succ, List.getD_cons_zero] at e13
    generalize f 13 = f13 at *; subst e13
    rotate_left
    ·have e14 := dv6 (hdep ⟨4, .data⟩ (by simp) rfl) rfl
     simp only [List.getD_cons_succ, List.getD_cons_zero] at e14
     generalize f 14 = f14 at *; subst e14
     go_simp
     refine (r2_possible e.1 e.2.1 e.2.2 wx true HKN).mono ?_
     rintro e0 w' ⟨rfl, hb⟩
     exact hK (.bool true) w' (gv6 rfl) hb (hB.trans (hb.mono hB.size)) (nb6 rfl rfl)
    have e15 := dv6 (hdep ⟨5, .data⟩ (by simp) rfl) rfl
    simp only [List.getD_cons_succ, List.getD_cons_zero] at e15
    generalize f 15 = f15 at *; subst e15
    rotate_left
    have e16 := dv6 (hdep ⟨6, .data⟩ (by simp) rfl) rfl
    simp only [List.getD_cons_succ, List.getD_cons_zero] at e16
    generalize f 16 = f16 at *; subst e16
    rotate_left
    have e17 := dv6 (hdep ⟨7, .guard⟩ (by simp) rfl) rfl
    simp only [List.getD_cons_succ, List.getD_cons_zero] at e17
    generalize f 17 = f17 at *; subst e17
    rotate_left
    have e17 := dv6 (hdep ⟨7, .guard⟩ (by simp) rfl) rfl
    simp only [List.getD_cons_succ, List.getD_cons_zero] at e17
    generalize f 17 = f17 at *; subst e17
    rotate_left
    have e17 := dv6 (hdep ⟨7, .guard⟩ (by simp) rfl) rfl
    have e18 := dv6 (hdep ⟨8, .data⟩ (by simp) rfl) rfl
    have e19 := dv6 (hdep ⟨9, .data⟩ (by simp) rfl) rfl
    simp only [List.getD_cons_succ, List.getD_cons_zero] at e17 e18 e19
    generalize f 17 = f17 at *; subst e17
    generalize f 18 = f18 at *; subst e18
    generalize f 19 = f19 at *; subst e19
    rotate_left
    have e17 := dv6 (hdep ⟨7, .guard⟩ (by simp) rfl) rfl
    have e20 := dv6 (hdep ⟨10, .data⟩ (by simp) rfl) rfl
    simp only [List.getD_cons_succ, List.getD_cons_zero] at e17 e20
    generalize f 17 = f17 at *; subst e17
    generalize f 20 = f20 at *; subst e20
    rotate_left
    have e17 := dv6 (hdep ⟨7, .guard⟩ (by simp) rfl) rfl
    have e21 := dv6 (hdep ⟨11, .data⟩ (by simp) rfl) rfl
    simp only [List.getD_cons_succ, List.getD_cons_zero] at e17 e21
    generalize f 17 = f17 at *; subst e17
    generalize f 21 = f21 at *; subst e21
    rotate_left
    ·have e17 := dv6 (hdep ⟨7, .guard⟩ (by simp) rfl) rfl
     have e22 := dv6 (hdep ⟨12, .data⟩ (by simp) rfl) rfl
     simp only [List.getD_cons_succ, List.getD_cons_zero] at e17 e22
     generalize f 17 = f17 at *; subst e17
     generalize f 22 = f22 at *; subst e22
     have hB0 := HBW.out.trans (hB.mono HBW.out.size)
     go_simp
     refine (r_Valid nb A' B' n' c' m' d' ln ld wx true (HN1.out.below hB0) (HN2.out.below hB0) HSN.out.1 HSN.out.2 HVD).mono ?_
     rintro e0 w' ⟨rfl, hb⟩
     exact hK (.bool true) w' (gv6 rfl) hb (hB.trans (hb.mono hB.size)) (nb6 rfl rfl)
    have e17 := dv6 (hdep ⟨7, .guard⟩ (by simp) rfl) rfl
    have e23 := dv6 (hdep ⟨13, .data⟩ (by simp) rfl) rfl
    simp only [List.getD_cons_succ, List.getD_cons_zero] at e17 e23
    generalize f 17 = f17 at *; subst e17
    generalize f 23 = f23 at *; subst e23
    rotate_left
    have e17 := dv6 (hdep ⟨7, .data⟩ (by simp) rfl) rfl
    have e24 := dv6 (hdep ⟨14, .data⟩ (by simp) rfl) rfl
    simp only [List.getD_cons_succ, List.getD_cons_zero] at e17 e24
    generalize f 17 = f17 at *; subst e17
    generalize f 24 = f24 at *; subst e24
    rotate_left
    have e25 := dv6 (hdep ⟨15, .data⟩ (by simp) rfl) rfl
    simp only [List.getD_cons_succ, List.getD_cons_zero] at e25
    generalize f 25 = f25 at *; subst e25
    rotate_left
    have e26 := dv6 (hdep ⟨16, .guard⟩ (by simp) rfl) rfl
    simp only [List.getD_cons_succ, List.getD_cons_zero] at e26
    generalize f 26 = f26 at *; subst e26
    rotate_left
    have e26 := dv6 (hdep ⟨16, .guard⟩ (by simp) rfl) rfl
    simp only [List.getD_cons_succ, List.getD_cons_zero] at e26
    generalize f 26 = f26 at *; subst e26
    rotate_left
    have e26 := dv6 (hdep ⟨16, .guard⟩ (by simp) rfl) rfl
    have e27 := dv6 (hdep ⟨17, .data⟩ (by simp) rfl) rfl
    have e28 := dv6 (hdep ⟨18, .data⟩ (by simp) rfl) rfl
    simp only [List.getD_cons_succ, List.getD_cons_zero] at e26 e27 e28
    generalize f 26 = f26 at *; subst e26
    generalize f 27 = f27 at *; subst e27
    generalize f 28 = f28 at *; subst e28
    rotate_left
    have e26 := dv6 (hdep ⟨16, .guard⟩ (by simp) rfl) rfl
    have e29 := dv6 (hdep ⟨19, .data⟩ (by simp) rfl) rfl
    simp only [List.getD_cons_succ, List.getD_cons_zero] at e26 e29
    generalize f 26 = f26 at *; subst e26
    generalize f 29 = f29 at *; subst e29
    rotate_left
    have e26 := dv6 (hdep ⟨16, .guard⟩ (by simp) rfl) rfl
    have e30 := dv6 (hdep ⟨20, .data⟩ (by simp) rfl) rfl
    simp only [List.getD_cons_succ, List.getD_cons_zero] at e26 e30
    generalize f 26 = f26 at *; subst e26
    generalize f 30 = f30 at *; subst e30
    rotate_left
    ·have e26 := dv6 (hdep ⟨16, .guard⟩ (by simp) rfl) rfl
     have e31 := dv6 (hdep ⟨21, .data⟩ (by simp) rfl) rfl
     simp only [List.getD_cons_succ, List.getD_cons_zero] at e26 e31
     generalize f 26 = f26 at *; subst e26
     generalize f 31 = f31 at *; subst e31
     have hB0 := HBW.out.trans (hB.mono HBW.out.size)
     go_simp
     refine (r_SignV _ q sg wx (HIN.out.below hB0) HSG).mono ?_
     rintro e0 w' ⟨rfl, hb⟩
     exact hK (.int .i64 sg) w' (gv6 rfl) hb (hB.trans (hb.mono hB.size)) (nb6 rfl rfl)
    have e26 := dv6 (hdep ⟨16, .guard⟩ (by simp) rfl) rfl
    have e32 := dv6 (hdep ⟨22, .data⟩ (by simp) rfl) rfl
    simp only [List.getD_cons_succ, List.getD_cons_zero] at e26 e32
    generalize f 26 = f26 at *; subst e26
    generalize f 32 = f32 at *; subst e32
    have hsz := HSZ.out
    rotate_left
    have e26 := dv6 (hdep ⟨16, .data⟩ (by simp) rfl) rfl
    have e33 := dv6 (hdep ⟨23, .data⟩ (by simp) rfl) rfl
    simp only [List.getD_cons_succ, List.getD_cons_zero] at e26 e33
    generalize f 26 = f26 at *; subst e26
    generalize f 33 = f33 at *; subst e33
    rotate_left
    have e34 := dv6 (hdep ⟨24, .data⟩ (by simp) rfl) rfl
    simp only [List.getD_cons_succ, List.getD_cons_zero] at e34
    generalize f 34 = f34 at *; subst e34
    rotate_left
    have e35 := dv6 (hdep ⟨25, .guard⟩ (by simp) rfl) rfl
    simp only [List.getD_cons_succ, List.getD_cons_zero] at e35
    generalize f 35 = f35 at *; subst e35
    rotate_left
    have e35 := dv6 (hdep ⟨25, .guard⟩ (by simp) rfl) rfl
    have e36 := dv6 (hdep ⟨26, .data⟩ (by simp) rfl) rfl
    simp only [List.getD_cons_succ, List.getD_cons_zero] at e35 e36
    generalize f 35 = f35 at *; subst e35
    generalize f 36 = f36 at *; subst e36
    have hk0 := HK0.out
    rotate_left
    have e35 := dv6 (hdep ⟨25, .guard⟩ (by simp) rfl) rfl
    have e37 := dv6 (hdep ⟨27, .data⟩ (by simp) rfl) rfl
    simp only [List.getD_cons_succ, List.getD_cons_zero] at e35 e37
    generalize f 35 = f35 at *; subst e35
    generalize f 37 = f37 at *; subst e37
    rotate_left
    have e38 := dv6 (hdep ⟨28, .guard⟩ (by simp) rfl) rfl
    simp only [List.getD_cons_succ, List.getD_cons_zero] at e38
    generalize f 38 = f38 at *; subst e38
    rotate_left
    have e38 := dv6 (hdep ⟨28, .guard⟩ (by simp) rfl) rfl
    simp only [List.getD_cons_succ, List.getD_cons_zero] at e38
    generalize f 38 = f38 at *; subst e38
    rotate_left
    have e38 := dv6 (hdep ⟨28, .guard⟩ (by simp) rfl) rfl
    have e39 := dv6 (hdep ⟨29, .data⟩ (by simp) rfl) rfl
    have e40 := dv6 (hdep ⟨30, .data⟩ (by simp) rfl) rfl
    simp only [List.getD_cons_succ, List.getD_cons_zero] at e38 e39 e40
    generalize f 38 = f38 at *; subst e38
    generalize f 39 = f39 at *; subst e39
    generalize f 40 = f40 at *; subst e40
    rotate_left
    have e38 := dv6 (hdep ⟨28, .guard⟩ (by simp) rfl) rfl
    have e41 := dv6 (hdep ⟨31, .data⟩ (by simp) rfl) rfl
    simp only [List.getD_cons_succ, List.getD_cons_zero] at e38 e41
    generalize f 38 = f38 at *; subst e38
    generalize f 41 = f41 at *; subst e41
    rotate_left
    have e38 := dv6 (hdep ⟨28, .guard⟩ (by simp) rfl) rfl
    have e42 := dv6 (hdep ⟨32, .data⟩ (by simp) rfl) rfl
    simp only [List.getD_cons_succ, List.getD_cons_zero] at e38 e42
    generalize f 38 = f38 at *; subst e38
    generalize f 42 = f42 at *; subst e42
    rotate_left
    have e38 := dv6 (hdep ⟨28, .guard⟩ (by simp) rfl) rfl
    simp only [List.getD_cons_succ, List.getD_cons_zero] at e38
    generalize f 38 = f38 at *; subst e38
    rotate_left
    have e38 := dv6 (hdep ⟨28, .guard⟩ (by simp) rfl) rfl
    simp only [List.getD_cons_succ, List.getD_cons_zero] at e38
    generalize f 38 = f38 at *; subst e38
    rotate_left
    have e38 := dv6 (hdep ⟨28, .guard⟩ (by simp) rfl) rfl
    have e45 := dv6 (hdep ⟨35, .data⟩ (by simp) rfl) rfl
    simp only [List.getD_cons_succ, List.getD_cons_zero] at e38 e45
    generalize f 38 = f38 at *; subst e38
    generalize f 45 = f45 at *; subst e45
    have hw1 := HW1.out
    have hw2 := HW2.out
    rotate_left
    have e38 := dv6 (hdep ⟨28, .guard⟩ (by simp) rfl) rfl
    have e44 := dv6 (hdep ⟨34, .data⟩ (by simp) rfl) rfl
    have e46 := dv6 (hdep ⟨36, .data⟩ (by simp) rfl) rfl
    simp only [List.getD_cons_succ, List.getD_cons_zero] at e38 e44 e46
    generalize f 38 = f38 at *; subst e38
    generalize f 44 = f44 at *; subst e44
    generalize f 46 = f46 at *; subst e46
    have hw2 := HW2.out
    rotate_left
    have e38 := dv6 (hdep ⟨28, .guard⟩ (by simp) rfl) rfl
    have e47 := dv6 (hdep ⟨37, .data⟩ (by simp) rfl) rfl
    simp only [List.getD_cons_succ, List.getD_cons_zero] at e38 e47
    generalize f 38 = f38 at *; subst e38
    generalize f 47 = f47 at *; subst e47
    rotate_left
    have e38 := dv6 (hdep ⟨28, .guard⟩ (by simp) rfl) rfl
    have e48 := dv6 (hdep ⟨38, .data⟩ (by simp) rfl) rfl
    simp only [List.getD_cons_succ, List.getD_cons_zero] at e38 e48
    generalize f 38 = f38 at *; subst e38
    generalize f 48 = f48 at *; subst e48
    rotate_left
    ·have e38 := dv6 (hdep ⟨28, .guard⟩ (by simp) rfl) rfl
     have e43 := dv6 (hdep ⟨33, .data⟩ (by simp) rfl) rfl
     have e49 := dv6 (hdep ⟨39, .data⟩ (by simp) rfl) rfl
     simp only [List.getD_cons_succ, List.getD_cons_zero] at e38 e43 e49
     generalize f 38 = f38 at *; subst e38
     generalize f 43 = f43 at *; subst e43
     generalize f 49 = f49 at *; subst e49
     go_simp
     refine (r2_order e.1 e.2.1 e.2.2 e1.1 e1.2.1 e1.2.2 wx V2 HV2).mono ?_
     rintro e0 w' ⟨rfl, hb⟩
     exact hK (.int .i64 V2) w' (gv6 rfl) hb (hB.trans (hb.mono hB.size)) (nb6 rfl rfl)
    have e38 := dv6 (hdep ⟨28, .guard⟩ (by simp) rfl) rfl
    have e50 := dv6 (hdep ⟨40, .data⟩ (by simp) rfl) rfl
    simp only [List.getD_cons_succ, List.getD_cons_zero] at e38 e50
    generalize f 38 = f38 at *; subst e38
    generalize f 50 = f50 at *; subst e50
    rotate_left
    have e35 := dv6 (hdep ⟨25, .guard⟩ (by simp) rfl) rfl
    have e38 := dv6 (hdep ⟨28, .data⟩ (by simp) rfl) rfl
    have e51 := dv6 (hdep ⟨41, .data⟩ (by simp) rfl) rfl
    simp only [List.getD_cons_succ, List.getD_cons_zero] at e35 e38 e51
    generalize f 35 = f35 at *; subst e35
    generalize f 38 = f38 at *; subst e38
    generalize f 51 = f51 at *; subst e51
    rotate_left
    have e35 := dv6 (hdep ⟨25, .data⟩ (by simp) rfl) rfl
    have e52 := dv6 (hdep ⟨42, .data⟩ (by simp) rfl) rfl
    simp only [List.getD_cons_succ, List.getD_cons_zero] at e35 e52
    generalize f 35 = f35 at *; subst e35
    generalize f 52 = f52 at *; subst e52
    rotate_left
    all_goals go_simp
    all_goals exact hK _ wx (gv6 rfl) (Below.refl _ _) hB (nb6 rfl rfl)
   case fine =>
    intro f wx hB hG hne
    have e53 := dv6 (a := f 53) (hG 43 (by decide)) rfl
    clear hG hne
    simp only [frontAct, List.foldl_cons, List.foldl_nil, List.setIfInBounds_toArray, List.set_cons_succ, List.set_cons_zero]
    generalize f 53 = f53 at *
    subst e53
    refine wpAny_done (by kernel_rfl) ?_ _
    by_cases hv2 : 0 ≤ V2
    ·have hdv : decide (0 ≤ V2) = true := decide_eq_true hv2
     rw [hdv]
     clear hdv
     have HV3 := Lib.hid hv2
     clear hv2
     go_wp2_with fail
     go_ret
     exact ⟨ret_bool (no_bool (HORD.out.1 HV3.out)), HBW.out.trans (hB.mono HBW.out.size)⟩
    ·have hdv : decide (0 ≤ V2) = false := decide_eq_false hv2
     rw [hdv]
     clear hdv
     have HV3 := Lib.hid hv2
     clear hv2
     go_wp2_with fail
     exact ⟨⟨k + 1, HK.out, congrArg (Value.int _) (by omega), HBW.out.trans (hB.mono HBW.out.size), HORD.out.2 HV3.out⟩, by simp [intOf]; have := HK.out; omega⟩
  ·obtain rfl : k = l.length := by omega
   have hlt : ¬ (l.length : Int) < (l.length : Int) := by omega
   go_wp2_with fail
   go_ret
   refine ⟨ret_bool ?_, hB⟩
   exact (HV.out.2 HO.out).symm
end Go.Proofs.YtifeekomegoijaaGreatDoor
