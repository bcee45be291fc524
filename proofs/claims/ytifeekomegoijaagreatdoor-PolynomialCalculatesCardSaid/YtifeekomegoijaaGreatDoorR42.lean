/- texts -/
import Derived.Test.YtifeekomegoijaaGreatDoorR41
set_option linter.unusedVariables false
set_option linter.unusedSimpArgs false
namespace Go.Proofs.YtifeekomegoijaaGreatDoor
open Go.RowKit

def MonV (m : Mon) (w : World) (a : Value) : Prop := ∃ nb A n c B k d, a = .agg #[.int .i64 (m.1.1 : Int), .int .i64 (m.1.2.1 : Int), .int .i64 (m.1.2.2 : Int), .bool nb, .slice A n c, .slice B k d] ∧ RatQ w (.agg #[.bool nb, .slice A n c, .slice B k d]) m.2
def MonB (S : Nat) (m : Mon) (w : World) (a : Value) : Prop := ∃ g nb A n c B k d, a = .slice (some ⟨g, 0, none⟩) 1 1 ∧ S ≤ g ∧ Cs w g [.int .i64 (m.1.1 : Int), .int .i64 (m.1.2.1 : Int), .int .i64 (m.1.2.2 : Int), .bool nb, .slice A n c, .slice B k d] MT ∧ RatQ w (.agg #[.bool nb, .slice A n c, .slice B k d]) m.2
theorem Inr.ratq {w : World} {v : Value} {q : Rat} (h : Inr w v q) (h0 : q ≠ 0) : RatQ w v q := by
 obtain ⟨neg, A, n, c, A', m, c', ln, ld, rfl, h1, h2, _, _, h5⟩ := h
 subst h5
 by_cases hv : vld neg ln ld = true
 ·exact ratq_of hv h1 h2
 ·exact absurd (by unfold fq; rw [if_neg hv]) h0
theorem Inr.sz {w : World} {v : Value} {q : Rat} (h : Inr w v q) : Sz q 1000000 := by
 by_cases h0 : q = 0
 ·rw [h0]; exact sz_zero _ (by omega)
 ·obtain ⟨A, n, c, A', m, c', e, h1, h2⟩ := h.ratq h0
  obtain ⟨neg, A1, n1, c1, A2, m1, c2, ln, ld, e', g1, g2, g3, g4, g5⟩ := h
  rw [e] at e'
  simp only [Value.agg.injEq, Array.mk.injEq, List.cons.injEq, and_true, Value.bool.injEq, Value.slice.injEq] at e'
  obtain ⟨_, ⟨_, rfl, _⟩, _, rfl, _⟩ := e'
  refine ⟨by rw [← h1.len]; exact g3, ?_⟩
  have hl := h2.len
  unfold dl at hl
  split at hl
  ·next h => rw [h, limbs_one]; show 1 ≤ 1000000; omega
  ·rw [← hl]; exact g4
theorem PRe.pol {w : World} {v : Value} {l : List RawM} (h : PRe w v l) (hv : vraw l) : Pol w v (cleanL l) := by
 rw [cleanL_pos hv]
 unfold Pol
 rw [vraw_raw hv]
 obtain ⟨⟨A, n, c, xs, e, h1, h2, h3⟩, _⟩ := h
 refine ⟨A, n, c, xs, e, h1, h2, fun i e q hi => ?_⟩
 obtain ⟨z0, z1, z2, hx, hr⟩ := h3 i e q hi
 exact ⟨z0, z1, z2, hx, hr.ratq (hv i (List.getElem?_eq_some_iff.1 hi).1 _ hi).2.1⟩
theorem PRe.szl {w : World} {v : Value} {l : List RawM} (h : PRe w v l) : SzL (cleanL l) 1000000 := by
 classical
 by_cases hv : vraw l
 ·rw [cleanL_pos hv]
  intro m hm
  obtain ⟨r, hr, rfl⟩ := List.mem_map.1 hm
  obtain ⟨i, hi, rfl⟩ := List.getElem_of_mem hr
  obtain ⟨⟨A, n, c, xs, e, h1, h2, h3⟩, _⟩ := h
  obtain ⟨z0, z1, z2, hx, hr⟩ := h3 i _ _ (List.getElem?_eq_getElem hi)
  exact hr.sz
 ·rw [cleanL_neg hv]; intro m hm; cases hm
def RetOwnP (w0 : World) (l : List Mon) (e : Ending) (w' : World) : Prop := ∃ v, e = .returned v ∧ OwnP w' w0.heap.size v l ∧ Below w0.heap.size w0 w'

set_option maxRecDepth 20000 in
set_option maxHeartbeats 4000000 in
theorem r2_Take (v : Value) (l : List RawM) (w : World) (h : PRe w v l) : Calls Tryz.prog 56 #[v] w (RetOwnP w (cleanL l)) := by
 classical
 obtain ⟨A, cap, rfl⟩ := PBy.slice h.1
 by_cases hv : vraw l
 ·have hV := r2_Valid _ l w h true (Lib.hid ⟨fun _ => hv, fun _ => rfl⟩)
  have HV := Lib.hid hV
  have hpol := h.pol hv
  have hszl := h.szl
  have hvp := vp_cleanL l
  have hlen := h.2
  have hll : (cleanL l).length = l.length := by rw [cleanL_pos hv, List.length_map]
  generalize cleanL l = p at *
  rw [← hll]
  rw [← hll] at HV hlen hpol
  clear hV hv h hll
  go_enter Tryz.func56, Tryz.ntmps56
  go_wp2_with fail
  refine HV.out.mono ?_
  rintro e w2 ⟨rfl, hb2⟩
  have HP := Lib.hid (hpol.below hb2)
  have HLEN := Lib.hid hlen
  have HSZL := Lib.hid hszl
  have HB2 := Lib.hid hb2
  clear hpol hszl hlen hb2 hvp HV
  go_wp2_with fail
  go_loopw [3, 4] (fun r i wr => ∃ k, k ≤ p.length ∧ i = .int .i64 (k : Int) ∧ OwnP wr w2.heap.size r (p.take k) ∧ Below w2.heap.size w2 wr) (fun _ i _ => (p.length - intOf i).toNat)
  case atStart => exact ⟨0, Nat.zero_le _, rfl, OwnP.nil _ _, Below.refl _ _⟩
  case round =>
   obtain ⟨k, hk, rfl, hrow, hbb⟩ := hrel
   rcases Nat.lt_or_ge k p.length with hkn | hkn
   ·obtain ⟨m, hm⟩ : ∃ m, p[k]? = some m := ⟨p[k], List.getElem?_eq_getElem hkn⟩
    obtain ⟨b, o, z0, z1, z2, rfl, hb, hat, hq⟩ := HP.out.at hm
    have hltk : (k : Int) < (p.length : Int) := by omega
    have HK := Lib.hid hkn
    have HM := Lib.hid hm
    have HBB := Lib.hid hbb.drew
    have HAT : Hid (At6 wr.drew b (o + k * 6) _ _ _ _ _ _) := Lib.hid (hat.below hbb.drew hb)
    have HLT : Hid (b < wr.drew.heap.size) := Lib.hid (Nat.lt_of_lt_of_le hb hbb.size)
    have HQ := Lib.hid (hq.below hbb.drew)
    have HSZ := Lib.hid (HSZL.out m (List.mem_of_getElem? hm))
    have HROW := Lib.hid (hrow.below (Below.refl _ _).drew)
    clear hk hkn hm hat hb hq hrow hbb
    go_upto_region 7 with (fail)
    refine wp_region6 14 [14, 15, 16, 17, 18, 19, 20, 21, 22, 23, 24, 25, 26, 27] [.val (u3), .val (.slice (some ⟨b, o, none⟩) p.length cap), .val (.int .i64 (k : Int)), .val (.pointer (some ⟨b, o + k * 6, none⟩)), .val (.pointer (some ⟨b, o + k * 6, none⟩)), .val (.agg #[.int .i64 (m.1.1 : Int), .int .i64 (m.1.2.1 : Int), .int .i64 (m.1.2.2 : Int)]), .val (.slice (some ⟨b, o, none⟩) p.length cap), .val (.int .i64 (k : Int)), .val (.pointer (some ⟨b, o + k * 6, none⟩)), .val (.pointer (some ⟨b, o + k * 6 + 3, none⟩)), .val (.agg #[z0, z1, z2]), .st (fun w a => RatQ w a m.2), .st (fun w a => MonV m w a), .st (fun w a => MonB wr.drew.heap.size m w a)] (by kernel_rfl) (by kernel_rfl) (by kernel_rfl) (by kernel_rfl) ?step 2 (by kernel_rfl) _ rfl ?fin
    case step =>
     intro i hi oi ho f wx hB hdep K hK
     simp only [frontAct, List.foldl_cons, List.foldl_nil, List.setIfInBounds_toArray, List.set_cons_succ, List.set_cons_zero] at hK ⊢
     obtain ⟨x0, x1, x2, x3, x4, x5⟩ := HAT.out.below hB HLT.out
     obtain rfl | rfl | rfl | rfl | rfl | rfl | rfl | rfl | rfl | rfl | rfl | rfl | rfl | rfl : i = 0 ∨ i = 1 ∨ i = 2 ∨ i = 3 ∨ i = 4 ∨ i = 5 ∨ i = 6 ∨ i = 7 ∨ i = 8 ∨ i = 9 ∨ i = 10 ∨ i = 11 ∨ i = 12 ∨ i = 13 := by omega
     all_goals
      obtain rfl := Option.some.inj ho
      simp only [Act.put, List.setIfInBounds_toArray, List.set_cons_succ, List.set_cons_zero] at hK
     rotate_left
     rotate_left
     rotate_left
     have e15 := dv6 (hdep ⟨1, .data⟩ (by simp) rfl) rfl
     have e16 := dv6 (hdep ⟨2, .data⟩ (by simp) rfl) rfl
     simp only [List.getD_cons_succ, List.getD_cons_zero] at e15 e16
     generalize f 15 = f15 at *; subst e15
     generalize f 16 = f16 at *; subst e16
     rotate_left
     have e17 := dv6 (hdep ⟨3, .data⟩ (by simp) rfl) rfl
     simp only [List.getD_cons_succ, List.getD_cons_zero] at e17
     generalize f 17 = f17 at *; subst e17
     rotate_left
     have e18 := dv6 (hdep ⟨4, .data⟩ (by simp) rfl) rfl
     simp only [List.getD_cons_succ, List.getD_cons_zero] at e18
     generalize f 18 = f18 at *; subst e18
     rotate_left
     rotate_left
     rotate_left
     have e20 := dv6 (hdep ⟨6, .data⟩ (by simp) rfl) rfl
     have e21 := dv6 (hdep ⟨7, .data⟩ (by simp) rfl) rfl
     simp only [List.getD_cons_succ, List.getD_cons_zero] at e20 e21
     generalize f 20 = f20 at *; subst e20
     generalize f 21 = f21 at *; subst e21
     rotate_left
     have e22 := dv6 (hdep ⟨8, .data⟩ (by simp) rfl) rfl
     simp only [List.getD_cons_succ, List.getD_cons_zero] at e22
     generalize f 22 = f22 at *; subst e22
     rotate_left
     have e23 := dv6 (hdep ⟨9, .data⟩ (by simp) rfl) rfl
     simp only [List.getD_cons_succ, List.getD_cons_zero] at e23
     generalize f 23 = f23 at *; subst e23
     rotate_left
     ·have e24 := dv6 (hdep ⟨10, .data⟩ (by simp) rfl) rfl
      simp only [List.getD_cons_succ, List.getD_cons_zero] at e24
      generalize f 24 = f24 at *; subst e24
      go_simp
      refine (r_Take _ m.2 wx ((HQ.out.below hB).inr HSZ.out (Nat.le_refl _))).mono ?_
      rintro e0 w' ⟨val, rfl, hr, hb⟩
      exact hK val w' (gs6 rfl (fun w2 h2 => hr.below h2)) hb (hB.trans (hb.mono hB.size)) (nb6 rfl rfl)
     ·have e19 := dv6 (hdep ⟨5, .data⟩ (by simp) rfl) rfl
      have e25 := ds6 (hdep ⟨11, .data⟩ (by simp) rfl) rfl
      simp only [List.getD_cons_succ, List.getD_cons_zero] at e19 e25
      generalize f 19 = f19 at *; subst e19
      replace e25 := (show RatQ wx (f 25) m.2 from e25)
      generalize f 25 = f25 at *
      obtain ⟨yb, yA, yn, yc, yB, ym, yd, rfl⟩ := e25.agg
      go_simp
      exact hK _ wx (gs6 rfl (fun w2 h2 => ⟨_, _, _, _, _, _, _, rfl, RatQ.below e25 h2⟩)) (Below.refl _ _) hB (nb6 rfl rfl)
     ·have e26 := ds6 (hdep ⟨12, .data⟩ (by simp) rfl) rfl
      replace e26 := (show MonV m wx (f 26) from e26)
      generalize f 26 = f26 at *
      obtain ⟨yb, yA, yn, yc, yB, ym, yd, rfl, hyq⟩ := e26
      have hbl := new6 wx (.int .i64 (m.1.1 : Int)) (.int .i64 (m.1.2.1 : Int)) (.int .i64 (m.1.2.2 : Int)) (.bool yb) (.slice yA yn yc) (.slice yB ym yd)
      go_simp
      exact hK _ _ (gs6 rfl (fun w2 h2 => ⟨_, _, _, _, _, _, _, _, rfl, hB.size, hbl.2.below h2 hbl.2.lt, (hyq.below hbl.1).below h2⟩)) hbl.1 (hB.trans (hbl.1.mono hB.size)) (nb6 rfl rfl)
     all_goals go_simp
     all_goals exact hK _ wx (gv6 rfl) (Below.refl _ _) hB (nb6 rfl rfl)
    case fin =>
     intro f wx hB hG hne
     have e14 := dv6 (hG 0 (by decide)) rfl
     have e27 : MonB wr.drew.heap.size m wx (f 27) := ds6 (hG 13 (by decide)) rfl
     clear hG hne
     simp only [frontAct, List.foldl_cons, List.foldl_nil, List.setIfInBounds_toArray, List.set_cons_succ, List.set_cons_zero]
     simp only [List.getD_cons_zero] at e14
     generalize f 14 = f14 at *; subst e14
     generalize f 27 = f27 at *
     obtain ⟨g, yb, yA, yn, yc, yB, ym, yd, rfl, hgl, cs, hyq⟩ := e27
     have hrw := HROW.out.below hB
     have hz8 := HBB.out.size
     obtain ⟨p5, w5, HRUN, hown5, hg5, _⟩ := hrw.app1 cs hyq (by rw [List.length_take]; have := HLEN.out; omega) (Nat.le_trans hz8 hB.size)
     have HEND := Lib.hid (And.intro hown5 (hrw.grown (HBB.out.trans (hB.mono HBB.out.size)) (Nat.le_trans hz8 hB.size) hg5))
     clear hown5 hg5 hrw cs hyq hB
     refine wpAny_ready (rs := [14]) (by kernel_rfl) (by simp) ?_
     refine AllReady.cons rfl (fun K hK => ?_) AllReady.nil
     refine step_appM rfl (.tmp 14) (.tmp 27) rfl rfl _ _ _ _ rfl rfl HRUN (hK _ _ ?_)
     clear hK K
     refine wpAny_ready (rs := [15]) (by kernel_rfl) (by simp) ?_
     refine AllReady.cons rfl (fun K hK => ?_) AllReady.nil
     have HQ := Lib.hid hK
     clear hK
     go_simp
     refine HQ.out _ _ ?_
     clear HQ K
     refine wpAny_done (by kernel_rfl) ?_ _
     have hk1 := HK.out
     have hl1 := HLEN.out
     go_wp2_with fail
     refine ⟨⟨k + 1, HK.out, congrArg (Value.int _) (by omega), ?_, HEND.out.2⟩, by simp [intOf]; have := HK.out; omega⟩
     rw [List.take_succ_eq_append_getElem HK.out, (List.getElem?_eq_some_iff.1 HM.out).2]
     exact HEND.out.1
   ·obtain rfl : k = p.length := by omega
    rw [List.take_length] at hrow
    have hlt : ¬ (p.length : Int) < (p.length : Int) := by omega
    have HEND := Lib.hid (And.intro hrow (HB2.out.trans (hbb.mono HB2.out.size)))
    have HZ := Lib.hid HB2.out.size
    clear hrow hbb
    go_wp2_with fail
    go_ret
    exact ⟨_, rfl, HEND.out.1.more HZ.out, HEND.out.2⟩
 ·have hV := r2_Valid _ l w h false (Lib.hid ⟨(fun h => by cases h), fun h => absurd h hv⟩)
  have HV := Lib.hid hV
  have HN := Lib.hid (cleanL_neg hv)
  rw [HN.out]
  clear hV hv h
  go_enter Tryz.func56, Tryz.ntmps56
  go_wp2_with fail
  refine HV.out.mono ?_
  rintro e w2 ⟨rfl, hb2⟩
  clear HV
  go_wp2_with fail
  go_ret
  exact ⟨_, rfl, OwnP.nil _ _, hb2⟩
end Go.Proofs.YtifeekomegoijaaGreatDoor
