import Derived.Test.YtifeekomegoijaaGreatDoorY34
import Derived.Test.YtifeekomegoijaaGreatDoorY35
set_option linter.unusedVariables false
set_option linter.unusedSimpArgs false
set_option maxRecDepth 20000
set_option maxHeartbeats 8000000
namespace Go.Proofs.YtifeekomegoijaaGreatDoor
open Go.RowKit
theorem ratq_1 {w : World} {g c : Nat} (h : Row w g [1]) (hc : 1 <= c) : RatQ w (.agg #[.bool false, .slice (some ⟨g, 0, none⟩) 1 c, .slice none 0 0]) 1 := by
 refine ⟨_, _, _, _, _, _, rfl, ?_, ?_⟩
 ·show Num w (limbs 1) _ _ _
  rw [limbs_one]
  exact h.num (by intro x hx; simp at hx; subst hx; decide) rfl hc
 ·show Num w (dl 1) _ _ _
  unfold dl; rw [if_pos rfl]; exact Num.nil _ _ _
theorem pone_any (w : World) : Calls Tryz.prog 63 #[] w (RetRat w 1) := by
 go_enter Tryz.func63, Tryz.ntmps63
 have x0 := blk2 w [.bool false, .slice (some ⟨w.heap.size + 1, 0, none⟩) 1 1, .slice none 0 0] [.int .u32 1] 25 78
 go_wp2_with fail
 refine ret_rc Tryz.results63 rfl (show Rc _ _ _ _ _ from x0.2.1) rfl ?_
 exact ⟨_, rfl, ratq_1 (show Row _ _ _ from x0.2.2) (Nat.le_refl _), x0.1⟩
def PI (w : World) (v : Value) (p : List Mon) (L : Nat) : Prop := ∃ raw, PIn w v raw L /\ cleanL raw = p
theorem PI.below {w w' : World} {v : Value} {p : List Mon} {L : Nat} (h : PI w v p L) (hb : Below w.heap.size w w') : PI w' v p L := by
 obtain ⟨raw, h1, h2⟩ := h
 exact ⟨raw, h1.below hb, h2⟩
theorem PI.vp {w : World} {v : Value} {p : List Mon} {L : Nat} (h : PI w v p L) : VP p := by
 obtain ⟨raw, h1, rfl⟩ := h
 exact vp_cleanL raw
theorem PI.szl {w : World} {v : Value} {p : List Mon} {L : Nat} (h : PI w v p L) : SzL p L := by
 obtain ⟨raw, h1, rfl⟩ := h
 exact h1.szl
theorem Pol.pi {w : World} {v : Value} {p : List Mon} {L : Nat} (h : Pol w v p) (hv : VP p) (hs : SzL p L) (hL : L <= 8388608) : PI w v p L :=
 ⟨p.map rawOf, h.pin hs hL (by have := vp_length hv; omega), cleanL_raw hv⟩
theorem PI.slice {w : World} {v : Value} {p : List Mon} {L : Nat} (h : PI w v p L) : ∃ A n c, v = .slice A n c := by
 obtain ⟨raw, h1, _⟩ := h
 obtain ⟨A, c, e⟩ := PBy.slice h1.1
 exact ⟨A, _, c, e⟩
def RetPolAny (w0 : World) (p : List Mon) (e : Ending) (w' : World) : Prop := ∃ v, e = .returned v /\ Pol w' v p /\ Below w0.heap.size w0 w'
theorem clean_p (v : Value) (p : List Mon) (L : Nat) (w : World) (hT : Tab w) (h : PI w v p L) : Calls Tryz.prog 53 #[v] w (RetPolAny w p) := by
 obtain ⟨raw, hraw, rfl⟩ := h
 obtain ⟨A, n, c, rfl⟩ : ∃ A n c, v = .slice A n c := by
  obtain ⟨A, c, e⟩ := PBy.slice hraw.1
  exact ⟨A, _, c, e⟩
 classical
 by_cases hv : vraw raw
 ·have hV := valid_p _ raw L w hT hraw true (show Hid _ from ⟨fun _ => hv, fun _ => rfl⟩)
  have HV := Lib.hid hV
  have HR := Lib.hid hv
  clear hV hv
  go_enter Tryz.func53, Tryz.ntmps53
  go_wp2_with fail
  refine HV.out.mono ?_
  rintro e w1 ⟨rfl, hb1⟩
  go_wp2_with fail
  go_ret
  exact ⟨_, rfl, (hraw.pol HR.out).below hb1, hb1⟩
 ·have hV := valid_p _ raw L w hT hraw false (show Hid _ from ⟨fun h => absurd h (by decide), fun h => absurd h hv⟩)
  have HV := Lib.hid hV
  have HR := Lib.hid hv
  clear hV hv
  go_enter Tryz.func53, Tryz.ntmps53
  go_wp2_with fail
  refine HV.out.mono ?_
  rintro e w1 ⟨rfl, hb1⟩
  go_wp2_with fail
  go_ret
  exact ⟨_, rfl, by rw [cleanL_neg HR.out]; exact Pol.nil _ _ _, hb1⟩
theorem addAt_zero (q : Rat) : addAt zeroC (0, 0, 0) q = constC q := by
 funext f
 unfold addAt zeroC constC
 grind
theorem szC_const {q : Rat} {L : Nat} (h : Sz q L) (hL : 1 <= L) : SzC (constC q) L := fun e _ => by
 unfold constC
 split
 ·exact h
 ·exact sz_zero L hL
theorem Constant_p (v : Value) (q : Rat) (w : World) (hT : Tab w) (h : Inp w v q 1000000) : Calls Tryz.prog 26 #[v] w (RetPol w (listOf (constC q))) := by
 obtain ⟨z0, Z, zn, zc, Z', zm, ze, rfl⟩ := h.agg
 have hmm := @run_makeMap Tryz.prog
 obtain ⟨hb1, c1⟩ := blk1 w [.bool z0, .slice Z zn zc, .slice Z' zm ze] 25
 have hmade := Sums.made (w.alloc (R1 (.bool z0) (.slice Z zn zc) (.slice Z' zm ze)))
 rw [World.size_alloc] at hmade
 have hb2 : Below w.heap.size w ((w.alloc (R1 (.bool z0) (.slice Z zn zc) (.slice Z' zm ze))).alloc (.map #[] 0)) := hb1.alloc hb1.size _
 replace c1 := c1.alloc (.map #[] 0)
 have hT2 := hT.below hb2
 have h2 := h.below hb2
 go_enter Tryz.func26, Tryz.ntmps26
 go_wp2_with fail
 have hsz : Sz (zeroC (0, 0, 0)) 1000000 := sz_zero _ (by omega)
 refine (sums_add (w.heap.size + 1) 0 (0, 0, 0) _ q zeroC _ hT2 hmade (by omega) (by decide) h2 hsz).mono ?_
 rintro e2 w2 ⟨rfl, hS2, hg2⟩
 have hb3 : Below w.heap.size w w2 := hb2.grown hg2 hb2.size (fun k e => by cases e; omega)
 rw [addAt_zero] at hS2
 have hsq := h.sz
 go_wp2_with fail
 refine (sums_list _ 1 (constC q) w2 (hT.below hb3) hS2 (by omega) (szC_const hsq (by omega))).mono ?_
 rintro e3 w3 ⟨v3, rfl, hp3, hb4⟩
 go_wp2_with fail
 go_ret
 exact ⟨v3, rfl, hp3, hb3.trans (hb4.mono hb3.size)⟩
theorem sz_one' (L : Nat) (h : 1 <= L) : Sz 1 L := ⟨by show (limbs 1).length <= L; rw [limbs_one]; exact h, by show (limbs 1).length <= L; rw [limbs_one]; exact h⟩
theorem Inp.grm {w w' : World} {v : Value} {q : Rat} {L b : Nat} (h : Inp w v q L) (hg : w.grownBy w' (some b)) {es : Array MapEntry} {ck : Nat} (hm : w.heap[b]? = some (.map es ck)) : Inp w' v q L := by
 obtain ⟨neg, A, n, c, A', m, c', ln, ld, e, h1, h2, h3, h4, h5, h6⟩ := h
 exact ⟨neg, A, n, c, A', m, c', ln, ld, e, h1.grm hg hm, h2.grm hg hm, h3, h4, h5, h6⟩
theorem PIn.grm {w w' : World} {v : Value} {l : List RawM} {L b : Nat} (h : PIn w v l L) (hg : w.grownBy w' (some b)) {es : Array MapEntry} {ck : Nat} (hm : w.heap[b]? = some (.map es ck)) : PIn w' v l L := by
 obtain ⟨⟨A, n, c, xs, e, h1, h2, h3⟩, h4⟩ := h
 refine ⟨⟨A, n, c, xs, e, ⟨h1.len, h1.cap, fun hn => ?_⟩, h2, fun i e q hi => ?_⟩, h4⟩
 ·obtain ⟨b', o, hA, hb, hc⟩ := h1.cells hn
  refine ⟨b', o, hA, Nat.lt_of_lt_of_le hb hg.size, fun i x hx j v hv => ?_⟩
  have hcell := hc i x hx j v hv
  refine (World.cell?_of_block (w := w) (hg.block b' hb (fun e => ?_))).trans hcell
  cases e
  simp [World.cell?, hm] at hcell
 ·obtain ⟨z0, z1, z2, hx, hr⟩ := h3 i e q hi
  exact ⟨z0, z1, z2, hx, hr.grm hg hm⟩
theorem PI.grm {w w' : World} {v : Value} {p : List Mon} {L b : Nat} (h : PI w v p L) (hg : w.grownBy w' (some b)) {es : Array MapEntry} {ck : Nat} (hm : w.heap[b]? = some (.map es ck)) : PI w' v p L := by
 obtain ⟨raw, h1, h2⟩ := h
 exact ⟨raw, h1.grm hg hm, h2⟩
theorem addL_addM (c : Co) (l : List Mon) : addL c l = addM c l (0, 0, 0) 1 := by
 unfold addL addM
 congr 1
 funext c m
 rw [eadd_zero, Rat.mul_one]
theorem addL_snoc (c : Co) (l : List Mon) (m : Mon) : addL c (l ++ [m]) = addAt (addL c l) m.1 m.2 := by
 unfold addL
 rw [List.foldl_append]; rfl
theorem addL_fresh {q : List Mon} (hq : (q.map (·.1)).Nodup) {k : Nat} {m : Mon} (hk : q[k]? = some m) (c : Co) : addL c (q.take k) m.1 = c m.1 := by
 have := addM_fresh hq hk c (0, 0, 0) 1
 rw [addL_addM]
 rwa [eadd_zero] at this
theorem szC_addL {c : Co} {B M : Nat} (h : SzC c B) {q : List Mon} (hq : VP q) {L : Nat} (hl : SzL q L) (hM : B + L + 2 <= M) : SzC (addL c q) M := by
 rw [addL_addM]
 exact szC_addM h (vp_nodup hq) (sz_one' 1 (Nat.le_refl _)) hl (by omega)
theorem Add_p (v u : Value) (p q : List Mon) (L : Nat) (w : World) (hT : Tab w) (h : PI w v p L) (h' : PI w u q L) (hL : L <= 400000) : Calls Tryz.prog 17 #[v, u] w (RetPol w (listOf (addC (co p) (co q)))) := by
 obtain ⟨_, _, _, rfl⟩ := h.slice
 obtain ⟨_, _, _, rfl⟩ := h'.slice
 have hmm := @run_makeMap Tryz.prog
 have hb1 : Below w.heap.size w (w.alloc (.map #[] 0)) := (Below.refl _ _).alloc (Nat.le_refl _) _
 have hmade := Sums.made w
 have hT1 := hT.below hb1
 have h1 := h.below hb1
 have h1' := h'.below hb1
 have hvp := h.vp
 have hvq := h'.vp
 have hsp := h.szl
 have hsq := h'.szl
 have hlp := vp_length hvp
 have hlq := vp_length hvq
 have hz1 : SzC zeroC 1 := szC_zero 1 (Nat.le_refl _)
 have hz2 : SzC (addL zeroC p) (L + 3) := szC_addL hz1 hvp hsp (by omega)
 have hz3 : SzC (addL (addL zeroC p) q) 1000000 := szC_addL hz2 hvq hsq (by omega)
 clear h h'
 go_enter Tryz.func17, Tryz.ntmps17
 go_wp2_with fail
 refine (clean_p _ p L _ hT1 h1).mono ?_
 rintro e2 w2 ⟨v2, rfl, hp2, hb2⟩
 have hB2 := hb1.trans (hb2.mono hb1.size)
 have hS2 := hmade.below hb2
 have hT2 := hT1.below hb2
 have h2' := h1'.below hb2
 obtain ⟨es0, ck0, hm0⟩ := hS2.map
 obtain ⟨A2, c2, rfl⟩ := hp2.slice
 clear hb2 h1 h1' hmade hT1 hb1
 go_wp2_with fail
 go_loopw [14] (fun i wr => ∃ k n', k <= p.length /\ i = .int .i64 (k : Int) /\ n' <= k /\ Sums wr w.heap.size n' (addL zeroC (p.take k)) /\ w2.grownBy wr (some w.heap.size)) (fun i _ => (p.length - intOf i).toNat)
 case atStart => exact ⟨0, 0, Nat.zero_le _, rfl, Nat.le_refl _, hS2, World.grownBy.refl _ _⟩
 case round =>
  obtain ⟨k, n', hk, rfl, hn', hSk, hgk⟩ := hrel
  rcases Nat.lt_or_ge k p.length with hkn | hkn
  ·obtain ⟨m, hm⟩ : ∃ m, p[k]? = some m := ⟨p[k], List.getElem?_eq_getElem hkn⟩
   obtain ⟨bq, oq, y0, y1, y2, rfl, hbq, hat, hcoef⟩ := hp2.at hm
   obtain ⟨nb, Ay, ny, cy, By, my, ey, heq⟩ := hcoef.agg
   simp only [Value.agg.injEq, Array.mk.injEq, List.cons.injEq, and_true] at heq
   obtain ⟨rfl, rfl, rfl⟩ := heq
   have hmq : m ∈ p := List.mem_of_getElem? hm
   have hdm := (hvp.1 m hmq).1
   obtain ⟨x0, x1, x2, x3, x4, x5⟩ := hat.grm hgk hm0 hbq
   have r2 := hcoef.grm hgk hm0
   have t1 := hT2.grm hgk hm0
   obtain ⟨hb6, d6⟩ := new6 wr (.int .i64 (m.1.1 : Int)) (.int .i64 (m.1.2.1 : Int)) (.int .i64 (m.1.2.2 : Int)) (.bool nb) (.slice Ay ny cy) (.slice By my ey)
   have hS6 := hSk.below hb6
   have hc6 := d6.c6
   have hlt : (k : Int) < (p.length : Int) := by omega
   have hgd := grown_back hgk hb6
   have SM := (hsp m hmq).mono (show L <= 1000000 by omega)
   have hadd := sums_add w.heap.size n' m.1 _ m.2 _ _ (t1.below hb6) hS6 (by omega) hdm ((r2.below hb6).inp SM (by omega)) (by
    rw [addL_fresh (vp_nodup hvp) hm]
    exact (hz1 m.1 hdm).mono (by omega))
   have HADD := Lib.hid hadd
   have HK := Lib.hid hkn
   have HM := Lib.hid hm
   have HN := Lib.hid hn'
   clear hadd hS6 hSk hkn hm hn' r2 t1 hat hcoef
   go_wp2_with fail
   clear hc6 x0 x1 x2 x3 x4 x5
   refine HADD.out.mono ?_
   rintro e6 w6 ⟨rfl, hS6, hg6⟩
   go_wp2_with fail
   go_roundw
   case rel =>
    refine ⟨k + 1, n' + 1, by have := HK.out; omega, congrArg (Value.int _) (by omega), by have := HN.out; omega, ?_, grown_trans hgd hg6⟩
    rw [List.take_succ_eq_append_getElem HK.out, (List.getElem?_eq_some_iff.1 HM.out).2, addL_snoc]
    exact hS6
   case measure => simp [intOf]; have := HK.out; omega
  ·obtain rfl : k = p.length := by omega
   have hlt : ¬ (p.length : Int) < (p.length : Int) := by omega
   rw [List.take_length] at hSk
   have hB3 : Below w.heap.size w wr := hB2.grown hgk hB2.size (fun j e => by cases e; exact Nat.le_refl _)
   obtain ⟨es1, ck1, hm1⟩ := hSk.map
   have hT3 := hT2.grm hgk hm0
   have hC3 := clean_p _ q L wr hT3 (h2'.grm hgk hm0)
   have HC3 := Lib.hid hC3
   clear hC3 h2' hp2 hS2 hm0 hT2 hB2 hgk
   go_wp2_with fail
   refine HC3.out.mono ?_
   rintro e4 w4 ⟨v4, rfl, hp4, hb4⟩
   have hB4 := hB3.trans (hb4.mono hB3.size)
   have hS4 := hSk.below hb4
   have hT4 := hT3.below hb4
   obtain ⟨es4, ck4, hm4⟩ := hS4.map
   obtain ⟨A4, c4, rfl⟩ := hp4.slice
   have HN1 := Lib.hid hn'
   clear hb4 hSk hT3 hm1 hB3 hn' HC3
   go_wp2_with fail
   go_loopw [28] (fun i wr => ∃ k n2, k <= q.length /\ i = .int .i64 (k : Int) /\ n2 <= n' + k /\ Sums wr w.heap.size n2 (addL (addL zeroC p) (q.take k)) /\ w4.grownBy wr (some w.heap.size)) (fun i _ => (q.length - intOf i).toNat)
   case atStart => exact ⟨0, n', Nat.zero_le _, rfl, Nat.le_refl _, hS4, World.grownBy.refl _ _⟩
   case round =>
    obtain ⟨k, n2, hk, rfl, hn2, hSk, hgk⟩ := hrel
    have hn1 := HN1.out
    rcases Nat.lt_or_ge k q.length with hkn | hkn
    ·obtain ⟨m, hm⟩ : ∃ m, q[k]? = some m := ⟨q[k], List.getElem?_eq_getElem hkn⟩
     obtain ⟨bq, oq, y0, y1, y2, rfl, hbq, hat, hcoef⟩ := hp4.at hm
     obtain ⟨nb, Ay, ny, cy, By, my, ey, heq⟩ := hcoef.agg
     simp only [Value.agg.injEq, Array.mk.injEq, List.cons.injEq, and_true] at heq
     obtain ⟨rfl, rfl, rfl⟩ := heq
     have hmq : m ∈ q := List.mem_of_getElem? hm
     have hdm := (hvq.1 m hmq).1
     obtain ⟨x0, x1, x2, x3, x4, x5⟩ := hat.grm hgk hm4 hbq
     have r2 := hcoef.grm hgk hm4
     have t1 := hT4.grm hgk hm4
     obtain ⟨hb6, d6⟩ := new6 wr (.int .i64 (m.1.1 : Int)) (.int .i64 (m.1.2.1 : Int)) (.int .i64 (m.1.2.2 : Int)) (.bool nb) (.slice Ay ny cy) (.slice By my ey)
     have hS6 := hSk.below hb6
     have hc6 := d6.c6
     have hlt : (k : Int) < (q.length : Int) := by omega
     have hgd := grown_back hgk hb6
     have SM := (hsq m hmq).mono (show L <= 1000000 by omega)
     have hadd := sums_add w.heap.size n2 m.1 _ m.2 _ _ (t1.below hb6) hS6 (by omega) hdm ((r2.below hb6).inp SM (by omega)) (by
      rw [addL_fresh (vp_nodup hvq) hm]
      exact (hz2 m.1 hdm).mono (by omega))
     have HADD := Lib.hid hadd
     have HK := Lib.hid hkn
     have HM := Lib.hid hm
     have HN := Lib.hid hn2
     clear hadd hS6 hSk hkn hm hn2 hn1 r2 t1 hat hcoef
     go_wp2_with fail
     clear hc6 x0 x1 x2 x3 x4 x5
     refine HADD.out.mono ?_
     rintro e6 w6 ⟨rfl, hS6, hg6⟩
     go_wp2_with fail
     go_roundw
     case rel =>
      refine ⟨k + 1, n2 + 1, by have := HK.out; omega, congrArg (Value.int _) (by omega), by have := HN.out; omega, ?_, grown_trans hgd hg6⟩
      rw [List.take_succ_eq_append_getElem HK.out, (List.getElem?_eq_some_iff.1 HM.out).2, addL_snoc]
      exact hS6
     case measure => simp [intOf]; have := HK.out; omega
    ·obtain rfl : k = q.length := by omega
     have hlt : ¬ (q.length : Int) < (q.length : Int) := by omega
     rw [List.take_length] at hSk
     have hB5 : Below w.heap.size w wr := hB4.grown hgk hB4.size (fun j e => by cases e; exact Nat.le_refl _)
     have hL5 := sums_list _ n2 _ wr (hT4.grm hgk hm4) hSk (by omega) hz3
     have HL5 := Lib.hid hL5
     clear hL5 hSk hp4 hS4 hm4 hT4 hB4 hgk
     go_wp2_with fail
     refine HL5.out.mono ?_
     rintro e6 w6 ⟨v6, rfl, hp6, hb6⟩
     go_wp2_with fail
     go_ret
     refine ⟨v6, rfl, ?_, hB5.trans (hb6.mono hB5.size)⟩
     have e1 : listOf (addC (co p) (co q)) = listOf (addL (addL zeroC p) q) := listOf_congr (fun e _ => by
      rw [addL_eq, addL_eq]
      unfold addC zeroC
      grind)
     rw [e1]
     exact hp6
theorem PBy.grm {R R' : Value -> Rat -> Prop} {w w' : World} {v : Value} {l : List RawM} {b : Nat} (h : PBy R w v l) (hR : ∀ z q, R z q -> R' z q) (hg : w.grownBy w' (some b)) {es : Array MapEntry} {ck : Nat} (hm : w.heap[b]? = some (.map es ck)) : PBy R' w' v l := by
 obtain ⟨A, n, c, xs, e, h1, h2, h3⟩ := h
 refine ⟨A, n, c, xs, e, ⟨h1.len, h1.cap, fun hn => ?_⟩, h2, fun i e q hi => ?_⟩
 ·obtain ⟨b', o, hA, hb, hc⟩ := h1.cells hn
  refine ⟨b', o, hA, Nat.lt_of_lt_of_le hb hg.size, fun i x hx j v hv => ?_⟩
  have hcell := hc i x hx j v hv
  refine (World.cell?_of_block (w := w) (hg.block b' hb (fun e => ?_))).trans hcell
  cases e
  simp [World.cell?, hm] at hcell
 ·obtain ⟨z0, z1, z2, hx, hr⟩ := h3 i e q hi
  exact ⟨z0, z1, z2, hx, hR _ _ hr⟩
theorem Pol.grm {w w' : World} {v : Value} {l : List Mon} {b : Nat} (h : Pol w v l) (hg : w.grownBy w' (some b)) {es : Array MapEntry} {ck : Nat} (hm : w.heap[b]? = some (.map es ck)) : Pol w' v l := PBy.grm h (fun _ _ hr => hr.grm hg hm) hg hm
def mulTo (q p : List Mon) : Co := p.foldl (fun c m => addM c q m.1 m.2) zeroC
theorem mulTo_snoc (q p : List Mon) (m : Mon) : mulTo q (p ++ [m]) = addM (mulTo q p) q m.1 m.2 := by
 unfold mulTo
 rw [List.foldl_append]; rfl
theorem mulTo_all (q p : List Mon) : mulTo q p = mulL p q := rfl
theorem szC_mulTo {q : List Mon} (hq : VP q) {L Lq : Nat} (hl : SzL q Lq) (p : List Mon) (hp : SzL p L) : SzC (mulTo q p) (1 + p.length * (Lq + L + 1)) := by
 have key : ∀ (p : List Mon) (c : Co) (B : Nat), SzC c B -> SzL p L -> SzC (p.foldl (fun c m => addM c q m.1 m.2) c) (B + p.length * (Lq + L + 1)) := by
  intro p
  induction p with
  | nil => intro c B h _; exact h.mono (by simp)
  | cons m p ih =>
    intro c B h hp
    have h1 := szC_addM h (vp_nodup hq) (e := m.1) (hp m (by simp)) hl (show B + (Lq + L) + 1 <= B + (Lq + L + 1) by omega)
    have h2 := ih _ _ h1 (fun x hx => hp x (by simp [hx]))
    refine h2.mono ?_
    rw [List.length_cons, Nat.add_mul]
    omega
 exact key p zeroC 1 (szC_zero 1 (Nat.le_refl _)) hp
theorem Mul_p (v u : Value) (p q : List Mon) (L Lq : Nat) (w : World) (hT : Tab w) (h : PI w v p L) (h' : PI w u q Lq) (hL : p.length * (Lq + L + 1) <= 900000) (hL2 : Lq + L <= 800000) : Calls Tryz.prog 19 #[v, u] w (RetPol w (listOf (mulC (co p) (co q)))) := by
 obtain ⟨_, _, _, rfl⟩ := h.slice
 obtain ⟨_, _, _, rfl⟩ := h'.slice
 have hmm := @run_makeMap Tryz.prog
 have hvp := h.vp
 have hvq := h'.vp
 have hsp := h.szl
 have hsq := h'.szl
 have hlp := vp_length hvp
 have hlq := vp_length hvq
 have hC1 := clean_p _ p L w hT h
 have HC1 := Lib.hid hC1
 clear hC1 h
 go_enter Tryz.func19, Tryz.ntmps19
 go_wp2_with fail
 refine HC1.out.mono ?_
 rintro e1 w1 ⟨v1, rfl, hp1, hb1⟩
 have hT1 := hT.below hb1
 obtain ⟨A1, c1, rfl⟩ := hp1.slice
 have hC2 := clean_p _ q Lq w1 hT1 (h'.below hb1)
 have HC2 := Lib.hid hC2
 clear hC2 h'
 go_wp2_with fail
 refine HC2.out.mono ?_
 rintro e2 w2 ⟨v2, rfl, hq2, hb2⟩
 obtain ⟨A2, c2, rfl⟩ := hq2.slice
 have hb3 : Below w2.heap.size w2 (w2.alloc (.map #[] 0)) := (Below.refl _ _).alloc (Nat.le_refl _) _
 have hS3 := Sums.made w2
 have hp3 := (hp1.below hb2).below hb3
 have hq3 := hq2.below hb3
 have hT3 := (hT1.below hb2).below hb3
 have hb12 := hb1.trans (hb2.mono hb1.size)
 have hB3 := hb12.trans (hb3.mono hb12.size)
 have hsz := hb12.size
 obtain ⟨es0, ck0, hm0⟩ := hS3.map
 clear hb1 hb2 hp1 hq2 hT1 HC1 HC2 hb3
 go_wp2_with fail
 generalize (w2.alloc (.map #[] 0)) = W3 at *
 generalize w2.heap.size = mb at *
 go_loopw [15] (fun i wr => ∃ k n', k <= p.length /\ i = .int .i64 (k : Int) /\ n' <= k * q.length /\ Sums wr mb n' (mulTo q (p.take k)) /\ W3.grownBy wr (some mb)) (fun i _ => (p.length - intOf i).toNat)
 case atStart => exact ⟨0, 0, Nat.zero_le _, rfl, Nat.zero_le _, hS3, World.grownBy.refl _ _⟩
 case round =>
  obtain ⟨k, n', hk, rfl, hn', hSk, hgk⟩ := hrel
  rcases Nat.lt_or_ge k p.length with hkn | hkn
  ·obtain ⟨m, hm⟩ : ∃ m, p[k]? = some m := ⟨p[k], List.getElem?_eq_getElem hkn⟩
   obtain ⟨bq, oq, y0, y1, y2, rfl, hbq, hat, hcoef⟩ := hp3.at hm
   obtain ⟨nb, Ay, ny, cy, By, my, ey, heq⟩ := hcoef.agg
   simp only [Value.agg.injEq, Array.mk.injEq, List.cons.injEq, and_true] at heq
   obtain ⟨rfl, rfl, rfl⟩ := heq
   have hmq : m ∈ p := List.mem_of_getElem? hm
   have hdm := (hvp.1 m hmq).1
   obtain ⟨x0, x1, x2, x3, x4, x5⟩ := hat.grm hgk hm0 hbq
   have r2 := hcoef.grm hgk hm0
   have t1 := hT3.grm hgk hm0
   obtain ⟨hb6, d6⟩ := new6 wr (.int .i64 (m.1.1 : Int)) (.int .i64 (m.1.2.1 : Int)) (.int .i64 (m.1.2.2 : Int)) (.bool nb) (.slice Ay ny cy) (.slice By my ey)
   have hS6 := hSk.below hb6
   have hc6 := d6.c6
   have hlt : (k : Int) < (p.length : Int) := by omega
   have hgd := grown_back hgk hb6
   have hkq : k * q.length <= 56 * 56 := Nat.mul_le_mul (by omega) hlq
   have hbnd : 1 + k * (Lq + L + 1) + (Lq + L) + 1 <= 1000000 := by
    have h1 : (k + 1) * (Lq + L + 1) <= p.length * (Lq + L + 1) := Nat.mul_le_mul_right _ (by omega)
    rw [Nat.add_mul] at h1
    omega
   have hszk : SzC (mulTo q (p.take k)) (1 + k * (Lq + L + 1)) := by
    have h1 := szC_mulTo hvq hsq (p.take k) (fun x hx => hsp x (List.mem_of_mem_take hx))
    rwa [List.length_take, Nat.min_eq_left (by omega)] at h1
   have hadd := sums_addM mb n' _ q m.1 _ m.2 _ (1 + k * (Lq + L + 1)) L Lq _ (t1.below hb6) hS6 ((hq3.grm hgk hm0).below hb6) (vp_nodup hvq) (fun x hx => (hvq.1 x hx).1) (by omega) hdm ((r2.below hb6).inp (hsp m hmq) (by omega)) hszk hsq hbnd
   have HADD := Lib.hid hadd
   have HK := Lib.hid hkn
   have HM := Lib.hid hm
   have HN := Lib.hid hn'
   clear hadd hS6 hSk hkn hm hn' r2 t1 hat hcoef hszk hbnd
   go_wp2_with fail
   clear hc6 x0 x1 x2 x3 x4 x5
   refine HADD.out.mono ?_
   rintro e6 w6 ⟨rfl, ⟨n6, hn6, hS6⟩, hg6⟩
   go_wp2_with fail
   go_roundw
   case rel =>
    refine ⟨k + 1, n6, by have := HK.out; omega, congrArg (Value.int _) (by omega), by have := HN.out; rw [Nat.add_mul, Nat.one_mul]; omega, ?_, grown_trans hgd hg6⟩
    rw [List.take_succ_eq_append_getElem HK.out, (List.getElem?_eq_some_iff.1 HM.out).2, mulTo_snoc]
    exact hS6
   case measure => simp [intOf]; have := HK.out; omega
  ·obtain rfl : k = p.length := by omega
   have hlt : ¬ (p.length : Int) < (p.length : Int) := by omega
   rw [List.take_length] at hSk
   have hB5 : Below w.heap.size w wr := hB3.grown hgk hB3.size (fun j e => by cases e; exact hsz)
   have hkq : p.length * q.length <= 56 * 56 := Nat.mul_le_mul hlp hlq
   have hL5 := sums_list _ n' _ wr (hT3.grm hgk hm0) hSk (by omega) ((szC_mulTo hvq hsq p hsp).mono (by omega))
   have HL5 := Lib.hid hL5
   clear hL5 hSk hp3 hS3 hm0 hT3 hB3 hgk hq3
   go_wp2_with fail
   refine HL5.out.mono ?_
   rintro e6 w6 ⟨v6, rfl, hp6, hb6⟩
   go_wp2_with fail
   go_ret
   refine ⟨v6, rfl, ?_, hB5.trans (hb6.mono hB5.size)⟩
   rw [mulTo_all] at hp6
   have e1 : listOf (mulC (co p) (co q)) = listOf (mulL p q) := listOf_congr (fun e he => (mulL_mulC hvp hvq he).symm)
   rw [e1]
   exact hp6
def restL (l : List Mon) : List Mon := l.filter fun m => decide (m.1 ≠ (0, 0, 0))
def lowL (l : List Mon) : Rat := co l (0, 0, 0)
theorem vp_rest {l : List Mon} (h : VP l) : VP (restL l) := ⟨fun m hm => h.1 m (List.mem_filter.1 hm).1, h.2.filter _⟩
theorem rest_ne {l : List Mon} : ∀ m ∈ restL l, m.1 ≠ (0, 0, 0) := fun m hm => of_decide_eq_true (List.mem_filter.1 hm).2
theorem rest_szl {l : List Mon} {L : Nat} (h : SzL l L) : SzL (restL l) L := fun m hm => h m (List.mem_filter.1 hm).1
theorem only_last {l : List Mon} (h : VP l) {i : Nat} {m : Mon} (hi : l[i]? = some m) (hm : m.1 = (0, 0, 0)) : i + 1 = l.length := by
 have hil := (List.getElem?_eq_some_iff.1 hi).1
 rcases Nat.lt_or_ge (i + 1) l.length with h1 | h1
 ·have h2 := List.pairwise_iff_getElem.1 h.2 i (i + 1) hil h1 (by omega)
  rw [(List.getElem?_eq_some_iff.1 hi).2, hm, elt_iff] at h2
  simp at h2
 ·omega
theorem split_none {l : List Mon} (hne : ∀ m, l[l.length - 1]? = some m -> m.1 ≠ (0, 0, 0)) (h : VP l) : restL l = l /\ lowL l = 0 := by
 have hall : ∀ m ∈ l, m.1 ≠ (0, 0, 0) := fun m hm h0 => by
  obtain ⟨i, hi, rfl⟩ := List.getElem_of_mem hm
  have h1 := only_last h (List.getElem?_eq_getElem hi) h0
  exact hne l[i] (by rw [show l.length - 1 = i by omega]; exact List.getElem?_eq_getElem hi) h0
 exact ⟨List.filter_eq_self.2 (fun m hm => decide_eq_true (hall m hm)), co_absent hall⟩
theorem split_some {l : List Mon} (h : VP l) {m : Mon} (hm : l[l.length - 1]? = some m) (h0 : m.1 = (0, 0, 0)) : restL l = l.take (l.length - 1) /\ lowL l = m.2 := by
 have hl := (List.getElem?_eq_some_iff.1 hm).1
 constructor
 ·have e1 : l = l.take (l.length - 1) ++ [m] := by
   conv => lhs; rw [<- List.take_length (l := l), show l.length = (l.length - 1) + 1 by omega, List.take_succ_eq_append_getElem hl]
   rw [(List.getElem?_eq_some_iff.1 hm).2]
  have e2 : restL l = restL (l.take (l.length - 1)) ++ restL [m] := by
   conv => lhs; rw [e1]
   unfold restL
   rw [List.filter_append]
  have e3 : restL [m] = [] := by simp [restL, h0]
  rw [e2, e3, List.append_nil]
  refine List.filter_eq_self.2 (fun x hx => decide_eq_true (fun hx0 => ?_))
  obtain ⟨i, hi, rfl⟩ := List.getElem_of_mem hx
  rw [List.length_take] at hi
  rw [List.getElem_take] at hx0
  have := only_last h (List.getElem?_eq_getElem (show i < l.length by omega)) hx0
  omega
 ·have := co_mem h (List.mem_of_getElem? hm)
  rw [h0] at this
  exact this
theorem ret_tmp_cs {fn : Func} {p u : Tmp} {t : TypeId} {l : List Value} {fs : Array Field} (hres : fn.results = #[.tmp u, .cell p t]) (hu : Tryz.prog.underlying t = some (.struct fs)) (hn : (Tryz.prog.info? t).map (·.size) = some l.length) {R : Ending -> World -> Prop} {a : Act} {w : World} {g : Nat} {x : Value} (hp : a.tmps.getD p undef = .pointer (some ⟨g, 0, none⟩)) (hx : a.tmps.getD u undef = x) (h : Cs w g l t) (hd : a.defers = [])
 (hR : R (.returned (.tuple #[x, .agg l.toArray])) w) : bodyPost Tryz.prog fn R .ret a w := by
 refine bodyPost_ret (v := .tuple #[x, .agg l.toArray]) ?_ hd hR
 have hp' : a.tmps[p]?.getD undef = .pointer (some ⟨g, 0, none⟩) := by simpa using hp
 have hx' : a.tmps[u]?.getD undef = x := by simpa using hx
 simp [results, hres, hp', hx', asAddr, run_loadVar_row w g t t l.toArray (0, 0) _ h hu rfl hn]
theorem info_int3 : ∃ i, Tryz.prog.info? 3 = some i := by
 have h : (Tryz.prog.info? 3).isSome = true := by kernel_rfl
 exact Option.isSome_iff_exists.1 h
theorem cells_int : Tryz.prog.cellsOf 3 = 1 := by kernel_rfl
theorem part_int (x0 x1 x2 : Int) (w : World) : (part 3 #[.int .i64 x0, .int .i64 x1, .int .i64 x2] 0).run Tryz.prog w = .ok (.int .i64 x0) w /\ (part 3 #[.int .i64 x0, .int .i64 x1, .int .i64 x2] 1).run Tryz.prog w = .ok (.int .i64 x1) w /\ (part 3 #[.int .i64 x0, .int .i64 x1, .int .i64 x2] 2).run Tryz.prog w = .ok (.int .i64 x2) w :=
 ⟨by kernel_rfl, by kernel_rfl, by kernel_rfl⟩
theorem eq_exps (x0 x1 x2 y0 y1 y2 : Int) (w : World) : (Op.equalIn 10000 57 (.agg #[.int .i64 x0, .int .i64 x1, .int .i64 x2]) (.agg #[.int .i64 y0, .int .i64 y1, .int .i64 y2])).run Tryz.prog w = .ok (x0 == y0 && (x1 == y1 && x2 == y2)) w := by
 obtain ⟨i, hi⟩ := info_int3
 have h := run_equalIn_array (P := Tryz.prog) w 9999 #[.int .i64 x0, .int .i64 x1, .int .i64 x2] #[.int .i64 y0, .int .i64 y1, .int .i64 y2] Tryz.underlying57 hi
 rw [cells_int, show List.range 3 = [0, 1, 2] from rfl] at h
 rw [show (10000 : Nat) = 9999 + 1 from rfl, h]
 have e : ∀ (a b : Int) (w : World), (Op.equalIn 9999 3 (.int .i64 a) (.int .i64 b)).run Tryz.prog w = .ok (a == b) w := fun a b w => run_equalIn_int w 9998 _ _ _ a b Tryz.underlying3
 obtain ⟨p0, p1, p2⟩ := part_int x0 x1 x2 w
 obtain ⟨q0, q1, q2⟩ := part_int y0 y1 y2 w
 simp only [Op.eqItems, Sem.run_bind, Nat.zero_mul, Nat.one_mul, p0, q0, e, Result.andThen_ok]
 by_cases h0 : (x0 == y0) = true
 ·simp only [h0, Bool.not_true, Bool.false_eq_true, if_false, Sem.run_bind, p1, q1, e, Result.andThen_ok, Bool.true_and]
  by_cases h1 : (x1 == y1) = true
  ·simp only [h1, Bool.not_true, Bool.false_eq_true, if_false, Sem.run_bind, show 2 * 1 = 2 from rfl, p2, q2, e, Result.andThen_ok, Bool.true_and]
   by_cases h2 : (x2 == y2) = true
   ·simp [h2]
   ·simp [h2]
  ·simp [h1]
 ·simp [h0]
def RetSplit (w0 : World) (l : List Mon) (e : Ending) (w' : World) : Prop := ∃ A c nb A1 n1 c1 B1 m1 e1, e = .returned (.tuple #[.slice A (restL l).length c, .agg #[.bool nb, .slice A1 n1 c1, .slice B1 m1 e1]]) /\ Pol w' (.slice A (restL l).length c) (restL l) /\ RatQ w' (.agg #[.bool nb, .slice A1 n1 c1, .slice B1 m1 e1]) (lowL l) /\ Below w0.heap.size w0 w'
theorem split_p (A : Option Addr) (n c : Nat) (l : List Mon) (w : World) (h : Pol w (.slice A n c) l) (hv : VP l) : Calls Tryz.prog 60 #[.slice A n c] w (RetSplit w l) := by
 obtain ⟨_, _, e0⟩ := h.slice
 have hn : n = l.length := by injection e0
 subst hn
 have hlen := vp_length hv
 obtain ⟨hb1, c1⟩ := blk1 w [.bool false, .slice none 0 0, .slice none 0 0] 25
 have h1 := h.below hb1
 clear e0
 rcases Nat.eq_zero_or_pos l.length with h0 | h0
 ·have hl : l = [] := List.eq_nil_of_length_eq_zero h0
  subst hl
  have f0 := c1.frozen 0
  have f1 := c1.frozen 1
  have f2 := c1.frozen 2
  have y := c1.c3
  go_enter Tryz.func60, Tryz.ntmps60
  go_wp2_with fail
  refine ret_tmp_cs Tryz.results60 Tryz.underlying25 (by kernel_rfl) rfl rfl c1 rfl ?_
  exact ⟨_, _, _, _, _, _, _, _, _, rfl, Pol.nil _ _ _, ratq_zero _, hb1⟩
 ·obtain ⟨m, hm⟩ : ∃ m, l[l.length - 1]? = some m := ⟨l[l.length - 1], List.getElem?_eq_getElem (by omega)⟩
  obtain ⟨bq, oq, y0, y1, y2, rfl, hbq, hat0, hcoef⟩ := h.at hm
  have hat := hat0.below hb1 hbq
  obtain ⟨nb, Ay, ny, cy, By, my, ey, heq⟩ := hcoef.agg
  simp only [Value.agg.injEq, Array.mk.injEq, List.cons.injEq, and_true] at heq
  obtain ⟨rfl, rfl, rfl⟩ := heq
  obtain ⟨n1, hn1⟩ : ∃ n1, l.length - 1 = n1 := ⟨_, rfl⟩
  have hln : l.length = n1 + 1 := by omega
  have hw1 : IntKind.i64.wrap ((n1 : Int) + 1 - 1) = (n1 : Int) := by rw [show (n1 : Int) + 1 - 1 = n1 by omega]; exact IntWalk.i64_in _ (by omega)
  clear hat0
  rw [hn1] at hat
  obtain ⟨x0, x1, x2, x3, x4, x5⟩ := hat
  have hw2 : wrap64 (n1 : Int) = (n1 : Int) := IntWalk.wrap64_in _ ⟨by omega, by omega⟩
  have hw3 : wrap64 ((n1 : Int) + 1 - 1) = (n1 : Int) := by rw [show (n1 : Int) + 1 - 1 = n1 by omega]; exact hw2
  have hneg : ¬ (n1 : Int) < 0 := by omega
  have hneg' : (n1 : Int) < (n1 : Int) + 1 := by omega
  have f0 := c1.frozen 0
  have f1 := c1.frozen 1
  have f2 := c1.frozen 2
  have yy := c1.c3
  have hle : n1 <= n1 + 1 := Nat.le_succ _
  have hle2 : n1 <= c := by
   obtain ⟨A', n', c', xs, e', h5, _⟩ := h1
   cases e'
   have := h5.cap
   omega
  have HLN := Lib.hid hln
  have HM := Lib.hid hm
  have HN1 := Lib.hid hn1
  by_cases hz : m.1 = (0, 0, 0)
  ·obtain ⟨s1, s2⟩ := split_some hv hm hz
   rw [hn1] at s1
   have hz0 : ((m.1.1 : Nat) : Int) = 0 := by rw [hz]; rfl
   have hz1 : ((m.1.2.1 : Nat) : Int) = 0 := by rw [hz]; rfl
   have hz2 : ((m.1.2.2 : Nat) : Int) = 0 := by rw [hz]; rfl
   rw [hz0] at x0
   rw [hz1] at x1
   rw [hz2] at x2
   have heq : ∀ w : World, (Op.equalIn 10000 57 (.agg #[.int .i64 0, .int .i64 0, .int .i64 0]) (.agg #[.int .i64 0, .int .i64 0, .int .i64 0])).run Tryz.prog w = .ok true w := fun w => eq_exps 0 0 0 0 0 0 w
   have S1 := Lib.hid s1
   have S2 := Lib.hid s2
   clear hz hz0 hz1 hz2 s1 s2 hln hm hn1 h0
   rw [HLN.out]
   go_enter Tryz.func60, Tryz.ntmps60
   go_wp2_with fail
   have hmx : Tryz.prog.follows .mixedOrders = true := by kernel_rfl
   go_region_o
   all_goals go_wp2_with fail
   obtain ⟨hb2, c2⟩ := blk1 w [.bool nb, .slice Ay ny cy, .slice By my ey] 25
   refine ret_tmp_cs Tryz.results60 Tryz.underlying25 (by kernel_rfl) rfl rfl c2.drew rfl ?_
   have hb3 := below_drewN hb2 1
   rw [HLN.out] at h
   refine ⟨some ⟨bq, oq, none⟩, c, nb, Ay, ny, cy, By, my, ey, ?_, ?_, ?_, hb3⟩
   ·rw [S1.out, List.length_take, HLN.out, Nat.min_eq_left hle]; rfl
   ·rw [S1.out, List.length_take, HLN.out, Nat.min_eq_left hle]
    have := (PBy.take h hle)
    rw [<- List.map_take] at this
    exact Pol.below this hb3
   ·rw [S2.out]; exact hcoef.below hb3
  ·obtain ⟨s1, s2⟩ := split_none (fun m' hm' => by rw [hm] at hm'; cases hm'; exact hz) hv
   have heq : ∀ w : World, (Op.equalIn 10000 57 (.agg #[.int .i64 (m.1.1 : Int), .int .i64 (m.1.2.1 : Int), .int .i64 (m.1.2.2 : Int)]) (.agg #[.int .i64 0, .int .i64 0, .int .i64 0])).run Tryz.prog w = .ok false w := fun w => by
    rw [eq_exps]
    congr 1
    rw [Bool.eq_false_iff]
    intro h
    simp only [Bool.and_eq_true, beq_iff_eq] at h
    exact hz (Prod.ext (by show m.1.1 = 0; omega) (Prod.ext (by show m.1.2.1 = 0; omega) (by show m.1.2.2 = 0; omega)))
   have S1 := Lib.hid s1
   have S2 := Lib.hid s2
   clear hz s1 s2 hln hm hn1 h0
   rw [HLN.out]
   go_enter Tryz.func60, Tryz.ntmps60
   go_wp2_with fail
   have hrest := S1.out
   have hlow := S2.out
   refine ret_tmp_cs Tryz.results60 Tryz.underlying25 (by kernel_rfl) rfl rfl c1 rfl ?_
   refine ⟨some ⟨bq, oq, none⟩, c, false, none, 0, 0, none, 0, 0, ?_, ?_, ?_, hb1⟩
   ·rw [hrest, HLN.out]; rfl
   ·rw [hrest]; exact h1
   ·rw [hlow]; exact ratq_zero _
def lee (a e : Ex) : Bool := decide (a.1 <= e.1) && decide (a.2.1 <= e.2.1) && decide (a.2.2 <= e.2.2)
theorem lee_eadd (m a : Ex) : lee a (eadd m a) = true := by simp [lee, eadd]
def gDeg : Nat -> Nat
 | 0 => 1
 | 1 => 4
 | 2 => 16
 | 3 => 76
 | 4 => 328
 | _ => 1492
def units (K : List Ex) (e : Ex) : Nat := (K.map fun a => if lee a e && decide (a ≠ e) then gDeg (deg a) + 2 else 0).sum
theorem units_all : (allE.all fun e => decide (1 + units allE.reverse e <= gDeg (deg e))) = true := by decide +kernel
theorem gDeg_le : ∀ d, gDeg d <= 1492
 | 0 => by decide
 | 1 => by decide
 | 2 => by decide
 | 3 => by decide
 | 4 => by decide
 | _ + 5 => Nat.le_refl _
theorem units_snoc (K : List Ex) (a e : Ex) : units (K ++ [a]) e = units K e + if lee a e && decide (a ≠ e) then gDeg (deg a) + 2 else 0 := by
 simp [units]
theorem units_take (i : Nat) (e : Ex) : units (allE.reverse.take i) e <= units allE.reverse e := by
 conv => rhs; rw [<- List.take_append_drop i allE.reverse]
 unfold units
 rw [List.map_append, List.sum_append]
 exact Nat.le_add_right _ _
theorem units_le {i : Nat} {e : Ex} (he : deg e <= 5) : 1 + units (allE.reverse.take i) e <= gDeg (deg e) := by
 have h1 := of_decide_eq_true (List.all_eq_true.1 units_all e ((mem_allE e).2 he))
 have h2 := units_take i e
 omega
def starTo (rest : List Mon) (k : Rat) (i : Nat) : Co := (allE.reverse.take i).foldl (starStep rest k) oneC
theorem starTo_zero (rest : List Mon) (k : Rat) : starTo rest k 0 = oneC := rfl
theorem starTo_succ (rest : List Mon) (k : Rat) {i : Nat} (h : i < 56) : starTo rest k (i + 1) = starStep rest k (starTo rest k i) (asc i) := by
 unfold starTo
 rw [asc_take h, List.foldl_append]; rfl
theorem starTo_all (rest : List Mon) (k : Rat) : starTo rest k 56 = starC rest k := by
 unfold starTo starC
 rw [asc_all]
theorem asc_notin {i : Nat} (h : i < 56) : asc i ∉ allE.reverse.take i := by
 have h1 : (allE.reverse.take (i + 1)).Nodup := (List.pairwise_reverse.2 (nodup_allE.imp (fun h => h.symm))).sublist (List.take_sublist _ _)
 rw [asc_take h] at h1
 intro hm
 have := (List.nodup_append.1 h1).2.2 _ hm (asc i) (by simp)
 exact this rfl
theorem sz_one'' (L : Nat) (h : 1 <= L) : Sz 1 L := ⟨by show (limbs 1).length <= L; rw [limbs_one]; exact h, by show (limbs 1).length <= L; rw [limbs_one]; exact h⟩
def szTo (U i : Nat) (e : Ex) : Nat := (1 + units (allE.reverse.take i) e) * U + if e ∈ allE.reverse.take i then U else 0
theorem szTo_le {U i : Nat} {e : Ex} (he : deg e <= 5) : szTo U i e <= 1493 * U := by
 unfold szTo
 have h1 : (1 + units (allE.reverse.take i) e) * U <= 1492 * U := Nat.mul_le_mul_right U (Nat.le_trans (units_le he) (gDeg_le _))
 have h2 : 1493 * U = 1492 * U + U := by rw [show 1493 = 1492 + 1 from rfl, Nat.add_mul, Nat.one_mul]
 split <;> omega
theorem sz_starTo {rest : List Mon} {k : Rat} {L U : Nat} (hv : VP rest) (h0 : ∀ m ∈ rest, m.1 ≠ (0, 0, 0)) (hs : SzL rest L) (hk : Sz k U) (hU : L + 1 <= U) : ∀ i, i <= 56 -> ∀ e, deg e <= 5 -> Sz (starTo rest k i e) (szTo U i e) := by
 intro i
 induction i with
 | zero =>
   intro _ e he
   rw [starTo_zero]
   have h1 : U <= szTo U 0 e := by
    unfold szTo
    have : U <= (1 + units (allE.reverse.take 0) e) * U := Nat.le_mul_of_pos_left U (by omega)
    omega
   unfold oneC
   split
   ·exact sz_one'' _ (by omega)
   ·exact sz_zero _ (by omega)
 | succ i ih =>
   intro hi e he
   have hi' : i < 56 := by omega
   have hda := asc_deg (i := i) (by omega)
   have ha := ih (by omega) (asc i) hda
   have hx : Sz (starTo rest k i (asc i) * k) (gDeg (deg (asc i)) * U + U) := by
    refine sz_mul (ha.mono (show szTo U i (asc i) <= gDeg (deg (asc i)) * U from ?_)) hk (Nat.le_refl _)
    unfold szTo
    rw [if_neg (asc_notin hi'), Nat.add_zero]
    exact Nat.mul_le_mul_right U (units_le hda)
   rw [starTo_succ rest k hi']
   have hstep : szTo U (i + 1) e = szTo U i e + (if lee (asc i) e && decide (asc i ≠ e) then (gDeg (deg (asc i)) + 2) * U else 0) + if e = asc i then U else 0 := by
    unfold szTo
    rw [asc_take hi', units_snoc]
    by_cases hea : e = asc i
    ·have hn := asc_notin hi'
     have hmem : e ∈ allE.reverse.take i ++ [asc i] := by simp [hea]
     have hnm : e ∉ allE.reverse.take i := by rw [hea]; exact hn
     have hl : ¬ (lee (asc i) e && decide (asc i ≠ e)) = true := by simp [hea]
     rw [if_pos hmem, if_neg hnm, if_neg hl, if_neg hl, if_pos hea]
     simp
    ·have hmem : (e ∈ allE.reverse.take i ++ [asc i]) ↔ (e ∈ allE.reverse.take i) := by simp [hea]
     rw [if_neg hea, Nat.add_zero]
     have hU2 : (if e ∈ allE.reverse.take i ++ [asc i] then U else 0) = (if e ∈ allE.reverse.take i then U else 0) := by
      by_cases h : e ∈ allE.reverse.take i
      ·rw [if_pos (hmem.2 h), if_pos h]
      ·rw [if_neg (fun h' => h (hmem.1 h')), if_neg h]
     rw [hU2]
     by_cases hl : (lee (asc i) e && decide (asc i ≠ e)) = true
     ·rw [if_pos hl, if_pos hl, <- Nat.add_assoc, Nat.add_mul (1 + _)]; omega
     ·rw [if_neg hl, if_neg hl, Nat.add_zero, Nat.add_zero]
   have ihe := ih (by omega) e he
   unfold starStep
   rcases addM_at (vp_nodup hv) (setAt (starTo rest k i) (asc i) (starTo rest k i (asc i) * k)) (asc i) (starTo rest k i (asc i) * k) e with ⟨m, hm, hme, h⟩ | ⟨_, h⟩
   ·rw [h]
    have hne : asc i ≠ e := fun h' => by
     apply h0 m hm
     rw [<- h'] at hme
     unfold eadd at hme
     have e1 := congrArg Prod.fst hme
     have e2 := congrArg (fun x : Ex => x.2.1) hme
     have e3 := congrArg (fun x : Ex => x.2.2) hme
     simp only at e1 e2 e3
     exact Prod.ext (by show m.1.1 = 0; omega) (Prod.ext (by show m.1.2.1 = 0; omega) (by show m.1.2.2 = 0; omega))
    have hl : (lee (asc i) e && decide (asc i ≠ e)) = true := by rw [<- hme, lee_eadd, hme]; simpa using hne
    unfold setAt
    rw [if_neg (fun h' => hne h'.symm)]
    refine sz_add ihe (sz_mul (hs m hm) hx (Nat.le_refl _)) ?_
    rw [hstep, if_pos hl, if_neg (fun h' => hne h'.symm), Nat.add_mul]
    omega
   ·rw [h]
    unfold setAt
    by_cases hea : e = asc i
    ·rw [if_pos hea]
     subst hea
     refine (sz_mul ha hk (Nat.le_refl _)).mono ?_
     rw [hstep, if_pos rfl]; omega
    ·rw [if_neg hea]
     exact ihe.mono (by rw [hstep]; omega)
theorem szC_starTo {rest : List Mon} {k : Rat} {L U : Nat} (hv : VP rest) (h0 : ∀ m ∈ rest, m.1 ≠ (0, 0, 0)) (hs : SzL rest L) (hk : Sz k U) (hU : L + 1 <= U) {i : Nat} (hi : i <= 56) : SzC (starTo rest k i) (1493 * U) := fun e he => (sz_starTo hv h0 hs hk hU i hi e he).mono (szTo_le he)
theorem sz_one (L : Nat) (h : 1 <= L) : Sz 1 L := ⟨by show (limbs 1).length <= L; rw [limbs_one]; exact h, by show (limbs 1).length <= L; rw [limbs_one]; exact h⟩
theorem cell_alc7 {w : World} {a : Addr} {v : Value} (o : Obj) (h : w.cell? a = some v) : (w.alloc o).cell? a = some v := (World.cell?_alloc_some w a o (by rw [h]; rfl)).trans h
theorem cell_alc_d {w : World} {a : Addr} {v : Value} (o : Obj) (h : w.drew.cell? a = some v) : (w.alloc o).drew.cell? a = some v := cell_alc7 (w := w) o h
theorem cell_st {w : World} {b g k k' : Nat} {v u : Value} (hne : b ≠ g) (h : w.cell? ⟨b, k, none⟩ = some v) : (w.setCell ⟨g, k', none⟩ u).cell? ⟨b, k, none⟩ = some v := by
 rw [World.cell?_setCell_other _ _ _ _ (fun e => hne (by injection e with e1; first | exact e1 | exact e1.symm))]; exact h
def QRel (w0 : World) (r : Rat) (p : Value) (wx : World) : Prop :=
 ∃ g nb A n c B m e, p = .pointer (some ⟨g, 0, none⟩) /\ Cs wx g [.bool nb, .slice A n c, .slice B m e] 25 /\ w0.heap.size <= g /\ RatQ wx (.agg #[.bool nb, .slice A n c, .slice B m e]) r /\ Below w0.heap.size w0 wx
theorem qrel1 {w0 W : World} {r : Rat} {nb : Bool} {A B : Option Addr} {n c m e : Nat} (hb : Below w0.heap.size w0 W) (h : RatQ W (.agg #[.bool nb, .slice A n c, .slice B m e]) r) : QRel w0 r (.pointer (some ⟨W.heap.size, 0, none⟩)) (W.alloc (R1 (.bool nb) (.slice A n c) (.slice B m e))) := by
 have hx := blk1 W [.bool nb, .slice A n c, .slice B m e] 25
 exact ⟨_, _, _, _, _, _, _, _, rfl, hx.2, hb.size, h.below hx.1, hb.trans (hx.1.mono hb.size)⟩
theorem qrel2 {w0 W : World} {r : Rat} {nb : Bool} {A B : Option Addr} {n c m e g : Nat} (hb : Below w0.heap.size w0 W) (hg : w0.heap.size <= g) (hA : Cs W g [.bool false, .slice none 0 0, .slice none 0 0] 25) (h : RatQ W (.agg #[.bool nb, .slice A n c, .slice B m e]) r) : QRel w0 r (.pointer (some ⟨g, 0, none⟩)) (((W.setCell ⟨g, 0, none⟩ (.bool nb)).setCell ⟨g, 1, none⟩ (.slice A n c)).setCell ⟨g, 2, none⟩ (.slice B m e)) :=
 ⟨_, _, _, _, _, _, _, _, rfl, cs_own3 hA rfl _ _ _, hg, h.set3 (show Rc _ _ _ _ _ from hA) _ _ _, below_s3 hb hg _ _ _⟩
def RetStar (w0 : World) (l : List Mon) (E : Int) (e : Ending) (w' : World) : Prop := ∃ v, e = .returned (.tuple #[v, .int .i64 E]) /\ Pol w' v l /\ Below w0.heap.size w0 w'
theorem sz_low {p : List Mon} (hv : VP p) {L : Nat} (h : SzL p L) : Sz (lowL p) (L + 1) := by
 by_cases hm : ∃ m ∈ p, m.1 = (0, 0, 0)
 ·obtain ⟨m, hm, h0⟩ := hm
  have := co_mem hv hm
  rw [h0] at this
  show Sz (co p (0, 0, 0)) _
  rw [this]
  exact (h m hm).mono (by omega)
 ·show Sz (co p (0, 0, 0)) _
  rw [co_absent (fun m h1 h2 => hm ⟨m, h1, h2⟩)]
  exact sz_zero _ (by omega)
theorem sz_abs {q a : Rat} {L : Nat} (h : Sz q L) (ha : qv false q.num.natAbs q.den = a) : Sz a L := by
 rw [<- ha]
 exact sz_qv q.den_nz q.reduced h.1 h.2
theorem heap_s3 {w : World} {g k : Nat} (h : k ≠ g) (u0 u1 u2 : Value) : (((w.setCell ⟨g, 0, none⟩ u0).setCell ⟨g, 1, none⟩ u1).setCell ⟨g, 2, none⟩ u2).heap[k]? = w.heap[k]? :=
 (Below.heap_setCell _ ⟨g, 2, none⟩ u2 k h).trans ((Below.heap_setCell _ ⟨g, 1, none⟩ u1 k h).trans (Below.heap_setCell w ⟨g, 0, none⟩ u0 k h))
theorem grown_s3 {a w : World} {row : Option Nat} {g : Nat} (h : a.grownBy w row) (hg : a.heap.size <= g) (u0 u1 u2 : Value) : a.grownBy (((w.setCell ⟨g, 0, none⟩ u0).setCell ⟨g, 1, none⟩ u1).setCell ⟨g, 2, none⟩ u2) row := by
 have b := below_s3 (B := g) (Below.refl g w) (Nat.le_refl _) u0 u1 u2
 exact ⟨b.os.trans h.os, b.tape.trans h.tape, b.output.trans h.output, Nat.le_trans h.size b.size, fun i hi hne => (heap_s3 (by omega) _ _ _).trans (h.block i hi hne)⟩
theorem RatQ.s3c {w : World} {v : Value} {q : Rat} (h : RatQ w v q) {g : Nat} {l : List Value} {t : TypeId} (hr : Cs w g l t) (hl : ∀ v ∈ l, ∀ x : Nat, v ≠ .int .u32 (x : Int)) (u0 u1 u2 : Value) : RatQ (((w.setCell ⟨g, 0, none⟩ u0).setCell ⟨g, 1, none⟩ u1).setCell ⟨g, 2, none⟩ u2) v q := by
 obtain ⟨A, n, c, A', m, c', e, h1, h2⟩ := h
 exact ⟨A, n, c, A', m, c', e, num_s3 h1 (h1.ne_cs hr hl) _ _ _, num_s3 h2 (h2.ne_cs hr hl) _ _ _⟩
theorem Sums.s3c {w : World} {b n : Nat} {c : Co} (h : Sums w b n c) {g : Nat} {l : List Value} {t : TypeId} (hr : Cs w g l t) (hl : ∀ v ∈ l, ∀ x : Nat, v ≠ .int .u32 (x : Int)) (u0 u1 u2 : Value) : Sums (((w.setCell ⟨g, 0, none⟩ u0).setCell ⟨g, 1, none⟩ u1).setCell ⟨g, 2, none⟩ u2) b n c := by
 obtain ⟨D, ⟨es, ck, h1, h2⟩, h3, h4⟩ := h.own
 have hne : b ≠ g := fun e => by
  subst e
  have := hr.symm.trans h1
  cases this
 refine ⟨D, ⟨es, ck, (heap_s3 hne _ _ _).trans h1, h2⟩, h3, fun e he => ?_⟩
 obtain ⟨v, hv, hq⟩ := h4 e he
 exact ⟨v, hv, hq.s3c hr hl _ _ _⟩
theorem starTo_next (rest : List Mon) (r : Rat) {i : Nat} (h : i < 56) {ex : Ex} (he : asc i = ex) : addM (setAt (starTo rest r i) ex (starTo rest r i ex * r)) rest ex (starTo rest r i ex * r) = starTo rest r (i + 1) := by
 rw [starTo_succ rest r h, he]; rfl
theorem szC_setAt {c : Co} {B : Nat} (h : SzC c B) {e : Ex} {x : Rat} (hx : Sz x B) : SzC (setAt c e x) B := fun f hf => by
 unfold setAt
 by_cases hfe : f = e
 ·rw [if_pos hfe]; exact hx
 ·rw [if_neg hfe]; exact h f hf
theorem setAt_same (c : Co) (e : Ex) (x : Rat) : setAt c e x e = x := if_pos rfl
def ascPos (e : Ex) : Nat := allE.reverse.idxOf e
theorem ascPos_all : ((List.range 56).all fun i => ascPos (asc i) == i) = true := by decide +kernel
theorem ascPos_asc {i : Nat} (h : i < 56) : ascPos (asc i) = i := eq_of_beq (List.all_eq_true.1 ascPos_all i (List.mem_range.2 h))
def starLeft (pv mv : Value) (w : World) : Nat :=
 match mv, pv with
 | .bool true, .pointer (some a) =>
   match w.cell? ⟨a.block, 0, none⟩, w.cell? ⟨a.block, 1, none⟩, w.cell? ⟨a.block, 2, none⟩ with
   | some (.int _ x), some (.int _ y), some (.int _ z) => 56 - ascPos (x.toNat, y.toNat, z.toNat)
   | _, _, _ => 0
 | _, _ => 0
theorem starLeft_at {w : World} {g i : Nat} (h : Cs w g (e3 (asc i).1 (asc i).2.1 (asc i).2.2) 73) (hi : i < 56) : starLeft (.pointer (some ⟨g, 0, none⟩)) (.bool true) w = 56 - i := by
 obtain ⟨h0, h1, h2⟩ := h.c3
 unfold starLeft
 simp only [h0, h1, h2, Int.toNat_natCast]
 rw [show ((asc i).1, (asc i).2.1, (asc i).2.2) = asc i from rfl, ascPos_asc hi]
theorem starLeft_false (pv : Value) (w : World) : starLeft pv (.bool false) w = 0 := by unfold starLeft; rfl
theorem Star_ok (v : Value) (p : List Mon) (L U : Nat) (a s r : Rat) (V : Int) (w : World) (hT : Tab w) (h : PI w v p L) (hL : L + 1 <= U) (hU : U <= 300) (ha : Hid (qv false (lowL p).num.natAbs (lowL p).den = a)) (hV : Hid (cmpQ a 1 = V)) (h0 : V < 0) (HS : Hid (1 - lowL p = s)) (HS0 : Hid (s ≠ 0)) (HR : Hid (1 / s = r)) (hr : Sz r U) : Calls Tryz.prog 32 #[v] w (RetStar w (listOf (starC (restL p) r)) 0) := by
 obtain ⟨_, _, _, rfl⟩ := h.slice
 have hvp := h.vp
 have hsp := h.szl
 have hSl := sz_low hvp hsp
 have hSa := (sz_abs hSl ha.out).mono (show L + 1 <= 1000000 by omega)
 have hSl6 := hSl.mono (show L + 1 <= 1000000 by omega)
 have hS1 : Sz 1 1000000 := sz_one _ (by decide)
 have hSs : Sz s 1000000 := by rw [<- HS.out]; exact sz_sub (sz_one 1 (by decide)) hSl (by omega)
 have hC1 := clean_p _ p L w hT h
 have HC1 := Lib.hid hC1
 clear hC1 h
 go_enter Tryz.func32, Tryz.ntmps32
 go_wp2_with fail
 refine HC1.out.mono ?_
 rintro e1 w1 ⟨v1, rfl, hp1, hb1⟩
 have hT1 := hT.below hb1
 obtain ⟨A1, c1, rfl⟩ := hp1.slice
 have hC2 := split_p A1 p.length c1 p w1 hp1 hvp
 have HC2 := Lib.hid hC2
 clear hC2 HC1
 go_wp2_with fail
 refine HC2.out.mono ?_
 rintro e2 w2 ⟨A2, cc2, nb, A, n, c, B, m, e, rfl, hr2, hq2, hb2⟩
 have hT2 := hT1.below hb2
 obtain ⟨hb3, c3⟩ := blk1 w2 [.bool nb, .slice A n c, .slice B m e] 25
 have hB3 := (hb1.trans (hb2.mono hb1.size))
 have hw2 := hB3.size
 replace hB3 := hB3.trans (hb3.mono hB3.size)
 replace hT2 := hT2.below hb3
 replace hq2 := hq2.below hb3
 replace hr2 := hr2.below hb3
 have y3 := c3.c3
 clear HC2 hb1 hb2 hp1 hT1 hT hb3
 go_wp2_with fail
 refine (Abs_any _ _ a (L + 1) _ hT2 (hq2.inp hSl (by omega)) (hSl.mono (by omega)) ha.out).mono ?_
 rintro e4 w4 ⟨v4, rfl, h4, hb4⟩
 replace hT2 := hT2.below hb4
 replace hq2 := hq2.below hb4
 replace hr2 := hr2.below hb4
 replace c3 := c3.below hb4 c3.lt
 replace hB3 := hB3.trans (hb4.mono hB3.size)
 clear hb4 y3
 go_wp2_with fail
 refine (pone_any _).mono ?_
 rintro e5 w5 ⟨v5, rfl, h5, hb5⟩
 replace hT2 := hT2.below hb5
 replace hq2 := hq2.below hb5
 replace hr2 := hr2.below hb5
 replace c3 := c3.below hb5 c3.lt
 replace hB3 := hB3.trans (hb5.mono hB3.size)
 replace h4 := h4.below hb5
 clear hb5
 go_wp2_with fail
 refine (Compare_any _ _ a 1 1000000 V _ hT2 (h4.inp hSa (by decide)) (h5.inp hS1 (by decide)) hSa hS1 hV).mono ?_
 rintro e6 W0 ⟨rfl, hb6⟩
 replace hT2 := hT2.below hb6
 replace hq2 := hq2.below hb6
 replace hr2 := hr2.below hb6
 replace c3 := c3.below hb6 c3.lt
 replace hB3 := hB3.trans (hb6.mono hB3.size)
 clear hb6 h4 h5
 have hrl : (W0.drew.cell? ⟨w2.heap.size, 0, none⟩ = some (.bool nb) /\ W0.drew.cell? ⟨w2.heap.size, 1, none⟩ = some (.slice A n c) /\ W0.drew.cell? ⟨w2.heap.size, 2, none⟩ = some (.slice B m e)) := ⟨c3.cell rfl, c3.cell rfl, c3.cell rfl⟩
 go_wp2_with fail
 replace hq2 : RatQ W0.drew _ (lowL p) := hq2.below (Below.refl _ _).drew
 replace hT2 : Tab W0.drew := hT2.drew
 replace hr2 : Pol W0.drew _ _ := hr2.below (Below.refl _ _).drew
 replace c3 := c3.drew
 have hb9 := hB3.drew
 have hb0 : Below W0.drew.heap.size W0.drew W0.drew := Below.refl _ _
 have hz0 := hb9.size
 have hdz1 : W0.drew.heap.size <= W0.heap.size := Nat.le_refl _
 have hdz2 : W0.heap.size <= W0.drew.heap.size := Nat.le_refl _
 have l0 := c3.lt
 clear hB3
 have HR2 := Lib.hid hr2
 have HT2 := Lib.hid hT2
 go_cut [6, 7] from 22 to 30 (fun p u wx => QRel W0.drew r p wx)
 case first =>
  clear HR2 HT2
  go_region_held3 (fun w' => (w'.cell? ⟨w2.heap.size, 0, none⟩ = some (.bool nb) /\ w'.cell? ⟨w2.heap.size, 1, none⟩ = some (.slice A n c) /\ w'.cell? ⟨w2.heap.size, 2, none⟩ = some (.slice B m e)))
   (first | with_reducible exact hrl | ((with_reducible refine ⟨?_, ?_, ?_⟩) <;> (repeat' (first | (with_reducible exact hrl.1) | (with_reducible exact hrl.2.1) | (with_reducible exact hrl.2.2) | (with_reducible refine cell_alc7 _ ?_) | (with_reducible refine cell_alc_d _ ?_) | (with_reducible refine cell_st ?_ ?_) | omega))) | fail)
   (first
    | (have _g := m3; (with_reducible change Calls _ _ _ (x3) _); go_at_call 68; refine (Div_any _ _ 1 s r 1000000 0 _ hT2 (h1.inp hS1 (by decide)) (h3.inp hSs (by decide)) hS1 hSs (.inr ⟨HS0.out, HR.out, rfl⟩)).mono ?_; rintro e x4 ⟨y4, rfl, h4, hbk⟩; replace hb0 := hb0.trans (hbk.mono hb0.size); replace c3 := c3.below hbk c3.lt; replace hq2 := hq2.below hbk; replace hT2 := hT2.below hbk; replace hr2 := hr2.below hbk; replace h1 := h1.below hbk; replace h2 := h2.below hbk; replace h3 := h3.below hbk; (try replace rA := rA.below hbk rA.lt); have m4 := Lib.hid (rfl : 1 = 1); have hz4 := hb0.size; have l4c3 := c3.lt; have hrl : (x4.cell? ⟨w2.heap.size, 0, none⟩ = some (.bool nb) /\ x4.cell? ⟨w2.heap.size, 1, none⟩ = some (.slice A n c) /\ x4.cell? ⟨w2.heap.size, 2, none⟩ = some (.slice B m e)) := ⟨c3.cell rfl, c3.cell rfl, c3.cell rfl⟩; obtain ⟨nr, Ar, nr1, cr, Br, mr, er, rfl⟩ := h4.agg; (try (have e0 := rA.at 0 (by decide); have q0 := rA.frozen 0; have e1 := rA.at 1 (by decide); have q1 := rA.frozen 1; have e2 := rA.at 2 (by decide); have q2 := rA.frozen 2; have lA := rA.lt)))
    | (have _g := m3; (with_reducible change Calls _ _ _ ((x3.alloc (.cells #[.bool false, .slice none 0 0, .slice none 0 0] 25))) _); go_at_call 68; have hal : Below (x3).heap.size (x3) ((x3.alloc (.cells #[.bool false, .slice none 0 0, .slice none 0 0] 25))) := (Below.refl _ _).alloc (Nat.le_refl _) _; have rA : Cs ((x3.alloc (.cells #[.bool false, .slice none 0 0, .slice none 0 0] 25))) x3.heap.size [.bool false, .slice none 0 0, .slice none 0 0] 25 := Cs.new x3 _ _; replace hb0 := hb0.trans (hal.mono hb0.size); replace c3 := c3.below hal c3.lt; replace hq2 := hq2.below hal; replace hT2 := hT2.below hal; replace hr2 := hr2.below hal; replace h1 := h1.below hal; replace h2 := h2.below hal; replace h3 := h3.below hal; refine (Div_any _ _ 1 s r 1000000 0 _ hT2 (h1.inp hS1 (by decide)) (h3.inp hSs (by decide)) hS1 hSs (.inr ⟨HS0.out, HR.out, rfl⟩)).mono ?_; rintro e x4 ⟨y4, rfl, h4, hbk⟩; replace hb0 := hb0.trans (hbk.mono hb0.size); replace c3 := c3.below hbk c3.lt; replace hq2 := hq2.below hbk; replace hT2 := hT2.below hbk; replace hr2 := hr2.below hbk; replace h1 := h1.below hbk; replace h2 := h2.below hbk; replace h3 := h3.below hbk; replace rA := rA.below hbk rA.lt; have m4 := Lib.hid (rfl : 1 = 1); have hz4 := hb0.size; have l4c3 := c3.lt; have hrl : (x4.cell? ⟨w2.heap.size, 0, none⟩ = some (.bool nb) /\ x4.cell? ⟨w2.heap.size, 1, none⟩ = some (.slice A n c) /\ x4.cell? ⟨w2.heap.size, 2, none⟩ = some (.slice B m e)) := ⟨c3.cell rfl, c3.cell rfl, c3.cell rfl⟩; obtain ⟨nr, Ar, nr1, cr, Br, mr, er, rfl⟩ := h4.agg; (try (have e0 := rA.at 0 (by decide); have q0 := rA.frozen 0; have e1 := rA.at 1 (by decide); have q1 := rA.frozen 1; have e2 := rA.at 2 (by decide); have q2 := rA.frozen 2; have lA := rA.lt)))
    | (have _g := m2; (with_reducible change Calls _ _ _ (x2) _); go_at_call 69; refine (Sub_any _ _ 1 (lowL p) s 1000000 _ hT2 (h2.inp hS1 (by decide)) (hq2.inp hSl6 (by decide)) hS1 hSl6 HS.out).mono ?_; rintro e x3 ⟨y3, rfl, h3, hbk⟩; replace hb0 := hb0.trans (hbk.mono hb0.size); replace c3 := c3.below hbk c3.lt; replace hq2 := hq2.below hbk; replace hT2 := hT2.below hbk; replace hr2 := hr2.below hbk; replace h1 := h1.below hbk; replace h2 := h2.below hbk; (try replace rA := rA.below hbk rA.lt); have m3 := Lib.hid (rfl : 1 = 1); have hz3 := hb0.size; have l3c3 := c3.lt; have hrl : (x3.cell? ⟨w2.heap.size, 0, none⟩ = some (.bool nb) /\ x3.cell? ⟨w2.heap.size, 1, none⟩ = some (.slice A n c) /\ x3.cell? ⟨w2.heap.size, 2, none⟩ = some (.slice B m e)) := ⟨c3.cell rfl, c3.cell rfl, c3.cell rfl⟩)
    | (have _g := m2; (with_reducible change Calls _ _ _ ((x2.alloc (.cells #[.bool false, .slice none 0 0, .slice none 0 0] 25))) _); go_at_call 69; have hal : Below (x2).heap.size (x2) ((x2.alloc (.cells #[.bool false, .slice none 0 0, .slice none 0 0] 25))) := (Below.refl _ _).alloc (Nat.le_refl _) _; have rA : Cs ((x2.alloc (.cells #[.bool false, .slice none 0 0, .slice none 0 0] 25))) x2.heap.size [.bool false, .slice none 0 0, .slice none 0 0] 25 := Cs.new x2 _ _; replace hb0 := hb0.trans (hal.mono hb0.size); replace c3 := c3.below hal c3.lt; replace hq2 := hq2.below hal; replace hT2 := hT2.below hal; replace hr2 := hr2.below hal; replace h1 := h1.below hal; replace h2 := h2.below hal; refine (Sub_any _ _ 1 (lowL p) s 1000000 _ hT2 (h2.inp hS1 (by decide)) (hq2.inp hSl6 (by decide)) hS1 hSl6 HS.out).mono ?_; rintro e x3 ⟨y3, rfl, h3, hbk⟩; replace hb0 := hb0.trans (hbk.mono hb0.size); replace c3 := c3.below hbk c3.lt; replace hq2 := hq2.below hbk; replace hT2 := hT2.below hbk; replace hr2 := hr2.below hbk; replace h1 := h1.below hbk; replace h2 := h2.below hbk; replace rA := rA.below hbk rA.lt; have m3 := Lib.hid (rfl : 1 = 1); have hz3 := hb0.size; have l3c3 := c3.lt; have hrl : (x3.cell? ⟨w2.heap.size, 0, none⟩ = some (.bool nb) /\ x3.cell? ⟨w2.heap.size, 1, none⟩ = some (.slice A n c) /\ x3.cell? ⟨w2.heap.size, 2, none⟩ = some (.slice B m e)) := ⟨c3.cell rfl, c3.cell rfl, c3.cell rfl⟩)
    | (have _g := m1; (with_reducible change Calls _ _ _ (x1) _); go_at_call 63; refine (pone_any _).mono ?_; rintro e x2 ⟨y2, rfl, h2, hbk⟩; replace hb0 := hb0.trans (hbk.mono hb0.size); replace c3 := c3.below hbk c3.lt; replace hq2 := hq2.below hbk; replace hT2 := hT2.below hbk; replace hr2 := hr2.below hbk; replace h1 := h1.below hbk; (try replace rA := rA.below hbk rA.lt); have m2 := Lib.hid (rfl : 1 = 1); have hz2 := hb0.size; have l2c3 := c3.lt; have hrl : (x2.cell? ⟨w2.heap.size, 0, none⟩ = some (.bool nb) /\ x2.cell? ⟨w2.heap.size, 1, none⟩ = some (.slice A n c) /\ x2.cell? ⟨w2.heap.size, 2, none⟩ = some (.slice B m e)) := ⟨c3.cell rfl, c3.cell rfl, c3.cell rfl⟩)
    | (have _g := m1; (with_reducible change Calls _ _ _ ((x1.alloc (.cells #[.bool false, .slice none 0 0, .slice none 0 0] 25))) _); go_at_call 63; have hal : Below (x1).heap.size (x1) ((x1.alloc (.cells #[.bool false, .slice none 0 0, .slice none 0 0] 25))) := (Below.refl _ _).alloc (Nat.le_refl _) _; have rA : Cs ((x1.alloc (.cells #[.bool false, .slice none 0 0, .slice none 0 0] 25))) x1.heap.size [.bool false, .slice none 0 0, .slice none 0 0] 25 := Cs.new x1 _ _; replace hb0 := hb0.trans (hal.mono hb0.size); replace c3 := c3.below hal c3.lt; replace hq2 := hq2.below hal; replace hT2 := hT2.below hal; replace hr2 := hr2.below hal; replace h1 := h1.below hal; refine (pone_any _).mono ?_; rintro e x2 ⟨y2, rfl, h2, hbk⟩; replace hb0 := hb0.trans (hbk.mono hb0.size); replace c3 := c3.below hbk c3.lt; replace hq2 := hq2.below hbk; replace hT2 := hT2.below hbk; replace hr2 := hr2.below hbk; replace h1 := h1.below hbk; replace rA := rA.below hbk rA.lt; have m2 := Lib.hid (rfl : 1 = 1); have hz2 := hb0.size; have l2c3 := c3.lt; have hrl : (x2.cell? ⟨w2.heap.size, 0, none⟩ = some (.bool nb) /\ x2.cell? ⟨w2.heap.size, 1, none⟩ = some (.slice A n c) /\ x2.cell? ⟨w2.heap.size, 2, none⟩ = some (.slice B m e)) := ⟨c3.cell rfl, c3.cell rfl, c3.cell rfl⟩)
    | ((with_reducible change Calls _ _ _ (W0.drew) _); go_at_call 63; refine (pone_any _).mono ?_; rintro e x1 ⟨y1, rfl, h1, hbk⟩; replace hb0 := hb0.trans (hbk.mono hb0.size); replace c3 := c3.below hbk c3.lt; replace hq2 := hq2.below hbk; replace hT2 := hT2.below hbk; replace hr2 := hr2.below hbk; (try replace rA := rA.below hbk rA.lt); have m1 := Lib.hid (rfl : 1 = 1); have hz1 := hb0.size; have l1c3 := c3.lt; have hrl : (x1.cell? ⟨w2.heap.size, 0, none⟩ = some (.bool nb) /\ x1.cell? ⟨w2.heap.size, 1, none⟩ = some (.slice A n c) /\ x1.cell? ⟨w2.heap.size, 2, none⟩ = some (.slice B m e)) := ⟨c3.cell rfl, c3.cell rfl, c3.cell rfl⟩)
    | ((with_reducible change Calls _ _ _ ((W0.alloc (.cells #[.bool false, .slice none 0 0, .slice none 0 0] 25)).drew) _); go_at_call 63; have hal : Below (W0.drew).heap.size (W0.drew) ((W0.alloc (.cells #[.bool false, .slice none 0 0, .slice none 0 0] 25)).drew) := (Below.refl _ _).alloc (Nat.le_refl _) _; have rA : Cs ((W0.alloc (.cells #[.bool false, .slice none 0 0, .slice none 0 0] 25)).drew) W0.heap.size [.bool false, .slice none 0 0, .slice none 0 0] 25 := Cs.new W0 _ _; replace hb0 := hb0.trans (hal.mono hb0.size); replace c3 := c3.below hal c3.lt; replace hq2 := hq2.below hal; replace hT2 := hT2.below hal; replace hr2 := hr2.below hal; refine (pone_any _).mono ?_; rintro e x1 ⟨y1, rfl, h1, hbk⟩; replace hb0 := hb0.trans (hbk.mono hb0.size); replace c3 := c3.below hbk c3.lt; replace hq2 := hq2.below hbk; replace hT2 := hT2.below hbk; replace hr2 := hr2.below hbk; replace rA := rA.below hbk rA.lt; have m1 := Lib.hid (rfl : 1 = 1); have hz1 := hb0.size; have l1c3 := c3.lt; have hrl : (x1.cell? ⟨w2.heap.size, 0, none⟩ = some (.bool nb) /\ x1.cell? ⟨w2.heap.size, 1, none⟩ = some (.slice A n c) /\ x1.cell? ⟨w2.heap.size, 2, none⟩ = some (.slice B m e)) := ⟨c3.cell rfl, c3.cell rfl, c3.cell rfl⟩))
  all_goals
   (try clear e0 e1 e2 q0 q1 q2)
   go_wp2_with fail
   go_meet
   case rel => first | with_reducible exact qrel1 hb0 h4 | with_reducible exact qrel2 hb0 (by omega) rA h4 | fail
 case rest =>
  obtain ⟨g, nr, Ar, nr1, cr, Br, mr, er, rfl, rA, hg, hq, hbq⟩ := hcut
  have hmm := @run_makeMap Tryz.prog
  have hb11 := hb9.trans (hbq.mono hz0)
  have HT3 := Lib.hid (HT2.out.below hbq)
  have HR3 := Lib.hid (HR2.out.below hbq)
  clear HR2 HT2 c3 hrl hb0 l0 hdz1 hdz2 hq2
  go_wp2_with fail
  have hm1 : Below wc.heap.size wc (wc.alloc (.map #[] 0)) := (Below.refl _ _).alloc (Nat.le_refl _) _
  have hS1' := Sums.made wc
  refine (pone_any _).mono ?_
  rintro e7 w7 ⟨v7, rfl, h7, hb7⟩
  have hS7 := hS1'.below hb7
  replace hb7 := hm1.trans (hb7.mono hm1.size)
  obtain ⟨w8, hput, hS8, hg8⟩ := hS7.put (by decide) (e := (0, 0, 0)) (by decide) h7
  replace hput : Sem.run Tryz.prog (Instr.mapUpdate 67 (.map (some wc.heap.size)) (.agg #[.int .i64 0, .int .i64 0, .int .i64 0]) v7) w7 = .ok () w8 := hput
  replace hS8 : Sums w8 wc.heap.size 1 (starTo (restL p) r 0) := hS8.congr (fun e _ => rfl)
  go_wp2_with fail
  obtain ⟨hbE, dE⟩ := new3 w8 0 0 0
  have hS9 := hS8.below hbE
  obtain ⟨es7, ck7, hm7⟩ := hS7.map
  obtain ⟨es0, ck0, hm0⟩ := hS9.map
  have hT9 := (((HT3.out.below hb7).grm hg8 hm7).below hbE)
  have hr9 := (((HR3.out.below hb7).grm hg8 hm7).below hbE)
  have hq9 := (((hq.below hb7).grm hg8 hm7).below hbE)
  have hgne : some g ≠ some wc.heap.size := fun h => by have := rA.lt; cases h; omega
  have rA9 := (((rA.below hb7 rA.lt).grw hg8 hgne).below hbE ((rA.below hb7 rA.lt).grw hg8 hgne).lt)
  have hne9 : w8.heap.size ≠ wc.heap.size := by have := hS8.lt; omega
  have hB9 : Below w.heap.size w (w8.alloc (E3 0 0 0)) := hb11.trans ((Below.grown (hb7.mono (Nat.le_refl _)) hg8 hb7.size (fun j e => by cases e; exact Nat.le_refl _)).mono hb11.size |>.trans (hbE.mono (Nat.le_trans hb11.size (Nat.le_trans hb7.size hg8.size))))
  have hmbw : w.heap.size <= wc.heap.size := hb11.size
  have hgmb : g ≠ wc.heap.size := fun h => hgne (congrArg some h)
  clear hS1' hS7 hS8 hg8 hm7 hbE hm1 hput hb7 h7 HT3 HR3 hq rA hgne hbq hb11 hb9 hmm es7 ck7
  replace dE : Cs (w8.alloc (E3 0 0 0)) w8.heap.size (e3 (asc 0).1 (asc 0).2.1 (asc 0).2.2) 73 := by rw [asc_zero]; exact dE
  generalize hW9 : (w8.alloc (E3 0 0 0)) = W9 at *
  generalize w8.heap.size = g9 at *
  generalize wc.heap.size = mb at *
  clear hW9
  go_loopw [9, 10] (fun pv mv wr => ∃ i n' gk, i <= 56 /\ pv = .pointer (some ⟨gk, 0, none⟩) /\ mv = .bool (decide (i < 56)) /\ gk ≠ mb /\ n' <= 1 + i * (1 + (restL p).length) /\ Cs wr gk (e3 (asc i).1 (asc i).2.1 (asc i).2.2) 73 /\ Sums wr mb n' (starTo (restL p) r i) /\ W9.grownBy wr (some mb)) (fun pv mv wr => starLeft pv mv wr)
  case atStart => exact ⟨0, 1, g9, by decide, rfl, rfl, hne9, by omega, dE, hS9, World.grownBy.refl _ _⟩
  case round =>
   obtain ⟨i, n', gk, hi, rfl, rfl, hne, hn', dk, hSk, hgk⟩ := hrel
   by_cases hlt : i < 56
   ·rw [decide_eq_true hlt]
    obtain ⟨ex, hex⟩ : ∃ ex, asc i = ex := ⟨_, rfl⟩
    have hdx : deg ex <= 5 := hex ▸ asc_deg hi
    have hsc := szC_starTo (vp_rest hvp) rest_ne (rest_szl hsp) hr hL hi
    have HM0 := Lib.hid (starLeft_at dk hlt)
    rw [hex] at dk
    have t1 := hT9.grm hgk hm0
    have r1 := hr9.grm hgk hm0
    have q1 := hq9.grm hgk hm0
    have k1 := rA9.grw hgk (fun h => hgmb (Option.some.inj h))
    have HEX := Lib.hid hex
    have HLT := Lib.hid hlt
    have HN := Lib.hid hn'
    have HSC := Lib.hid hsc
    have n1 : some gk ≠ some mb := fun h => hne (Option.some.inj h)
    have n2 : some g ≠ some mb := fun h => hgmb (Option.some.inj h)
    clear hex hn' hsc dE hS9 hi hlt
    go_wp2_with fail
    replace t1 : Tab wr.drew := t1.drew
    replace r1 : Pol wr.drew _ _ := r1.below (Below.refl _ _).drew
    replace q1 : RatQ wr.drew _ r := q1.below (Below.refl _ _).drew
    replace k1 := k1.drew
    replace dk := dk.drew
    replace hSk : Sums wr.drew mb n' _ := hSk.below (Below.refl _ _).drew
    replace hgk : W9.grownBy wr.drew (some mb) := grown_back hgk (Below.refl _ _).drew
    have hgx : gk < wr.drew.heap.size := dk.lt
    have hgy : g < wr.drew.heap.size := k1.lt
    obtain ⟨u, hlook, hu⟩ := hSk.look hdx
    obtain ⟨y0, Y, yn, yc, Y', ym, ye, rfl⟩ := hu.agg
    obtain ⟨hs0, hs1, hs2⟩ := dk.c3
    have hsx := k1.c3
    have sc6 : Sz (starTo (restL p) r i ex) 1000000 := (HSC.out ex hdx).mono (by omega)
    have sr6 : Sz r 1000000 := hr.mono (by omega)
    have HNn : Hid (n' <= 1000000) := by
     show _ <= _
     have h1 := HN.out
     have h2 := HLT.out
     have h3 : (restL p).length <= 56 := vp_length (vp_rest hvp)
     have h4 : i * (1 + (restL p).length) <= 56 * 57 := Nat.mul_le_mul (by omega) (by omega)
     omega
    go_region_held3 (fun w' => (w'.cell? ⟨gk, 0, none⟩ = some (.int .i64 (ex.1 : Int)) /\ w'.cell? ⟨gk, 1, none⟩ = some (.int .i64 (ex.2.1 : Int)) /\ w'.cell? ⟨gk, 2, none⟩ = some (.int .i64 (ex.2.2 : Int))) /\ (w'.cell? ⟨g, 0, none⟩ = some (.bool nr) /\ w'.cell? ⟨g, 1, none⟩ = some (.slice Ar nr1 cr) /\ w'.cell? ⟨g, 2, none⟩ = some (.slice Br mr er)))
     (first | with_reducible exact ⟨⟨hs0, hs1, hs2⟩, hsx⟩ | with_reducible exact ⟨⟨hk0, hk1, hk2⟩, hkx⟩ | fail)
     (first
      | (go_at_call 64; refine (Mul_any _ _ (starTo (restL p) r i ex) r _ 1000000 _ t1 (hu.inp sc6 (by omega)) (q1.inp sr6 (by omega)) sc6 sr6 rfl).mono ?_; rintro e2 x2 ⟨v2, rfl, h2, hb2⟩; have hs0 := (dk.below hb2 hgx).cell (k := 0) rfl; have hs1 := (dk.below hb2 hgx).cell (k := 1) rfl; have hs2 := (dk.below hb2 hgx).cell (k := 2) rfl; have hsx := (k1.below hb2 hgy).c3; obtain ⟨x3, hput, hS3, hg3⟩ := (hSk.below hb2).put HNn.out hdx h2; have hk0 := ((dk.below hb2 hgx).grw hg3 n1).cell (k := 0) rfl; have hk1 := ((dk.below hb2 hgx).grw hg3 n1).cell (k := 1) rfl; have hk2 := ((dk.below hb2 hgx).grw hg3 n1).cell (k := 2) rfl; have hkx := ((k1.below hb2 hgy).grw hg3 n2).c3)
      | fail)
    obtain ⟨esk, ckk, hmk⟩ := (hSk.below hb2).map
    replace t1 := (t1.below hb2).grm hg3 hmk
    replace r1 := (r1.below hb2).grm hg3 hmk
    replace dk := (dk.below hb2 hgx).grw hg3 n1
    replace hgk := grown_trans (grown_back hgk hb2) hg3
    have hzx : Sz (starTo (restL p) r i ex * r) (1494 * U) := sz_mul (HSC.out ex hdx) hr (by omega)
    clear hs0 hs1 hs2 hsx hk0 hk1 hk2 hkx hmk q1 k1 hu h2 hlook hput hSk hb2 hg3 hgx hgy
    obtain ⟨x, hx⟩ : ∃ x, starTo (restL p) r i ex * r = x := ⟨_, rfl⟩
    rw [hx] at hS3 hzx
    have HX := Lib.hid hx
    have HZX := Lib.hid hzx
    clear hx hzx
    go_wp2_with fail
    replace t1 : Tab x3.drew := t1.drew
    replace r1 : Pol x3.drew _ _ := r1.below (Below.refl _ _).drew
    replace dk := dk.drew
    replace hS3 : Sums x3.drew mb (n' + 1) _ := hS3.below (Below.refl _ _).drew
    replace hgk : W9.grownBy x3.drew (some mb) := grown_back hgk (Below.refl _ _).drew
    have hgx : gk < x3.drew.heap.size := dk.lt
    obtain ⟨u, hlook, hu⟩ := hS3.look hdx
    obtain ⟨y5, Y5, yn5, yc5, Y6, ym5, ye5, rfl⟩ := hu.agg
    obtain ⟨hs0, hs1, hs2⟩ := dk.c3
    rw [setAt_same] at hu
    have HADD := Lib.hid (sums_addM mb (n' + 1) _ (restL p) ex _ x _ (1494 * U) (1494 * U) L x3.drew t1 hS3 r1 (vp_nodup (vp_rest hvp)) (fun m hm => ((vp_rest hvp).1 m hm).1) (by have := HNn.out; have h3 : (restL p).length <= 56 := vp_length (vp_rest hvp); have h1 := HN.out; have h2 := HLT.out; have h4 : i * (1 + (restL p).length) <= 56 * 57 := Nat.mul_le_mul (by omega) (by omega); omega) hdx (hu.inp HZX.out (by omega)) (szC_setAt (HSC.out.mono (by omega)) HZX.out) (rest_szl hsp) (by omega))
    go_region_held3 (fun w' => (w'.cell? ⟨gk, 0, none⟩ = some (.int .i64 (ex.1 : Int)) /\ w'.cell? ⟨gk, 1, none⟩ = some (.int .i64 (ex.2.1 : Int)) /\ w'.cell? ⟨gk, 2, none⟩ = some (.int .i64 (ex.2.2 : Int))))
     (first | with_reducible exact ⟨hs0, hs1, hs2⟩ | with_reducible exact ⟨hk0, hk1, hk2⟩ | fail)
     (first
      | (go_at_call 58; refine HADD.out.mono ?_; rintro e4 x4 ⟨rfl, ⟨n4, hn4, hS4⟩, hg4⟩; have hk0 := (dk.grw hg4 n1).cell (k := 0) rfl; have hk1 := (dk.grw hg4 n1).cell (k := 1) rfl; have hk2 := (dk.grw hg4 n1).cell (k := 2) rfl)
      | fail)
    replace dk := dk.grw hg4 n1
    replace hgk := grown_trans hgk hg4
    have hS5 : Sums x4 mb n4 (starTo (restL p) r (i + 1)) := by
     have e1 := starTo_next (restL p) r HLT.out HEX.out
     rw [HX.out] at e1
     rw [e1] at hS4
     exact hS4
    obtain ⟨hbn, dn⟩ := new3 x4 (ex.1 : Int) (ex.2.1 : Int) (ex.2.2 : Int)
    have hS6 := hS5.below hbn
    have hgn := grown_back hgk hbn
    have hszn : W9.heap.size <= x4.heap.size := hgk.size
    have hnen : x4.heap.size ≠ mb := by have := hS5.lt; omega
    have hnx := next_nat ex.1 ex.2.1 ex.2.2 (x4.alloc (E3 (ex.1 : Int) (ex.2.1 : Int) (ex.2.2 : Int))) hdx (asc (i + 1)).1 (asc (i + 1)).2.1 (asc (i + 1)).2.2 (decide (i < 55)) (by show _ = _; have := asc_next HLT.out; rw [HEX.out] at this; exact this)
    have HNX := Lib.hid hnx
    have v' := dn.c3
    clear hs0 hs1 hs2 hlook hu hS3 HADD hg4 hS4 hS5 hgk hbn dk t1 r1 hnx hk0 hk1 hk2
    go_wp2_with fail
    refine HNX.out.mono ?_
    rintro e5 x5 ⟨rfl, hb5⟩
    replace hS6 := hS6.below hb5
    replace hgn := grown_back hgn hb5
    replace dn := dn.below hb5 dn.lt
    have f0 := dn.frozen 0
    have f1 := dn.frozen 1
    have f2 := dn.frozen 2
    clear v' hb5 HNX
    have v' := dn.c3
    go_wp2_with fail
    have hS7 := hS6.s3c dn (by simp) (.int .i64 ((asc (i + 1)).1 : Int)) (.int .i64 ((asc (i + 1)).2.1 : Int)) (.int .i64 ((asc (i + 1)).2.2 : Int))
    have hg7 := grown_s3 hgn hszn (.int .i64 ((asc (i + 1)).1 : Int)) (.int .i64 ((asc (i + 1)).2.1 : Int)) (.int .i64 ((asc (i + 1)).2.2 : Int))
    have d7 := cs_own3 dn rfl (.int .i64 ((asc (i + 1)).1 : Int)) (.int .i64 ((asc (i + 1)).2.1 : Int)) (.int .i64 ((asc (i + 1)).2.2 : Int))
    go_roundw
    case rel =>
     refine ⟨i + 1, n4, x4.heap.size, HLT.out, rfl, ?_, hnen, ?_, d7, hS7, hg7⟩
     ·congr 1
      exact decide_eq_decide.2 (by omega)
     ·have h1 := HN.out
      rw [Nat.add_mul, Nat.one_mul]
      omega
    case measure =>
     rw [HM0.out]
     by_cases h55 : i < 55
     ·rw [decide_eq_true h55, starLeft_at d7 (by omega)]
      omega
     ·rw [decide_eq_false h55, starLeft_false]
      have := HLT.out
      omega
   ·obtain rfl : i = 56 := by omega
    rw [decide_eq_false (show ¬ 56 < 56 by omega)]
    rw [starTo_all] at hSk
    have hsc : SzC (starC (restL p) r) 1000000 := by
     rw [<- starTo_all]
     exact (szC_starTo (vp_rest hvp) rest_ne (rest_szl hsp) hr hL (Nat.le_refl _)).mono (by omega)
    have h3 : (restL p).length <= 56 := vp_length (vp_rest hvp)
    have hbr : Below w.heap.size w wr := hB9.grown hgk hB9.size (fun j e => by cases e; exact hmbw)
    have HL5 := Lib.hid (sums_list mb n' _ wr (hT9.grm hgk hm0) hSk (by omega) hsc)
    clear hSk hgk hsc hT9 hr9 hq9 rA9 hB9 dE hS9 hm0 dk
    go_wp2_with fail
    refine HL5.out.mono ?_
    rintro e6 w6 ⟨v6, rfl, hp6, hb6⟩
    go_wp2_with fail
    refine bodyPost_ret (results_tmp2 rfl _ _ _) rfl ?_
    exact ⟨v6, rfl, hp6, hbr.trans (hb6.mono hbr.size)⟩
def signT : Bool -> Bool -> List UInt8
 | true, true => [45]
 | true, false => []
 | false, true => [32, 45, 32]
 | false, false => [32, 43, 32]
theorem sign_any (f n : Bool) (w : World) : Calls Tryz.prog 77 #[.bool f, .bool n] w (fun e w' => e = .returned (.string ⟨(signT f n).toArray⟩) /\ w' = w) := by
 cases f <;> cases n
 all_goals
  go_enter Tryz.func77, Tryz.ntmps77
  go_wp2_with fail
  go_ret
  exact ⟨rfl, rfl⟩
abbrev ST : TypeId := 9
theorem info_str : (Tryz.prog.info? 9).map (fun i => (i.zero, i.size, i.bytes)) = some (some (.string ⟨#[]⟩), 1, 16) := by kernel_rfl
theorem appX_run (w : World) (B : Nat) (v : Value) (n : Nat) (xs : List Value) (hown : w.ownsRow B ST 1 v n xs) (g : Nat) (x : ByteArray) (hg : Cs w g [.string x] ST) (hn : n <= 1000000) (hB : B <= w.heap.size) :
 ∃ v' w', (Builtin.append_ #[96, 96] 96 #[v, .slice (some ⟨g, 0, none⟩) 1 1]).run Tryz.prog w = .ok v' w' /\ w'.ownsRow B ST 1 v' (n + 1) (xs ++ [.string x]) /\ w.grownBy w' v.ownBlock := by
 obtain ⟨i0, hi, hz0, hz1, hz2⟩ := info_parts info_str
 obtain ⟨v', w', h2, h3, h4, _⟩ := run_append_own_at (P := Tryz.prog) w B 96 96 ST i0 _ 1 16 Tryz.underlying96 hi hz0 hz1 hz2 rfl (by decide) v n xs hown ⟨g, 0, none⟩ 1 1 [.string x] rfl
  (fun j u hju => by
   have e : (⟨g, 0, none⟩ : Addr).add j = ⟨g, j, none⟩ := by unfold Addr.add; split <;> simp_all
   rw [e]; exact hg.cell hju) (by intro u hu; simp at hu; subst hu; rfl) (by unfold maxLen; omega) (by omega) hB
 exact ⟨v', w', h2, h3, h4⟩
theorem wpList_appX {w : World} {ops : Array Oper} {rest : List Oper} {o : Oper} {a : Act} {Q : Exit -> Act -> World -> Prop} (hgd : o.guard = none) (sl x : Operand)
 (ho : o.op = .call { callee := .builtin .append, args := #[sl, x], argTypes := #[96, 96] }) (hty : o.type = 96) (v v' u : Value) (w' : World) (hs : a.eval sl = v) (hx : a.eval x = u)
 (hrun : Hid ((Builtin.append_ #[96, 96] 96 #[v, u]).run Tryz.prog w = .ok v' w')) (h : wpList Tryz.prog ops Q rest (a.put o.dst v') w') : wpList Tryz.prog ops Q (o :: rest) a w := by
 refine wpList_plain hgd fun K hK => ?_
 have hr := hrun.out
 unfold Oper.wp
 simp [execOp, ho, hty, resolve, invoke, builtin, hs, hx, hr, Result.andThen]
 exact hK _ _ h
theorem step_appX {w : World} {ops : Array Oper} {o : Oper} {a : Act} {Q : Exit -> Act -> World -> Prop} {K : Act -> World -> Prop} {E : Prop} (hgd : o.guard = none) (sl x : Operand)
 (ho : o.op = .call { callee := .builtin .append, args := #[sl, x], argTypes := #[96, 96] }) (hty : o.type = 96) (v v' u : Value) (w' : World) (hs : a.eval sl = v) (hx : a.eval x = u)
 (hrun : Hid ((Builtin.append_ #[96, 96] 96 #[v, u]).run Tryz.prog w = .ok v' w')) (hK : K (a.put o.dst v') w') :
 if Region.wanted o (yielded ops a.tmps) = true then Oper.wp Tryz.prog o a w K Q else E := by
 have hw : Region.wanted o (yielded ops a.tmps) = true := by simp [Region.wanted, hgd]
 have hr := hrun.out
 rw [if_pos hw]
 unfold Oper.wp
 simp [execOp, ho, hty, resolve, invoke, builtin, hs, hx, hr, Result.andThen]
 exact hK
theorem bne_iff_decide_cmp (a : Rat) : (cmpQ a 1 != 0) = decide (a ≠ 1) := by
 unfold cmpQ
 by_cases h : a < 1
 ·have : a ≠ 1 := fun e => by rw [e] at h; exact absurd h (by decide)
  simp [h, this]
 ·by_cases h' : 1 < a
  ·have : a ≠ 1 := fun e => by rw [e] at h'; exact absurd h' (by decide)
   simp [h, h', this]
  ·have : a = 1 := by
    have h1 := Rat.not_lt.1 h
    have h2 := Rat.not_lt.1 h'
    exact Rat.le_antisymm h2 h1
   simp [this]
theorem below_of_drew {B : Nat} {a w : World} (h : Below B a.drew w) : Below B a w := ⟨h.os, h.tape, h.output, h.size, h.block⟩
theorem TxF.drew' {w : World} (h : TxF w) : TxF w.drew := h.keep (fun _ _ => rfl)
def absq (q : Rat) : Rat := qv false q.num.natAbs q.den
def letter (k : Nat) : ByteArray := (⟨#[97, 98, 99]⟩ : ByteArray).extract k (k + 1)
def partK (k n : Nat) : List ByteArray := if n = 1 then [letter k] else if 1 < n then [letter k ++ ⟨#[94]⟩ ++ ⟨(Lib.decDigits n).toArray⟩] else []
def comp (e : Ex) : Nat -> Nat
 | 0 => e.1
 | 1 => e.2.1
 | _ => e.2.2
def parts (e : Ex) (k : Nat) : List ByteArray := (List.range k).flatMap fun i => partK i (comp e i)
theorem parts_succ (e : Ex) (k : Nat) : parts e (k + 1) = parts e k ++ partK k (comp e k) := by
 unfold parts
 rw [List.range_succ, List.flatMap_append, List.flatMap_singleton]
def numPart (e : Ex) (a : Rat) : List ByteArray := if e = (0, 0, 0) \/ a ≠ 1 then [⟨(fmtQ a).toArray⟩] else []
def factL (m : Mon) : List ByteArray := numPart m.1 (absq m.2) ++ parts m.1 3
def RowS (w : World) (B : Nat) (v : Value) (l : List ByteArray) : Prop := w.ownsRow B ST 1 v l.length (l.map Value.string)
theorem RowS.snoc {w : World} {B n : Nat} {v : Value} {l : List ByteArray} {x : ByteArray} (hn : n = l.length) (h : w.ownsRow B ST 1 v (n + 1) (l.map Value.string ++ [.string x])) : RowS w B v (l ++ [x]) := by
 subst hn
 unfold RowS
 rw [List.length_append, List.map_append]; exact h
theorem RowS.below {w w' : World} {B : Nat} {v : Value} {l : List ByteArray} (h : RowS w B v l) (hb : Below w.heap.size w w') : RowS w' B v l := ow_below h hb
def RetRowS (w0 : World) (l : List ByteArray) (e : Ending) (w' : World) : Prop := ∃ v, e = .returned v /\ RowS w' w0.heap.size v l /\ Below w0.heap.size w0 w'
theorem itoa_dig (x : Nat) (h : x < 100) (w : World) : Calls Tryz.prog 119 #[.int .i64 (x : Int)] w (fun e w' => e = .returned (.string ⟨(Lib.decDigits x).toArray⟩) /\ w' = w) := Lx.Tryz.strconv_Itoa_small x h w
theorem dec_small (x : Nat) (h : x < 10) : (⟨(Lib.decDigits x).toArray⟩ : ByteArray).size = 1 := by
 rw [Lib.decDigits, dif_pos h]; rfl
theorem letter_size {k : Nat} (h : k < 3) : (letter k).size = 1 :=
 match k, h with
 | 0, _ => by kernel_rfl
 | 1, _ => by kernel_rfl
 | 2, _ => by kernel_rfl
theorem partK_more (k : Nat) {x : Nat} (h : 1 < x) : partK k x = [letter k ++ ⟨#[94]⟩ ++ ⟨(Lib.decDigits x).toArray⟩] := by unfold partK; rw [if_neg (by omega), if_pos h]
theorem partK_len (k x : Nat) : (partK k x).length <= 1 := by
 unfold partK; split
 ·simp
 ·split <;> simp
theorem parts_len (e : Ex) (a : Rat) (k : Nat) (hk : k <= 3) : (numPart e a ++ parts e k).length <= 1000000 := by
 have h1 : (numPart e a).length <= 1 := by unfold numPart; split <;> simp
 have h2 : ∀ k, (parts e k).length <= k := by
  intro k
  induction k with
  | zero => simp [parts]
  | succ k ih => rw [parts_succ, List.length_append]; have := partK_len k (comp e k); omega
 rw [List.length_append]; have := h2 k; omega
theorem idx_arr (e : Ex) {k : Nat} (hk : k < 3) : ∀ w : World, (Instr.index 57 (.agg #[.int .i64 (e.1 : Int), .int .i64 (e.2.1 : Int), .int .i64 (e.2.2 : Int)]) (.int .i64 (k : Int))).run Tryz.prog w = .ok (.int .i64 (comp e k : Int)) w := fun w =>
 match k, hk with
 | 0, _ => by kernel_rfl
 | 1, _ => by kernel_rfl
 | 2, _ => by kernel_rfl
theorem comp_le {e : Ex} (he : deg e <= 5) (k : Nat) : comp e k <= 5 := by
 unfold deg at he
 match k with
 | 0 => show e.1 <= 5; omega
 | 1 => show e.2.1 <= 5; omega
 | _ + 2 => show e.2.2 <= 5; omega
theorem factors_any (e : Ex) (nb : Bool) (A B : Option Addr) (n c m k : Nat) (q a : Rat) (L : Nat) (w : World) (hT : TxF w) (he : deg e <= 5) (hq : RatQ w (.agg #[.bool nb, .slice A n c, .slice B m k]) q) (hS : Sz q L) (hL : L <= 10000) (ha : Hid (absq q = a)) :
 Calls Tryz.prog 79 #[.agg #[.int .i64 (e.1 : Int), .int .i64 (e.2.1 : Int), .int .i64 (e.2.2 : Int), .bool nb, .slice A n c, .slice B m k]] w (RetRowS w (numPart e a ++ parts e 3)) := by
 have hSa : Sz a L := sz_abs hS ha.out
 obtain ⟨hb1, d1⟩ := new6 w (.int .i64 (e.1 : Int)) (.int .i64 (e.2.1 : Int)) (.int .i64 (e.2.2 : Int)) (.bool nb) (.slice A n c) (.slice B m k)
 have y := d1.c6
 have hq1 := hq.below hb1
 have hT1 := hT.below hb1
 clear hq hT
 go_enter Tryz.func79, Tryz.ntmps79
 go_wp2_with fail
 refine (Abs_any _ q a L _ hT1.tab (hq1.inp hS (by omega)) (hS.mono (by omega)) ha.out).mono ?_
 rintro e1 w1 ⟨v1, rfl, h1, hb2⟩
 obtain ⟨na, Aa, n1, c1, Ba, m1, k1, rfl⟩ := h1.agg
 obtain ⟨hb3, d3⟩ := blk1 w1 [.bool na, .slice Aa n1 c1, .slice Ba m1 k1] 25
 have hb12 := hb1.trans (hb2.mono hb1.size)
 have hB3 := hb12.trans (hb3.mono hb12.size)
 replace hT1 := (hT1.below hb2).below hb3
 replace d1 := (d1.below hb2 d1.lt).below hb3 (d1.below hb2 d1.lt).lt
 replace h1 := h1.below hb3
 clear y hb1 hb2 hb3 hq1
 obtain ⟨y0, y1, y2, _, _, _⟩ := d1.c6
 obtain ⟨z0, z1, z2⟩ := d3.c3
 have hsz := hB3.size
 go_wp2_with fail
 have hmx : Tryz.prog.follows .mixedOrders = true := by kernel_rfl
 have HT1 := Lib.hid hT1
 have HD1 := Lib.hid d1
 clear hT1
 obtain ⟨V, hV⟩ : ∃ V, cmpQ a 1 = V := ⟨_, rfl⟩
 have hV1 : (V != 0) = decide (a ≠ 1) := by
  rw [<- hV, bne_iff_decide_cmp]
 have HV := Lib.hid hV
 clear hV
 generalize hW : (w1.alloc (.cells #[.bool na, .slice Aa n1 c1, .slice Ba m1 k1] 25)) = W at *
 clear hW
 go_cut [19] from 10 to 19 (fun t wx => t = .bool (decide (e = (0, 0, 0) \/ a ≠ 1)) /\ Below W.heap.size W wx)
 case first =>
  by_cases h0 : e = (0, 0, 0)
  ·have e0 : e.1 = 0 := by rw [h0]
   have e1 : e.2.1 = 0 := by rw [h0]
   have e2 : e.2.2 = 0 := by rw [h0]
   have heq : ∀ w : World, (Op.equalIn 10000 57 (.agg #[.int .i64 (e.1 : Int), .int .i64 (e.2.1 : Int), .int .i64 (e.2.2 : Int)]) (.agg #[.int .i64 0, .int .i64 0, .int .i64 0])).run Tryz.prog w = .ok true w := fun w => by
    rw [eq_exps, e0, e1, e2]; rfl
   have HD : Hid (decide (e = (0, 0, 0) \/ a ≠ 1) = true) := decide_eq_true (Or.inl h0)
   clear h0 e0 e1 e2
   go_big_region_o
   all_goals go_wp2_with fail
   all_goals go_meet
   case rel => exact ⟨by rw [HD.out], (Below.refl _ _).drew⟩
  ·have heq : ∀ w : World, (Op.equalIn 10000 57 (.agg #[.int .i64 (e.1 : Int), .int .i64 (e.2.1 : Int), .int .i64 (e.2.2 : Int)]) (.agg #[.int .i64 0, .int .i64 0, .int .i64 0])).run Tryz.prog w = .ok false w := fun w => by
    rw [eq_exps]
    congr 1
    rw [Bool.eq_false_iff]
    intro h
    simp only [Bool.and_eq_true, beq_iff_eq] at h
    exact h0 (Prod.ext (by show e.1 = 0; omega) (Prod.ext (by show e.2.1 = 0; omega) (by show e.2.2 = 0; omega)))
   have HD : Hid (decide (e = (0, 0, 0) \/ a ≠ 1) = decide (a ≠ 1)) := decide_eq_decide.2 ⟨fun h => h.resolve_left h0, Or.inr⟩
   have hS1 : Sz 1 1000000 := sz_one _ (by decide)
   have hSa6 : Sz a 1000000 := hSa.mono (by omega)
   have t1 := (HT1.out.drew').tab
   have r1 : RatQ W.drew _ a := h1.below (Below.refl _ _).drew
   replace y0 : W.drew.cell? _ = _ := y0
   replace y1 : W.drew.cell? _ = _ := y1
   replace y2 : W.drew.cell? _ = _ := y2
   replace z0 : W.drew.cell? _ = _ := z0
   replace z1 : W.drew.cell? _ = _ := z1
   replace z2 : W.drew.cell? _ = _ := z2
   clear h0
   have g1 := d1.lt
   have g3 := d3.lt
   replace d1 := d1.drew
   replace d3 := d3.drew
   go_region_held3 (fun w' => (w'.cell? ⟨w.heap.size, 0, none⟩ = some (.int .i64 (e.1 : Int)) /\ w'.cell? ⟨w.heap.size, 1, none⟩ = some (.int .i64 (e.2.1 : Int)) /\ w'.cell? ⟨w.heap.size, 2, none⟩ = some (.int .i64 (e.2.2 : Int))) /\ (w'.cell? ⟨w1.heap.size, 0, none⟩ = some (.bool na) /\ w'.cell? ⟨w1.heap.size, 1, none⟩ = some (.slice Aa n1 c1) /\ w'.cell? ⟨w1.heap.size, 2, none⟩ = some (.slice Ba m1 k1)))
    (first | with_reducible exact ⟨⟨y0, y1, y2⟩, ⟨z0, z1, z2⟩⟩ | with_reducible exact ⟨ya, za⟩ | with_reducible exact ⟨yb, zb⟩ | fail)
    (first
     | (go_at_call 66; refine (Compare_any _ _ a 1 1000000 V _ (t1.below hb5) ((r1.below hb5).inp hSa6 (by decide)) (h5.inp hS1 (by decide)) hSa6 hS1 HV).mono ?_; rintro e6 x6 ⟨rfl, hb6⟩; have yb : _ /\ _ /\ _ := ⟨((d1.below hb5 d1.lt).below hb6 (d1.below hb5 d1.lt).lt).cell (k := 0) rfl, ((d1.below hb5 d1.lt).below hb6 (d1.below hb5 d1.lt).lt).cell (k := 1) rfl, ((d1.below hb5 d1.lt).below hb6 (d1.below hb5 d1.lt).lt).cell (k := 2) rfl⟩; have zb := ((d3.below hb5 d3.lt).below hb6 (d3.below hb5 d3.lt).lt).c3)
     | (go_at_call 63; refine (pone_any _).mono ?_; rintro e5 x5 ⟨v5, rfl, h5, hb5⟩; have ya : _ /\ _ /\ _ := ⟨(d1.below hb5 d1.lt).cell (k := 0) rfl, (d1.below hb5 d1.lt).cell (k := 1) rfl, (d1.below hb5 d1.lt).cell (k := 2) rfl⟩; have za := (d3.below hb5 d3.lt).c3)
     | fail)
   all_goals go_wp2_with fail
   all_goals go_meet
   case rel => exact ⟨by rw [HD.out]; simp, below_of_drew (hb5.trans (hb6.mono hb5.size))⟩
 case rest =>
  obtain ⟨rfl, hbc⟩ := hcut
  have hTc := HT1.out.below hbc
  replace d1 := d1.below hbc d1.lt
  replace d3 := d3.below hbc d3.lt
  replace h1 := h1.below hbc
  have hBc := hB3.trans (hbc.mono hB3.size)
  clear HT1 hbc y0 y1 y2 z0 z1 z2 HV hV1 HD1 hB3
  obtain ⟨y0, y1, y2, _, _, _⟩ := d1.c6
  obtain ⟨z0, z1, z2⟩ := d3.c3
  have hszc := hBc.size
  by_cases hb : e = (0, 0, 0) \/ a ≠ 1
  ·have HNP : Hid (numPart e a = [⟨(fmtQ a).toArray⟩]) := if_pos hb
   rw [decide_eq_true hb]
   clear hb
   go_wp2_with fail
   refine (Format_anyF _ a L _ hTc (h1.inp hSa (by omega)) (hSa.mono hL)).mono ?_
   rintro e7 w7 ⟨rfl, hb7⟩
   have hB7 := hBc.trans (hb7.mono hBc.size)
   obtain ⟨hb8, d8⟩ := blk1 w7 [.string ⟨(fmtQ a).toArray⟩] 9
   have hB8 := hB7.trans (hb8.mono hB7.size)
   obtain ⟨v9, w9, hrun, hrow, hg9⟩ := appX_run _ w.heap.size _ 0 [] (World.ownsRow_nil ..) w7.heap.size _ d8 (by omega) hB8.size
   have HRUN := Lib.hid hrun
   have hB9 : Below w.heap.size w w9 := hB8.grown hg9 hB8.size (fun j e => by cases e)
   have d7 := ((d1.below hb7 d1.lt).below hb8 (d1.below hb7 d1.lt).lt).grw hg9 (by simp [Value.ownBlock])
   have hT9 : TxF w9 := ((hTc.below hb7).below hb8).keep (fun b hb => hg9.block b hb (by simp [Value.ownBlock]))
   clear y0 y1 y2
   obtain ⟨y0, y1, y2, _, _, _⟩ := d7.c6
   have HROW : Hid (RowS w9 w.heap.size v9 (numPart e a)) := by
    show RowS _ _ _ _
    rw [HNP.out]
    exact hrow
   have HB9 := Lib.hid hB9
   have HT9 := Lib.hid hT9
   clear hrun hrow hg9 d8 hb8 hb7 hB8 hB7 hTc hBc z0 z1 z2 d1 d3 h1 hB9 hT9
   go_wp2_with (at_builtin; refine wpList_appX rfl (.tmp 20) (.tmp 23) rfl rfl _ _ _ _ rfl rfl HRUN ?_)
   go_wp2_with fail
   go_loopw [3, 27] (fun sl i wr => ∃ k' : Nat, k' <= 3 /\ i = .int .i64 (k' : Int) /\ RowS wr w.heap.size sl (numPart e a ++ parts e k') /\ Below w.heap.size w wr) (fun _ i _ => (3 - intOf i).toNat)
   case atStart => exact ⟨0, by decide, rfl, by rw [show parts e 0 = [] from rfl, List.append_nil]; exact HROW.out, HB9.out⟩
   case round =>
    obtain ⟨k', hk, rfl, hrow, hBr⟩ := hrel
    by_cases hlt : k' < 3
    ·have hlt' : (k' : Int) < 3 := by omega
     have hix := idx_arr e hlt
     have hcx := comp_le he k'
     obtain ⟨x, hx⟩ : ∃ x, comp e k' = x := ⟨_, rfl⟩
     rw [hx] at hix hcx
     have HX := Lib.hid hx
     have hw1 : IntKind.i64.wrap ((k' : Int) + 1) = (k' : Int) + 1 := IntWalk.i64_in _ (by omega)
     have hl1 : ¬ ((k' : Int) + 1 < (k' : Int)) := by omega
     have hl2 : (k' : Int) + 1 <= 3 := by omega
     clear hx
     rcases (show x = 0 \/ x = 1 \/ 1 < x by omega) with h0 | h1 | h2
     ·subst h0
      go_wp2_with fail
      go_roundw
      case rel =>
       refine ⟨k' + 1, hlt, congrArg (Value.int _) (by omega), ?_, hBr⟩
       rw [parts_succ, HX.out, show partK k' 0 = [] from rfl, List.append_nil]
       exact hrow
      case measure => simp [intOf]; omega
     ·subst h1
      obtain ⟨hb8, d8⟩ := blk1 wr [.string ((⟨#[97, 98, 99]⟩ : ByteArray).extract k' (k' + 1))] 9
      obtain ⟨v5, w5, hrun, hrow5, hg5⟩ := appX_run _ w.heap.size _ _ _ (hrow.below hb8) wr.heap.size _ d8 (parts_len e a k' hk) (Nat.le_trans hBr.size hb8.size)
      have HRUN := Lib.hid hrun
      have hB5 : Below w.heap.size w w5 := (hBr.trans (hb8.mono hBr.size)).grown hg5 (Nat.le_trans hBr.size hb8.size) (fun j e => (hrow.lt j e).1)
      have HROW5 : Hid (RowS w5 w.heap.size v5 (numPart e a ++ parts e (k' + 1))) := by
       show RowS _ _ _ _
       rw [parts_succ, HX.out, show partK k' 1 = [letter k'] from rfl, <- List.append_assoc]
       exact RowS.snoc rfl hrow5
      clear hrun hrow5 hg5 d8 hb8 hrow
      go_wp2_with (at_builtin; refine wpList_appX rfl (.tmp 34) (.tmp 39) rfl rfl _ _ _ _ rfl rfl HRUN ?_)
      go_wp2_with fail
      go_roundw
      case rel => exact ⟨k' + 1, hlt, congrArg (Value.int _) (by omega), HROW5.out, hB5⟩
      case measure => simp [intOf]; omega
     ·have hx1 : ¬ ((x : Int) = 1) := by omega
      have hx2 : (1 : Int) < (x : Int) := by omega
      obtain ⟨D, hD⟩ : ∃ D : ByteArray, (⟨(Lib.decDigits x).toArray⟩ : ByteArray) = D := ⟨_, rfl⟩
      have hit := itoa_dig x (by omega)
      rw [hD] at hit
      have hDs : D.size = 1 := by rw [<- hD]; exact dec_small x (by omega)
      obtain ⟨E1, hE1⟩ : ∃ E1 : ByteArray, (⟨#[97, 98, 99]⟩ : ByteArray).extract k' (k' + 1) = E1 := ⟨_, rfl⟩
      have hEs : E1.size = 1 := by rw [<- hE1]; exact letter_size hlt
      obtain ⟨M, hM⟩ : ∃ M : ByteArray, E1 ++ ⟨#[94]⟩ = M := ⟨_, rfl⟩
      have hMs : M.size = 2 := by rw [<- hM, ByteArray.size_append, hEs]; rfl
      have HE1 : Hid (letter k' = E1) := hE1
      have HM := Lib.hid hM
      have HD := Lib.hid hD
      clear hD
      have HIT := Lib.hid hit
      obtain ⟨hb8, d8⟩ := blk1 wr.drew [.string (M ++ D)] 9
      have hBd := hBr.drew
      have hrowd := hrow.below (Below.refl _ wr).drew
      obtain ⟨v5, w5, hrun, hrow5, hg5⟩ := appX_run _ w.heap.size _ _ _ (hrowd.below hb8) wr.drew.heap.size _ d8 (parts_len e a k' hk) (Nat.le_trans hBd.size hb8.size)
      have HRUN := Lib.hid hrun
      have hB5 : Below w.heap.size w w5 := (hBd.trans (hb8.mono hBd.size)).grown hg5 (Nat.le_trans hBd.size hb8.size) (fun j e => (hrow.lt j e).1)
      have HROW5 : Hid (RowS w5 w.heap.size v5 (numPart e a ++ parts e (k' + 1))) := by
       show RowS _ _ _ _
       rw [parts_succ, HX.out, partK_more k' h2, HD.out, HE1.out, HM.out, <- List.append_assoc]
       exact RowS.snoc rfl hrow5
      clear hrun hrow5 hg5 d8 hb8 hrow hit hrowd
      go_wp2_with fail
      go_region_held3 (fun _ => True) (first | exact trivial)
       (first
        | (refine step_appX rfl (.tmp 44) (.tmp 53) rfl rfl _ _ _ _ rfl rfl HRUN ?_)
        | (go_at_call 119; refine (HIT.out _).mono ?_; rintro e5 x5 ⟨rfl, rfl⟩)
        | fail)
      go_wp2_with fail
      go_roundw
      case rel => exact ⟨k' + 1, hlt, congrArg (Value.int _) (by omega), HROW5.out, hB5⟩
      case measure => simp [intOf]; omega
    ·obtain rfl : k' = 3 := by omega
     have hlt' : ¬ ((3 : Int) < 3) := by decide
     have HR9 := Lib.hid hrow
     clear hrow
     go_wp2_with fail
     go_ret
     exact ⟨_, rfl, HR9.out, hBr⟩
  ·have HNP : Hid (numPart e a = []) := if_neg hb
   rw [decide_eq_false hb]
   have HROW : Hid (RowS wc w.heap.size (.slice none 0 0) (numPart e a)) := by
    show RowS _ _ _ _
    rw [HNP.out]
    exact World.ownsRow_nil ..
   have HB9 := Lib.hid hBc
   clear hb z0 z1 z2 d1 d3 h1 hBc hTc
   go_wp2_with fail
   go_loopw [3, 27] (fun sl i wr => ∃ k' : Nat, k' <= 3 /\ i = .int .i64 (k' : Int) /\ RowS wr w.heap.size sl (numPart e a ++ parts e k') /\ Below w.heap.size w wr) (fun _ i _ => (3 - intOf i).toNat)
   case atStart => exact ⟨0, by decide, rfl, by rw [show parts e 0 = [] from rfl, List.append_nil]; exact HROW.out, HB9.out⟩
   case round =>
    obtain ⟨k', hk, rfl, hrow, hBr⟩ := hrel
    by_cases hlt : k' < 3
    ·have hlt' : (k' : Int) < 3 := by omega
     have hix := idx_arr e hlt
     have hcx := comp_le he k'
     obtain ⟨x, hx⟩ : ∃ x, comp e k' = x := ⟨_, rfl⟩
     rw [hx] at hix hcx
     have HX := Lib.hid hx
     have hw1 : IntKind.i64.wrap ((k' : Int) + 1) = (k' : Int) + 1 := IntWalk.i64_in _ (by omega)
     have hl1 : ¬ ((k' : Int) + 1 < (k' : Int)) := by omega
     have hl2 : (k' : Int) + 1 <= 3 := by omega
     clear hx
     rcases (show x = 0 \/ x = 1 \/ 1 < x by omega) with h0 | h1 | h2
     ·subst h0
      go_wp2_with fail
      go_roundw
      case rel =>
       refine ⟨k' + 1, hlt, congrArg (Value.int _) (by omega), ?_, hBr⟩
       rw [parts_succ, HX.out, show partK k' 0 = [] from rfl, List.append_nil]
       exact hrow
      case measure => simp [intOf]; omega
     ·subst h1
      obtain ⟨hb8, d8⟩ := blk1 wr [.string ((⟨#[97, 98, 99]⟩ : ByteArray).extract k' (k' + 1))] 9
      obtain ⟨v5, w5, hrun, hrow5, hg5⟩ := appX_run _ w.heap.size _ _ _ (hrow.below hb8) wr.heap.size _ d8 (parts_len e a k' hk) (Nat.le_trans hBr.size hb8.size)
      have HRUN := Lib.hid hrun
      have hB5 : Below w.heap.size w w5 := (hBr.trans (hb8.mono hBr.size)).grown hg5 (Nat.le_trans hBr.size hb8.size) (fun j e => (hrow.lt j e).1)
      have HROW5 : Hid (RowS w5 w.heap.size v5 (numPart e a ++ parts e (k' + 1))) := by
       show RowS _ _ _ _
       rw [parts_succ, HX.out, show partK k' 1 = [letter k'] from rfl, <- List.append_assoc]
       exact RowS.snoc rfl hrow5
      clear hrun hrow5 hg5 d8 hb8 hrow
      go_wp2_with (at_builtin; refine wpList_appX rfl (.tmp 34) (.tmp 39) rfl rfl _ _ _ _ rfl rfl HRUN ?_)
      go_wp2_with fail
      go_roundw
      case rel => exact ⟨k' + 1, hlt, congrArg (Value.int _) (by omega), HROW5.out, hB5⟩
      case measure => simp [intOf]; omega
     ·have hx1 : ¬ ((x : Int) = 1) := by omega
      have hx2 : (1 : Int) < (x : Int) := by omega
      obtain ⟨D, hD⟩ : ∃ D : ByteArray, (⟨(Lib.decDigits x).toArray⟩ : ByteArray) = D := ⟨_, rfl⟩
      have hit := itoa_dig x (by omega)
      rw [hD] at hit
      have hDs : D.size = 1 := by rw [<- hD]; exact dec_small x (by omega)
      obtain ⟨E1, hE1⟩ : ∃ E1 : ByteArray, (⟨#[97, 98, 99]⟩ : ByteArray).extract k' (k' + 1) = E1 := ⟨_, rfl⟩
      have hEs : E1.size = 1 := by rw [<- hE1]; exact letter_size hlt
      obtain ⟨M, hM⟩ : ∃ M : ByteArray, E1 ++ ⟨#[94]⟩ = M := ⟨_, rfl⟩
      have hMs : M.size = 2 := by rw [<- hM, ByteArray.size_append, hEs]; rfl
      have HE1 : Hid (letter k' = E1) := hE1
      have HM := Lib.hid hM
      have HD := Lib.hid hD
      clear hD
      have HIT := Lib.hid hit
      obtain ⟨hb8, d8⟩ := blk1 wr.drew [.string (M ++ D)] 9
      have hBd := hBr.drew
      have hrowd := hrow.below (Below.refl _ wr).drew
      obtain ⟨v5, w5, hrun, hrow5, hg5⟩ := appX_run _ w.heap.size _ _ _ (hrowd.below hb8) wr.drew.heap.size _ d8 (parts_len e a k' hk) (Nat.le_trans hBd.size hb8.size)
      have HRUN := Lib.hid hrun
      have hB5 : Below w.heap.size w w5 := (hBd.trans (hb8.mono hBd.size)).grown hg5 (Nat.le_trans hBd.size hb8.size) (fun j e => (hrow.lt j e).1)
      have HROW5 : Hid (RowS w5 w.heap.size v5 (numPart e a ++ parts e (k' + 1))) := by
       show RowS _ _ _ _
       rw [parts_succ, HX.out, partK_more k' h2, HD.out, HE1.out, HM.out, <- List.append_assoc]
       exact RowS.snoc rfl hrow5
      clear hrun hrow5 hg5 d8 hb8 hrow hit hrowd
      go_wp2_with fail
      go_region_held3 (fun _ => True) (first | exact trivial)
       (first
        | (refine step_appX rfl (.tmp 44) (.tmp 53) rfl rfl _ _ _ _ rfl rfl HRUN ?_)
        | (go_at_call 119; refine (HIT.out _).mono ?_; rintro e5 x5 ⟨rfl, rfl⟩)
        | fail)
      go_wp2_with fail
      go_roundw
      case rel => exact ⟨k' + 1, hlt, congrArg (Value.int _) (by omega), HROW5.out, hB5⟩
      case measure => simp [intOf]; omega
    ·obtain rfl : k' = 3 := by omega
     have hlt' : ¬ ((3 : Int) < 3) := by decide
     have HR9 := Lib.hid hrow
     clear hrow
     go_wp2_with fail
     go_ret
     exact ⟨_, rfl, HR9.out, hBr⟩
abbrev BT : TypeId := 89
abbrev U8 : TypeId := 5
theorem write_b (B b : Nat) (bs : List Value) (s : ByteArray) (w : World) (h : Lib.IsBuilderF BT U8 B b bs w) (hlen : bs.length + s.size <= 140737488355328) (hBw : B <= w.heap.size) :
 Calls Tryz.prog 76 #[.pointer (some ⟨b, 0, none⟩), .string s] w fun e w' => e = .returned (.tuple #[.int .i64 s.size, .nilIface]) /\ (Lib.BuilderAtF BT U8 B b (.pointer (some ⟨b, 0, none⟩)) (bs ++ Lib.strCells s) w' /\ Below B w w' /\ Lib.OthersKept U8 (some b) w w') :=
 Any.Builder_WriteString_k { Lx.Tryz.lays156 with } Lx.Tryz.Builder_Extra_156 B b bs s w h hlen hBw
theorem string_b (B b : Nat) (l : List UInt8) (w : World) (h : Lib.IsBuilderF BT U8 B b (Lib.byteCells l) w) (hBw : B <= w.heap.size) :
 Calls Tryz.prog 80 #[.pointer (some ⟨b, 0, none⟩)] w fun e w' => e = .returned (.string ⟨l.toArray⟩) /\ (Lib.IsBuilderF BT U8 B b (Lib.byteCells l) w' /\ Below B w w' /\ Lib.OthersKept U8 (some b) w w') :=
 Any.Builder_String_any_k { Lx.Tryz.lays156 with } Lx.Tryz.Builder_Extra_156 B b l w h hBw
theorem owF_below {w w' : World} {base size k : Nat} {e : TypeId} {v : Value} {xs : List Value} (h : w.ownsRowF base e size v k xs) (hb : Below w.heap.size w w') : w'.ownsRowF base e size v k xs := by
 refine ⟨h.1, ?_⟩
 rcases h.2 with h1 | ⟨g, cap, cur, fz, rfl, h2, h3, h4⟩
 ·exact .inl h1
 ·exact .inr ⟨g, cap, cur, fz, rfl, h2, (hb.block g (heap_lt h3)).trans h3, h4⟩
theorem bAt_below {T e : TypeId} {B b : Nat} {p : Value} {bs : List Value} {w w' : World} (h : Lib.BuilderAtF T e B b p bs w) (hb : Below w.heap.size w w') : Lib.BuilderAtF T e B b p bs w' := by
 obtain ⟨h1, v, h2, h3, h4⟩ := h
 exact ⟨h1, v, (hb.block b (heap_lt h2)).trans h2, owF_below h3 hb, h4⟩
theorem isB_below {T e : TypeId} {B b : Nat} {bs : List Value} {w w' : World} (h : Lib.IsBuilderF T e B b bs w) (hb : Below w.heap.size w w') : Lib.IsBuilderF T e B b bs w' :=
 h.elim (fun x => .inl (bAt_below x hb)) (fun x => .inr (bAt_below x hb))
theorem Cs.kept {w w' : World} {g b : Nat} {l : List Value} {t : TypeId} (h : Cs w g l t) (hk : Lib.OthersKept U8 (some b) w w') (hne : g ≠ b) (ht : t ≠ U8) : Cs w' g l t :=
 hk g _ h (fun e => hne (Option.some.inj e)) (fun c fz e => by cases e; exact ht rfl)
def textOf (l : List ByteArray) : List UInt8 := Lib.join (l.map (·.data.toList)) [42]
def monText (i : Nat) (m : Mon) : List UInt8 := signT (decide (i = 0)) (decide (m.2.num < 0)) ++ textOf (factL m)
def fmtTo (l : List Mon) (k : Nat) : List UInt8 := (List.range k).flatMap fun i => (l[i]?.map (monText i)).getD []
def fmtP (l : List Mon) : List UInt8 := if l = [] then [48] else fmtTo l l.length
theorem fmtTo_succ {l : List Mon} {k : Nat} {m : Mon} (h : l[k]? = some m) : fmtTo l (k + 1) = fmtTo l k ++ monText k m := by
 unfold fmtTo
 rw [List.range_succ, List.flatMap_append, List.flatMap_singleton, h]; rfl
theorem fmtQ_le {q : Rat} {L : Nat} (h : Sz q L) (hL : L <= 10000) : (fmtQ q).length <= 300000 := by
 have h1 := decDigits_le h.1
 have h2 := decDigits_le h.2
 unfold fmtQ
 rw [List.length_append, List.length_append]
 have e1 : (if q.num < 0 then ([45] : List UInt8) else []).length <= 1 := by split <;> simp
 have e2 : (if q.den = 1 then ([] : List UInt8) else 47 :: Lib.decDigits q.den).length <= 10 * L + 2 := by split <;> simp <;> omega
 omega
theorem factL_ne (m : Mon) (h : absq m.2 = 1 -> m.1 ≠ (0, 0, 0)) : factL m ≠ [] := by
 unfold factL numPart
 by_cases h0 : m.1 = (0, 0, 0) \/ absq m.2 ≠ 1
 ·rw [if_pos h0]; simp
 ·rw [if_neg h0, List.nil_append]
  have h1 : m.1 ≠ (0, 0, 0) := fun e => h0 (.inl e)
  intro he
  apply h1
  have hk : ∀ k < 3, comp m.1 k = 0 := by
   intro k hk
   have h2 : partK k (comp m.1 k) = [] := by
    have h3 : ∀ x ∈ partK k (comp m.1 k), x ∈ parts m.1 3 := fun x hx => List.mem_flatMap.2 ⟨k, List.mem_range.2 hk, hx⟩
    rw [he] at h3
    exact List.eq_nil_iff_forall_not_mem.2 (fun x hx => by simpa using h3 x hx)
   unfold partK at h2
   split at h2
   ·cases h2
   ·split at h2
    ·cases h2
    ·omega
  exact Prod.ext (hk 0 (by omega)) (Prod.ext (hk 1 (by omega)) (hk 2 (by omega)))
theorem factL_ne' (m : Mon) : factL m ≠ [] := by
 by_cases h : m.1 = (0, 0, 0)
 ·unfold factL numPart
  rw [if_pos (.inl h)]; simp
 ·exact factL_ne m (fun _ => h)
theorem lens_le {l : List (List UInt8)} {M : Nat} (h : ∀ x ∈ l, x.length <= M) : Lib.lens l <= l.length * M := by
 induction l with
 | nil => simp [Lib.lens]
 | cons x r ih =>
   have h1 := h x (by simp)
   have h2 := ih (fun y hy => h y (by simp [hy]))
   simp [Lib.lens] at h2 ⊢
   rw [Nat.add_mul]
   omega
theorem textOf_le {m : Mon} {L : Nat} (he : deg m.1 <= 5) (h : Sz m.2 L) (hL : L <= 10000) : (textOf (factL m)).length <= 2000000 := by
 have hlen : (factL m).length <= 4 := by
  have h1 : (numPart m.1 (absq m.2)).length <= 1 := by unfold numPart; split <;> simp
  have h2 : ∀ k, (parts m.1 k).length <= k := by
   intro k
   induction k with
   | zero => simp [parts]
   | succ k ih => rw [parts_succ, List.length_append]; have := partK_len k (comp m.1 k); omega
  unfold factL
  rw [List.length_append]; have := h2 3; omega
 have hx : ∀ x ∈ (factL m).map (·.data.toList), x.length <= 300000 := by
  intro x hx
  obtain ⟨y, hy, rfl⟩ := List.mem_map.1 hx
  unfold factL at hy
  rcases List.mem_append.1 hy with hy | hy
  ·unfold numPart at hy
   split at hy
   ·obtain rfl := List.mem_singleton.1 hy
    show (fmtQ _).toArray.toList.length <= _
    exact fmtQ_le (sz_abs h rfl) hL
   ·cases hy
  ·obtain ⟨k, hk, hy⟩ := List.mem_flatMap.1 hy
   have hk3 := List.mem_range.1 hk
   have hc := comp_le he k
   have hl : (letter k).data.toList.length = 1 := letter_size hk3
   unfold partK at hy
   split at hy
   ·obtain rfl := List.mem_singleton.1 hy
    rw [hl]; decide
   ·split at hy
    ·obtain rfl := List.mem_singleton.1 hy
     have hd : (Lib.decDigits (comp m.1 k)).length = 1 := dec_small _ (by omega)
     simp only [ByteArray.data_append, Array.toList_append, List.length_append, hl, hd]
     decide
    ·cases hy
 unfold textOf
 cases hm : factL m with
 | nil => simp [Lib.join_nil]
 | cons y r =>
   rw [hm] at hx hlen
   rw [List.map_cons, Lib.join_length]
   have h5 := lens_le hx
   simp only [List.length_map, List.map_cons, List.length_cons, List.length_nil] at h5 hlen ⊢
   have : (r.length + 1) * 300000 <= 4 * 300000 := Nat.mul_le_mul_right _ hlen
   omega
theorem sign_le (f n : Bool) : (signT f n).length <= 3 := by cases f <;> cases n <;> decide
theorem fmtTo_le {l : List Mon} {L : Nat} (hv : VP l) (h : SzL l L) (hL : L <= 10000) : ∀ k, (fmtTo l k).length <= k * 2000003 := by
 intro k
 induction k with
 | zero => simp [fmtTo]
 | succ k ih =>
   rw [Nat.add_mul, Nat.one_mul]
   cases hm : l[k]? with
   | none =>
     have : fmtTo l (k + 1) = fmtTo l k := by
      unfold fmtTo
      rw [List.range_succ, List.flatMap_append, List.flatMap_singleton, hm]; simp
     rw [this]; exact Nat.le_trans ih (Nat.le_add_right _ _)
   | some m =>
     rw [fmtTo_succ hm, List.length_append]
     have hmem := List.mem_of_getElem? hm
     have h1 := textOf_le (hv.1 m hmem).1 (h m hmem) hL
     have h2 := sign_le (decide (k = 0)) (decide (m.2.num < 0))
     unfold monText
     rw [List.length_append]
     omega
theorem join_row {w : World} {B : Nat} {v : Value} {l : List ByteArray} (h : RowS w B v l) (h0 : l ≠ []) (hlen : (textOf l).length <= 140737488355328) (hl : l.length <= 1000000) :
 Calls Tryz.prog 78 #[v, .string ⟨#[42]⟩] w (RetV w (.string ⟨(textOf l).toArray⟩)) := by
 rcases h.2 with ⟨rfl, hz⟩ | ⟨g, cap, cur, rfl, hbase, hg, h1, h2, h3, h4⟩
 ·exact absurd (List.eq_nil_of_length_eq_zero hz) h0
 ·refine Lx.Tryz.strings_Join g 0 cap l ⟨#[42]⟩ w (fun j x hj => ?_) (heap_lt hg) (by omega) h1 hlen
  rw [Nat.zero_add, cell_of_row w g j _ _ _ hg]
  have h5 : (l.map Value.string)[j]? = some (.string x) := by rw [List.getElem?_map, hj]; rfl
  rw [<- h4, List.getElem?_take] at h5
  split at h5
  ·rw [<- Array.getElem?_toList]; exact h5
  ·cases h5
theorem byteCells_app (l r : List UInt8) : Lib.byteCells (l ++ r) = Lib.byteCells l ++ Lib.byteCells r := by simp [Lib.byteCells]
theorem factL_len (m : Mon) : (factL m).length <= 1000000 := parts_len m.1 (absq m.2) 3 (Nat.le_refl _)
theorem Format_p (v : Value) (l : List Mon) (L : Nat) (w : World) (hT : TxF w) (h : PI w v l L) (hL : L <= 10000) : Calls Tryz.prog 36 #[v] w (RetV w (.string ⟨(fmtP l).toArray⟩)) := by
 obtain ⟨_, _, _, rfl⟩ := h.slice
 have hvp := h.vp
 have hsp := h.szl
 have hlp := vp_length hvp
 have hC1 := clean_p _ l L w hT.tab h
 have HC1 := Lib.hid hC1
 clear hC1 h
 go_enter Tryz.func36, Tryz.ntmps36
 go_wp2_with fail
 refine HC1.out.mono ?_
 rintro e1 w1 ⟨v1, rfl, hp1, hb1⟩
 have hT1 := hT.below hb1
 obtain ⟨A1, c1, rfl⟩ := hp1.slice
 clear HC1 hT
 rcases Nat.eq_zero_or_pos l.length with h0 | h0
 ·have hl : l = [] := List.eq_nil_of_length_eq_zero h0
  subst hl
  go_wp2_with fail
  go_ret
  exact ⟨rfl, hb1⟩
 ·have hne : l ≠ [] := fun e => by rw [e] at h0; exact absurd h0 (by decide)
  have hz : (((l.length : Int) == 0) : Bool) = false := by simp; omega
  have hB := Lib.IsBuilderF.of (Lib.fresh_isBuilder BT U8 w1)
  have HNE := Lib.hid hne
  clear hne
  go_wp2_with fail
  generalize hW : (w1.alloc (.cells #[.pointer none, .slice none 0 0] 89)) = W at *
  have hbW : Below w1.heap.size w1 W := by rw [<- hW]; exact (Below.refl _ _).alloc (Nat.le_refl _) _
  clear hW
  go_loopw [13] (fun i wr => ∃ k : Nat, k <= l.length /\ i = .int .i64 (k : Int) /\ Lib.IsBuilderF BT U8 w1.heap.size w1.heap.size (Lib.byteCells (fmtTo l k)) wr /\ Below w1.heap.size w1 wr) (fun i _ => (l.length - intOf i).toNat)
  case atStart => exact ⟨0, Nat.zero_le _, rfl, hB, hbW⟩
  case round =>
   obtain ⟨k, hk, rfl, hBk, hbk⟩ := hrel
   rcases Nat.lt_or_ge k l.length with hkn | hkn
   ·obtain ⟨m, hm⟩ : ∃ m, l[k]? = some m := ⟨l[k], List.getElem?_eq_getElem hkn⟩
    obtain ⟨bq, oq, y0, y1, y2, rfl, hbq, hat, hcoef⟩ := hp1.at hm
    obtain ⟨nb, Ay, ny, cy, By, my, ey, heq⟩ := hcoef.agg
    simp only [Value.agg.injEq, Array.mk.injEq, List.cons.injEq, and_true] at heq
    obtain ⟨rfl, rfl, rfl⟩ := heq
    have hnb : nb = decide (m.2.num < 0) := by
     obtain ⟨_, _, _, _, _, _, e, _, _⟩ := hcoef
     simp only [Value.agg.injEq, Array.mk.injEq, List.cons.injEq, Value.bool.injEq] at e
     exact e.1
    have hmq : m ∈ l := List.mem_of_getElem? hm
    have hdm := (hvp.1 m hmq).1
    have hsm := hsp m hmq
    obtain ⟨x0, x1, x2, x3, x4, x5⟩ := hat.below hbk hbq
    obtain ⟨hb6, d6⟩ := new6 wr (.int .i64 (m.1.1 : Int)) (.int .i64 (m.1.2.1 : Int)) (.int .i64 (m.1.2.2 : Int)) (.bool nb) (.slice Ay ny cy) (.slice By my ey)
    have hlt : (k : Int) < (l.length : Int) := by omega
    have hB6 := isB_below hBk hb6
    have hbk6 := hbk.trans (hb6.mono hbk.size)
    have hsz1 : w1.heap.size <= wr.heap.size := hbk.size
    have hlt1 : w1.heap.size < wr.heap.size := by
     rcases hBk with hh | hh
     ·exact hh.lt
     ·exact hh.lt
    have HM := Lib.hid hm
    have HK := Lib.hid hkn
    have HNB := Lib.hid hnb
    have HDM := Lib.hid hdm
    have hc6 := d6.c6
    clear hkn hm hat hnb hmq hdm hBk
    go_wp2_with fail
    generalize hW6 : (wr.alloc (M6 (.int .i64 (m.1.1 : Int)) (.int .i64 (m.1.2.1 : Int)) (.int .i64 (m.1.2.2 : Int)) (.bool nb) (.slice Ay ny cy) (.slice By my ey))) = W6 at *
    clear hW6 x0 x1 x2 x3 x4 x5 hc6
    have hkb : (((k : Int) == 0) : Bool) = decide (k = 0) := by
     by_cases hk0 : k = 0
     ·subst hk0; rfl
     ·have : ¬ ((k : Int) = 0) := by omega
      simp [hk0, this]
    have HKB := Lib.hid hkb
    clear hkb
    refine (sign_any ((k : Int) == 0) nb _).mono ?_
    rintro e2 w2 ⟨rfl, rfl⟩
    obtain ⟨S1, hS1⟩ : ∃ S1, signT ((k : Int) == 0) nb = S1 := ⟨_, rfl⟩
    rw [hS1]
    have hS1l : S1.length <= 3 := by rw [<- hS1]; exact sign_le _ _
    have hf := fmtTo_le hvp hsp hL k
    have hk56 : k * 2000003 <= 56 * 2000003 := Nat.mul_le_mul_right _ (by have := HK.out; omega)
    have HS1 := Lib.hid hS1
    have HWR := Lib.hid (write_b w1.heap.size w1.heap.size _ ⟨S1.toArray⟩ _ hB6 (by rw [Lib.byteCells_length]; show _ + S1.toArray.size <= _; rw [List.size_toArray]; omega) hbk6.size)
    clear hS1
    go_wp2_with fail
    refine HWR.out.mono ?_
    rintro e3 w3 ⟨rfl, hB3, hb3, hk3⟩
    have d3 := d6.kept hk3 (by omega) (by decide)
    have hbk3 := hbk6.trans hb3
    have hT3 := hT1.below hbk3
    have hq3 := hcoef.below hbk3
    have hc3 := d3.c6
    clear HWR hB6 hb6 hk3 hb3
    go_wp2_with fail
    have hfl : factL m = numPart m.1 (absq m.2) ++ parts m.1 3 := rfl
    refine (factors_any m.1 nb Ay By ny cy my ey m.2 (absq m.2) L w3 hT3 HDM.out hq3 hsm hL rfl).mono ?_
    rintro e4 w4 ⟨v4, rfl, hrow, hb4⟩
    rw [<- hfl] at hrow
    have hbk4 := hbk3.trans (hb4.mono hbk3.size)
    have hB4 := isB_below (.inr hB3) hb4
    have htl := textOf_le HDM.out hsm hL
    have HJ := Lib.hid (join_row hrow (factL_ne' m) (by omega) (factL_len m))
    clear hrow hT3 hq3 hc3 d3 d6 hB3 hb4 hfl
    go_wp2_with fail
    refine HJ.out.mono ?_
    rintro e5 w5 ⟨rfl, hb5⟩
    have hbk5 := hbk4.trans (hb5.mono hbk4.size)
    obtain ⟨S2, hS2⟩ : ∃ S2, textOf (factL m) = S2 := ⟨_, rfl⟩
    rw [hS2] at htl
    have HS2 := Lib.hid hS2
    have HWR2 := Lib.hid (write_b w1.heap.size w1.heap.size _ ⟨S2.toArray⟩ _ (isB_below hB4 hb5) (by rw [List.length_append, Lib.byteCells_length, Lib.strCells_length]; show _ + S1.toArray.size + S2.toArray.size <= _; rw [List.size_toArray, List.size_toArray]; omega) hbk5.size)
    rw [hS2]
    clear hS2 HJ hB4 hb5
    go_wp2_with fail
    refine HWR2.out.mono ?_
    rintro e6 w6 ⟨rfl, hB6, hb6, _⟩
    have hbk6' := hbk5.trans hb6
    clear HWR2 hb6
    go_wp2_with fail
    go_roundw
    case rel =>
     refine ⟨k + 1, HK.out, congrArg (Value.int _) (by omega), .inr ?_, hbk6'⟩
     rw [fmtTo_succ HM.out]
     unfold monText
     rw [<- HKB.out, <- HNB.out, HS1.out, HS2.out, byteCells_app, byteCells_app, <- List.append_assoc]
     exact hB6
    case measure => simp [intOf]; have := HK.out; omega
   ·obtain rfl : k = l.length := by omega
    have hlt : ¬ ((l.length : Int) < (l.length : Int)) := by omega
    have HSB := Lib.hid (string_b w1.heap.size w1.heap.size _ _ hBk hbk.size)
    clear hBk
    go_wp2_with fail
    refine HSB.out.mono ?_
    rintro e4 w4 ⟨rfl, _, hb4, _⟩
    go_wp2_with fail
    go_ret
    refine ⟨?_, hb1.trans ((hbk.trans hb4).mono hb1.size)⟩
    unfold fmtP
    rw [if_neg HNE.out]
    rfl
theorem r2_order (x0 x1 x2 y0 y1 y2 : Int) (w : World) (V : Int) (H : Hid (lexI (x0, x1, x2) (y0, y1, y2) = V)) : Calls Tryz.prog 52 #[eV x0 x1 x2, eV y0 y1 y2] w (RetV w (.int .i64 V)) := by
 obtain ⟨hb, c1, c2⟩ := blk2 w (e3 x0 x1 x2) (e3 y0 y1 y2) 57 57
 have hmx : Tryz.prog.follows .mixedOrders = true := by kernel_rfl
 go_enter Tryz.func52, Tryz.ntmps52
 go_wp2_with fail
 generalize ((w.alloc (.cells #[.int .i64 x0, .int .i64 x1, .int .i64 x2] 57)).alloc (.cells #[.int .i64 y0, .int .i64 y1, .int .i64 y2] 57)) = W at *
 refine wp_loop_rounds 4 ?_
 rw [rounds_succ]
 have a0 : (W).cell? ⟨w.heap.size, 0, none⟩ = some (.int .i64 x0) := c1.cell rfl
 have b0 : (W).cell? ⟨w.heap.size + 1, 0, none⟩ = some (.int .i64 y0) := c2.cell rfl
 rcases Int.lt_trichotomy x0 y0 with h0 | h0 | h0
 ·have HV : V = -1 := by rw [<- H.out]; unfold lexI; simp only; rw [if_pos h0]
  have hn : ((x0 == y0) : Bool) = false := by simp; omega
  have hl : x0 < y0 := h0
  go_wp2_with fail
  go_region_o
  all_goals go_wp2_with fail
  all_goals go_region_o
  all_goals go_wp2_with fail
  all_goals go_ret
  all_goals exact ⟨by rw [HV]; rfl, hb.drew.drew⟩
 ·subst h0
  go_wp2_with fail
  go_region_o
  go_wp2_with fail
  clear a0 b0
  rw [rounds_succ]
  have a1 : (W.drew).cell? ⟨w.heap.size, 1, none⟩ = some (.int .i64 x1) := c1.cell rfl
  have b1 : (W.drew).cell? ⟨w.heap.size + 1, 1, none⟩ = some (.int .i64 y1) := c2.cell rfl
  rcases Int.lt_trichotomy x1 y1 with h1 | h1 | h1
  ·have HV : V = -1 := by rw [<- H.out]; unfold lexI; simp only; rw [if_neg (by omega), if_neg (by omega)]; rw [if_pos h1]
   have hn : ((x1 == y1) : Bool) = false := by simp; omega
   have hl : x1 < y1 := h1
   go_wp2_with fail
   go_region_o
   all_goals go_wp2_with fail
   all_goals go_region_o
   all_goals go_wp2_with fail
   all_goals go_ret
   all_goals exact ⟨by rw [HV]; rfl, hb.drew.drew.drew⟩
  ·subst h1
   go_wp2_with fail
   go_region_o
   go_wp2_with fail
   clear a1 b1
   rw [rounds_succ]
   have a2 : (W.drew.drew).cell? ⟨w.heap.size, 2, none⟩ = some (.int .i64 x2) := c1.cell rfl
   have b2 : (W.drew.drew).cell? ⟨w.heap.size + 1, 2, none⟩ = some (.int .i64 y2) := c2.cell rfl
   rcases Int.lt_trichotomy x2 y2 with h2 | h2 | h2
   ·have HV : V = -1 := by rw [<- H.out]; unfold lexI; simp only; rw [if_neg (by omega), if_neg (by omega)]; rw [if_neg (by omega), if_neg (by omega)]; rw [if_pos h2]
    have hn : ((x2 == y2) : Bool) = false := by simp; omega
    have hl : x2 < y2 := h2
    go_wp2_with fail
    go_region_o
    all_goals go_wp2_with fail
    all_goals go_region_o
    all_goals go_wp2_with fail
    all_goals go_ret
    all_goals exact ⟨by rw [HV]; rfl, hb.drew.drew.drew.drew⟩
   ·subst h2
    go_wp2_with fail
    go_region_o
    go_wp2_with fail
    clear a2 b2
    rw [rounds_succ]
    go_wp2_with fail
    go_ret
    have HV : V = 0 := by rw [<- H.out]; unfold lexI; simp only; rw [if_neg (by omega), if_neg (by omega)]; rw [if_neg (by omega), if_neg (by omega)]; rw [if_neg (by omega), if_neg (by omega)]
    exact ⟨by rw [HV]; rfl, hb.drew.drew.drew⟩
   ·have HV : V = 1 := by rw [<- H.out]; unfold lexI; simp only; rw [if_neg (by omega), if_neg (by omega)]; rw [if_neg (by omega), if_neg (by omega)]; rw [if_neg (by omega), if_pos h2]
    have hn : ((x2 == y2) : Bool) = false := by simp; omega
    have hl : ¬ x2 < y2 := by omega
    go_wp2_with fail
    go_region_o
    all_goals go_wp2_with fail
    all_goals go_region_o
    all_goals go_wp2_with fail
    all_goals go_ret
    all_goals exact ⟨by rw [HV]; rfl, hb.drew.drew.drew.drew⟩
  ·have HV : V = 1 := by rw [<- H.out]; unfold lexI; simp only; rw [if_neg (by omega), if_neg (by omega)]; rw [if_neg (by omega), if_pos h1]
   have hn : ((x1 == y1) : Bool) = false := by simp; omega
   have hl : ¬ x1 < y1 := by omega
   go_wp2_with fail
   go_region_o
   all_goals go_wp2_with fail
   all_goals go_region_o
   all_goals go_wp2_with fail
   all_goals go_ret
   all_goals exact ⟨by rw [HV]; rfl, hb.drew.drew.drew⟩
 ·have HV : V = 1 := by rw [<- H.out]; unfold lexI; simp only; rw [if_neg (by omega), if_pos h0]
  have hn : ((x0 == y0) : Bool) = false := by simp; omega
  have hl : ¬ x0 < y0 := by omega
  go_wp2_with fail
  go_region_o
  all_goals go_wp2_with fail
  all_goals go_region_o
  all_goals go_wp2_with fail
  all_goals go_ret
  all_goals exact ⟨by rw [HV]; rfl, hb.drew.drew⟩
theorem r2_possible (x0 x1 x2 : Int) (w : World) (V : Bool) (H : Hid (knownI (x0, x1, x2) = V)) : Calls Tryz.prog 49 #[eV x0 x1 x2] w (RetV w (.bool V)) := by
 obtain ⟨hb, c1⟩ := blk1 w (e3 x0 x1 x2) 57
 obtain ⟨a0, a1, a2⟩ := c1.c3
 go_enter Tryz.func49, Tryz.ntmps49
 go_wp2_with fail
 generalize (w.alloc (.cells #[.int .i64 x0, .int .i64 x1, .int .i64 x2] 57)) = W at *
 refine wp_loop_rounds 4 ?_
 rw [rounds_succ]
 rcases out5 x0 with m00 | ⟨m00, m01⟩ | ⟨m00, m01, m02, m03⟩
 ·have g := of_decide_eq_true m00
  go_wp2_with fail
  go_ret
  exact ⟨ret_bool (by rw [<- H.out]; unfold knownI; exact (decide_eq_false (by simp only; omega)).symm), hb⟩
 ·have g := of_decide_eq_true m01
  go_wp2_with fail
  go_ret
  exact ⟨ret_bool (by rw [<- H.out]; unfold knownI; exact (decide_eq_false (by simp only; omega)).symm), hb⟩
 ·have hw0 : IntKind.i64.wrap (0 + x0) = 0 + x0 := IntWalk.i64_in _ (by omega)
  go_wp2_with fail
  rw [rounds_succ]
  rcases out5 x1 with m10 | ⟨m10, m11⟩ | ⟨m10, m11, m12, m13⟩
  ·have g := of_decide_eq_true m10
   go_wp2_with fail
   go_ret
   exact ⟨ret_bool (by rw [<- H.out]; unfold knownI; exact (decide_eq_false (by simp only; omega)).symm), hb⟩
  ·have g := of_decide_eq_true m11
   go_wp2_with fail
   go_ret
   exact ⟨ret_bool (by rw [<- H.out]; unfold knownI; exact (decide_eq_false (by simp only; omega)).symm), hb⟩
  ·have hw1 : IntKind.i64.wrap (x0 + x1) = x0 + x1 := IntWalk.i64_in _ (by omega)
   go_wp2_with fail
   rw [rounds_succ]
   rcases out5 x2 with m20 | ⟨m20, m21⟩ | ⟨m20, m21, m22, m23⟩
   ·have g := of_decide_eq_true m20
    go_wp2_with fail
    go_ret
    exact ⟨ret_bool (by rw [<- H.out]; unfold knownI; exact (decide_eq_false (by simp only; omega)).symm), hb⟩
   ·have g := of_decide_eq_true m21
    go_wp2_with fail
    go_ret
    exact ⟨ret_bool (by rw [<- H.out]; unfold knownI; exact (decide_eq_false (by simp only; omega)).symm), hb⟩
   ·have hw2 : IntKind.i64.wrap (x0 + x1 + x2) = x0 + x1 + x2 := IntWalk.i64_in _ (by omega)
    go_wp2_with fail
    rw [rounds_succ]
    have hv : decide (x0 + x1 + x2 <= 5) = V := by rw [<- H.out]; unfold knownI; exact decide_eq_decide.2 (by simp only; omega)
    have hw3 : (x0 + x1 + x2 <= 5) ↔ V = true := by rw [<- hv]; simp
    clear m00 m01 m02 m03 m10 m11 m12 m13 m20 m21 m22 m23
    go_wp2_with fail
    go_ret
    exact ⟨ret_bool (by simp), hb⟩
theorem r2_Same (v v' : Value) (l l' : List Mon) (w : World) (h : Pol w v l) (h' : Pol w v' l') (sl : SzL l 100000000) (sl' : SzL l' 100000000) (hn : l.length <= 1000000) (hn' : l'.length <= 1000000) : Calls Tryz.prog 16 #[v, v'] w (RetV w (.bool (decide (l = l')))) := by
 obtain ⟨A, c, rfl⟩ := h.slice
 obtain ⟨A', c', rfl⟩ := h'.slice
 have hmx : Tryz.prog.follows .mixedOrders = true := by kernel_rfl
 by_cases hlen : l.length = l'.length
 ·rw [<- hlen]
  have HLEN := Lib.hid hlen
  clear hlen
  go_enter Tryz.func16, Tryz.ntmps16
  go_wp2_with fail
  go_loopw [5] (fun i wr => ∃ k : Nat, k <= l.length /\ i = .int .i64 (k : Int) /\ Below w.heap.size w wr /\ Hid (∀ j, j < k -> l[j]? = l'[j]?)) (fun i _ => (l.length - intOf i).toNat)
  case atStart => exact ⟨0, Nat.zero_le _, rfl, Below.refl _ _, fun j hj => absurd hj (Nat.not_lt_zero _)⟩
  case round =>
   obtain ⟨k, hk, rfl, hb, hO⟩ := hrel
   by_cases hkn : k < l.length
   ·obtain ⟨m, hm⟩ : ∃ m, l[k]? = some m := ⟨l[k], List.getElem?_eq_getElem hkn⟩
    obtain ⟨m', hm'⟩ : ∃ m', l'[k]? = some m' := ⟨l'[k], List.getElem?_eq_getElem (by have := HLEN.out; omega)⟩
    obtain ⟨b, o, y0, y1, y2, rfl, hbq, hat, hcoef⟩ := h.at hm
    obtain ⟨b', o', y0', y1', y2', rfl, hbq', hat', hcoef'⟩ := h'.at hm'
    have hlt : (k : Int) < (l.length : Int) := by omega
    have hw1 : IntKind.i64.wrap ((k : Int) + 1) = (k : Int) + 1 := IntWalk.i64_in _ (by omega)
    obtain ⟨nb, Ay, ny, cy, By, my, ey, heq⟩ := hcoef.agg
    simp only [Value.agg.injEq, Array.mk.injEq, List.cons.injEq, and_true] at heq
    obtain ⟨rfl, rfl, rfl⟩ := heq
    obtain ⟨nb', Ay', ny', cy', By', my', ey', heq⟩ := hcoef'.agg
    simp only [Value.agg.injEq, Array.mk.injEq, List.cons.injEq, and_true] at heq
    obtain ⟨rfl, rfl, rfl⟩ := heq
    have hatw := hat.below hb hbq
    have hatw' := hat'.below hb hbq'
    have hq := (hcoef.below hb).below (Below.refl _ _).drew
    have hq' := (hcoef'.below hb).below (Below.refl _ _).drew
    have hsm := sl m (List.mem_of_getElem? hm)
    have hsm' := sl' m' (List.mem_of_getElem? hm')
    have HM := Lib.hid hm
    have HM' := Lib.hid hm'
    have HK := Lib.hid hkn
    by_cases he : m.1 = m'.1
    ·have heq : ∀ w : World, (Op.equalIn 10000 57 (.agg #[.int .i64 (m.1.1 : Int), .int .i64 (m.1.2.1 : Int), .int .i64 (m.1.2.2 : Int)]) (.agg #[.int .i64 (m'.1.1 : Int), .int .i64 (m'.1.2.1 : Int), .int .i64 (m'.1.2.2 : Int)])).run Tryz.prog w = .ok true w := fun w => by
      rw [eq_exps, he]; simp
     have HE := Lib.hid he
     obtain ⟨x0, x1, x2, x3, x4, x5⟩ := (show At6 wr.drew _ _ _ _ _ _ _ _ from hatw)
     obtain ⟨z0, z1, z2, z3, z4, z5⟩ := (show At6 wr.drew _ _ _ _ _ _ _ _ from hatw')
     clear he hm hm' hkn
     go_wp2_with fail
     have HS := Lib.hid (r_Same _ _ m.2 m'.2 wr.drew hq hq' hsm hsm')
     have hat5 := (show At6 wr.drew _ _ _ _ _ _ _ _ from hatw)
     have hat5' := (show At6 wr.drew _ _ _ _ _ _ _ _ from hatw')
     have g1 : b < wr.drew.heap.size := Nat.lt_of_lt_of_le hbq hb.size
     have g2 : b' < wr.drew.heap.size := Nat.lt_of_lt_of_le hbq' hb.size
     by_cases hv : m.2 = m'.2
     ·rw [decide_eq_true hv] at HS
      have HV := Lib.hid hv
      clear hv
      go_region_held3 (fun w' => (w'.cell? ⟨b, o + k * 6, none⟩ = some (.int .i64 (m.1.1 : Int)) /\ w'.cell? ⟨b, o + k * 6 + 1, none⟩ = some (.int .i64 (m.1.2.1 : Int)) /\ w'.cell? ⟨b, o + k * 6 + 2, none⟩ = some (.int .i64 (m.1.2.2 : Int)) /\ w'.cell? ⟨b, o + k * 6 + 3, none⟩ = some (.bool nb) /\ w'.cell? ⟨b, o + k * 6 + 4, none⟩ = some (.slice Ay ny cy) /\ w'.cell? ⟨b, o + k * 6 + 5, none⟩ = some (.slice By my ey)) /\ (w'.cell? ⟨b', o' + k * 6, none⟩ = some (.int .i64 (m'.1.1 : Int)) /\ w'.cell? ⟨b', o' + k * 6 + 1, none⟩ = some (.int .i64 (m'.1.2.1 : Int)) /\ w'.cell? ⟨b', o' + k * 6 + 2, none⟩ = some (.int .i64 (m'.1.2.2 : Int)) /\ w'.cell? ⟨b', o' + k * 6 + 3, none⟩ = some (.bool nb') /\ w'.cell? ⟨b', o' + k * 6 + 4, none⟩ = some (.slice Ay' ny' cy') /\ w'.cell? ⟨b', o' + k * 6 + 5, none⟩ = some (.slice By' my' ey')))
       (first | with_reducible exact ⟨⟨x0, x1, x2, x3, x4, x5⟩, ⟨z0, z1, z2, z3, z4, z5⟩⟩ | with_reducible exact ⟨ya, yb⟩ | fail)
       (first
        | (go_at_call 23; refine HS.out.mono ?_; rintro e5 x5' ⟨rfl, hb5⟩; have ya : _ /\ _ /\ _ /\ _ /\ _ /\ _ := hat5.below hb5 g1; have yb : _ /\ _ /\ _ /\ _ /\ _ /\ _ := hat5'.below hb5 g2)
        | fail)
      go_wp2_with fail
      go_roundw
      case rel =>
       refine ⟨k + 1, HK.out, congrArg (Value.int _) (by omega), hb.drew.trans (hb5.mono hb.size), fun j hj => ?_⟩
       rcases Nat.lt_or_ge j k with hjk | hjk
       ·exact hO.out j hjk
       ·obtain rfl : j = k := by omega
        rw [HM.out, HM'.out, Prod.ext HE.out HV.out]
      case measure => simp [intOf]; have := HK.out; omega
     ·rw [decide_eq_false hv] at HS
      have HV : Hid (decide (l = l') = false) := decide_eq_false (fun e => by have h1 := HM.out; rw [e, HM'.out] at h1; cases h1; exact hv rfl)
      clear hv
      go_region_held3 (fun w' => (w'.cell? ⟨b, o + k * 6, none⟩ = some (.int .i64 (m.1.1 : Int)) /\ w'.cell? ⟨b, o + k * 6 + 1, none⟩ = some (.int .i64 (m.1.2.1 : Int)) /\ w'.cell? ⟨b, o + k * 6 + 2, none⟩ = some (.int .i64 (m.1.2.2 : Int)) /\ w'.cell? ⟨b, o + k * 6 + 3, none⟩ = some (.bool nb) /\ w'.cell? ⟨b, o + k * 6 + 4, none⟩ = some (.slice Ay ny cy) /\ w'.cell? ⟨b, o + k * 6 + 5, none⟩ = some (.slice By my ey)) /\ (w'.cell? ⟨b', o' + k * 6, none⟩ = some (.int .i64 (m'.1.1 : Int)) /\ w'.cell? ⟨b', o' + k * 6 + 1, none⟩ = some (.int .i64 (m'.1.2.1 : Int)) /\ w'.cell? ⟨b', o' + k * 6 + 2, none⟩ = some (.int .i64 (m'.1.2.2 : Int)) /\ w'.cell? ⟨b', o' + k * 6 + 3, none⟩ = some (.bool nb') /\ w'.cell? ⟨b', o' + k * 6 + 4, none⟩ = some (.slice Ay' ny' cy') /\ w'.cell? ⟨b', o' + k * 6 + 5, none⟩ = some (.slice By' my' ey')))
       (first | with_reducible exact ⟨⟨x0, x1, x2, x3, x4, x5⟩, ⟨z0, z1, z2, z3, z4, z5⟩⟩ | with_reducible exact ⟨ya, yb⟩ | fail)
       (first
        | (go_at_call 23; refine HS.out.mono ?_; rintro e5 x5' ⟨rfl, hb5⟩; have ya : _ /\ _ /\ _ /\ _ /\ _ /\ _ := hat5.below hb5 g1; have yb : _ /\ _ /\ _ /\ _ /\ _ /\ _ := hat5'.below hb5 g2)
        | fail)
      go_wp2_with fail
      go_ret
      exact ⟨by rw [HV.out]; rfl, hb.drew.trans (hb5.mono hb.size)⟩
    ·have heq : ∀ w : World, (Op.equalIn 10000 57 (.agg #[.int .i64 (m.1.1 : Int), .int .i64 (m.1.2.1 : Int), .int .i64 (m.1.2.2 : Int)]) (.agg #[.int .i64 (m'.1.1 : Int), .int .i64 (m'.1.2.1 : Int), .int .i64 (m'.1.2.2 : Int)])).run Tryz.prog w = .ok false w := fun w => by
      rw [eq_exps]
      congr 1
      rw [Bool.eq_false_iff]
      intro hh
      simp only [Bool.and_eq_true, beq_iff_eq] at hh
      exact he (Prod.ext (by omega) (Prod.ext (by omega) (by omega)))
     have HV : Hid (decide (l = l') = false) := decide_eq_false (fun e => by rw [e] at hm; rw [hm] at hm'; cases hm'; exact he rfl)
     obtain ⟨x0, x1, x2, x3, x4, x5⟩ := (show At6 wr.drew _ _ _ _ _ _ _ _ from hatw)
     obtain ⟨z0, z1, z2, z3, z4, z5⟩ := (show At6 wr.drew _ _ _ _ _ _ _ _ from hatw')
     clear he hm hm' hkn
     go_wp2_with fail
     go_big_region_o
     all_goals go_wp2_with fail
     all_goals go_ret
     all_goals exact ⟨by rw [HV.out]; rfl, hb.drew⟩
   ·obtain rfl : k = l.length := by omega
    have hlt : ¬ ((l.length : Int) < (l.length : Int)) := by omega
    have HV : Hid (decide (l = l') = true) := decide_eq_true (List.ext_getElem? (fun j => by
     by_cases hj : j < l.length
     ·exact hO.out j hj
     ·rw [List.getElem?_eq_none (by omega), List.getElem?_eq_none (by have := HLEN.out; omega)]))
    go_wp2_with fail
    go_ret
    exact ⟨by rw [HV.out]; rfl, hb⟩
 ·have hne : (((l.length : Int) == (l'.length : Int)) : Bool) = false := by simp; omega
  have HV : Hid (decide (l = l') = false) := decide_eq_false (fun e => hlen (by rw [e]))
  clear hlen
  go_enter Tryz.func16, Tryz.ntmps16
  go_wp2_with fail
  go_ret
  exact ⟨by rw [HV.out]; rfl, Below.refl _ _⟩
theorem pol_one {w : World} {g : Nat} {e : Ex} {z0 z1 z2 : Value} {q : Rat} {t : TypeId} (h : Cs w g [.int .i64 (e.1 : Int), .int .i64 (e.2.1 : Int), .int .i64 (e.2.2 : Int), z0, z1, z2] t) (hq : RatQ w (.agg #[z0, z1, z2]) q) : Pol w (.slice (some ⟨g, 0, none⟩) 1 1) [(e, q)] := by
 refine ⟨some ⟨g, 0, none⟩, 1, 1, [[.int .i64 (e.1 : Int), .int .i64 (e.2.1 : Int), .int .i64 (e.2.2 : Int), z0, z1, z2]], rfl, ⟨rfl, Nat.le_refl _, fun _ => ⟨g, 0, rfl, h.lt, fun i x hx j v hv => ?_⟩⟩, rfl, fun i e' q' hi => ?_⟩
 ·match i, hx with
  | 0, hx =>
    cases hx
    rw [show 0 + 0 * 6 + j = j by omega]
    exact h.cell hv
  | i + 1, hx => simp at hx
 ·match i, hi with
  | 0, hi =>
    cases hi
    exact ⟨z0, z1, z2, rfl, hq⟩
  | i + 1, hi => simp at hi
def uE : Nat -> Ex
 | 0 => (1, 0, 0)
 | 1 => (0, 1, 0)
 | _ => (0, 0, 1)
theorem RatQ.set1c {w : World} {v : Value} {q : Rat} (h : RatQ w v q) {g k : Nat} {l : List Value} {t : TypeId} (hr : Cs w g l t) (hl : ∀ v ∈ l, ∀ x : Nat, v ≠ .int .u32 (x : Int)) (u : Value) : RatQ (w.setCell ⟨g, k, none⟩ u) v q := by
 obtain ⟨A, n, c, A', m, c', e, h1, h2⟩ := h
 exact ⟨A, n, c, A', m, c', e, h1.set1k (h1.ne_cs hr hl) _, h2.set1k (h2.ne_cs hr hl) _⟩
end Go.Proofs.YtifeekomegoijaaGreatDoor
namespace Go.Proofs.YtifeekomegoijaaGreatDoor
theorem mem_co {l : List Mon} (h : VP l) (m : Mon) : m ∈ l ↔ deg m.1 <= 5 /\ m.2 ≠ 0 /\ m.2 = co l m.1 := by
 conv => lhs; rw [<- listOf_co h]
 exact mem_listOf
theorem vp_parts {l l' : List Mon} (h : VP l) {at_ k : Nat} (hk : at_ <= k) {mid : List Mon} (hm : VP mid) (h1 : ∀ m ∈ l.take at_, ∀ y ∈ mid, elt y.1 m.1 = true) (h2 : ∀ m ∈ l.drop k, ∀ y ∈ mid, elt m.1 y.1 = true) (hl : l' = l.take at_ ++ (mid ++ l.drop k)) : VP l' := by
 subst hl
 refine ⟨fun m hm' => ?_, ?_⟩
 ·rcases List.mem_append.1 hm' with h' | h'
  ·exact h.1 m (List.mem_of_mem_take h')
  ·rcases List.mem_append.1 h' with h' | h'
   ·exact hm.1 m h'
   ·exact h.1 m (List.mem_of_mem_drop h')
 ·refine List.pairwise_append.2 ⟨h.2.sublist (List.take_sublist _ _), List.pairwise_append.2 ⟨hm.2, h.2.sublist (List.drop_sublist _ _), fun a ha b hb => h2 b hb a ha⟩, fun a ha b hb => ?_⟩
  rcases List.mem_append.1 hb with hb | hb
  ·exact h1 a ha b hb
  ·have hsp := h.2
   rw [<- List.take_append_drop at_ l] at hsp
   refine (List.pairwise_append.1 hsp).2.2 a ha b ?_
   have : l.drop k = (l.drop at_).drop (k - at_) := by rw [List.drop_drop]; congr 1; omega
   rw [this] at hb
   exact List.mem_of_mem_drop hb
theorem put_new {l : List Mon} (h : VP l) {e : Ex} {q : Rat} (he : deg e <= 5) (hq : q ≠ 0) {k : Nat} (h1 : ∀ m ∈ l.take k, elt e m.1 = true) (h2 : ∀ m ∈ l.drop k, elt m.1 e = true) : l.take k ++ (e, q) :: l.drop k = listOf (addAt (co l) e q) := by
 have hno : ∀ m ∈ l, m.1 ≠ e := fun m hm hme => by
  rw [<- List.take_append_drop k l] at hm
  rcases List.mem_append.1 hm with h' | h'
  ·have := h1 m h'; rw [hme, elt_irrefl] at this; cases this
  ·have := h2 m h'; rw [hme, elt_irrefl] at this; cases this
 have hce : co l e = 0 := co_absent hno
 have hvp : VP (l.take k ++ (e, q) :: l.drop k) := vp_parts h (Nat.le_refl k) (mid := [(e, q)]) ⟨by simp [he, hq], by simp⟩ (fun m hm y hy => by simp at hy; subst hy; exact h1 m hm) (fun m hm y hy => by simp at hy; subst hy; exact h2 m hm) rfl
 refine vp_ext hvp (vp_listOf _) (fun m => ?_)
 rw [mem_listOf, List.mem_append, List.mem_cons]
 unfold addAt
 constructor
 ·rintro (hm | rfl | hm)
  ·have h5 := (mem_co h m).1 (List.mem_of_mem_take hm)
   refine ⟨h5.1, h5.2.1, ?_⟩
   rw [if_neg (hno m (List.mem_of_mem_take hm)), Rat.add_zero]; exact h5.2.2
  ·refine ⟨he, hq, ?_⟩
   rw [if_pos rfl, hce, Rat.zero_add]
  ·have h5 := (mem_co h m).1 (List.mem_of_mem_drop hm)
   refine ⟨h5.1, h5.2.1, ?_⟩
   rw [if_neg (hno m (List.mem_of_mem_drop hm)), Rat.add_zero]; exact h5.2.2
 ·rintro ⟨g1, g2, g3⟩
  by_cases hme : m.1 = e
  ·refine .inr (.inl ?_)
   rw [if_pos hme, hme, hce, Rat.zero_add] at g3
   exact Prod.ext hme g3
  ·rw [if_neg hme, Rat.add_zero] at g3
   have hm := (mem_co h m).2 ⟨g1, g2, g3⟩
   rw [<- List.take_append_drop k l] at hm
   rcases List.mem_append.1 hm with h' | h'
   ·exact .inl h'
   ·exact .inr (.inr h')
theorem split_at {l : List Mon} {k : Nat} {x : Mon} (hx : l[k]? = some x) : l = l.take k ++ (x :: l.drop (k + 1)) := by
 have hk := (List.getElem?_eq_some_iff.1 hx).1
 conv => lhs; rw [<- List.take_append_drop k l, List.drop_eq_getElem_cons hk]
 rw [(List.getElem?_eq_some_iff.1 hx).2]
theorem around {l : List Mon} (h : VP l) {k : Nat} {x : Mon} (hx : l[k]? = some x) : (∀ m ∈ l.take k, elt x.1 m.1 = true) /\ (∀ m ∈ l.drop (k + 1), elt m.1 x.1 = true) := by
 have hs := h.2
 rw [split_at hx] at hs
 obtain ⟨_, h2, h3⟩ := List.pairwise_append.1 hs
 exact ⟨fun m hm => h3 m hm x (by simp), fun m hm => (List.pairwise_cons.1 h2).1 m hm⟩
theorem put_at {l : List Mon} (h : VP l) {k : Nat} {x : Mon} (hx : l[k]? = some x) {q : Rat} : l.take k ++ ((if x.2 + q = 0 then [] else [(x.1, x.2 + q)]) ++ l.drop (k + 1)) = listOf (addAt (co l) x.1 q) := by
 have hmem := List.mem_of_getElem? hx
 obtain ⟨a1, a2⟩ := around h hx
 have hcx := co_mem h hmem
 have hd := (h.1 x hmem).1
 have hvp : VP (l.take k ++ ((if x.2 + q = 0 then [] else [(x.1, x.2 + q)]) ++ l.drop (k + 1))) := by
  refine vp_parts h (Nat.le_succ k) ?_ ?_ ?_ rfl
  ·split
   ·exact ⟨by simp, by simp⟩
   ·next h0 => exact ⟨by simp [hd, h0], by simp⟩
  ·intro m hm y hy
   split at hy
   ·cases hy
   ·simp at hy; subst hy; exact a1 m hm
  ·intro m hm y hy
   split at hy
   ·cases hy
   ·simp at hy; subst hy; exact a2 m hm
 have hne1 : ∀ m ∈ l.take k, m.1 ≠ x.1 := fun m hm e => by have := a1 m hm; rw [e, elt_irrefl] at this; cases this
 have hne2 : ∀ m ∈ l.drop (k + 1), m.1 ≠ x.1 := fun m hm e => by have := a2 m hm; rw [e, elt_irrefl] at this; cases this
 refine vp_ext hvp (vp_listOf _) (fun m => ?_)
 rw [mem_listOf, List.mem_append, List.mem_append]
 unfold addAt
 constructor
 ·rintro (hm | hm | hm)
  ·have h5 := (mem_co h m).1 (List.mem_of_mem_take hm)
   exact ⟨h5.1, h5.2.1, by rw [if_neg (hne1 m hm), Rat.add_zero]; exact h5.2.2⟩
  ·split at hm
   ·cases hm
   ·next h0 =>
    simp at hm; subst hm
    exact ⟨hd, h0, by rw [if_pos rfl, hcx]⟩
  ·have h5 := (mem_co h m).1 (List.mem_of_mem_drop hm)
   exact ⟨h5.1, h5.2.1, by rw [if_neg (hne2 m hm), Rat.add_zero]; exact h5.2.2⟩
 ·rintro ⟨g1, g2, g3⟩
  by_cases hme : m.1 = x.1
  ·rw [if_pos hme, hme, hcx] at g3
   refine .inr (.inl ?_)
   rw [if_neg (fun h0 => g2 (g3.trans h0))]
   simp
   exact Prod.ext hme g3
  ·rw [if_neg hme, Rat.add_zero] at g3
   have hm := (mem_co h m).2 ⟨g1, g2, g3⟩
   rw [split_at hx] at hm
   rcases List.mem_append.1 hm with h' | h'
   ·exact .inl h'
   ·rcases List.mem_cons.1 h' with h' | h'
    ·exact absurd (by rw [h']) hme
    ·exact .inr (.inr h')
end Go.Proofs.YtifeekomegoijaaGreatDoor
namespace Go.Proofs.YtifeekomegoijaaGreatDoor
open Go.RowKit
theorem r2_put_idle (v : Value) (l : List Mon) (e : Ex) (q : Rat) (nb : Bool) (A B : Option Addr) (n c m k L : Nat) (w : World) (h : Pol w v l) (hq : RatQ w (.agg #[.bool nb, .slice A n c, .slice B m k]) q) (hS : Sz q L) (hL : L <= 1000000) (h0 : ¬ deg e <= 5 \/ q = 0) :
 Calls Tryz.prog 57 #[v, .agg #[.int .i64 (e.1 : Int), .int .i64 (e.2.1 : Int), .int .i64 (e.2.2 : Int), .bool nb, .slice A n c, .slice B m k]] w (RetPol w l) := by
 obtain ⟨A1, c1, rfl⟩ := h.slice
 obtain ⟨hb6, d6⟩ := new6 w (.int .i64 (e.1 : Int)) (.int .i64 (e.2.1 : Int)) (.int .i64 (e.2.2 : Int)) (.bool nb) (.slice A n c) (.slice B m k)
 have h6 := h.below hb6
 have hq6 := hq.below hb6
 have y := d6.c6
 go_enter Tryz.func57, Tryz.ntmps57
 go_wp2_with fail
 generalize (w.alloc (M6 (.int .i64 (e.1 : Int)) (.int .i64 (e.2.1 : Int)) (.int .i64 (e.2.2 : Int)) (.bool nb) (.slice A n c) (.slice B m k))) = W at *
 by_cases hd : deg e <= 5
 ·have hq0 : q = 0 := h0.resolve_left (fun hh => hh hd)
  subst hq0
  have hkn : Hid (knownI ((e.1 : Int), (e.2.1 : Int), (e.2.2 : Int)) = true) := by show _ = _; rw [knownI_nat]; exact decide_eq_true hd
  refine (r2_possible _ _ _ _ _ hkn).mono ?_
  rintro e2 w2 ⟨rfl, hb2⟩
  have hq2 := hq6.below hb2
  have h2 := h6.below hb2
  have y2 := (d6.below hb2 d6.lt).c6
  clear y hkn hd h0
  go_wp2_with fail
  refine (r_Sign _ 0 _ (hq2.inr hS (by omega))).mono ?_
  rintro e3 w3 ⟨rfl, hb3⟩
  have hB := (hb6.trans (hb2.mono hb6.size)).trans (hb3.mono (Nat.le_trans hb6.size hb2.size))
  have hz : (0 : Rat).num.sign = 0 := rfl
  rw [hz]
  go_wp2_with fail
  go_ret
  exact ⟨_, rfl, h2.below hb3, hB⟩
 ·have hkn : Hid (knownI ((e.1 : Int), (e.2.1 : Int), (e.2.2 : Int)) = false) := by show _ = _; rw [knownI_nat]; exact decide_eq_false hd
  refine (r2_possible _ _ _ _ _ hkn).mono ?_
  rintro e2 w2 ⟨rfl, hb2⟩
  clear y hkn hd h0
  go_wp2_with fail
  go_ret
  exact ⟨_, rfl, h6.below hb2, hb6.trans (hb2.mono hb6.size)⟩
theorem flat_at {α : Type} : ∀ {ys : List (List α)}, (∀ y ∈ ys, y.length = 6) -> ∀ {j : Nat} {u : α}, ys.flatten[j]? = some u -> ∃ i x r, ys[i]? = some x /\ x[r]? = some u /\ j = i * 6 + r
 | [], _, j, u, h => by simp at h
 | y :: ys, hl, j, u, h => by
   have hy := hl y (by simp)
   rw [List.flatten_cons] at h
   rcases Nat.lt_or_ge j 6 with hj | hj
   ·rw [List.getElem?_append_left (by omega)] at h
    exact ⟨0, y, j, rfl, h, by omega⟩
   ·rw [List.getElem?_append_right (by omega), hy] at h
    obtain ⟨i, x, r, h1, h2, h3⟩ := flat_at (fun z hz => hl z (by simp [hz])) h
    exact ⟨i + 1, x, r, by simpa using h1, h2, by omega⟩
theorem flat_length {α : Type} : ∀ {ys : List (List α)}, (∀ y ∈ ys, y.length = 6) -> ys.flatten.length = ys.length * 6
 | [], _ => rfl
 | y :: ys, hl => by
   rw [List.flatten_cons, List.length_append, hl y (by simp), flat_length (fun z hz => hl z (by simp [hz])), List.length_cons]
   omega
theorem appP_run (w : World) (B : Nat) (v : Value) (n : Nat) (xs : List Value) (hown : w.ownsRow B MT 6 v n xs) (A : Option Addr) (m c : Nat) (ys : List (List Value)) (hr : RdK w 6 ys A m c) (h6 : ∀ y ∈ ys, y.length = 6) (h1 : ∀ y ∈ ys, ∀ u ∈ y, u.oneCell' = true) (hn : n + m <= 1000000) (hB : B <= w.heap.size) :
 ∃ v' w', (Builtin.append_ #[22, 22] 22 #[v, .slice A m c]).run Tryz.prog w = .ok v' w' /\ w'.ownsRow B MT 6 v' (n + m) (xs ++ ys.flatten) /\ w.grownBy w' v.ownBlock := by
 obtain ⟨i0, hi, hz0, hz1, hz2⟩ := info_parts info_mon
 rcases Nat.eq_zero_or_pos m with h0 | h0
 ·subst h0
  have hys : ys = [] := List.eq_nil_of_length_eq_zero hr.len.symm
  subst hys
  refine ⟨v, w, ?_, by simpa using hown, World.grownBy.refl w _⟩
  rcases hown.2 with ⟨rfl, _⟩ | ⟨g, cap, cur, rfl, _, _, hnc, _⟩
  ·cases A <;> simp [Builtin.append_, run_underlying Tryz.underlying22, sizeOf, typeInfo, hi, Builtin.lenOf, Builtin.firstCells, hz1, loadCells, loadCellsFrom, storeCells]
  ·cases A <;> simp [Builtin.append_, run_underlying Tryz.underlying22, sizeOf, typeInfo, hi, Builtin.lenOf, Builtin.firstCells, hz1, hnc, loadCells, loadCellsFrom, storeCells]
 ·obtain ⟨b, o, rfl, hb', hc⟩ := hr.cells h0
  have hl : ys.flatten.length = m * 6 := by rw [flat_length h6, hr.len]
  obtain ⟨v', w', h2, h3, h4, _⟩ := run_append_own_at (P := Tryz.prog) w B 22 22 MT i0 _ 6 80 Tryz.underlying22 hi hz0 hz1 hz2 rfl (by decide) v n xs hown ⟨b, o, none⟩ m c ys.flatten hl
   (fun j u hju => by
    obtain ⟨i, x, r, g1, g2, g3⟩ := flat_at h6 hju
    have := hc i x g1 r u g2
    have e : (⟨b, o, none⟩ : Addr).add j = ⟨b, o + i * 6 + r, none⟩ := by unfold Addr.add; split <;> simp_all <;> omega
    rw [e]; exact this) (fun u hu => by
    obtain ⟨y, hy, hu⟩ := List.mem_flatten.1 hu
    exact h1 y hy u hu) (by unfold maxLen; omega) (by omega) hB
  exact ⟨v', w', h2, h3, h4⟩
def NoLimb (v : Value) : Prop := ∀ x : Nat, v ≠ .int .u32 (x : Int)
theorem mem_zeroCells {z : Array Value} {n : Nat} {u : Value} (hz : 0 < z.size) (h : u ∈ (Builtin.zeroCells z n).toList) : u ∈ z.toList := by
 unfold Builtin.zeroCells at h
 rw [Array.toList_map] at h
 obtain ⟨i, _, rfl⟩ := List.mem_map.1 h
 have : i % z.size < z.size := Nat.mod_lt _ hz
 rw [getElem!_pos z (i % z.size) this]
 exact Array.getElem_mem_toList this
def Clear (w : World) (v : Value) : Prop := ∀ g, v.ownBlock = some g -> ∃ cur e fz, w.heap[g]? = some (.cells cur e fz) /\ ∀ u ∈ cur.toList, NoLimb u
theorem Num.ne_clear {w : World} {l : List Nat} {A : Option Addr} {n c : Nat} (h : Num w l A n c) {v : Value} (hv : Clear w v) {g : Nat} (hg : v.ownBlock = some g) : 0 < n -> ∀ a, A = some a -> a.block ≠ g := by
 intro hn a ha e
 obtain ⟨cur, t, fz, hcur, hno⟩ := hv g hg
 obtain ⟨b, o, y, hA, _, _, _, hc⟩ := h.at_ hn
 rw [ha] at hA
 cases hA
 simp only at e
 subst e
 simp only [World.cell?, hcur] at hc
 have hm : Value.int .u32 (y : Int) ∈ cur.toList := by
  first
   | exact Array.mem_toList_iff.2 (Array.mem_of_getElem? hc)
   | exact List.mem_of_getElem? (by simpa using hc)
 exact hno _ hm y rfl
theorem flat6_get {α : Type} : ∀ {ys : List (List α)}, (∀ y ∈ ys, y.length = 6) -> ∀ {i r : Nat} {x : List α} {u : α}, ys[i]? = some x -> x[r]? = some u -> ys.flatten[i * 6 + r]? = some u
 | [], _, i, r, x, u, hi, _ => by simp at hi
 | y :: ys, hl, i, r, x, u, hi, hr => by
   have hy := hl y (by simp)
   rw [List.flatten_cons]
   match i, hi with
   | 0, hi =>
     obtain rfl : y = x := by simpa using hi
     have := (List.getElem?_eq_some_iff.1 hr).1
     rw [List.getElem?_append_left (by omega), Nat.zero_mul, Nat.zero_add]
     exact hr
   | i + 1, hi =>
     rw [List.getElem?_append_right (by omega), hy, show (i + 1) * 6 + r - 6 = i * 6 + r by omega]
     exact flat6_get (fun z hz => hl z (by simp [hz])) (by simpa using hi) hr
def Cells6 (w : World) (ys : List (List Value)) (l : List Mon) : Prop := ys.length = l.length /\ ∀ (i : Nat) (m : Mon), l[i]? = some m -> ∃ z0 z1 z2, ys[i]? = some [.int .i64 (m.1.1 : Int), .int .i64 (m.1.2.1 : Int), .int .i64 (m.1.2.2 : Int), z0, z1, z2] /\ RatQ w (.agg #[z0, z1, z2]) m.2
theorem Cells6.nil (w : World) : Cells6 w [] [] := ⟨rfl, fun i m h => by simp at h⟩
theorem Cells6.app {w : World} {ys ys' : List (List Value)} {l l' : List Mon} (h : Cells6 w ys l) (h' : Cells6 w ys' l') : Cells6 w (ys ++ ys') (l ++ l') := by
 refine ⟨by rw [List.length_append, List.length_append, h.1, h'.1], fun i m hm => ?_⟩
 rcases Nat.lt_or_ge i l.length with hi | hi
 ·rw [List.getElem?_append_left hi] at hm
  obtain ⟨z0, z1, z2, g1, g2⟩ := h.2 i m hm
  exact ⟨z0, z1, z2, by rw [List.getElem?_append_left (by rw [h.1]; exact hi)]; exact g1, g2⟩
 ·rw [List.getElem?_append_right hi] at hm
  obtain ⟨z0, z1, z2, g1, g2⟩ := h'.2 _ m hm
  exact ⟨z0, z1, z2, by rw [List.getElem?_append_right (by rw [h.1]; exact hi), h.1]; exact g1, g2⟩
theorem Cells6.imp {w w' : World} {ys : List (List Value)} {l : List Mon} (h : Cells6 w ys l) (hR : ∀ z q, RatQ w z q -> RatQ w' z q) : Cells6 w' ys l :=
 ⟨h.1, fun i m hm => by
  obtain ⟨z0, z1, z2, g1, g2⟩ := h.2 i m hm
  exact ⟨z0, z1, z2, g1, hR _ _ g2⟩⟩
theorem Cells6.below {w w' : World} {ys : List (List Value)} {l : List Mon} (h : Cells6 w ys l) (hb : Below w.heap.size w w') : Cells6 w' ys l := h.imp (fun _ _ hr => hr.below hb)
theorem Cells6.mem {w : World} {ys : List (List Value)} {l : List Mon} (h : Cells6 w ys l) : ∀ y ∈ ys, y.length = 6 /\ ∀ u ∈ y, u.oneCell' = true /\ NoLimb u := by
 intro y hy
 obtain ⟨i, hi, rfl⟩ := List.getElem_of_mem hy
 have hil : i < l.length := by rw [<- h.1]; exact hi
 obtain ⟨z0, z1, z2, g1, g2⟩ := h.2 i l[i] (List.getElem?_eq_getElem hil)
 rw [List.getElem?_eq_getElem hi] at g1
 injection g1 with g1
 rw [g1]
 obtain ⟨nb, A, n, c, B, m, e, heq⟩ := g2.agg
 simp only [Value.agg.injEq, Array.mk.injEq, List.cons.injEq, and_true] at heq
 obtain ⟨rfl, rfl, rfl⟩ := heq
 refine ⟨rfl, fun u hu => ?_⟩
 simp only [List.mem_cons, List.not_mem_nil, or_false] at hu
 rcases hu with rfl | rfl | rfl | rfl | rfl | rfl
 all_goals exact ⟨rfl, fun x hx => by cases hx⟩
theorem Cells6.len6 {w : World} {ys : List (List Value)} {l : List Mon} (h : Cells6 w ys l) : ∀ y ∈ ys, y.length = 6 := fun y hy => (h.mem y hy).1
theorem Pol.cells6 {w : World} {A : Option Addr} {n c : Nat} {l : List Mon} (h : Pol w (.slice A n c) l) : ∃ ys, RdK w 6 ys A n c /\ Cells6 w ys l := by
 obtain ⟨A', n', c', xs, e, h1, h2, h3⟩ := h
 cases e
 refine ⟨xs, h1, by rw [h2, List.length_map], fun i m hm => ?_⟩
 obtain ⟨z0, z1, z2, g1, g2⟩ := h3 i (rawOf m).1 (rawOf m).2 (by rw [List.getElem?_map, hm]; rfl)
 exact ⟨z0, z1, z2, g1, g2⟩
theorem Cells6.pol {w : World} {ys : List (List Value)} {l : List Mon} (h : Cells6 w ys l) {A : Option Addr} {n c : Nat} (hr : RdK w 6 ys A n c) : Pol w (.slice A n c) l := by
 refine ⟨A, n, c, ys, rfl, hr, by rw [h.1, List.length_map], fun i e q hi => ?_⟩
 rw [List.getElem?_map] at hi
 obtain ⟨m, hm, he⟩ := Option.map_eq_some_iff.1 hi
 obtain ⟨z0, z1, z2, g1, g2⟩ := h.2 i m hm
 cases he
 exact ⟨z0, z1, z2, g1, g2⟩
theorem rdk_row {w : World} {B n : Nat} {v : Value} {ys : List (List Value)} (h : w.ownsRow B MT 6 v n ys.flatten) (h6 : ∀ y ∈ ys, y.length = 6) : ∃ A c, v = .slice A n c /\ RdK w 6 ys A n c := by
 have hn : n = ys.length := by have := h.1; rw [flat_length h6] at this; omega
 rcases h.2 with ⟨rfl, hz⟩ | ⟨g, cap, cur, rfl, hb, hg, r1, r2, r3, r4⟩
 ·subst hz
  exact ⟨none, 0, rfl, hn, Nat.le_refl _, fun h0 => absurd h0 (by decide)⟩
 ·refine ⟨_, _, rfl, hn, r1, fun _ => ⟨g, 0, rfl, heap_lt hg, fun i x hx j u hu => ?_⟩⟩
  have h5 := flat6_get h6 hx hu
  rw [Nat.zero_add, cell_of_row w g (i * 6 + j) _ _ _ hg]
  rw [<- r4, List.getElem?_take] at h5
  split at h5
  ·rw [<- Array.getElem?_toList]; exact h5
  ·cases h5
end Go.Proofs.YtifeekomegoijaaGreatDoor
namespace Go.Proofs.YtifeekomegoijaaGreatDoor
def place (l : List Mon) (e : Ex) : Nat := l.findIdx (fun m => !elt e m.1)
theorem place_le (l : List Mon) (e : Ex) : place l e <= l.length := List.findIdx_le_length
theorem place_before {l : List Mon} {e : Ex} {i : Nat} (h : i < place l e) {m : Mon} (hm : l[i]? = some m) : elt e m.1 = true := by
 have hi := (List.getElem?_eq_some_iff.1 hm).1
 have := List.not_of_lt_findIdx h
 rw [(List.getElem?_eq_some_iff.1 hm).2] at this
 simpa using this
theorem place_at {l : List Mon} {e : Ex} {m : Mon} (hm : l[place l e]? = some m) : elt e m.1 = false := by
 obtain ⟨hi, he⟩ := List.getElem?_eq_some_iff.1 hm
 have h : (fun m : Mon => !elt e m.1) l[place l e] = true := List.findIdx_getElem (w := hi)
 rw [he] at h
 simpa using h
theorem place_take {l : List Mon} {e : Ex} : ∀ m ∈ l.take (place l e), elt e m.1 = true := by
 intro m hm
 obtain ⟨i, hi, rfl⟩ := List.getElem_of_mem hm
 have hlt : i < place l e := by rw [List.length_take] at hi; omega
 rw [List.getElem_take]
 exact place_before hlt (List.getElem?_eq_getElem _)
theorem place_drop {l : List Mon} (h : VP l) {e : Ex} (hne : ∀ x, l[place l e]? = some x -> x.1 ≠ e) : ∀ m ∈ l.drop (place l e), elt m.1 e = true := by
 intro m hm
 rcases Nat.lt_or_ge (place l e) l.length with hlt | hge
 ·obtain ⟨x, hx⟩ : ∃ x, l[place l e]? = some x := ⟨_, List.getElem?_eq_getElem hlt⟩
  have hxe : elt x.1 e = true := by
   rcases elt_total (hne x hx) with h1 | h1
   ·exact h1
   ·rw [place_at hx] at h1; cases h1
  rw [List.drop_eq_getElem_cons hlt, (List.getElem?_eq_some_iff.1 hx).2] at hm
  rcases List.mem_cons.1 hm with rfl | hm
  ·exact hxe
  ·exact elt_trans ((around h hx).2 m hm) hxe
 ·rw [List.drop_eq_nil_of_le hge] at hm; cases hm
theorem put_there {l : List Mon} (h : VP l) {e : Ex} {q : Rat} (he : deg e <= 5) (hq : q ≠ 0) (hne : ∀ x, l[place l e]? = some x -> x.1 ≠ e) : l.take (place l e) ++ ([(e, q)] ++ l.drop (place l e)) = listOf (addAt (co l) e q) :=
 put_new h he hq place_take (place_drop h hne)
theorem put_over {l : List Mon} (h : VP l) {e : Ex} {q y : Rat} (hx : l[place l e]? = some (e, y)) : l.take (place l e) ++ ((if q + y = 0 then [] else [(e, q + y)]) ++ l.drop (place l e + 1)) = listOf (addAt (co l) e q) := by
 rw [Rat.add_comm q y]
 exact put_at h hx
end Go.Proofs.YtifeekomegoijaaGreatDoor
namespace Go.Proofs.YtifeekomegoijaaGreatDoor
open Go.RowKit
theorem setRow_at {w : World} {g : Nat} {cur : Array Value} {e : TypeId} {fz : Nat × Nat} (xs : Array Value) (hg : w.heap[g]? = some (.cells cur e fz)) : ∃ t z, (w.setRow g xs).heap[g]? = some (.cells xs t z) := ⟨_, _, setRow_heap w g cur xs e fz hg⟩
theorem clear_nil (w : World) : Clear w (.slice none 0 0) := fun g hg => by cases hg
theorem app_clear (w : World) (B : Nat) (v : Value) (n : Nat) (xs : List Value) (hown : w.ownsRow B MT 6 v n xs) (hcl : Clear w v) (A : Option Addr) (m c : Nat) (ys : List (List Value)) (hr : RdK w 6 ys A m c) (h6 : ∀ y ∈ ys, y.length = 6) (h1 : ∀ y ∈ ys, ∀ u ∈ y, u.oneCell' = true /\ NoLimb u) (hn : n + m <= 1000000) {v' : Value} {w' : World}
 (hrun : (Builtin.append_ #[22, 22] 22 #[v, .slice A m c]).run Tryz.prog w = .ok v' w') : Clear w' v' := by
 obtain ⟨i0, hi, hz0, hz1, hz2⟩ := info_parts info_mon
 rcases Nat.eq_zero_or_pos m with h0 | h0
 ·subst h0
  have hr0 : (Builtin.append_ #[22, 22] 22 #[v, .slice A 0 c]).run Tryz.prog w = .ok v w := by
   rcases hown.2 with ⟨rfl, _⟩ | ⟨g, cap, cur, rfl, _, _, hnc, _⟩
   ·cases A <;> simp [Builtin.append_, run_underlying Tryz.underlying22, sizeOf, typeInfo, hi, Builtin.lenOf, Builtin.firstCells, hz1, loadCells, loadCellsFrom, storeCells]
   ·cases A <;> simp [Builtin.append_, run_underlying Tryz.underlying22, sizeOf, typeInfo, hi, Builtin.lenOf, Builtin.firstCells, hz1, hnc, loadCells, loadCellsFrom, storeCells]
  rw [hr0] at hrun
  cases hrun
  exact hcl
 ·obtain ⟨b, o, rfl, hb', hc⟩ := hr.cells h0
  have hl : ys.flatten.length = m * i0.size := by rw [flat_length h6, hr.len, hz1]
  have hnews : ∀ j u, ys.flatten[j]? = some u -> w.cell? ((⟨b, o, none⟩ : Addr).add j) = some u := fun j u hju => by
   obtain ⟨i, x, r, g1, g2, g3⟩ := flat_at h6 hju
   have := hc i x g1 r u g2
   have e : (⟨b, o, none⟩ : Addr).add j = ⟨b, o + i * 6 + r, none⟩ := by unfold Addr.add; split <;> simp_all <;> omega
   rw [e]; exact this
  have hno : ∀ u ∈ ys.flatten, NoLimb u := fun u hu => by
   obtain ⟨y, hy, hu⟩ := List.mem_flatten.1 hu
   exact (h1 y hy u hu).2
  have hoc : ∀ u ∈ ys.flatten, u.oneCell' = true := fun u hu => by
   obtain ⟨y, hy, hu⟩ := List.mem_flatten.1 hu
   exact (h1 y hy u hu).1
  have hzn : ∀ (N : Nat) (u : Value), u ∈ (Builtin.zeroCells (Value.agg #[.int .i64 0, .int .i64 0, .int .i64 0, .bool false, .slice none 0 0, .slice none 0 0]).cells N).toList -> NoLimb u := fun N u hu => by
   have hz := mem_zeroCells (by decide) hu
   intro x hx
   subst hx
   simp [Value.cells] at hz
  rcases hown.2 with ⟨rfl, hz⟩ | ⟨g, cap, cur, rfl, hbg, hg, hnc, hcm, hcs, htake⟩
  ·have hr2 := run_append_nil (P := Tryz.prog) w 22 22 MT i0 _ Tryz.underlying22 hi hz0 ⟨b, o, none⟩ m c ys.flatten hl hnews h0 (by omega) (by rw [hz2]; omega)
   rw [hr2] at hrun
   cases hrun
   intro g hg
   have : g = w.heap.size := by simpa [Value.ownBlock, eq_comm] using hg
   subst this
   refine ⟨_, _, _, heap_alloc_new w.drew _, fun u hu => ?_⟩
   rw [Array.toList_append] at hu
   rcases List.mem_append.1 hu with hu | hu
   ·exact hno u hu
   ·exact hzn _ u hu
  ·obtain ⟨cur2, t2, f2, hg2, hcl2⟩ := hcl g rfl
   rw [hg] at hg2
   cases hg2
   by_cases hroom : n + m <= cap
   ·have hfit : n * i0.size + ys.flatten.length <= cur.size := by
     rw [hl, hz1, hcs, <- Nat.add_mul]; exact Nat.mul_le_mul_right _ hroom
    have hr2 := run_append_room (P := Tryz.prog) w 22 22 MT i0 Tryz.underlying22 hi g n cap cur hg ⟨b, o, none⟩ m c ys.flatten hl hnews hoc hroom hfit
    rw [hr2] at hrun
    cases hrun
    intro g' hg'
    have : g' = g := by simpa [Value.ownBlock, eq_comm] using hg'
    subst this
    obtain ⟨t, z, hh⟩ := setRow_at (cur.toList.take (n * i0.size) ++ ys.flatten ++ cur.toList.drop (n * i0.size + ys.flatten.length)).toArray hg
    refine ⟨_, _, _, hh, fun u hu => ?_⟩
    rw [List.toList_toArray] at hu
    rcases List.mem_append.1 hu with hu | hu
    ·rcases List.mem_append.1 hu with hu | hu
     ·exact hcl2 u (List.mem_of_mem_take hu)
     ·exact hno u hu
    ·exact hcl2 u (List.mem_of_mem_drop hu)
   ·have holds : ∀ j u, xs[j]? = some u -> w.cell? ((⟨g, 0, none⟩ : Addr).add j) = some u := hown.cells (g := g) rfl
    have hxl : xs.length = n * i0.size := by rw [hz1]; exact hown.1
    have hr2 := run_append_grow (P := Tryz.prog) w 22 22 MT i0 _ Tryz.underlying22 hi hz0 ⟨g, 0, none⟩ n cap xs hxl holds ⟨b, o, none⟩ m c ys.flatten hl hnews (by omega) (by omega) (growslice_fits (by omega) (by rw [hz2]; omega))
    rw [hr2] at hrun
    cases hrun
    intro g' hg'
    have : g' = w.heap.size := by simpa [Value.ownBlock, eq_comm] using hg'
    subst this
    refine ⟨_, _, _, heap_alloc_new w.drew _, fun u hu => ?_⟩
    rw [Array.toList_append] at hu
    rcases List.mem_append.1 hu with hu | hu
    ·rw [Array.toList_append] at hu
     rcases List.mem_append.1 hu with hu | hu
     ·refine hcl2 u ?_
      have hx : u ∈ cur.toList.take (n * 6) := by rw [htake]; simpa using hu
      exact List.mem_of_mem_take hx
     ·exact hno u (by simpa using hu)
    ·exact hzn _ u hu
theorem Num.clr {w w' : World} {l : List Nat} {A : Option Addr} {n c : Nat} (h : Num w l A n c) {v : Value} (hv : Clear w v) (hg : w.grownBy w' v.ownBlock) : Num w' l A n c :=
 ⟨h.len, h.cap, h.lim, fun hn => by
  obtain ⟨b, o, hA, hb, hc⟩ := h.cells hn
  refine ⟨b, o, hA, Nat.lt_of_lt_of_le hb hg.size, fun k x hx => (World.cell?_of_block (w := w) (hg.block b hb (fun e => ?_))).trans (hc k x hx)⟩
  exact h.ne_clear hv e.symm hn _ hA rfl⟩
theorem RatQ.clr {w w' : World} {z : Value} {q : Rat} (h : RatQ w z q) {v : Value} (hv : Clear w v) (hg : w.grownBy w' v.ownBlock) : RatQ w' z q := by
 obtain ⟨A, n, c, A', m, c', e, h1, h2⟩ := h
 exact ⟨A, n, c, A', m, c', e, h1.clr hv hg, h2.clr hv hg⟩
theorem Clear.keep {w w' : World} {v : Value} (h : Clear w v) (hk : ∀ g, v.ownBlock = some g -> w'.heap[g]? = w.heap[g]?) : Clear w' v := fun g hg => by
 obtain ⟨cur, e, fz, h1, h2⟩ := h g hg
 exact ⟨cur, e, fz, (hk g hg).trans h1, h2⟩
structure OwnP (w : World) (B : Nat) (v : Value) (l : List Mon) : Prop where
 row : ∃ ys, w.ownsRow B MT 6 v l.length ys.flatten /\ Cells6 w ys l
 clear : Clear w v
theorem OwnP.nil (w : World) (B : Nat) : OwnP w B (.slice none 0 0) [] := ⟨⟨[], World.ownsRow_nil .., Cells6.nil w⟩, clear_nil w⟩
theorem OwnP.lt {w : World} {B : Nat} {v : Value} {l : List Mon} (h : OwnP w B v l) : ∀ g, v.ownBlock = some g -> B <= g /\ g < w.heap.size := fun g hg => by
 obtain ⟨ys, hown, _⟩ := h.row
 obtain ⟨cur, e, fz, h1, _⟩ := h.clear g hg
 exact ⟨(hown.lt g hg).1, heap_lt h1⟩
theorem OwnP.more {w : World} {B B' : Nat} {v : Value} {l : List Mon} (h : OwnP w B v l) (hB : B' <= B) : OwnP w B' v l := by
 obtain ⟨ys, hown, hc⟩ := h.row
 refine ⟨⟨ys, ⟨hown.1, ?_⟩, hc⟩, h.clear⟩
 rcases hown.2 with h1 | ⟨g, cap, cur, h1, h2, h3⟩
 ·exact .inl h1
 ·exact .inr ⟨g, cap, cur, h1, Nat.le_trans hB h2, h3⟩
theorem OwnP.below {w w' : World} {B : Nat} {v : Value} {l : List Mon} (h : OwnP w B v l) (hb : Below w.heap.size w w') : OwnP w' B v l := by
 obtain ⟨ys, hown, hc⟩ := h.row
 exact ⟨⟨ys, ow_below hown hb, hc.below hb⟩, h.clear.keep fun g hg => hb.block g (h.lt g hg).2⟩
theorem OwnP.pol {w : World} {B : Nat} {v : Value} {l : List Mon} (h : OwnP w B v l) : Pol w v l := by
 obtain ⟨ys, hown, hc⟩ := h.row
 obtain ⟨A, c, rfl, hr⟩ := rdk_row hown hc.len6
 exact hc.pol hr
theorem OwnP.app {w : World} {B : Nat} {v : Value} {l : List Mon} (h : OwnP w B v l) {A : Option Addr} {m c : Nat} {ys : List (List Value)} {r : List Mon} (hr : RdK w 6 ys A m c) (hc : Cells6 w ys r) (hn : l.length + m <= 1000000) (hB : B <= w.heap.size) :
 ∃ v' w', Hid ((Builtin.append_ #[22, 22] 22 #[v, .slice A m c]).run Tryz.prog w = .ok v' w') /\ OwnP w' B v' (l ++ r) /\ w.grownBy w' v.ownBlock /\ (∀ z q, RatQ w z q -> RatQ w' z q) := by
 obtain ⟨ys0, hown, hc0⟩ := h.row
 obtain ⟨v', w', hrun, hown', hg⟩ := appP_run w B v l.length ys0.flatten hown A m c ys hr hc.len6 (fun y hy u hu => ((hc.mem y hy).2 u hu).1) hn hB
 have hcl := app_clear w B v l.length ys0.flatten hown h.clear A m c ys hr hc.len6 (fun y hy => (hc.mem y hy).2) hn hrun
 have hk : ∀ z q, RatQ w z q -> RatQ w' z q := fun z q hq => hq.clr h.clear hg
 refine ⟨v', w', Lib.hid hrun, ⟨⟨ys0 ++ ys, ?_, (hc0.imp hk).app (hc.imp hk)⟩, hcl⟩, hg, hk⟩
 rw [List.length_append, <- hc.1, <- hr.len, List.flatten_append]
 exact hown'
theorem rdk_one {w : World} {g : Nat} {z0 z1 z2 z3 z4 z5 : Value} (h : Cs w g [z0, z1, z2, z3, z4, z5] MT) : RdK w 6 [[z0, z1, z2, z3, z4, z5]] (some ⟨g, 0, none⟩) 1 1 :=
 ⟨rfl, Nat.le_refl _, fun _ => ⟨g, 0, rfl, h.lt, fun i x hx j v hv => by
  match i, hx with
  | 0, hx =>
    cases hx
    rw [show 0 + 0 * 6 + j = j by omega]
    exact h.cell hv
  | i + 1, hx => simp at hx⟩⟩
theorem cells6_one {w : World} {m : Mon} {z0 z1 z2 : Value} (h : RatQ w (.agg #[z0, z1, z2]) m.2) : Cells6 w [[.int .i64 (m.1.1 : Int), .int .i64 (m.1.2.1 : Int), .int .i64 (m.1.2.2 : Int), z0, z1, z2]] [m] :=
 ⟨rfl, fun i x hx => by
  match i, hx with
  | 0, hx => cases hx; exact ⟨z0, z1, z2, rfl, h⟩
  | i + 1, hx => simp at hx⟩
theorem OwnP.app1 {w : World} {B : Nat} {v : Value} {l : List Mon} (h : OwnP w B v l) {g : Nat} {m : Mon} {z0 z1 z2 : Value} (hg : Cs w g [.int .i64 (m.1.1 : Int), .int .i64 (m.1.2.1 : Int), .int .i64 (m.1.2.2 : Int), z0, z1, z2] MT) (hq : RatQ w (.agg #[z0, z1, z2]) m.2) (hn : l.length + 1 <= 1000000) (hB : B <= w.heap.size) :
 ∃ v' w', Hid ((Builtin.append_ #[22, 22] 22 #[v, .slice (some ⟨g, 0, none⟩) 1 1]).run Tryz.prog w = .ok v' w') /\ OwnP w' B v' (l ++ [m]) /\ w.grownBy w' v.ownBlock /\ (∀ z q, RatQ w z q -> RatQ w' z q) :=
 h.app (rdk_one hg) (cells6_one hq) hn hB
theorem OwnP.grown {w0 w w' : World} {B : Nat} {v : Value} {l : List Mon} (h : OwnP w B v l) (hb : Below B w0 w) (hB : B <= w.heap.size) (hg : w.grownBy w' v.ownBlock) : Below B w0 w' := hb.grown hg hB (fun j e => (h.lt j e).1)
theorem wpList_appM {w : World} {ops : Array Oper} {rest : List Oper} {o : Oper} {a : Act} {Q : Exit -> Act -> World -> Prop} (hgd : o.guard = none) (sl x : Operand)
 (ho : o.op = .call { callee := .builtin .append, args := #[sl, x], argTypes := #[22, 22] }) (hty : o.type = 22) (v v' u : Value) (w' : World) (hs : a.eval sl = v) (hx : a.eval x = u)
 (hrun : Hid ((Builtin.append_ #[22, 22] 22 #[v, u]).run Tryz.prog w = .ok v' w')) (h : wpList Tryz.prog ops Q rest (a.put o.dst v') w') : wpList Tryz.prog ops Q (o :: rest) a w := by
 refine wpList_plain hgd fun K hK => ?_
 have hr := hrun.out
 unfold Oper.wp
 simp [execOp, ho, hty, resolve, invoke, builtin, hs, hx, hr, Result.andThen]
 exact hK _ _ h
theorem RdK.drop {w : World} {xs : List (List Value)} {b o n c : Nat} (h : RdK w 6 xs (some ⟨b, o, none⟩) n c) {j : Nat} (hj : j <= n) : RdK w 6 (xs.drop j) (some ⟨b, o + j * 6, none⟩) (n - j) (c - j) :=
 ⟨by rw [List.length_drop, h.len], by have := h.cap; omega, fun hn => by
  obtain ⟨b', o', hA, hb, hc⟩ := h.cells (by omega)
  cases hA
  refine ⟨b, o + j * 6, rfl, hb, fun i x hx r v hv => ?_⟩
  rw [List.getElem?_drop] at hx
  have := hc _ x hx r v hv
  rw [show o + j * 6 + i * 6 + r = o + (j + i) * 6 + r by rw [Nat.add_mul]; omega]
  exact this⟩
theorem Cells6.drop {w : World} {ys : List (List Value)} {l : List Mon} (h : Cells6 w ys l) (j : Nat) : Cells6 w (ys.drop j) (l.drop j) :=
 ⟨by rw [List.length_drop, List.length_drop, h.1], fun i m hm => by
  rw [List.getElem?_drop] at hm ⊢
  exact h.2 _ m hm⟩
theorem Cells6.take {w : World} {ys : List (List Value)} {l : List Mon} (h : Cells6 w ys l) (j : Nat) : Cells6 w (ys.take j) (l.take j) :=
 ⟨by rw [List.length_take, List.length_take, h.1], fun i m hm => by
  rw [List.getElem?_take] at hm ⊢
  split at hm
  ·next hlt => rw [if_pos hlt]; exact h.2 _ m hm
  ·cases hm⟩
theorem OwnP.turn {w w' : World} {B : Nat} {v : Value} {l : List Mon} (h : OwnP w B v l) (hk : ∀ g, v.ownBlock = some g -> w'.heap[g]? = w.heap[g]?) (hq : ∀ z q, RatQ w z q -> RatQ w' z q) : OwnP w' B v l := by
 obtain ⟨ys, hown, hc⟩ := h.row
 refine ⟨⟨ys, ⟨hown.1, ?_⟩, hc.imp hq⟩, h.clear.keep hk⟩
 rcases hown.2 with h1 | ⟨g, cap, cur, rfl, h2, h3, h4⟩
 ·exact .inl h1
 ·exact .inr ⟨g, cap, cur, rfl, h2, (hk g rfl).trans h3, h4⟩
theorem RatQ.setL {w : World} {z : Value} {q : Rat} (h : RatQ w z q) {g k : Nat} {l : List Value} {t : TypeId} (hr : Cs w g l t) (hl : ∀ v ∈ l, ∀ x : Nat, v ≠ .int .u32 (x : Int)) (us : List Value) : RatQ (Go.Proofs.YtifeekomegoijaaGreatDoor.setL w g k us) z q := by
 obtain ⟨A, n, c, A', m, c', e, h1, h2⟩ := h
 exact ⟨A, n, c, A', m, c', e, h1.setL (h1.ne_cs hr hl) us k, h2.setL (h2.ne_cs hr hl) us k⟩
theorem heap_setL {g b : Nat} (hne : b ≠ g) : ∀ (us : List Value) (k : Nat) (w : World), (setL w g k us).heap[b]? = w.heap[b]?
 | [], _, _ => rfl
 | u :: us, k, w => by
   show (setL (w.setCell ⟨g, k, none⟩ u) g (k + 1) us).heap[b]? = _
   rw [heap_setL hne us]
   exact Below.heap_setCell w ⟨g, k, none⟩ u b hne
end Go.Proofs.YtifeekomegoijaaGreatDoor
