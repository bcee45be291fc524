/- texts -/
import Derived.Test.YtifeekomegoijaaGreatDoorU33
import Derived.Test.YtifeekomegoijaaGreatDoorU34
import Derived.Test.YtifeekomegoijaaGreatDoorU26
import Derived.Test.YtifeekomegoijaaGreatDoorU12
import Derived.Test.YtifeekomegoijaaGreatDoorU22
import Derived.Deep.RegionHeld3
import Derived.Deep.CutRange
set_option linter.unusedVariables false
set_option linter.unusedSimpArgs false
namespace Go.Proofs.YtifeekomegoijaaGreatDoor
open Go.RowKit

theorem ratq_1 {w : World} {g c : Nat} (h : Row w g [1]) (hc : 1 ≤ c) : RatQ w (.agg #[.bool false, .slice (some ⟨g, 0, none⟩) 1 c, .slice none 0 0]) 1 := by
 refine ⟨_, _, _, _, _, _, rfl, ?_, ?_⟩
 ·show Num w (limbs 1) _ _ _
  rw [limbs_one]
  exact h.num (by intro x hx; simp at hx; subst hx; decide) rfl hc
 ·show Num w (dl 1) _ _ _
  unfold dl; rw [if_pos rfl]; exact Num.nil _ _ _
set_option maxRecDepth 20000 in
set_option maxHeartbeats 2000000 in
theorem pone_any (w : World) : Calls Tryz.prog 63 #[] w (RetRat w 1) := by
 go_enter Tryz.func63, Tryz.ntmps63
 have x0 := blk2 w [.bool false, .slice (some ⟨w.heap.size + 1, 0, none⟩) 1 1, .slice none 0 0] [.int .u32 1] 25 78
 go_wp2_with fail
 refine ret_rc Tryz.results63 rfl (show Rc _ _ _ _ _ from x0.2.1) rfl ?_
 exact ⟨_, rfl, ratq_1 (show Row _ _ _ from x0.2.2) (Nat.le_refl _), x0.1⟩

def PI (w : World) (v : Value) (p : List Mon) (L : Nat) : Prop := ∃ raw, PIn w v raw L ∧ cleanL raw = p
theorem PI.below {w w' : World} {v : Value} {p : List Mon} {L : Nat} (h : PI w v p L) (hb : Below w.heap.size w w') : PI w' v p L := by
 obtain ⟨raw, h1, h2⟩ := h
 exact ⟨raw, h1.below hb, h2⟩
theorem PI.vp {w : World} {v : Value} {p : List Mon} {L : Nat} (h : PI w v p L) : VP p := by
 obtain ⟨raw, h1, rfl⟩ := h
 exact vp_cleanL raw
theorem PI.szl {w : World} {v : Value} {p : List Mon} {L : Nat} (h : PI w v p L) : SzL p L := by
 obtain ⟨raw, h1, rfl⟩ := h
 exact h1.szl
theorem Pol.pi {w : World} {v : Value} {p : List Mon} {L : Nat} (h : Pol w v p) (hv : VP p) (hs : SzL p L) (hL : L ≤ 8388608) : PI w v p L :=
 ⟨p.map rawOf, h.pin hs hL (by have := vp_length hv; omega), cleanL_raw hv⟩
theorem PI.slice {w : World} {v : Value} {p : List Mon} {L : Nat} (h : PI w v p L) : ∃ A n c, v = .slice A n c := by
 obtain ⟨raw, h1, _⟩ := h
 obtain ⟨A, c, e⟩ := PBy.slice h1.1
 exact ⟨A, _, c, e⟩
def RetPolAny (w0 : World) (p : List Mon) (e : Ending) (w' : World) : Prop := ∃ v, e = .returned v ∧ Pol w' v p ∧ Below w0.heap.size w0 w'

set_option maxRecDepth 20000 in
set_option maxHeartbeats 2000000 in
theorem clean_p (v : Value) (p : List Mon) (L : Nat) (w : World) (hT : Tab w) (h : PI w v p L) : Calls Tryz.prog 53 #[v] w (RetPolAny w p) := by
 obtain ⟨raw, hraw, rfl⟩ := h
 obtain ⟨A, n, c, rfl⟩ : ∃ A n c, v = .slice A n c := by
  obtain ⟨A, c, e⟩ := PBy.slice hraw.1
  exact ⟨A, _, c, e⟩
 classical
 by_cases hv : vraw raw
 ·have hV := valid_p _ raw L w hT hraw true (show Hid _ from ⟨fun _ => hv, fun _ => rfl⟩)
  have HV := Lib.hid hV
  have HR := Lib.hid hv
  clear hV hv
  go_enter Tryz.func53, Tryz.ntmps53
  go_wp2_with fail
  refine HV.out.mono ?_
  rintro e w1 ⟨rfl, hb1⟩
  go_wp2_with fail
  go_ret
  exact ⟨_, rfl, (hraw.pol HR.out).below hb1, hb1⟩
 ·have hV := valid_p _ raw L w hT hraw false (show Hid _ from ⟨fun h => absurd h (by decide), fun h => absurd h hv⟩)
  have HV := Lib.hid hV
  have HR := Lib.hid hv
  clear hV hv
  go_enter Tryz.func53, Tryz.ntmps53
  go_wp2_with fail
  refine HV.out.mono ?_
  rintro e w1 ⟨rfl, hb1⟩
  go_wp2_with fail
  go_ret
  exact ⟨_, rfl, by rw [cleanL_neg HR.out]; exact Pol.nil _ _ _, hb1⟩

theorem addAt_zero (q : Rat) : addAt zeroC (0, 0, 0) q = constC q := by
 funext f
 unfold addAt zeroC constC
 grind
theorem szC_const {q : Rat} {L : Nat} (h : Sz q L) (hL : 1 ≤ L) : SzC (constC q) L := fun e _ => by
 unfold constC
 split
 ·exact h
 ·exact sz_zero L hL
set_option maxRecDepth 20000 in
set_option maxHeartbeats 2000000 in
theorem Constant_p (v : Value) (q : Rat) (w : World) (hT : Tab w) (h : Inp w v q 1000000) : Calls Tryz.prog 26 #[v] w (RetPol w (listOf (constC q))) := by
 obtain ⟨z0, Z, zn, zc, Z', zm, ze, rfl⟩ := h.agg
 have hmm := @run_makeMap Tryz.prog
 obtain ⟨hb1, c1⟩ := blk1 w [.bool z0, .slice Z zn zc, .slice Z' zm ze] 25
 have hmade := Sums.made (w.alloc (R1 (.bool z0) (.slice Z zn zc) (.slice Z' zm ze)))
 rw [World.size_alloc] at hmade
 have hb2 : Below w.heap.size w ((w.alloc (R1 (.bool z0) (.slice Z zn zc) (.slice Z' zm ze))).alloc (.map #[] 0)) := hb1.alloc hb1.size _
 replace c1 := c1.alloc (.map #[] 0)
 have hT2 := hT.below hb2
 have h2 := h.below hb2
 go_enter Tryz.func26, Tryz.ntmps26
 go_wp2_with fail
 have hsz : Sz (zeroC (0, 0, 0)) 1000000 := sz_zero _ (by omega)
 refine (sums_add (w.heap.size + 1) 0 (0, 0, 0) _ q zeroC _ hT2 hmade (by omega) (by decide) h2 hsz).mono ?_
 rintro e2 w2 ⟨rfl, hS2, hg2⟩
 have hb3 : Below w.heap.size w w2 := hb2.grown hg2 hb2.size (fun k e => by cases e; omega)
 rw [addAt_zero] at hS2
 have hsq := h.sz
 go_wp2_with fail
 refine (sums_list _ 1 (constC q) w2 (hT.below hb3) hS2 (by omega) (szC_const hsq (by omega))).mono ?_
 rintro e3 w3 ⟨v3, rfl, hp3, hb4⟩
 go_wp2_with fail
 go_ret
 exact ⟨v3, rfl, hp3, hb3.trans (hb4.mono hb3.size)⟩
end Go.Proofs.YtifeekomegoijaaGreatDoor

namespace Go.Proofs.YtifeekomegoijaaGreatDoor
open Go.RowKit

theorem sz_one' (L : Nat) (h : 1 ≤ L) : Sz 1 L := ⟨by show (limbs 1).length ≤ L; rw [limbs_one]; exact h, by show (limbs 1).length ≤ L; rw [limbs_one]; exact h⟩
theorem Inp.grm {w w' : World} {v : Value} {q : Rat} {L b : Nat} (h : Inp w v q L) (hg : w.grownBy w' (some b)) {es : Array MapEntry} {ck : Nat} (hm : w.heap[b]? = some (.map es ck)) : Inp w' v q L := by
 obtain ⟨neg, A, n, c, A', m, c', ln, ld, e, h1, h2, h3, h4, h5, h6⟩ := h
 exact ⟨neg, A, n, c, A', m, c', ln, ld, e, h1.grm hg hm, h2.grm hg hm, h3, h4, h5, h6⟩
theorem PIn.grm {w w' : World} {v : Value} {l : List RawM} {L b : Nat} (h : PIn w v l L) (hg : w.grownBy w' (some b)) {es : Array MapEntry} {ck : Nat} (hm : w.heap[b]? = some (.map es ck)) : PIn w' v l L := by
 obtain ⟨⟨A, n, c, xs, e, h1, h2, h3⟩, h4⟩ := h
 refine ⟨⟨A, n, c, xs, e, ⟨h1.len, h1.cap, fun hn => ?_⟩, h2, fun i e q hi => ?_⟩, h4⟩
 ·obtain ⟨b', o, hA, hb, hc⟩ := h1.cells hn
  refine ⟨b', o, hA, Nat.lt_of_lt_of_le hb hg.size, fun i x hx j v hv => ?_⟩
  have hcell := hc i x hx j v hv
  refine (World.cell?_of_block (w := w) (hg.block b' hb (fun e => ?_))).trans hcell
  cases e
  simp [World.cell?, hm] at hcell
 ·obtain ⟨z0, z1, z2, hx, hr⟩ := h3 i e q hi
  exact ⟨z0, z1, z2, hx, hr.grm hg hm⟩
theorem PI.grm {w w' : World} {v : Value} {p : List Mon} {L b : Nat} (h : PI w v p L) (hg : w.grownBy w' (some b)) {es : Array MapEntry} {ck : Nat} (hm : w.heap[b]? = some (.map es ck)) : PI w' v p L := by
 obtain ⟨raw, h1, h2⟩ := h
 exact ⟨raw, h1.grm hg hm, h2⟩
theorem addL_addM (c : Co) (l : List Mon) : addL c l = addM c l (0, 0, 0) 1 := by
 unfold addL addM
 congr 1
 funext c m
 rw [eadd_zero, Rat.mul_one]
theorem addL_snoc (c : Co) (l : List Mon) (m : Mon) : addL c (l ++ [m]) = addAt (addL c l) m.1 m.2 := by
 unfold addL
 rw [List.foldl_append]; rfl
theorem addL_fresh {q : List Mon} (hq : (q.map (·.1)).Nodup) {k : Nat} {m : Mon} (hk : q[k]? = some m) (c : Co) : addL c (q.take k) m.1 = c m.1 := by
 have := addM_fresh hq hk c (0, 0, 0) 1
 rw [addL_addM]
 rwa [eadd_zero] at this
theorem szC_addL {c : Co} {B M : Nat} (h : SzC c B) {q : List Mon} (hq : VP q) {L : Nat} (hl : SzL q L) (hM : B + L + 2 ≤ M) : SzC (addL c q) M := by
 rw [addL_addM]
 exact szC_addM h (vp_nodup hq) (sz_one' 1 (Nat.le_refl _)) hl (by omega)

set_option maxRecDepth 20000 in
set_option maxHeartbeats 4000000 in
theorem Add_p (v u : Value) (p q : List Mon) (L : Nat) (w : World) (hT : Tab w) (h : PI w v p L) (h' : PI w u q L) (hL : L ≤ 400000) : Calls Tryz.prog 17 #[v, u] w (RetPol w (listOf (addC (co p) (co q)))) := by
 obtain ⟨_, _, _, rfl⟩ := h.slice
 obtain ⟨_, _, _, rfl⟩ := h'.slice
 have hmm := @run_makeMap Tryz.prog
 have hb1 : Below w.heap.size w (w.alloc (.map #[] 0)) := (Below.refl _ _).alloc (Nat.le_refl _) _
 have hmade := Sums.made w
 have hT1 := hT.below hb1
 have h1 := h.below hb1
 have h1' := h'.below hb1
 have hvp := h.vp
 have hvq := h'.vp
 have hsp := h.szl
 have hsq := h'.szl
 have hlp := vp_length hvp
 have hlq := vp_length hvq
 have hz1 : SzC zeroC 1 := szC_zero 1 (Nat.le_refl _)
 have hz2 : SzC (addL zeroC p) (L + 3) := szC_addL hz1 hvp hsp (by omega)
 have hz3 : SzC (addL (addL zeroC p) q) 1000000 := szC_addL hz2 hvq hsq (by omega)
 clear h h'
 go_enter Tryz.func17, Tryz.ntmps17
 go_wp2_with fail
 refine (clean_p _ p L _ hT1 h1).mono ?_
 rintro e2 w2 ⟨v2, rfl, hp2, hb2⟩
 have hB2 := hb1.trans (hb2.mono hb1.size)
 have hS2 := hmade.below hb2
 have hT2 := hT1.below hb2
 have h2' := h1'.below hb2
 obtain ⟨es0, ck0, hm0⟩ := hS2.map
 obtain ⟨A2, c2, rfl⟩ := hp2.slice
 clear hb2 h1 h1' hmade hT1 hb1
 go_wp2_with fail
 go_loopw [14] (fun i wr => ∃ k n', k ≤ p.length ∧ i = .int .i64 (k : Int) ∧ n' ≤ k ∧ Sums wr w.heap.size n' (addL zeroC (p.take k)) ∧ w2.grownBy wr (some w.heap.size)) (fun i _ => (p.length - intOf i).toNat)
 case atStart => exact ⟨0, 0, Nat.zero_le _, rfl, Nat.le_refl _, hS2, World.grownBy.refl _ _⟩
 case round =>
  obtain ⟨k, n', hk, rfl, hn', hSk, hgk⟩ := hrel
  rcases Nat.lt_or_ge k p.length with hkn | hkn
  ·obtain ⟨m, hm⟩ : ∃ m, p[k]? = some m := ⟨p[k], List.getElem?_eq_getElem hkn⟩
   obtain ⟨bq, oq, y0, y1, y2, rfl, hbq, hat, hcoef⟩ := hp2.at hm
   obtain ⟨nb, Ay, ny, cy, By, my, ey, heq⟩ := hcoef.agg
   simp only [Value.agg.injEq, Array.mk.injEq, List.cons.injEq, and_true] at heq
   obtain ⟨rfl, rfl, rfl⟩ := heq
   have hmq : m ∈ p := List.mem_of_getElem? hm
   have hdm := (hvp.1 m hmq).1
   obtain ⟨x0, x1, x2, x3, x4, x5⟩ := hat.grm hgk hm0 hbq
   have r2 := hcoef.grm hgk hm0
   have t1 := hT2.grm hgk hm0
   obtain ⟨hb6, d6⟩ := new6 wr (.int .i64 (m.1.1 : Int)) (.int .i64 (m.1.2.1 : Int)) (.int .i64 (m.1.2.2 : Int)) (.bool nb) (.slice Ay ny cy) (.slice By my ey)
   have hS6 := hSk.below hb6
   have hc6 := d6.c6
   have hlt : (k : Int) < (p.length : Int) := by omega
   have hgd := grown_back hgk hb6
   have SM := (hsp m hmq).mono (show L ≤ 1000000 by omega)
   have hadd := sums_add w.heap.size n' m.1 _ m.2 _ _ (t1.below hb6) hS6 (by omega) hdm ((r2.below hb6).inp SM (by omega)) (by
    rw [addL_fresh (vp_nodup hvp) hm]
    exact (hz1 m.1 hdm).mono (by omega))
   have HADD := Lib.hid hadd
   have HK := Lib.hid hkn
   have HM := Lib.hid hm
   have HN := Lib.hid hn'
   clear hadd hS6 hSk hkn hm hn' r2 t1 hat hcoef
   go_wp2_with fail
   clear hc6 x0 x1 x2 x3 x4 x5
   refine HADD.out.mono ?_
   rintro e6 w6 ⟨rfl, hS6, hg6⟩
   go_wp2_with fail
   go_roundw
   case rel =>
    refine ⟨k + 1, n' + 1, by have := HK.out; omega, congrArg (Value.int _) (by omega), by have := HN.out; omega, ?_, grown_trans hgd hg6⟩
    rw [List.take_succ_eq_append_getElem HK.out, (List.getElem?_eq_some_iff.1 HM.out).2, addL_snoc]
    exact hS6
   case measure => simp [intOf]; have := HK.out; omega
  ·obtain rfl : k = p.length := by omega
   have hlt : ¬ (p.length : Int) < (p.length : Int) := by omega
   rw [List.take_length] at hSk
   have hB3 : Below w.heap.size w wr := hB2.grown hgk hB2.size (fun j e => by cases e; exact Nat.le_refl _)
   obtain ⟨es1, ck1, hm1⟩ := hSk.map
   have hT3 := hT2.grm hgk hm0
   have hC3 := clean_p _ q L wr hT3 (h2'.grm hgk hm0)
   have HC3 := Lib.hid hC3
   clear hC3 h2' hp2 hS2 hm0 hT2 hB2 hgk
   go_wp2_with fail
   refine HC3.out.mono ?_
   rintro e4 w4 ⟨v4, rfl, hp4, hb4⟩
   have hB4 := hB3.trans (hb4.mono hB3.size)
   have hS4 := hSk.below hb4
   have hT4 := hT3.below hb4
   obtain ⟨es4, ck4, hm4⟩ := hS4.map
   obtain ⟨A4, c4, rfl⟩ := hp4.slice
   have HN1 := Lib.hid hn'
   clear hb4 hSk hT3 hm1 hB3 hn' HC3
   go_wp2_with fail
   go_loopw [28] (fun i wr => ∃ k n2, k ≤ q.length ∧ i = .int .i64 (k : Int) ∧ n2 ≤ n' + k ∧ Sums wr w.heap.size n2 (addL (addL zeroC p) (q.take k)) ∧ w4.grownBy wr (some w.heap.size)) (fun i _ => (q.length - intOf i).toNat)
   case atStart => exact ⟨0, n', Nat.zero_le _, rfl, Nat.le_refl _, hS4, World.grownBy.refl _ _⟩
   case round =>
    obtain ⟨k, n2, hk, rfl, hn2, hSk, hgk⟩ := hrel
    have hn1 := HN1.out
    rcases Nat.lt_or_ge k q.length with hkn | hkn
    ·obtain ⟨m, hm⟩ : ∃ m, q[k]? = some m := ⟨q[k], List.getElem?_eq_getElem hkn⟩
     obtain ⟨bq, oq, y0, y1, y2, rfl, hbq, hat, hcoef⟩ := hp4.at hm
     obtain ⟨nb, Ay, ny, cy, By, my, ey, heq⟩ := hcoef.agg
     simp only [Value.agg.injEq, Array.mk.injEq, List.cons.injEq, and_true] at heq
     obtain ⟨rfl, rfl, rfl⟩ := heq
     have hmq : m ∈ q := List.mem_of_getElem? hm
     have hdm := (hvq.1 m hmq).1
     obtain ⟨x0, x1, x2, x3, x4, x5⟩ := hat.grm hgk hm4 hbq
     have r2 := hcoef.grm hgk hm4
     have t1 := hT4.grm hgk hm4
     obtain ⟨hb6, d6⟩ := new6 wr (.int .i64 (m.1.1 : Int)) (.int .i64 (m.1.2.1 : Int)) (.int .i64 (m.1.2.2 : Int)) (.bool nb) (.slice Ay ny cy) (.slice By my ey)
     have hS6 := hSk.below hb6
     have hc6 := d6.c6
     have hlt : (k : Int) < (q.length : Int) := by omega
     have hgd := grown_back hgk hb6
     have SM := (hsq m hmq).mono (show L ≤ 1000000 by omega)
     have hadd := sums_add w.heap.size n2 m.1 _ m.2 _ _ (t1.below hb6) hS6 (by omega) hdm ((r2.below hb6).inp SM (by omega)) (by
      rw [addL_fresh (vp_nodup hvq) hm]
      exact (hz2 m.1 hdm).mono (by omega))
     have HADD := Lib.hid hadd
     have HK := Lib.hid hkn
     have HM := Lib.hid hm
     have HN := Lib.hid hn2
     clear hadd hS6 hSk hkn hm hn2 hn1 r2 t1 hat hcoef
     go_wp2_with fail
     clear hc6 x0 x1 x2 x3 x4 x5
     refine HADD.out.mono ?_
     rintro e6 w6 ⟨rfl, hS6, hg6⟩
     go_wp2_with fail
     go_roundw
     case rel =>
      refine ⟨k + 1, n2 + 1, by have := HK.out; omega, congrArg (Value.int _) (by omega), by have := HN.out; omega, ?_, grown_trans hgd hg6⟩
      rw [List.take_succ_eq_append_getElem HK.out, (List.getElem?_eq_some_iff.1 HM.out).2, addL_snoc]
      exact hS6
     case measure => simp [intOf]; have := HK.out; omega
    ·obtain rfl : k = q.length := by omega
     have hlt : ¬ (q.length : Int) < (q.length : Int) := by omega
     rw [List.take_length] at hSk
     have hB5 : Below w.heap.size w wr := hB4.grown hgk hB4.size (fun j e => by cases e; exact Nat.le_refl _)
     have hL5 := sums_list _ n2 _ wr (hT4.grm hgk hm4) hSk (by omega) hz3
     have HL5 := Lib.hid hL5
     clear hL5 hSk hp4 hS4 hm4 hT4 hB4 hgk
     go_wp2_with fail
     refine HL5.out.mono ?_
     rintro e6 w6 ⟨v6, rfl, hp6, hb6⟩
     go_wp2_with fail
     go_ret
     refine ⟨v6, rfl, ?_, hB5.trans (hb6.mono hB5.size)⟩
     have e1 : listOf (addC (co p) (co q)) = listOf (addL (addL zeroC p) q) := listOf_congr (fun e _ => by
      rw [addL_eq, addL_eq]
      unfold addC zeroC
      grind)
     rw [e1]
     exact hp6
end Go.Proofs.YtifeekomegoijaaGreatDoor

namespace Go.Proofs.YtifeekomegoijaaGreatDoor
open Go.RowKit

theorem PBy.grm {R R' : Value → Rat → Prop} {w w' : World} {v : Value} {l : List RawM} {b : Nat} (h : PBy R w v l) (hR : ∀ z q, R z q → R' z q) (hg : w.grownBy w' (some b)) {es : Array MapEntry} {ck : Nat} (hm : w.heap[b]? = some (.map es ck)) : PBy R' w' v l := by
 obtain ⟨A, n, c, xs, e, h1, h2, h3⟩ := h
 refine ⟨A, n, c, xs, e, ⟨h1.len, h1.cap, fun hn => ?_⟩, h2, fun i e q hi => ?_⟩
 ·obtain ⟨b', o, hA, hb, hc⟩ := h1.cells hn
  refine ⟨b', o, hA, Nat.lt_of_lt_of_le hb hg.size, fun i x hx j v hv => ?_⟩
  have hcell := hc i x hx j v hv
  refine (World.cell?_of_block (w := w) (hg.block b' hb (fun e => ?_))).trans hcell
  cases e
  simp [World.cell?, hm] at hcell
 ·obtain ⟨z0, z1, z2, hx, hr⟩ := h3 i e q hi
  exact ⟨z0, z1, z2, hx, hR _ _ hr⟩
theorem Pol.grm {w w' : World} {v : Value} {l : List Mon} {b : Nat} (h : Pol w v l) (hg : w.grownBy w' (some b)) {es : Array MapEntry} {ck : Nat} (hm : w.heap[b]? = some (.map es ck)) : Pol w' v l := PBy.grm h (fun _ _ hr => hr.grm hg hm) hg hm
def mulTo (q p : List Mon) : Co := p.foldl (fun c m => addM c q m.1 m.2) zeroC
theorem mulTo_snoc (q p : List Mon) (m : Mon) : mulTo q (p ++ [m]) = addM (mulTo q p) q m.1 m.2 := by
 unfold mulTo
 rw [List.foldl_append]; rfl
theorem mulTo_all (q p : List Mon) : mulTo q p = mulL p q := rfl
theorem szC_mulTo {q : List Mon} (hq : VP q) {L Lq : Nat} (hl : SzL q Lq) (p : List Mon) (hp : SzL p L) : SzC (mulTo q p) (1 + p.length * (Lq + L + 1)) := by
 have key : ∀ (p : List Mon) (c : Co) (B : Nat), SzC c B → SzL p L → SzC (p.foldl (fun c m => addM c q m.1 m.2) c) (B + p.length * (Lq + L + 1)) := by
  intro p
  induction p with
  | nil => intro c B h _; exact h.mono (by simp)
  | cons m p ih =>
   intro c B h hp
   have h1 := szC_addM h (vp_nodup hq) (e := m.1) (hp m (by simp)) hl (show B + (Lq + L) + 1 ≤ B + (Lq + L + 1) by omega)
   have h2 := ih _ _ h1 (fun x hx => hp x (by simp [hx]))
   refine h2.mono ?_
   rw [List.length_cons, Nat.add_mul]
   omega
 exact key p zeroC 1 (szC_zero 1 (Nat.le_refl _)) hp

set_option maxRecDepth 20000 in
set_option maxHeartbeats 4000000 in
theorem Mul_p (v u : Value) (p q : List Mon) (L Lq : Nat) (w : World) (hT : Tab w) (h : PI w v p L) (h' : PI w u q Lq) (hL : p.length * (Lq + L + 1) ≤ 900000) (hL2 : Lq + L ≤ 800000) : Calls Tryz.prog 19 #[v, u] w (RetPol w (listOf (mulC (co p) (co q)))) := by
 obtain ⟨_, _, _, rfl⟩ := h.slice
 obtain ⟨_, _, _, rfl⟩ := h'.slice
 have hmm := @run_makeMap Tryz.prog
 have hvp := h.vp
 have hvq := h'.vp
 have hsp := h.szl
 have hsq := h'.szl
 have hlp := vp_length hvp
 have hlq := vp_length hvq
 have hC1 := clean_p _ p L w hT h
 have HC1 := Lib.hid hC1
 clear hC1 h
 go_enter Tryz.func19, Tryz.ntmps19
 go_wp2_with fail
 refine HC1.out.mono ?_
 rintro e1 w1 ⟨v1, rfl, hp1, hb1⟩
 have hT1 := hT.below hb1
 obtain ⟨A1, c1, rfl⟩ := hp1.slice
 have hC2 := clean_p _ q Lq w1 hT1 (h'.below hb1)
 have HC2 := Lib.hid hC2
 clear hC2 h'
 go_wp2_with fail
 refine HC2.out.mono ?_
 rintro e2 w2 ⟨v2, rfl, hq2, hb2⟩
 obtain ⟨A2, c2, rfl⟩ := hq2.slice
 have hb3 : Below w2.heap.size w2 (w2.alloc (.map #[] 0)) := (Below.refl _ _).alloc (Nat.le_refl _) _
 have hS3 := Sums.made w2
 have hp3 := (hp1.below hb2).below hb3
 have hq3 := hq2.below hb3
 have hT3 := (hT1.below hb2).below hb3
 have hb12 := hb1.trans (hb2.mono hb1.size)
 have hB3 := hb12.trans (hb3.mono hb12.size)
 have hsz := hb12.size
 obtain ⟨es0, ck0, hm0⟩ := hS3.map
 clear hb1 hb2 hp1 hq2 hT1 HC1 HC2 hb3
 go_wp2_with fail
 generalize (w2.alloc (.map #[] 0)) = W3 at *
 generalize w2.heap.size = mb at *
 go_loopw [15] (fun i wr => ∃ k n', k ≤ p.length ∧ i = .int .i64 (k : Int) ∧ n' ≤ k * q.length ∧ Sums wr mb n' (mulTo q (p.take k)) ∧ W3.grownBy wr (some mb)) (fun i _ => (p.length - intOf i).toNat)
 case atStart => exact ⟨0, 0, Nat.zero_le _, rfl, Nat.zero_le _, hS3, World.grownBy.refl _ _⟩
 case round =>
  obtain ⟨k, n', hk, rfl, hn', hSk, hgk⟩ := hrel
  rcases Nat.lt_or_ge k p.length with hkn | hkn
  ·obtain ⟨m, hm⟩ : ∃ m, p[k]? = some m := ⟨p[k], List.getElem?_eq_getElem hkn⟩
   obtain ⟨bq, oq, y0, y1, y2, rfl, hbq, hat, hcoef⟩ := hp3.at hm
   obtain ⟨nb, Ay, ny, cy, By, my, ey, heq⟩ := hcoef.agg
   simp only [Value.agg.injEq, Array.mk.injEq, List.cons.injEq, and_true] at heq
   obtain ⟨rfl, rfl, rfl⟩ := heq
   have hmq : m ∈ p := List.mem_of_getElem? hm
   have hdm := (hvp.1 m hmq).1
   obtain ⟨x0, x1, x2, x3, x4, x5⟩ := hat.grm hgk hm0 hbq
   have r2 := hcoef.grm hgk hm0
   have t1 := hT3.grm hgk hm0
   obtain ⟨hb6, d6⟩ := new6 wr (.int .i64 (m.1.1 : Int)) (.int .i64 (m.1.2.1 : Int)) (.int .i64 (m.1.2.2 : Int)) (.bool nb) (.slice Ay ny cy) (.slice By my ey)
   have hS6 := hSk.below hb6
   have hc6 := d6.c6
   have hlt : (k : Int) < (p.length : Int) := by omega
   have hgd := grown_back hgk hb6
   have hkq : k * q.length ≤ 56 * 56 := Nat.mul_le_mul (by omega) hlq
   have hbnd : 1 + k * (Lq + L + 1) + (Lq + L) + 1 ≤ 1000000 := by
    have h1 : (k + 1) * (Lq + L + 1) ≤ p.length * (Lq + L + 1) := Nat.mul_le_mul_right _ (by omega)
    rw [Nat.add_mul] at h1
    omega
   have hszk : SzC (mulTo q (p.take k)) (1 + k * (Lq + L + 1)) := by
    have h1 := szC_mulTo hvq hsq (p.take k) (fun x hx => hsp x (List.mem_of_mem_take hx))
    rwa [List.length_take, Nat.min_eq_left (by omega)] at h1
   have hadd := sums_addM mb n' _ q m.1 _ m.2 _ (1 + k * (Lq + L + 1)) L Lq _ (t1.below hb6) hS6 ((hq3.grm hgk hm0).below hb6) (vp_nodup hvq) (fun x hx => (hvq.1 x hx).1) (by omega) hdm ((r2.below hb6).inp (hsp m hmq) (by omega)) hszk hsq hbnd
   have HADD := Lib.hid hadd
   have HK := Lib.hid hkn
   have HM := Lib.hid hm
   have HN := Lib.hid hn'
   clear hadd hS6 hSk hkn hm hn' r2 t1 hat hcoef hszk hbnd
   go_wp2_with fail
   clear hc6 x0 x1 x2 x3 x4 x5
   refine HADD.out.mono ?_
   rintro e6 w6 ⟨rfl, ⟨n6, hn6, hS6⟩, hg6⟩
   go_wp2_with fail
   go_roundw
   case rel =>
    refine ⟨k + 1, n6, by have := HK.out; omega, congrArg (Value.int _) (by omega), by have := HN.out; rw [Nat.add_mul, Nat.one_mul]; omega, ?_, grown_trans hgd hg6⟩
    rw [List.take_succ_eq_append_getElem HK.out, (List.getElem?_eq_some_iff.1 HM.out).2, mulTo_snoc]
    exact hS6
   case measure => simp [intOf]; have := HK.out; omega
  ·obtain rfl : k = p.length := by omega
   have hlt : ¬ (p.length : Int) < (p.length : Int) := by omega
   rw [List.take_length] at hSk
   have hB5 : Below w.heap.size w wr := hB3.grown hgk hB3.size (fun j e => by cases e; exact hsz)
   have hkq : p.length * q.length ≤ 56 * 56 := Nat.mul_le_mul hlp hlq
   have hL5 := sums_list _ n' _ wr (hT3.grm hgk hm0) hSk (by omega) ((szC_mulTo hvq hsq p hsp).mono (by omega))
   have HL5 := Lib.hid hL5
   clear hL5 hSk hp3 hS3 hm0 hT3 hB3 hgk hq3
   go_wp2_with fail
   refine HL5.out.mono ?_
   rintro e6 w6 ⟨v6, rfl, hp6, hb6⟩
   go_wp2_with fail
   go_ret
   refine ⟨v6, rfl, ?_, hB5.trans (hb6.mono hB5.size)⟩
   rw [mulTo_all] at hp6
   have e1 : listOf (mulC (co p) (co q)) = listOf (mulL p q) := listOf_congr (fun e he => (mulL_mulC hvp hvq he).symm)
   rw [e1]
   exact hp6
end Go.Proofs.YtifeekomegoijaaGreatDoor

namespace Go.Proofs.YtifeekomegoijaaGreatDoor
open Go.RowKit

def restL (l : List Mon) : List Mon := l.filter fun m => decide (m.1 ≠ (0, 0, 0))
def lowL (l : List Mon) : Rat := co l (0, 0, 0)
theorem vp_rest {l : List Mon} (h : VP l) : VP (restL l) := ⟨fun m hm => h.1 m (List.mem_filter.1 hm).1, h.2.filter _⟩
theorem rest_ne {l : List Mon} : ∀ m ∈ restL l, m.1 ≠ (0, 0, 0) := fun m hm => of_decide_eq_true (List.mem_filter.1 hm).2
theorem rest_szl {l : List Mon} {L : Nat} (h : SzL l L) : SzL (restL l) L := fun m hm => h m (List.mem_filter.1 hm).1
theorem only_last {l : List Mon} (h : VP l) {i : Nat} {m : Mon} (hi : l[i]? = some m) (hm : m.1 = (0, 0, 0)) : i + 1 = l.length := by
 have hil := (List.getElem?_eq_some_iff.1 hi).1
 rcases Nat.lt_or_ge (i + 1) l.length with h1 | h1
 ·have h2 := List.pairwise_iff_getElem.1 h.2 i (i + 1) hil h1 (by omega)
  rw [(List.getElem?_eq_some_iff.1 hi).2, hm, elt_iff] at h2
  simp at h2
 ·omega
theorem split_none {l : List Mon} (hne : ∀ m, l[l.length - 1]? = some m → m.1 ≠ (0, 0, 0)) (h : VP l) : restL l = l ∧ lowL l = 0 := by
 have hall : ∀ m ∈ l, m.1 ≠ (0, 0, 0) := fun m hm h0 => by
  obtain ⟨i, hi, rfl⟩ := List.getElem_of_mem hm
  have h1 := only_last h (List.getElem?_eq_getElem hi) h0
  exact hne l[i] (by rw [show l.length - 1 = i by omega]; exact List.getElem?_eq_getElem hi) h0
 exact ⟨List.filter_eq_self.2 (fun m hm => decide_eq_true (hall m hm)), co_absent hall⟩
theorem split_some {l : List Mon} (h : VP l) {m : Mon} (hm : l[l.length - 1]? = some m) (h0 : m.1 = (0, 0, 0)) : restL l = l.take (l.length - 1) ∧ lowL l = m.2 := by
 have hl := (List.getElem?_eq_some_iff.1 hm).1
 constructor
 ·have e1 : l = l.take (l.length - 1) ++ [m] := by
   conv => lhs; rw [← List.take_length (l := l), show l.length = (l.length - 1) + 1 by omega, List.take_succ_eq_append_getElem hl]
   rw [(List.getElem?_eq_some_iff.1 hm).2]
  have e2 : restL l = restL (l.take (l.length - 1)) ++ restL [m] := by
   conv => lhs; rw [e1]
   unfold restL
   rw [List.filter_append]
  have e3 : restL [m] = [] := by simp [restL, h0]
  rw [e2, e3, List.append_nil]
  refine List.filter_eq_self.2 (fun x hx => decide_eq_true (fun hx0 => ?_))
  obtain ⟨i, hi, rfl⟩ := List.getElem_of_mem hx
  rw [List.length_take] at hi
  rw [List.getElem_take] at hx0
  have := only_last h (List.getElem?_eq_getElem (show i < l.length by omega)) hx0
  omega
 ·have := co_mem h (List.mem_of_getElem? hm)
  rw [h0] at this
  exact this
theorem ret_tmp_cs {fn : Func} {p u : Tmp} {t : TypeId} {l : List Value} {fs : Array Field} (hres : fn.results = #[.tmp u, .cell p t]) (hu : Tryz.prog.underlying t = some (.struct fs)) (hn : (Tryz.prog.info? t).map (·.size) = some l.length) {R : Ending → World → Prop} {a : Act} {w : World} {g : Nat} {x : Value} (hp : a.tmps.getD p undef = .pointer (some ⟨g, 0, none⟩)) (hx : a.tmps.getD u undef = x) (h : Cs w g l t) (hd : a.defers = [])
  (hR : R (.returned (.tuple #[x, .agg l.toArray])) w) : bodyPost Tryz.prog fn R .ret a w := by
 refine bodyPost_ret (v := .tuple #[x, .agg l.toArray]) ?_ hd hR
 have hp' : a.tmps[p]?.getD undef = .pointer (some ⟨g, 0, none⟩) := by simpa using hp
 have hx' : a.tmps[u]?.getD undef = x := by simpa using hx
 simp [results, hres, hp', hx', asAddr, run_loadVar_row w g t t l.toArray (0, 0) _ h hu rfl hn]
theorem info_int3 : ∃ i, Tryz.prog.info? 3 = some i := by
 have h : (Tryz.prog.info? 3).isSome = true := by kernel_rfl
 exact Option.isSome_iff_exists.1 h
theorem cells_int : Tryz.prog.cellsOf 3 = 1 := by kernel_rfl
theorem part_int (x0 x1 x2 : Int) (w : World) : (part 3 #[.int .i64 x0, .int .i64 x1, .int .i64 x2] 0).run Tryz.prog w = .ok (.int .i64 x0) w ∧ (part 3 #[.int .i64 x0, .int .i64 x1, .int .i64 x2] 1).run Tryz.prog w = .ok (.int .i64 x1) w ∧ (part 3 #[.int .i64 x0, .int .i64 x1, .int .i64 x2] 2).run Tryz.prog w = .ok (.int .i64 x2) w :=
 ⟨by kernel_rfl, by kernel_rfl, by kernel_rfl⟩
theorem eq_exps (x0 x1 x2 y0 y1 y2 : Int) (w : World) : (Op.equalIn 10000 57 (.agg #[.int .i64 x0, .int .i64 x1, .int .i64 x2]) (.agg #[.int .i64 y0, .int .i64 y1, .int .i64 y2])).run Tryz.prog w = .ok (x0 == y0 && (x1 == y1 && x2 == y2)) w := by
 obtain ⟨i, hi⟩ := info_int3
 have h := run_equalIn_array (P := Tryz.prog) w 9999 #[.int .i64 x0, .int .i64 x1, .int .i64 x2] #[.int .i64 y0, .int .i64 y1, .int .i64 y2] Tryz.underlying57 hi
 rw [cells_int, show List.range 3 = [0, 1, 2] from rfl] at h
 rw [show (10000 : Nat) = 9999 + 1 from rfl, h]
 have e : ∀ (a b : Int) (w : World), (Op.equalIn 9999 3 (.int .i64 a) (.int .i64 b)).run Tryz.prog w = .ok (a == b) w := fun a b w => run_equalIn_int w 9998 _ _ _ a b Tryz.underlying3
 obtain ⟨p0, p1, p2⟩ := part_int x0 x1 x2 w
 obtain ⟨q0, q1, q2⟩ := part_int y0 y1 y2 w
 simp only [Op.eqItems, Sem.run_bind, Nat.zero_mul, Nat.one_mul, p0, q0, e, Result.andThen_ok]
 by_cases h0 : (x0 == y0) = true
 ·simp only [h0, Bool.not_true, Bool.false_eq_true, if_false, Sem.run_bind, p1, q1, e, Result.andThen_ok, Bool.true_and]
  by_cases h1 : (x1 == y1) = true
  ·simp only [h1, Bool.not_true, Bool.false_eq_true, if_false, Sem.run_bind, show 2 * 1 = 2 from rfl, p2, q2, e, Result.andThen_ok, Bool.true_and]
   by_cases h2 : (x2 == y2) = true
   ·simp [h2]
   ·simp [h2]
  ·simp [h1]
 ·simp [h0]
def RetSplit (w0 : World) (l : List Mon) (e : Ending) (w' : World) : Prop := ∃ A c nb A1 n1 c1 B1 m1 e1, e = .returned (.tuple #[.slice A (restL l).length c, .agg #[.bool nb, .slice A1 n1 c1, .slice B1 m1 e1]]) ∧ Pol w' (.slice A (restL l).length c) (restL l) ∧ RatQ w' (.agg #[.bool nb, .slice A1 n1 c1, .slice B1 m1 e1]) (lowL l) ∧ Below w0.heap.size w0 w'

set_option maxRecDepth 20000 in
set_option maxHeartbeats 2000000 in
theorem split_p (A : Option Addr) (n c : Nat) (l : List Mon) (w : World) (h : Pol w (.slice A n c) l) (hv : VP l) : Calls Tryz.prog 60 #[.slice A n c] w (RetSplit w l) := by
 obtain ⟨_, _, e0⟩ := h.slice
 have hn : n = l.length := by injection e0
 subst hn
 have hlen := vp_length hv
 obtain ⟨hb1, c1⟩ := blk1 w [.bool false, .slice none 0 0, .slice none 0 0] 25
 have h1 := h.below hb1
 clear e0
 rcases Nat.eq_zero_or_pos l.length with h0 | h0
 ·have hl : l = [] := List.eq_nil_of_length_eq_zero h0
  subst hl
  have f0 := c1.frozen 0
  have f1 := c1.frozen 1
  have f2 := c1.frozen 2
  have y := c1.c3
  go_enter Tryz.func60, Tryz.ntmps60
  go_wp2_with fail
  refine ret_tmp_cs Tryz.results60 Tryz.underlying25 (by kernel_rfl) rfl rfl c1 rfl ?_
  exact ⟨_, _, _, _, _, _, _, _, _, rfl, Pol.nil _ _ _, ratq_zero _, hb1⟩
 ·obtain ⟨m, hm⟩ : ∃ m, l[l.length - 1]? = some m := ⟨l[l.length - 1], List.getElem?_eq_getElem (by omega)⟩
  obtain ⟨bq, oq, y0, y1, y2, rfl, hbq, hat0, hcoef⟩ := h.at hm
  have hat := hat0.below hb1 hbq
  obtain ⟨nb, Ay, ny, cy, By, my, ey, heq⟩ := hcoef.agg
  simp only [Value.agg.injEq, Array.mk.injEq, List.cons.injEq, and_true] at heq
  obtain ⟨rfl, rfl, rfl⟩ := heq
  obtain ⟨n1, hn1⟩ : ∃ n1, l.length - 1 = n1 := ⟨_, rfl⟩
  have hln : l.length = n1 + 1 := by omega
  have hw1 : IntKind.i64.wrap ((n1 : Int) + 1 - 1) = (n1 : Int) := by rw [show (n1 : Int) + 1 - 1 = n1 by omega]; exact IntWalk.i64_in _ (by omega)
  clear hat0
  rw [hn1] at hat
  obtain ⟨x0, x1, x2, x3, x4, x5⟩ := hat
  have hw2 : wrap64 (n1 : Int) = (n1 : Int) := IntWalk.wrap64_in _ ⟨by omega, by omega⟩
  have hw3 : wrap64 ((n1 : Int) + 1 - 1) = (n1 : Int) := by rw [show (n1 : Int) + 1 - 1 = n1 by omega]; exact hw2
  have hneg : ¬ (n1 : Int) < 0 := by omega
  have hneg' : (n1 : Int) < (n1 : Int) + 1 := by omega
  have f0 := c1.frozen 0
  have f1 := c1.frozen 1
  have f2 := c1.frozen 2
  have yy := c1.c3
  have hle : n1 ≤ n1 + 1 := Nat.le_succ _
  have hle2 : n1 ≤ c := by
   obtain ⟨A', n', c', xs, e', h5, _⟩ := h1
   cases e'
   have := h5.cap
   omega
  have HLN := Lib.hid hln
  have HM := Lib.hid hm
  have HN1 := Lib.hid hn1
  by_cases hz : m.1 = (0, 0, 0)
  ·obtain ⟨s1, s2⟩ := split_some hv hm hz
   rw [hn1] at s1
   have hz0 : ((m.1.1 : Nat) : Int) = 0 := by rw [hz]; rfl
   have hz1 : ((m.1.2.1 : Nat) : Int) = 0 := by rw [hz]; rfl
   have hz2 : ((m.1.2.2 : Nat) : Int) = 0 := by rw [hz]; rfl
   rw [hz0] at x0
   rw [hz1] at x1
   rw [hz2] at x2
   have heq : ∀ w : World, (Op.equalIn 10000 57 (.agg #[.int .i64 0, .int .i64 0, .int .i64 0]) (.agg #[.int .i64 0, .int .i64 0, .int .i64 0])).run Tryz.prog w = .ok true w := fun w => eq_exps 0 0 0 0 0 0 w
   have S1 := Lib.hid s1
   have S2 := Lib.hid s2
   clear hz hz0 hz1 hz2 s1 s2 hln hm hn1 h0
   rw [HLN.out]
   go_enter Tryz.func60, Tryz.ntmps60
   go_wp2_with fail
   have hmx : Tryz.prog.follows .mixedOrders = true := by kernel_rfl
   go_region_o
   all_goals go_wp2_with fail
   obtain ⟨hb2, c2⟩ := blk1 w [.bool nb, .slice Ay ny cy, .slice By my ey] 25
   refine ret_tmp_cs Tryz.results60 Tryz.underlying25 (by kernel_rfl) rfl rfl c2.drew rfl ?_
   have hb3 := below_drewN hb2 1
   rw [HLN.out] at h
   refine ⟨some ⟨bq, oq, none⟩, c, nb, Ay, ny, cy, By, my, ey, ?_, ?_, ?_, hb3⟩
   ·rw [S1.out, List.length_take, HLN.out, Nat.min_eq_left hle]; rfl
   ·rw [S1.out, List.length_take, HLN.out, Nat.min_eq_left hle]
    have := (PBy.take h hle)
    rw [← List.map_take] at this
    exact Pol.below this hb3
   ·rw [S2.out]; exact hcoef.below hb3
  ·obtain ⟨s1, s2⟩ := split_none (fun m' hm' => by rw [hm] at hm'; cases hm'; exact hz) hv
   have heq : ∀ w : World, (Op.equalIn 10000 57 (.agg #[.int .i64 (m.1.1 : Int), .int .i64 (m.1.2.1 : Int), .int .i64 (m.1.2.2 : Int)]) (.agg #[.int .i64 0, .int .i64 0, .int .i64 0])).run Tryz.prog w = .ok false w := fun w => by
    rw [eq_exps]
    congr 1
    rw [Bool.eq_false_iff]
    intro h
    simp only [Bool.and_eq_true, beq_iff_eq] at h
    exact hz (Prod.ext (by show m.1.1 = 0; omega) (Prod.ext (by show m.1.2.1 = 0; omega) (by show m.1.2.2 = 0; omega)))
   have S1 := Lib.hid s1
   have S2 := Lib.hid s2
   clear hz s1 s2 hln hm hn1 h0
   rw [HLN.out]
   go_enter Tryz.func60, Tryz.ntmps60
   go_wp2_with fail
   have hrest := S1.out
   have hlow := S2.out
   refine ret_tmp_cs Tryz.results60 Tryz.underlying25 (by kernel_rfl) rfl rfl c1 rfl ?_
   refine ⟨some ⟨bq, oq, none⟩, c, false, none, 0, 0, none, 0, 0, ?_, ?_, ?_, hb1⟩
   ·rw [hrest, HLN.out]; rfl
   ·rw [hrest]; exact h1
   ·rw [hlow]; exact ratq_zero _
end Go.Proofs.YtifeekomegoijaaGreatDoor

namespace Go.Proofs.YtifeekomegoijaaGreatDoor
open Go.RowKit

def lee (a e : Ex) : Bool := decide (a.1 ≤ e.1) && decide (a.2.1 ≤ e.2.1) && decide (a.2.2 ≤ e.2.2)
theorem lee_eadd (m a : Ex) : lee a (eadd m a) = true := by simp [lee, eadd]
def gDeg : Nat → Nat
 | 0 => 1
 | 1 => 4
 | 2 => 16
 | 3 => 76
 | 4 => 328
 | _ => 1492
def units (K : List Ex) (e : Ex) : Nat := (K.map fun a => if lee a e && decide (a ≠ e) then gDeg (deg a) + 2 else 0).sum
theorem units_all : (allE.all fun e => decide (1 + units allE.reverse e ≤ gDeg (deg e))) = true := by decide +kernel
theorem gDeg_le : ∀ d, gDeg d ≤ 1492
 | 0 => by decide
 | 1 => by decide
 | 2 => by decide
 | 3 => by decide
 | 4 => by decide
 | _ + 5 => Nat.le_refl _
theorem units_snoc (K : List Ex) (a e : Ex) : units (K ++ [a]) e = units K e + if lee a e && decide (a ≠ e) then gDeg (deg a) + 2 else 0 := by
 simp [units]
theorem units_take (i : Nat) (e : Ex) : units (allE.reverse.take i) e ≤ units allE.reverse e := by
 conv => rhs; rw [← List.take_append_drop i allE.reverse]
 unfold units
 rw [List.map_append, List.sum_append]
 exact Nat.le_add_right _ _
theorem units_le {i : Nat} {e : Ex} (he : deg e ≤ 5) : 1 + units (allE.reverse.take i) e ≤ gDeg (deg e) := by
 have h1 := of_decide_eq_true (List.all_eq_true.1 units_all e ((mem_allE e).2 he))
 have h2 := units_take i e
 omega
def starTo (rest : List Mon) (k : Rat) (i : Nat) : Co := (allE.reverse.take i).foldl (starStep rest k) oneC
theorem starTo_zero (rest : List Mon) (k : Rat) : starTo rest k 0 = oneC := rfl
theorem starTo_succ (rest : List Mon) (k : Rat) {i : Nat} (h : i < 56) : starTo rest k (i + 1) = starStep rest k (starTo rest k i) (asc i) := by
 unfold starTo
 rw [asc_take h, List.foldl_append]; rfl
theorem starTo_all (rest : List Mon) (k : Rat) : starTo rest k 56 = starC rest k := by
 unfold starTo starC
 rw [asc_all]
theorem asc_notin {i : Nat} (h : i < 56) : asc i ∉ allE.reverse.take i := by
 have h1 : (allE.reverse.take (i + 1)).Nodup := (List.pairwise_reverse.2 (nodup_allE.imp (fun h => h.symm))).sublist (List.take_sublist _ _)
 rw [asc_take h] at h1
 intro hm
 have := (List.nodup_append.1 h1).2.2 _ hm (asc i) (by simp)
 exact this rfl
theorem sz_one'' (L : Nat) (h : 1 ≤ L) : Sz 1 L := ⟨by show (limbs 1).length ≤ L; rw [limbs_one]; exact h, by show (limbs 1).length ≤ L; rw [limbs_one]; exact h⟩
def szTo (U i : Nat) (e : Ex) : Nat := (1 + units (allE.reverse.take i) e) * U + if e ∈ allE.reverse.take i then U else 0
theorem szTo_le {U i : Nat} {e : Ex} (he : deg e ≤ 5) : szTo U i e ≤ 1493 * U := by
 unfold szTo
 have h1 : (1 + units (allE.reverse.take i) e) * U ≤ 1492 * U := Nat.mul_le_mul_right U (Nat.le_trans (units_le he) (gDeg_le _))
 have h2 : 1493 * U = 1492 * U + U := by rw [show 1493 = 1492 + 1 from rfl, Nat.add_mul, Nat.one_mul]
 split <;> omega
theorem sz_starTo {rest : List Mon} {k : Rat} {L U : Nat} (hv : VP rest) (h0 : ∀ m ∈ rest, m.1 ≠ (0, 0, 0)) (hs : SzL rest L) (hk : Sz k U) (hU : L + 1 ≤ U) : ∀ i, i ≤ 56 → ∀ e, deg e ≤ 5 → Sz (starTo rest k i e) (szTo U i e) := by
 intro i
 induction i with
 | zero =>
  intro _ e he
  rw [starTo_zero]
  have h1 : U ≤ szTo U 0 e := by
   unfold szTo
   have : U ≤ (1 + units (allE.reverse.take 0) e) * U := Nat.le_mul_of_pos_left U (by omega)
   omega
  unfold oneC
  split
  ·exact sz_one'' _ (by omega)
  ·exact sz_zero _ (by omega)
 | succ i ih =>
  intro hi e he
  have hi' : i < 56 := by omega
  have hda := asc_deg (i := i) (by omega)
  have ha := ih (by omega) (asc i) hda
  have hx : Sz (starTo rest k i (asc i) * k) (gDeg (deg (asc i)) * U + U) := by
   refine sz_mul (ha.mono (show szTo U i (asc i) ≤ gDeg (deg (asc i)) * U from ?_)) hk (Nat.le_refl _)
   unfold szTo
   rw [if_neg (asc_notin hi'), Nat.add_zero]
   exact Nat.mul_le_mul_right U (units_le hda)
  rw [starTo_succ rest k hi']
  have hstep : szTo U (i + 1) e = szTo U i e + (if lee (asc i) e && decide (asc i ≠ e) then (gDeg (deg (asc i)) + 2) * U else 0) + if e = asc i then U else 0 := by
   unfold szTo
   rw [asc_take hi', units_snoc]
   by_cases hea : e = asc i
   ·have hn := asc_notin hi'
    have hmem : e ∈ allE.reverse.take i ++ [asc i] := by simp [hea]
    have hnm : e ∉ allE.reverse.take i := by rw [hea]; exact hn
    have hl : ¬ (lee (asc i) e && decide (asc i ≠ e)) = true := by simp [hea]
    rw [if_pos hmem, if_neg hnm, if_neg hl, if_neg hl, if_pos hea]
    simp
   ·have hmem : (e ∈ allE.reverse.take i ++ [asc i]) ↔ (e ∈ allE.reverse.take i) := by simp [hea]
    rw [if_neg hea, Nat.add_zero]
    have hU2 : (if e ∈ allE.reverse.take i ++ [asc i] then U else 0) = (if e ∈ allE.reverse.take i then U else 0) := by
     by_cases h : e ∈ allE.reverse.take i
     ·rw [if_pos (hmem.2 h), if_pos h]
     ·rw [if_neg (fun h' => h (hmem.1 h')), if_neg h]
    rw [hU2]
    by_cases hl : (lee (asc i) e && decide (asc i ≠ e)) = true
    ·rw [if_pos hl, if_pos hl, ← Nat.add_assoc, Nat.add_mul (1 + _)]; omega
    ·rw [if_neg hl, if_neg hl, Nat.add_zero, Nat.add_zero]
  have ihe := ih (by omega) e he
  unfold starStep
  rcases addM_at (vp_nodup hv) (setAt (starTo rest k i) (asc i) (starTo rest k i (asc i) * k)) (asc i) (starTo rest k i (asc i) * k) e with ⟨m, hm, hme, h⟩ | ⟨_, h⟩
  ·rw [h]
   have hne : asc i ≠ e := fun h' => by
    apply h0 m hm
    rw [← h'] at hme
    unfold eadd at hme
    have e1 := congrArg Prod.fst hme
    have e2 := congrArg (fun x : Ex => x.2.1) hme
    have e3 := congrArg (fun x : Ex => x.2.2) hme
    simp only at e1 e2 e3
    exact Prod.ext (by show m.1.1 = 0; omega) (Prod.ext (by show m.1.2.1 = 0; omega) (by show m.1.2.2 = 0; omega))
   have hl : (lee (asc i) e && decide (asc i ≠ e)) = true := by rw [← hme, lee_eadd, hme]; simpa using hne
   unfold setAt
   rw [if_neg (fun h' => hne h'.symm)]
   refine sz_add ihe (sz_mul (hs m hm) hx (Nat.le_refl _)) ?_
   rw [hstep, if_pos hl, if_neg (fun h' => hne h'.symm), Nat.add_mul]
   omega
  ·rw [h]
   unfold setAt
   by_cases hea : e = asc i
   ·rw [if_pos hea]
    subst hea
    refine (sz_mul ha hk (Nat.le_refl _)).mono ?_
    rw [hstep, if_pos rfl]; omega
   ·rw [if_neg hea]
    exact ihe.mono (by rw [hstep]; omega)
theorem szC_starTo {rest : List Mon} {k : Rat} {L U : Nat} (hv : VP rest) (h0 : ∀ m ∈ rest, m.1 ≠ (0, 0, 0)) (hs : SzL rest L) (hk : Sz k U) (hU : L + 1 ≤ U) {i : Nat} (hi : i ≤ 56) : SzC (starTo rest k i) (1493 * U) := fun e he => (sz_starTo hv h0 hs hk hU i hi e he).mono (szTo_le he)
end Go.Proofs.YtifeekomegoijaaGreatDoor

namespace Go.Proofs.YtifeekomegoijaaGreatDoor
open Go.RowKit

theorem sz_one (L : Nat) (h : 1 ≤ L) : Sz 1 L := ⟨by show (limbs 1).length ≤ L; rw [limbs_one]; exact h, by show (limbs 1).length ≤ L; rw [limbs_one]; exact h⟩
theorem cell_alc7 {w : World} {a : Addr} {v : Value} (o : Obj) (h : w.cell? a = some v) : (w.alloc o).cell? a = some v := (World.cell?_alloc_some w a o (by rw [h]; rfl)).trans h
theorem cell_alc_d {w : World} {a : Addr} {v : Value} (o : Obj) (h : w.drew.cell? a = some v) : (w.alloc o).drew.cell? a = some v := cell_alc7 (w := w) o h
theorem cell_st {w : World} {b g k k' : Nat} {v u : Value} (hne : b ≠ g) (h : w.cell? ⟨b, k, none⟩ = some v) : (w.setCell ⟨g, k', none⟩ u).cell? ⟨b, k, none⟩ = some v := by
 rw [World.cell?_setCell_other _ _ _ _ (fun e => hne (by injection e with e1; first | exact e1 | exact e1.symm))]; exact h
def QRel (w0 : World) (r : Rat) (p : Value) (wx : World) : Prop :=
 ∃ g nb A n c B m e, p = .pointer (some ⟨g, 0, none⟩) ∧ Cs wx g [.bool nb, .slice A n c, .slice B m e] 25 ∧ w0.heap.size ≤ g ∧ RatQ wx (.agg #[.bool nb, .slice A n c, .slice B m e]) r ∧ Below w0.heap.size w0 wx
theorem qrel1 {w0 W : World} {r : Rat} {nb : Bool} {A B : Option Addr} {n c m e : Nat} (hb : Below w0.heap.size w0 W) (h : RatQ W (.agg #[.bool nb, .slice A n c, .slice B m e]) r) : QRel w0 r (.pointer (some ⟨W.heap.size, 0, none⟩)) (W.alloc (R1 (.bool nb) (.slice A n c) (.slice B m e))) := by
 have hx := blk1 W [.bool nb, .slice A n c, .slice B m e] 25
 exact ⟨_, _, _, _, _, _, _, _, rfl, hx.2, hb.size, h.below hx.1, hb.trans (hx.1.mono hb.size)⟩
theorem qrel2 {w0 W : World} {r : Rat} {nb : Bool} {A B : Option Addr} {n c m e g : Nat} (hb : Below w0.heap.size w0 W) (hg : w0.heap.size ≤ g) (hA : Cs W g [.bool false, .slice none 0 0, .slice none 0 0] 25) (h : RatQ W (.agg #[.bool nb, .slice A n c, .slice B m e]) r) : QRel w0 r (.pointer (some ⟨g, 0, none⟩)) (((W.setCell ⟨g, 0, none⟩ (.bool nb)).setCell ⟨g, 1, none⟩ (.slice A n c)).setCell ⟨g, 2, none⟩ (.slice B m e)) :=
 ⟨_, _, _, _, _, _, _, _, rfl, cs_own3 hA rfl _ _ _, hg, h.set3 (show Rc _ _ _ _ _ from hA) _ _ _, below_s3 hb hg _ _ _⟩
end Go.Proofs.YtifeekomegoijaaGreatDoor
