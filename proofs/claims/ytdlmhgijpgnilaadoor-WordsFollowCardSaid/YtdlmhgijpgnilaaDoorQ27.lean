/- number and Rank. -/
import Derived.Test.YtdlmhgijpgnilaaDoorQ26
import Derived.Test.YtdlmhgijpgnilaaDoorQ20
import Derived.Test.YtdlmhgijpgnilaaDoorQ22
set_option linter.unusedVariables false
set_option linter.unusedSimpArgs false
namespace Go.Proofs.YtdlmhgijpgnilaaDoor
open Go.RowKit

theorem qv_whole (a : Int) : qv (decide (a < 0) != decide ((1 : Int) < 0)) a.natAbs (1 : Int).natAbs = (a : Rat) := by
  unfold qv
  have h : sgn (decide (a < 0) != decide ((1 : Int) < 0)) a.natAbs = a := by
    unfold sgn
    by_cases ha : a < 0
    · rw [decide_eq_true ha]; simp; omega
    · rw [decide_eq_false ha]; simp; omega
  rw [h]
  exact Rat.mkRat_one a
theorem sz_whole {a : Int} {L : Nat} (h : a.natAbs < 4294967296) (hL : 1 ≤ L) : Sz (a : Rat) L := by
  refine ⟨?_, ?_⟩
  · rw [Rat.num_intCast]; exact Nat.le_trans (small_len h) hL
  · rw [Rat.den_intCast]; exact Nat.le_trans (small_len (by decide)) hL
theorem rkq_step (s : Int) (l : List Int) {k : Nat} (hk : k < l.length) : ((rk s (l.take (k + 1)) : Int) : Rat) = ((rk s (l.take k) : Int) : Rat) * ((s : Int) : Rat) + ((l.getD k 0 : Int) : Rat) := by
  rw [rk_take s l hk, Rat.intCast_add, Rat.intCast_mul]
theorem rkq_sz {s : Int} {l : List Int} (h : wok l s = true) : ∀ k, k ≤ l.length → Sz ((rk s (l.take k) : Int) : Rat) (3 * k + 1)
  | 0, _ => by
    rw [List.take_zero]
    exact sz_zero _ (by omega)
  | k + 1, hk => by
    obtain ⟨h1, h2, h3, h4⟩ := wok_out h
    have hx := h4 _ (mem_getD (k := k) (by omega))
    rw [rkq_step s l (by omega)]
    exact sz_add (sz_mul (rkq_sz h k (by omega)) (sz_whole (a := s) (L := 1) (by omega) (by omega)) (Nat.le_refl _)) (sz_whole (a := l.getD k 0) (L := 1) (by omega) (by omega)) (by omega)
theorem rkq_zero (s : Int) (l : List Int) : ((rk s (l.take 0) : Int) : Rat) = 0 := by rw [List.take_zero]; rfl
/-- The answer of Rank. -/
def rankA (l : List Int) (s : Int) : Rat × Int := if wok l s = true then (((rk s l : Int) : Rat), 0) else (0, 9)
set_option maxRecDepth 20000 in
set_option maxHeartbeats 1000000 in
theorem number_any (a : Int) (w : World) (hT : Tab w) (h1 : -9223372036854775808 ≤ a) (h2 : a < 9223372036854775808) :
    Calls Tryd.prog 23 #[.int .i64 a] w (RetRat w (a : Rat)) := by
  have hrr := Rc.new w (.bool false) (.slice none 0 0) (.slice none 0 0)
  have hbA : Below w.heap.size w (w.alloc (.cells #[.bool false, .slice none 0 0, .slice none 0 0] 34)) := (Below.refl _ _).alloc (Nat.le_refl _) _
  go_enter Tryd.func23, Tryd.ntmps23
  go_wp2_with fail
  refine (Make_any a 1 _ (hT.below hbA) (by decide) (a : Rat) (qv_whole a) h1 h2 (by decide) (by decide)).mono ?_
  rintro e w1 ⟨v, rfl, hr, hb⟩
  obtain ⟨nb, A, n, c, B, m, d, rfl⟩ := hr.agg
  have hrr1 := hrr.below hb hrr.lt
  have hba : Below w1.heap.size w1 (w1.alloc (.cells #[.bool nb, .slice A n c, .slice B m d] 34)) := (Below.refl _ _).alloc (Nat.le_refl _) _
  have hx2 := Rc.new w1 (.bool nb) (.slice A n c) (.slice B m d)
  have hrr2 := hrr1.below hba hrr1.lt
  have hr2 := hr.below hba
  have hb2 : Below w.heap.size w _ := (hbA.trans (hb.mono hbA.size)).trans (hba.mono (Nat.le_trans hbA.size hb.size))
  obtain ⟨x0, x1, x2⟩ := hx2.cells
  obtain ⟨r0, r1, r2⟩ := hrr2.cells
  obtain ⟨f0, f1, f2⟩ := hrr2.frozen
  clear hrr hrr1 hbA hb hr
  go_wp2_with fail
  refine ret_rc Tryd.results23 rfl (hrr2.set _ _ _) rfl ?_
  exact ⟨_, rfl, hr2.set3 hrr2 _ _ _, below_set3 hb2 (Nat.le_refl _) _ _ _⟩
end Go.Proofs.YtdlmhgijpgnilaaDoor

namespace Go.Proofs.YtdlmhgijpgnilaaDoor
open Go.RowKit

/-- Between two rounds: the rank of what has been read. -/
structure RkI (w0 : World) (gb : Nat) (bv : Bool × Option Addr × Nat × Nat × Option Addr × Nat × Nat) (s : Int) (l : List Int) (k : Nat) (W : World) : Prop where
  res : Rc W w0.heap.size (.bool false) (.slice none 0 0) (.slice none 0 0)
  rank : ∃ nb A n c B m d, Rc W (w0.heap.size + 1) (.bool nb) (.slice A n c) (.slice B m d) ∧ RatQ W (.agg #[.bool nb, .slice A n c, .slice B m d]) ((rk s (l.take k) : Int) : Rat)
  base : Rc W gb (.bool bv.1) (.slice bv.2.1 bv.2.2.1 bv.2.2.2.1) (.slice bv.2.2.2.2.1 bv.2.2.2.2.2.1 bv.2.2.2.2.2.2) ∧ RatQ W (.agg #[.bool bv.1, .slice bv.2.1 bv.2.2.1 bv.2.2.2.1, .slice bv.2.2.2.2.1 bv.2.2.2.2.2.1 bv.2.2.2.2.2.2]) (s : Rat)
  below : Below w0.heap.size w0 W
theorem RatQ.far3c {w : World} {v : Value} {q : Rat} (h : RatQ w v q) {g : Nat} {x : Bool} {B1 B2 : Option Addr} {n1 c1 n2 c2 : Nat} (hr : Rc w g (.bool x) (.slice B1 n1 c1) (.slice B2 n2 c2)) (u0 u1 u2 : Value) : RatQ (((w.setCell ⟨g, 0, none⟩ u0).setCell ⟨g, 1, none⟩ u1).setCell ⟨g, 2, none⟩ u2) v q := h.set3 hr u0 u1 u2
set_option maxRecDepth 20000 in
set_option maxHeartbeats 4000000 in
theorem wRank_ok (A : Option Addr) (n c : Nat) (l : List Int) (s : Int) (w : World) (hT : Tab w) (h : Ints w l A n c) (hok : wok l s = true) :
    Calls Tryd.prog 13 #[.slice A n c, .int .i64 s] w (RetRatE w ((rk s l : Int) : Rat) 0) := by
  obtain ⟨hs1, hs2, hl, hm⟩ := wok_out hok
  have HN := Lib.hid h.len
  have HM := Lib.hid hm
  have HL := Lib.hid hl
  have HOK := Lib.hid hok
  have HR := Lib.hid h
  have HT := Lib.hid hT
  have hbA : Below w.heap.size w (w.alloc (.cells #[.bool false, .slice none 0 0, .slice none 0 0] 34)) := (Below.refl _ _).alloc (Nat.le_refl _) _
  have hbB := hbA.alloc hbA.size (.cells #[.bool false, .slice none 0 0, .slice none 0 0] 34)
  have r1 := (Rc.new w (.bool false) (.slice none 0 0) (.slice none 0 0)).alloc (.cells #[.bool false, .slice none 0 0, .slice none 0 0] 34)
  have r2 := Rc.new (w.alloc (.cells #[.bool false, .slice none 0 0, .slice none 0 0] 34)) (.bool false) (.slice none 0 0) (.slice none 0 0)
  rw [World.size_alloc] at r2
  clear hm hl hok h hT
  have hnn : n ≤ 256 := by have := HN.out; have := HL.out; omega
  go_enter Tryd.func13, Tryd.ntmps13
  go_wp2_with fail
  refine (wValid_any A n c l s _ (HR.out.below hbA) true HOK).mono ?_
  rintro e w' ⟨rfl, rfl⟩
  go_wp2_with fail
  generalize (w.alloc (.cells #[.bool false, .slice none 0 0, .slice none 0 0] 34)).alloc (.cells #[.bool false, .slice none 0 0, .slice none 0 0] 34) = W2 at *
  refine (number_any s _ (HT.out.below hbB) (by omega) (by omega)).mono ?_
  rintro e w3 ⟨vb, rfl, hb, hbC⟩
  obtain ⟨b0, bA, bn, bc, bB, bm, bd, rfl⟩ := hb.agg
  have hal : Below w3.heap.size w3 (w3.alloc (.cells #[.bool b0, .slice bA bn bc, .slice bB bm bd] 34)) := (Below.refl _ _).alloc (Nat.le_refl _) _
  have hs23 := hbC.size
  have hsw2 := hbB.size
  have hI0 : RkI w w3.heap.size (b0, bA, bn, bc, bB, bm, bd) s l 0 (w3.alloc (.cells #[.bool b0, .slice bA bn bc, .slice bB bm bd] 34)) := by
    have r1' := (r1.below hbC r1.lt).below hal (r1.below hbC r1.lt).lt
    have r2' := (r2.below hbC r2.lt).below hal (r2.below hbC r2.lt).lt
    refine ⟨r1', ⟨_, _, _, _, _, _, _, r2', ?_⟩, ⟨Rc.new _ _ _ _, hb.below hal⟩, (hbB.trans (hbC.mono hsw2)).trans (hal.mono (by omega))⟩
    rw [rkq_zero]
    exact ratq_zero _
  have hg3 : w.heap.size + 1 < w3.heap.size := (r2.below hbC r2.lt).lt
  clear hal hb r1 r2 hbA hbB hbC
  go_wp2_with fail
  generalize w3.alloc (.cells #[.bool b0, .slice bA bn bc, .slice bB bm bd] 34) = W4 at *
  go_loopw [9, 19] (fun _ i wr => ∃ k : Nat, k ≤ n ∧ i = .int .i64 (k : Int) ∧ RkI w w3.heap.size (b0, bA, bn, bc, bB, bm, bd) s l k wr) (fun _ i _ => (n - intOf i).toNat)
  case atStart => exact ⟨0, Nat.zero_le _, rfl, hI0⟩
  case round =>
    obtain ⟨k, hk, rfl, hI⟩ := hrel
    rcases Nat.lt_or_ge k n with hkn | hkn
    · obtain ⟨b, o, rfl, _, hcx⟩ := (HR.out.below hI.below).at_ hkn
      obtain ⟨x, hx⟩ : ∃ x, l.getD k 0 = x := ⟨_, rfl⟩
      have hxm := HM.out _ (mem_getD (l := l) (k := k) (by have := HN.out; omega))
      rw [hx] at hcx hxm
      have hst := rkq_step s l (k := k) (by have := HN.out; omega)
      have hz1 := rkq_sz HOK.out k (by have := HN.out; omega)
      have hz2 := rkq_sz HOK.out (k + 1) (by have := HN.out; omega)
      rw [hx] at hst
      obtain ⟨rb, rA, rn, rc, rB, rm, rd, hrr, hrq⟩ := hI.rank
      obtain ⟨r0, r1, r2⟩ := hrr.cells
      obtain ⟨c0, c1, c2⟩ := hI.base.1.cells
      have HI := Lib.hid hI
      have HRR := Lib.hid hrr
      obtain ⟨q0, hq0⟩ : ∃ q : Rat, ((rk s (l.take k) : Int) : Rat) = q := ⟨_, rfl⟩
      obtain ⟨q1, hq1⟩ : ∃ q : Rat, ((rk s (l.take (k + 1)) : Int) : Rat) = q := ⟨_, rfl⟩
      rw [hq0] at hrq hz1 hst
      rw [hq1] at hz2 hst
      have zs : Sz (s : Rat) 1 := sz_whole (by omega) (by omega)
      have zx : Sz (x : Rat) 1 := sz_whole (by omega) (by omega)
      have zm : Sz (q0 * (s : Rat)) (3 * k + 2) := sz_mul hz1 zs (by omega)
      have HRQ := Lib.hid hrq
      have HST := Lib.hid hst
      have HQ1 := Lib.hid hq1
      have HZ := Lib.hid (And.intro hz1 (And.intro zs (And.intro zx zm)))
      have HTr := Lib.hid (HT.out.below HI.out.below)
      clear hI hrr hst hz1 hz2 zs zx zm hrq hq0 hq1 hx
      go_wp2_with fail
      refine (Mul_any _ _ q0 (s : Rat) _ 1000 _ HTr.out (HRQ.out.inp (HZ.out.1.mono (by omega)) (by omega)) (HI.out.base.2.inp (HZ.out.2.1.mono (by omega)) (by omega)) (HZ.out.1.mono (by omega)) (HZ.out.2.1.mono (by omega)) rfl).mono ?_
      rintro e w5 ⟨v5, rfl, h5, hb5⟩
      obtain ⟨z0, zA, zn, zc, zB, zm, zd, rfl⟩ := h5.agg
      go_wp2_with fail
      refine (number_any x _ (HTr.out.below hb5) (by omega) (by omega)).mono ?_
      rintro e w6 ⟨v6, rfl, h6, hb6⟩
      obtain ⟨y0, yA, yn, yc, yB, ym, yd, rfl⟩ := h6.agg
      have hb56 := hb5.trans (hb6.mono hb5.size)
      go_wp2_with fail
      refine (Add_any _ _ (q0 * (s : Rat)) (x : Rat) q1 1000 _ (HTr.out.below hb56) ((h5.below hb6).inp (HZ.out.2.2.2.mono (by omega)) (by omega)) (h6.inp (HZ.out.2.2.1.mono (by omega)) (by omega)) (HZ.out.2.2.2.mono (by omega)) (HZ.out.2.2.1.mono (by omega)) HST.out.symm).mono ?_
      rintro e w7 ⟨v7, rfl, h7, hb7⟩
      have hb57 := hb56.trans (hb7.mono hb56.size)
      obtain ⟨t0, tA, tn, tc, tB, tm, td, rfl⟩ := h7.agg
      have hr7 := HRR.out.below hb57 HRR.out.lt
      obtain ⟨p0, p1, p2⟩ := hr7.cells
      obtain ⟨f0, f1, f2⟩ := hr7.frozen
      have hres := (HI.out.res.below hb57 HI.out.res.lt).far3 (g' := w.heap.size + 1) (by omega) (.bool t0) (.slice tA tn tc) (.slice tB tm td)
      have hbas := (HI.out.base.1.below hb57 HI.out.base.1.lt).far3 (g' := w.heap.size + 1) (by omega) (.bool t0) (.slice tA tn tc) (.slice tB tm td)
      have hbaq := (HI.out.base.2.below hb57).set3 hr7 (.bool t0) (.slice tA tn tc) (.slice tB tm td)
      have hrk := hr7.set (.bool t0) (.slice tA tn tc) (.slice tB tm td)
      have hrkq := h7.set3 hr7 (.bool t0) (.slice tA tn tc) (.slice tB tm td)
      rw [← HQ1.out] at hrkq
      have hbel := below_set3 (HI.out.below.trans (hb57.mono HI.out.below.size)) (g := w.heap.size + 1) (by omega) (.bool t0) (.slice tA tn tc) (.slice tB tm td)
      have HEND : Hid (RkI w w3.heap.size (b0, bA, bn, bc, bB, bm, bd) s l (k + 1) _) := Lib.hid ⟨hres, ⟨_, _, _, _, _, _, _, hrk, hrkq⟩, ⟨hbas, hbaq⟩, hbel⟩
      clear hres hbas hbaq hrk hrkq hbel hr7 h7 hb7 hb57 hb56 hb6 hb5 h5 h6 r0 r1 r2 c0 c1 c2
      go_wp2_with fail
      go_roundw
      case rel => exact ⟨k + 1, by omega, by go_num, HEND.out⟩
      case measure => simp [intOf]; omega
    · obtain rfl : k = n := by omega
      obtain ⟨rb, rA, rn, rc, rB, rm, rd, hrr, hrq⟩ := hI.rank
      rw [List.take_of_length_le (by have := HN.out; omega)] at hrq
      obtain ⟨r0, r1, r2⟩ := hrr.cells
      obtain ⟨p0, p1, p2⟩ := hI.res.cells
      obtain ⟨f0, f1, f2⟩ := hI.res.frozen
      have HEND := Lib.hid (And.intro (hI.res.set (.bool rb) (.slice rA rn rc) (.slice rB rm rd)) (And.intro (hrq.set3 hI.res (.bool rb) (.slice rA rn rc) (.slice rB rm rd)) (below_set3 hI.below (Nat.le_refl _) (.bool rb) (.slice rA rn rc) (.slice rB rm rd))))
      clear hI hrr hrq hI0
      go_wp2_with fail
      refine ret_rc_tmp Tryd.results13 rfl rfl HEND.out.1 rfl ?_
      exact ⟨_, rfl, HEND.out.2.1, HEND.out.2.2⟩
set_option maxRecDepth 20000 in
set_option maxHeartbeats 1000000 in
theorem wRank_bad (A : Option Addr) (n c : Nat) (l : List Int) (s : Int) (w : World) (h : Ints w l A n c) (hok : wok l s = false) :
    Calls Tryd.prog 13 #[.slice A n c, .int .i64 s] w (RetRatE w 0 9) := by
  have HOK := Lib.hid hok
  have hbA : Below w.heap.size w (w.alloc (.cells #[.bool false, .slice none 0 0, .slice none 0 0] 34)) := (Below.refl _ _).alloc (Nat.le_refl _) _
  have r1 := Rc.new w (.bool false) (.slice none 0 0) (.slice none 0 0)
  have h1 := h.below hbA
  obtain ⟨p0, p1, p2⟩ := r1.cells
  obtain ⟨f0, f1, f2⟩ := r1.frozen
  have HEND := Lib.hid (And.intro r1 hbA)
  clear h hok hbA r1
  go_enter Tryd.func13, Tryd.ntmps13
  go_wp2_with fail
  refine (wValid_any A n c l s _ h1 false HOK).mono ?_
  rintro e w' ⟨rfl, rfl⟩
  go_wp2_with fail
  refine ret_rc_tmp Tryd.results13 rfl rfl HEND.out.1 rfl ?_
  exact ⟨_, rfl, ratq_zero _, HEND.out.2⟩
theorem wRank_any (A : Option Addr) (n c : Nat) (l : List Int) (s : Int) (w : World) (hT : Tab w) (h : Ints w l A n c) :
    Calls Tryd.prog 13 #[.slice A n c, .int .i64 s] w (RetRatE w (rankA l s).1 (rankA l s).2) := by
  by_cases hok : wok l s = true
  · have := wRank_ok A n c l s w hT h hok
    unfold rankA
    rw [if_pos hok]; exact this
  · have hok2 : wok l s = false := by simpa using hok
    have := wRank_bad A n c l s w h hok2
    unfold rankA
    rw [if_neg hok]; exact this
end Go.Proofs.YtdlmhgijpgnilaaDoor

namespace Go.Proofs.YtdlmhgijpgnilaaDoor
open Go.RowKit

theorem next12 : nextA [1, 2] 2 = ([2, 1], 0) := by decide
theorem rank21 : ((rk 2 [2, 1] : Int) : Rat) = ((5 : Int) : Rat) := by rfl
set_option maxRecDepth 20000 in
set_option maxHeartbeats 4000000 in
theorem awake5_any (w : World) (hT : Tab w) : Calls Tryd.prog 5 #[] w (RetV w (.bool true)) := by
  have hb0 : Below w.heap.size w (w.alloc (.cells #[.int .i64 2, .int .i64 1] 3)) := (Below.refl _ _).alloc (Nat.le_refl _) _
  have hi : Ints (w.alloc (.cells #[.int .i64 2, .int .i64 1] 3)) [2, 1] (some ⟨w.heap.size, 0, none⟩) 2 2 := Rd.lits w (ints [2, 1]) _ rfl
  have HT := Lib.hid hT
  clear hT
  go_enter Tryd.func5, Tryd.ntmps5
  go_wp2_with fail
  generalize w.alloc (.cells #[.int .i64 2, .int .i64 1] 3) = W0 at *
  refine (wRank_ok _ 2 2 [2, 1] 2 _ (HT.out.below hb0) hi (by decide)).mono ?_
  rintro e w1 ⟨v, rfl, hr, hb1⟩
  rw [rank21] at hr
  obtain ⟨nb, A, n, c, B, m, d, rfl⟩ := hr.agg
  have hz0 := hb0.size
  replace hb1 := hb0.trans (hb1.mono hz0)
  clear hi hb0
  have hal : Below w1.heap.size w1 (w1.alloc (.cells #[.bool nb, .slice A n c, .slice B m d] 34)) := (Below.refl _ _).alloc (Nat.le_refl _) _
  have hx := Rc.new w1 (.bool nb) (.slice A n c) (.slice B m d)
  replace hr := hr.below hal
  have hz1 := hb1.size
  replace hb1 := hb1.trans (hal.mono hz1)
  have hbl : Below (w1.alloc (.cells #[.bool nb, .slice A n c, .slice B m d] 34)).heap.size (w1.alloc (.cells #[.bool nb, .slice A n c, .slice B m d] 34)) ((w1.alloc (.cells #[.bool nb, .slice A n c, .slice B m d] 34)).alloc (.cells #[.int .i64 1, .int .i64 2] 3)) := (Below.refl _ _).alloc (Nat.le_refl _) _
  have hi : Ints ((w1.alloc (.cells #[.bool nb, .slice A n c, .slice B m d] 34)).alloc (.cells #[.int .i64 1, .int .i64 2] 3)) [1, 2] (some ⟨(w1.alloc (.cells #[.bool nb, .slice A n c, .slice B m d] 34)).heap.size, 0, none⟩) 2 2 := Rd.lits _ (ints [1, 2]) _ rfl
  rw [World.size_alloc] at hi
  replace hx := hx.below hbl hx.lt
  replace hr := hr.below hbl
  replace hb1 := hb1.trans (hbl.mono hb1.size)
  clear hal hbl
  go_wp2_with fail
  generalize (w1.alloc (.cells #[.bool nb, .slice A n c, .slice B m d] 34)).alloc (.cells #[.int .i64 1, .int .i64 2] 3) = W2 at *
  refine (wNext_any _ 2 2 [1, 2] 2 _ hi).mono ?_
  rw [next12]
  rintro e w3 ⟨v3, rfl, ho, hb3⟩
  replace hx := hx.below hb3 hx.lt
  replace hr := hr.below hb3
  replace hb1 := hb1.trans (hb3.mono hb1.size)
  obtain ⟨A3, c3, rfl, -⟩ := ho.shape
  obtain ⟨A4, c4, h4, hrd⟩ := ho.reads
  injection h4 with h5 _ h6
  subst h5 h6
  clear ho hb3 hi
  go_wp2_with fail
  replace hx : Rc w3.drew w1.heap.size (.bool nb) (.slice A n c) (.slice B m d) := hx
  replace hr := hr.drew1
  replace hrd : Ints w3 [2, 1] A3 2 c3 := hrd
  replace hrd := hrd.below (Below.refl _ _).drew
  have hb9 := hb1.drew
  have hrl : (w3.drew.cell? ⟨w1.heap.size, 0, none⟩ = some (.bool nb) ∧ w3.drew.cell? ⟨w1.heap.size, 1, none⟩ = some (.slice A n c) ∧ w3.drew.cell? ⟨w1.heap.size, 2, none⟩ = some (.slice B m d)) := hx.cells
  clear hb1
  have s5 : Sz ((5 : Int) : Rat) 1 := sz_whole (by decide) (by omega)
  go_region_held3 (fun w' => (w'.cell? ⟨w1.heap.size, 0, none⟩ = some (.bool nb) ∧ w'.cell? ⟨w1.heap.size, 1, none⟩ = some (.slice A n c) ∧ w'.cell? ⟨w1.heap.size, 2, none⟩ = some (.slice B m d)))
    (first | with_reducible exact hrl | ((with_reducible refine ⟨?_, ?_, ?_⟩) <;> (repeat' (first | (with_reducible exact hrl.1) | (with_reducible exact hrl.2.1) | (with_reducible exact hrl.2.2) | (with_reducible refine cell_alc _ ?_) | omega))) | fail)
    (first
      | (go_at_call 15; refine (r_Of 5 1 _ (by decide) ((5 : Int) : Rat) (qv_whole 5) (by decide) (by decide) (by decide) (by decide)).mono ?_; rintro e0 x1 ⟨v1, rfl, h1, hbk⟩; replace hx := hx.below hbk hx.lt; replace hr := hr.below hbk; replace hrd := hrd.below hbk; replace hb9 := hb9.trans (hbk.mono hb9.size); obtain ⟨nb1, B1, n1, c1, B2, m1, d1, rfl⟩ := h1.agg; have hrl : (x1.cell? ⟨w1.heap.size, 0, none⟩ = some (.bool nb) ∧ x1.cell? ⟨w1.heap.size, 1, none⟩ = some (.slice A n c) ∧ x1.cell? ⟨w1.heap.size, 2, none⟩ = some (.slice B m d)) := hx.cells)
      | (go_at_call 14; refine (r_Same_true _ _ _ _ _ 1 hr h1 s5 (by omega) rfl).mono ?_; rintro e0 x2 ⟨rfl, hbk⟩; replace hx := hx.below hbk hx.lt; have hrl : (x2.cell? ⟨w1.heap.size, 0, none⟩ = some (.bool nb) ∧ x2.cell? ⟨w1.heap.size, 1, none⟩ = some (.slice A n c) ∧ x2.cell? ⟨w1.heap.size, 2, none⟩ = some (.slice B m d)) := hx.cells; replace hrd := hrd.below hbk; replace hb9 := hb9.trans (hbk.mono hb9.size); have hal : Below x2.heap.size x2 (x2.alloc (.cells #[.int .i64 2, .int .i64 1] 3)) := (Below.refl _ _).alloc (Nat.le_refl _) _; have hi2 : Ints (x2.alloc (.cells #[.int .i64 2, .int .i64 1] 3)) [2, 1] (some ⟨x2.heap.size, 0, none⟩) 2 2 := Rd.lits _ (ints [2, 1]) _ rfl; replace hrd := hrd.below hal; replace hx := hx.below hal hx.lt; replace hb9 := hb9.trans (hal.mono hb9.size))
      | (go_at_call 12; refine (qSame_any _ _ 2 _ 2 _ [2, 1] [2, 1] _ true hrd hi2 (by omega) (by omega) (Lib.hid (by decide))).mono ?_; rintro e0 x3 ⟨rfl, qk, rfl⟩; replace hb9 := hb9.trans (below_of_drewN _ qk _); replace hx := hx.drewN qk; have hrl : (((x2.alloc (.cells #[.int .i64 2, .int .i64 1] 3)).drewN qk).cell? ⟨w1.heap.size, 0, none⟩ = some (.bool nb) ∧ ((x2.alloc (.cells #[.int .i64 2, .int .i64 1] 3)).drewN qk).cell? ⟨w1.heap.size, 1, none⟩ = some (.slice A n c) ∧ ((x2.alloc (.cells #[.int .i64 2, .int .i64 1] 3)).drewN qk).cell? ⟨w1.heap.size, 2, none⟩ = some (.slice B m d)) := hx.cells))
  all_goals
    go_wp2_with fail
    go_ret
    exact ⟨rfl, hb9⟩
def lightB (n : Nat) : Bool := decide (n ≤ 20) || (decide (255 ≤ n) && decide (n ≤ 258))
set_option maxHeartbeats 1000000 in
theorem light5_any (A : Option Addr) (n c : Nat) (w : World) (V : Bool) (H : Hid (lightB n = V)) : Calls Tryd.prog 4 #[.slice A n c] w (RetE w (.bool V)) := by
  by_cases h1 : (n : Int) ≤ 20
  · have hV : V = true := by rw [← H.out]; unfold lightB; rw [decide_eq_true (show n ≤ 20 by omega)]; rfl
    subst hV
    clear H
    go_enter Tryd.func4, Tryd.ntmps4
    go_wp2_with fail
    go_ret
    exact ⟨rfl, rfl⟩
  · by_cases h2 : (255 : Int) ≤ (n : Int)
    · by_cases h3 : (n : Int) ≤ 258
      · have hV : V = true := by rw [← H.out]; unfold lightB; rw [decide_eq_false (show ¬ n ≤ 20 by omega), decide_eq_true (show 255 ≤ n by omega), decide_eq_true (show n ≤ 258 by omega)]; rfl
        subst hV
        clear H
        go_enter Tryd.func4, Tryd.ntmps4
        go_wp2_with fail
        go_ret
        exact ⟨rfl, rfl⟩
      · have hV : V = false := by rw [← H.out]; unfold lightB; rw [decide_eq_false (show ¬ n ≤ 20 by omega), decide_eq_true (show 255 ≤ n by omega), decide_eq_false (show ¬ n ≤ 258 by omega)]; rfl
        subst hV
        clear H
        go_enter Tryd.func4, Tryd.ntmps4
        go_wp2_with fail
        go_ret
        exact ⟨rfl, rfl⟩
    · have hV : V = false := by rw [← H.out]; unfold lightB; rw [decide_eq_false (show ¬ n ≤ 20 by omega), decide_eq_false (show ¬ 255 ≤ n by omega)]; rfl
      subst hV
      clear H
      go_enter Tryd.func4, Tryd.ntmps4
      go_wp2_with fail
      go_ret
      exact ⟨rfl, rfl⟩
theorem nextA_len (l : List Int) (s : Int) : (nextA l s).1.length ≤ 256 := by
  unfold nextA
  split
  · split
    · assumption
    · simp
  · simp
set_option maxRecDepth 20000 in
set_option maxHeartbeats 4000000 in
theorem follow_law (A : Option Addr) (n c : Nat) (l : List Int) (A' : Option Addr) (n' c' : Nat) (r : List Int) (s : Int) (w : World) (hT : Tab w) (h : Ints w l A n c) (h' : Ints w r A' n' c') (_ : -9223372036854775808 ≤ s) (_ : s ≤ 9223372036854775807) :
    Calls Tryd.prog 3 #[.slice A n c, .slice A' n' c', .int .i64 s] w (RetV w (.bool true)) := by
  obtain ⟨V0, hV0⟩ : ∃ V, lightB n = V := ⟨_, rfl⟩
  obtain ⟨V1, hV1⟩ : ∃ V, lightB n' = V := ⟨_, rfl⟩
  have H0 := Lib.hid hV0
  have H1 := Lib.hid hV1
  cases V0 with
  | false =>
    clear hV0 hV1
    go_enter Tryd.func3, Tryd.ntmps3
    go_wp2_with fail
    refine (light5_any A n c _ false H0).mono ?_
    rintro e w' ⟨rfl, rfl⟩
    go_wp2_with fail
    refine (awake5_any _ hT).mono ?_
    rintro e w' ⟨rfl, hb⟩
    go_wp2_with fail
    go_ret
    exact ⟨rfl, hb⟩
  | true =>
    cases V1 with
    | false =>
      clear hV0 hV1
      go_enter Tryd.func3, Tryd.ntmps3
      go_wp2_with fail
      refine (light5_any A n c _ true H0).mono ?_
      rintro e w' ⟨rfl, rfl⟩
      go_wp2_with fail
      refine (light5_any A' n' c' _ false H1).mono ?_
      rintro e w' ⟨rfl, rfl⟩
      go_wp2_with fail
      refine (awake5_any _ hT).mono ?_
      rintro e w' ⟨rfl, hb⟩
      go_wp2_with fail
      go_ret
      exact ⟨rfl, hb⟩
    | true =>
      have hn : n ≤ 258 := by
        unfold lightB at hV0
        simp at hV0
        omega
      have hn' : n' ≤ 258 := by
        unfold lightB at hV1
        simp at hV1
        omega
      clear hV0 hV1
      have HT := Lib.hid hT
      obtain ⟨V, hV⟩ : ∃ V, wok l s = V := ⟨_, rfl⟩
      obtain ⟨C, hC⟩ : ∃ V, cmpW l r = V := ⟨_, rfl⟩
      obtain ⟨E, hE⟩ : ∃ V, (nextA l s).2 = V := ⟨_, rfl⟩
      have hm := nextA_len l s
      obtain ⟨x, hx⟩ : ∃ x, (nextA l s).1 = x := ⟨_, rfl⟩
      rw [hx] at hm
      have hVV : (V == V) = true := by simp
      have hCC : (C == C) = true := by simp
      have hEE : (E == E) = true := by simp
      have HV := Lib.hid hV
      have HC := Lib.hid hC
      have HE := Lib.hid hE
      have HX := Lib.hid hx
      clear hV hC hE hx hT
      go_enter Tryd.func3, Tryd.ntmps3
      go_wp2_with fail
      refine (light5_any A n c _ true H0).mono ?_
      rintro e w' ⟨rfl, rfl⟩
      go_wp2_with fail
      refine (light5_any A' n' c' _ true H1).mono ?_
      rintro e w' ⟨rfl, rfl⟩
      go_wp2_with fail
      refine (wNext_any A n c l s _ h).mono ?_
      rw [HE.out, HX.out]
      rintro e w1 ⟨v1, rfl, ho1, hb1⟩
      obtain ⟨A1, c1, rfl, hr1⟩ := ho1.reads
      clear ho1
      go_wp2_with fail
      refine (qNext_any A n c l s _ (h.below hb1)).mono ?_
      rw [HE.out, HX.out]
      rintro e w2 ⟨v2, rfl, ho2, hb2⟩
      obtain ⟨A2, c2, rfl, hr2⟩ := ho2.reads
      replace hr1 := hr1.below hb2
      replace hb1 := hb1.trans (hb2.mono hb1.size)
      clear ho2 hb2
      go_wp2_with fail
      refine (awake5_any _ (HT.out.below hb1)).mono ?_
      rintro e w3 ⟨rfl, hb3⟩
      replace hr1 := hr1.below hb3
      replace hr2 := hr2.below hb3
      replace hb1 := hb1.trans (hb3.mono hb1.size)
      clear hb3
      go_wp2_with fail
      refine (wValid_any A n c l s _ (h.below hb1) V HV).mono ?_
      rintro e w' ⟨rfl, rfl⟩
      go_wp2_with fail
      refine (qValid_any A n c l s _ (h.below hb1) V HV).mono ?_
      rintro e w' ⟨rfl, rfl⟩
      go_wp2_with fail
      refine (wCompare_any A A' n c n' c' l r _ C (h.below hb1) (h'.below hb1) (by omega) (by omega) HC).mono ?_
      rintro e w' ⟨rfl, rfl⟩
      go_wp2_with fail
      refine (qCompare_any A A' n c n' c' l r _ C (h.below hb1) (h'.below hb1) (by omega) (by omega) HC).mono ?_
      rintro e w4 ⟨rfl, qk, rfl⟩
      replace hr1 := hr1.drewN qk
      replace hr2 := hr2.drewN qk
      replace hb1 := hb1.trans (below_of_drewN _ qk _)
      go_wp2_with fail
      refine (qSame_any A1 A2 _ c1 _ c2 x x _ true hr1 hr2 (by omega) (by omega) (Lib.hid (by simp))).mono ?_
      rintro e w5 ⟨rfl, qk2, rfl⟩
      replace hb1 := hb1.trans (below_of_drewN _ qk2 _)
      go_wp2_with fail
      go_ret
      rw [World.drewN_drewN] at hb1
      exact ⟨rfl, hb1⟩
end Go.Proofs.YtdlmhgijpgnilaaDoor
