/- number and Rank. -/
import Derived.Test.YtdlmhgijpgnilaaGreatDoorQ26
import Derived.Test.YtdlmhgijpgnilaaGreatDoorQ20
import Derived.Test.YtdlmhgijpgnilaaGreatDoorQ22
import Derived.Test.YtdlmhgijpgnilaaGreatDoorQ19
import Derived.Deep.RegionHeld3
import Derived.Deep.CutRange
set_option linter.unusedVariables false
set_option linter.unusedSimpArgs false
namespace Go.Proofs.YtdlmhgijpgnilaaGreatDoor
open Go.RowKit

theorem qv_whole (a : Int) : qv (decide (a < 0) != decide ((1 : Int) < 0)) a.natAbs (1 : Int).natAbs = (a : Rat) := by
  unfold qv
  have h : sgn (decide (a < 0) != decide ((1 : Int) < 0)) a.natAbs = a := by
    unfold sgn
    by_cases ha : a < 0
    · rw [decide_eq_true ha]; simp; omega
    · rw [decide_eq_false ha]; simp; omega
  rw [h]
  exact Rat.mkRat_one a
theorem sz_whole {a : Int} {L : Nat} (h : a.natAbs < 4294967296) (hL : 1 ≤ L) : Sz (a : Rat) L := by
  refine ⟨?_, ?_⟩
  · rw [Rat.num_intCast]; exact Nat.le_trans (small_len h) hL
  · rw [Rat.den_intCast]; exact Nat.le_trans (small_len (by decide)) hL
theorem rkq_step (s : Int) (l : List Int) {k : Nat} (hk : k < l.length) : ((rk s (l.take (k + 1)) : Int) : Rat) = ((rk s (l.take k) : Int) : Rat) * ((s : Int) : Rat) + ((l.getD k 0 : Int) : Rat) := by
  rw [rk_take s l hk, Rat.intCast_add, Rat.intCast_mul]
theorem rkq_sz {s : Int} {l : List Int} (h : wok l s = true) : ∀ k, k ≤ l.length → Sz ((rk s (l.take k) : Int) : Rat) (3 * k + 1)
  | 0, _ => by
    rw [List.take_zero]
    exact sz_zero _ (by omega)
  | k + 1, hk => by
    obtain ⟨h1, h2, h3, h4⟩ := wok_out h
    have hx := h4 _ (mem_getD (k := k) (by omega))
    rw [rkq_step s l (by omega)]
    exact sz_add (sz_mul (rkq_sz h k (by omega)) (sz_whole (a := s) (L := 1) (by omega) (by omega)) (Nat.le_refl _)) (sz_whole (a := l.getD k 0) (L := 1) (by omega) (by omega)) (by omega)
theorem rkq_zero (s : Int) (l : List Int) : ((rk s (l.take 0) : Int) : Rat) = 0 := by rw [List.take_zero]; rfl
/-- The answer of Rank. -/
def rankA (l : List Int) (s : Int) : Rat × Int := if wok l s = true then (((rk s l : Int) : Rat), 0) else (0, 9)
set_option maxRecDepth 20000 in
set_option maxHeartbeats 1000000 in
theorem number_any (a : Int) (w : World) (hT : Tab w) (h1 : -9223372036854775808 ≤ a) (h2 : a < 9223372036854775808) :
    Calls Tryz.prog 29 #[.int .i64 a] w (RetRat w (a : Rat)) := by
  have hrr := Rc.new w (.bool false) (.slice none 0 0) (.slice none 0 0)
  have hbA : Below w.heap.size w (w.alloc (.cells #[.bool false, .slice none 0 0, .slice none 0 0] 25)) := (Below.refl _ _).alloc (Nat.le_refl _) _
  go_enter Tryz.func29, Tryz.ntmps29
  go_wp2_with fail
  refine (Make_any a 1 _ (hT.below hbA) (by decide) (a : Rat) (qv_whole a) h1 h2 (by decide) (by decide)).mono ?_
  rintro e w1 ⟨v, rfl, hr, hb⟩
  obtain ⟨nb, A, n, c, B, m, d, rfl⟩ := hr.agg
  have hrr1 := hrr.below hb hrr.lt
  have hba : Below w1.heap.size w1 (w1.alloc (.cells #[.bool nb, .slice A n c, .slice B m d] 25)) := (Below.refl _ _).alloc (Nat.le_refl _) _
  have hx2 := Rc.new w1 (.bool nb) (.slice A n c) (.slice B m d)
  have hrr2 := hrr1.below hba hrr1.lt
  have hr2 := hr.below hba
  have hb2 : Below w.heap.size w _ := (hbA.trans (hb.mono hbA.size)).trans (hba.mono (Nat.le_trans hbA.size hb.size))
  obtain ⟨x0, x1, x2⟩ := hx2.cells
  obtain ⟨r0, r1, r2⟩ := hrr2.cells
  obtain ⟨f0, f1, f2⟩ := hrr2.frozen
  clear hrr hrr1 hbA hb hr
  go_wp2_with fail
  refine ret_rc Tryz.results29 rfl (hrr2.set _ _ _) rfl ?_
  exact ⟨_, rfl, hr2.set3 hrr2 _ _ _, below_set3 hb2 (Nat.le_refl _) _ _ _⟩
end Go.Proofs.YtdlmhgijpgnilaaGreatDoor

namespace Go.Proofs.YtdlmhgijpgnilaaGreatDoor
open Go.RowKit

/-- Between two rounds: the rank of what has been read. -/
structure RkI (w0 : World) (gb : Nat) (bv : Bool × Option Addr × Nat × Nat × Option Addr × Nat × Nat) (s : Int) (l : List Int) (k : Nat) (W : World) : Prop where
  res : Rc W w0.heap.size (.bool false) (.slice none 0 0) (.slice none 0 0)
  rank : ∃ nb A n c B m d, Rc W (w0.heap.size + 1) (.bool nb) (.slice A n c) (.slice B m d) ∧ RatQ W (.agg #[.bool nb, .slice A n c, .slice B m d]) ((rk s (l.take k) : Int) : Rat)
  base : Rc W gb (.bool bv.1) (.slice bv.2.1 bv.2.2.1 bv.2.2.2.1) (.slice bv.2.2.2.2.1 bv.2.2.2.2.2.1 bv.2.2.2.2.2.2) ∧ RatQ W (.agg #[.bool bv.1, .slice bv.2.1 bv.2.2.1 bv.2.2.2.1, .slice bv.2.2.2.2.1 bv.2.2.2.2.2.1 bv.2.2.2.2.2.2]) (s : Rat)
  below : Below w0.heap.size w0 W
theorem RatQ.far3c {w : World} {v : Value} {q : Rat} (h : RatQ w v q) {g : Nat} {x : Bool} {B1 B2 : Option Addr} {n1 c1 n2 c2 : Nat} (hr : Rc w g (.bool x) (.slice B1 n1 c1) (.slice B2 n2 c2)) (u0 u1 u2 : Value) : RatQ (((w.setCell ⟨g, 0, none⟩ u0).setCell ⟨g, 1, none⟩ u1).setCell ⟨g, 2, none⟩ u2) v q := h.set3 hr u0 u1 u2
set_option maxRecDepth 20000 in
set_option maxHeartbeats 4000000 in
theorem wRank_ok (A : Option Addr) (n c : Nat) (l : List Int) (s : Int) (w : World) (hT : Tab w) (h : Ints w l A n c) (hok : wok l s = true) :
    Calls Tryz.prog 9 #[.slice A n c, .int .i64 s] w (RetRatE w ((rk s l : Int) : Rat) 0) := by
  obtain ⟨hs1, hs2, hl, hm⟩ := wok_out hok
  have HN := Lib.hid h.len
  have HM := Lib.hid hm
  have HL := Lib.hid hl
  have HOK := Lib.hid hok
  have HR := Lib.hid h
  have HT := Lib.hid hT
  have hbA : Below w.heap.size w (w.alloc (.cells #[.bool false, .slice none 0 0, .slice none 0 0] 25)) := (Below.refl _ _).alloc (Nat.le_refl _) _
  have hbB := hbA.alloc hbA.size (.cells #[.bool false, .slice none 0 0, .slice none 0 0] 25)
  have r1 := (Rc.new w (.bool false) (.slice none 0 0) (.slice none 0 0)).alloc (.cells #[.bool false, .slice none 0 0, .slice none 0 0] 25)
  have r2 := Rc.new (w.alloc (.cells #[.bool false, .slice none 0 0, .slice none 0 0] 25)) (.bool false) (.slice none 0 0) (.slice none 0 0)
  rw [World.size_alloc] at r2
  clear hm hl hok h hT
  have hnn : n ≤ 256 := by have := HN.out; have := HL.out; omega
  go_enter Tryz.func9, Tryz.ntmps9
  go_wp2_with fail
  refine (wValid_any A n c l s _ (HR.out.below hbA) true HOK).mono ?_
  rintro e w' ⟨rfl, rfl⟩
  go_wp2_with fail
  generalize (w.alloc (.cells #[.bool false, .slice none 0 0, .slice none 0 0] 25)).alloc (.cells #[.bool false, .slice none 0 0, .slice none 0 0] 25) = W2 at *
  refine (number_any s _ (HT.out.below hbB) (by omega) (by omega)).mono ?_
  rintro e w3 ⟨vb, rfl, hb, hbC⟩
  obtain ⟨b0, bA, bn, bc, bB, bm, bd, rfl⟩ := hb.agg
  have hal : Below w3.heap.size w3 (w3.alloc (.cells #[.bool b0, .slice bA bn bc, .slice bB bm bd] 25)) := (Below.refl _ _).alloc (Nat.le_refl _) _
  have hs23 := hbC.size
  have hsw2 := hbB.size
  have hI0 : RkI w w3.heap.size (b0, bA, bn, bc, bB, bm, bd) s l 0 (w3.alloc (.cells #[.bool b0, .slice bA bn bc, .slice bB bm bd] 25)) := by
    have r1' := (r1.below hbC r1.lt).below hal (r1.below hbC r1.lt).lt
    have r2' := (r2.below hbC r2.lt).below hal (r2.below hbC r2.lt).lt
    refine ⟨r1', ⟨_, _, _, _, _, _, _, r2', ?_⟩, ⟨Rc.new _ _ _ _, hb.below hal⟩, (hbB.trans (hbC.mono hsw2)).trans (hal.mono (by omega))⟩
    rw [rkq_zero]
    exact ratq_zero _
  have hg3 : w.heap.size + 1 < w3.heap.size := (r2.below hbC r2.lt).lt
  clear hal hb r1 r2 hbA hbB hbC
  go_wp2_with fail
  generalize w3.alloc (.cells #[.bool b0, .slice bA bn bc, .slice bB bm bd] 25) = W4 at *
  go_loopw [9, 19] (fun _ i wr => ∃ k : Nat, k ≤ n ∧ i = .int .i64 (k : Int) ∧ RkI w w3.heap.size (b0, bA, bn, bc, bB, bm, bd) s l k wr) (fun _ i _ => (n - intOf i).toNat)
  case atStart => exact ⟨0, Nat.zero_le _, rfl, hI0⟩
  case round =>
    obtain ⟨k, hk, rfl, hI⟩ := hrel
    rcases Nat.lt_or_ge k n with hkn | hkn
    · obtain ⟨b, o, rfl, _, hcx⟩ := (HR.out.below hI.below).at_ hkn
      obtain ⟨x, hx⟩ : ∃ x, l.getD k 0 = x := ⟨_, rfl⟩
      have hxm := HM.out _ (mem_getD (l := l) (k := k) (by have := HN.out; omega))
      rw [hx] at hcx hxm
      have hst := rkq_step s l (k := k) (by have := HN.out; omega)
      have hz1 := rkq_sz HOK.out k (by have := HN.out; omega)
      have hz2 := rkq_sz HOK.out (k + 1) (by have := HN.out; omega)
      rw [hx] at hst
      obtain ⟨rb, rA, rn, rc, rB, rm, rd, hrr, hrq⟩ := hI.rank
      obtain ⟨r0, r1, r2⟩ := hrr.cells
      obtain ⟨c0, c1, c2⟩ := hI.base.1.cells
      have HI := Lib.hid hI
      have HRR := Lib.hid hrr
      obtain ⟨q0, hq0⟩ : ∃ q : Rat, ((rk s (l.take k) : Int) : Rat) = q := ⟨_, rfl⟩
      obtain ⟨q1, hq1⟩ : ∃ q : Rat, ((rk s (l.take (k + 1)) : Int) : Rat) = q := ⟨_, rfl⟩
      rw [hq0] at hrq hz1 hst
      rw [hq1] at hz2 hst
      have zs : Sz (s : Rat) 1 := sz_whole (by omega) (by omega)
      have zx : Sz (x : Rat) 1 := sz_whole (by omega) (by omega)
      have zm : Sz (q0 * (s : Rat)) (3 * k + 2) := sz_mul hz1 zs (by omega)
      have HRQ := Lib.hid hrq
      have HST := Lib.hid hst
      have HQ1 := Lib.hid hq1
      have HZ := Lib.hid (And.intro hz1 (And.intro zs (And.intro zx zm)))
      have HTr := Lib.hid (HT.out.below HI.out.below)
      clear hI hrr hst hz1 hz2 zs zx zm hrq hq0 hq1 hx
      go_wp2_with fail
      refine (Mul_any _ _ q0 (s : Rat) _ 1000 _ HTr.out (HRQ.out.inp (HZ.out.1.mono (by omega)) (by omega)) (HI.out.base.2.inp (HZ.out.2.1.mono (by omega)) (by omega)) (HZ.out.1.mono (by omega)) (HZ.out.2.1.mono (by omega)) rfl).mono ?_
      rintro e w5 ⟨v5, rfl, h5, hb5⟩
      obtain ⟨z0, zA, zn, zc, zB, zm, zd, rfl⟩ := h5.agg
      go_wp2_with fail
      refine (number_any x _ (HTr.out.below hb5) (by omega) (by omega)).mono ?_
      rintro e w6 ⟨v6, rfl, h6, hb6⟩
      obtain ⟨y0, yA, yn, yc, yB, ym, yd, rfl⟩ := h6.agg
      have hb56 := hb5.trans (hb6.mono hb5.size)
      go_wp2_with fail
      refine (Add_any _ _ (q0 * (s : Rat)) (x : Rat) q1 1000 _ (HTr.out.below hb56) ((h5.below hb6).inp (HZ.out.2.2.2.mono (by omega)) (by omega)) (h6.inp (HZ.out.2.2.1.mono (by omega)) (by omega)) (HZ.out.2.2.2.mono (by omega)) (HZ.out.2.2.1.mono (by omega)) HST.out.symm).mono ?_
      rintro e w7 ⟨v7, rfl, h7, hb7⟩
      have hb57 := hb56.trans (hb7.mono hb56.size)
      obtain ⟨t0, tA, tn, tc, tB, tm, td, rfl⟩ := h7.agg
      have hr7 := HRR.out.below hb57 HRR.out.lt
      obtain ⟨p0, p1, p2⟩ := hr7.cells
      obtain ⟨f0, f1, f2⟩ := hr7.frozen
      have hres := (HI.out.res.below hb57 HI.out.res.lt).far3 (g' := w.heap.size + 1) (by omega) (.bool t0) (.slice tA tn tc) (.slice tB tm td)
      have hbas := (HI.out.base.1.below hb57 HI.out.base.1.lt).far3 (g' := w.heap.size + 1) (by omega) (.bool t0) (.slice tA tn tc) (.slice tB tm td)
      have hbaq := (HI.out.base.2.below hb57).set3 hr7 (.bool t0) (.slice tA tn tc) (.slice tB tm td)
      have hrk := hr7.set (.bool t0) (.slice tA tn tc) (.slice tB tm td)
      have hrkq := h7.set3 hr7 (.bool t0) (.slice tA tn tc) (.slice tB tm td)
      rw [← HQ1.out] at hrkq
      have hbel := below_set3 (HI.out.below.trans (hb57.mono HI.out.below.size)) (g := w.heap.size + 1) (by omega) (.bool t0) (.slice tA tn tc) (.slice tB tm td)
      have HEND : Hid (RkI w w3.heap.size (b0, bA, bn, bc, bB, bm, bd) s l (k + 1) _) := Lib.hid ⟨hres, ⟨_, _, _, _, _, _, _, hrk, hrkq⟩, ⟨hbas, hbaq⟩, hbel⟩
      clear hres hbas hbaq hrk hrkq hbel hr7 h7 hb7 hb57 hb56 hb6 hb5 h5 h6 r0 r1 r2 c0 c1 c2
      go_wp2_with fail
      go_roundw
      case rel => exact ⟨k + 1, by omega, by go_num, HEND.out⟩
      case measure => simp [intOf]; omega
    · obtain rfl : k = n := by omega
      obtain ⟨rb, rA, rn, rc, rB, rm, rd, hrr, hrq⟩ := hI.rank
      rw [List.take_of_length_le (by have := HN.out; omega)] at hrq
      obtain ⟨r0, r1, r2⟩ := hrr.cells
      obtain ⟨p0, p1, p2⟩ := hI.res.cells
      obtain ⟨f0, f1, f2⟩ := hI.res.frozen
      have HEND := Lib.hid (And.intro (hI.res.set (.bool rb) (.slice rA rn rc) (.slice rB rm rd)) (And.intro (hrq.set3 hI.res (.bool rb) (.slice rA rn rc) (.slice rB rm rd)) (below_set3 hI.below (Nat.le_refl _) (.bool rb) (.slice rA rn rc) (.slice rB rm rd))))
      clear hI hrr hrq hI0
      go_wp2_with fail
      refine ret_rc_tmp Tryz.results9 rfl rfl HEND.out.1 rfl ?_
      exact ⟨_, rfl, HEND.out.2.1, HEND.out.2.2⟩
set_option maxRecDepth 20000 in
set_option maxHeartbeats 1000000 in
theorem wRank_bad (A : Option Addr) (n c : Nat) (l : List Int) (s : Int) (w : World) (h : Ints w l A n c) (hok : wok l s = false) :
    Calls Tryz.prog 9 #[.slice A n c, .int .i64 s] w (RetRatE w 0 9) := by
  have HOK := Lib.hid hok
  have hbA : Below w.heap.size w (w.alloc (.cells #[.bool false, .slice none 0 0, .slice none 0 0] 25)) := (Below.refl _ _).alloc (Nat.le_refl _) _
  have r1 := Rc.new w (.bool false) (.slice none 0 0) (.slice none 0 0)
  have h1 := h.below hbA
  obtain ⟨p0, p1, p2⟩ := r1.cells
  obtain ⟨f0, f1, f2⟩ := r1.frozen
  have HEND := Lib.hid (And.intro r1 hbA)
  clear h hok hbA r1
  go_enter Tryz.func9, Tryz.ntmps9
  go_wp2_with fail
  refine (wValid_any A n c l s _ h1 false HOK).mono ?_
  rintro e w' ⟨rfl, rfl⟩
  go_wp2_with fail
  refine ret_rc_tmp Tryz.results9 rfl rfl HEND.out.1 rfl ?_
  exact ⟨_, rfl, ratq_zero _, HEND.out.2⟩
theorem wRank_any (A : Option Addr) (n c : Nat) (l : List Int) (s : Int) (w : World) (hT : Tab w) (h : Ints w l A n c) :
    Calls Tryz.prog 9 #[.slice A n c, .int .i64 s] w (RetRatE w (rankA l s).1 (rankA l s).2) := by
  by_cases hok : wok l s = true
  · have := wRank_ok A n c l s w hT h hok
    unfold rankA
    rw [if_pos hok]; exact this
  · have hok2 : wok l s = false := by simpa using hok
    have := wRank_bad A n c l s w h hok2
    unfold rankA
    rw [if_neg hok]; exact this
end Go.Proofs.YtdlmhgijpgnilaaGreatDoor

namespace Go.Proofs.YtdlmhgijpgnilaaGreatDoor
open Go.RowKit

theorem num_mul_mkRat (a s : Nat) (hs : s ≠ 0) : (mkRat (a : Int) s).num * (s : Int) = (a : Int) * ((mkRat (a : Int) s).den : Int) := by
  have h : mkRat (mkRat (a : Int) s).num (mkRat (a : Int) s).den = mkRat (a : Int) s := Rat.mkRat_self _
  exact (Rat.mkRat_eq_iff (Rat.den_nz _) hs).1 h
theorem down_whole (a s : Nat) (hs : s ≠ 0) : down (((a : Int) : Rat) / ((s : Int) : Rat)) 0 = (((a / s : Nat) : Int) : Rat) := by
  have hd : ((a : Int) : Rat) / ((s : Int) : Rat) = mkRat (a : Int) s := by
    rw [Rat.mkRat_eq_div]; rfl
  rw [hd]
  unfold down
  rw [Nat.pow_zero, Int.natCast_one, Int.mul_one]
  have hfl : (mkRat (a : Int) s).num / ((mkRat (a : Int) s).den : Int) = ((a / s : Nat) : Int) := by
    have hcr : (mkRat (a : Int) s).num * (s : Int) = (a : Int) * ((mkRat (a : Int) s).den : Int) := num_mul_mkRat a s hs
    obtain ⟨u, hu⟩ : ∃ u, (mkRat (a : Int) s).num = u := ⟨_, rfl⟩
    obtain ⟨d, hd2⟩ : ∃ d, (mkRat (a : Int) s).den = d := ⟨_, rfl⟩
    have hd0 : d ≠ 0 := by rw [← hd2]; exact Rat.den_nz _
    rw [hu, hd2] at hcr ⊢
    have hm := Nat.div_add_mod a s
    have hl := Nat.mod_lt a (Nat.pos_of_ne_zero hs)
    obtain ⟨t, ht⟩ : ∃ t, a / s = t := ⟨_, rfl⟩
    obtain ⟨r, hr⟩ : ∃ r, a % s = r := ⟨_, rfl⟩
    rw [ht, hr] at hm
    rw [hr] at hl
    rw [ht]
    have hs0 : (0 : Int) < (s : Int) := by omega
    have hdp : (0 : Int) < (d : Int) := by omega
    have ha : (a : Int) = (s : Int) * (t : Int) + (r : Int) := by rw [← hm]; simp
    rw [ha] at hcr
    refine Int.le_antisymm ?_ ?_
    · refine Int.le_of_lt_add_one ((Int.ediv_lt_iff_lt_mul hdp).2 ?_)
      refine Int.lt_of_mul_lt_mul_right (a := (s : Int)) ?_ (Int.le_of_lt hs0)
      rw [hcr]
      have e : ((t : Int) + 1) * (d : Int) * (s : Int) = ((s : Int) * (t : Int) + (s : Int)) * (d : Int) := by
        rw [Int.mul_right_comm, Int.add_mul, Int.one_mul, Int.mul_comm (t : Int)]
      rw [e]
      exact Int.mul_lt_mul_of_pos_right (by omega) hdp
    · refine (Int.le_ediv_iff_mul_le hdp).2 ?_
      refine Int.le_of_mul_le_mul_right (a := (s : Int)) ?_ hs0
      rw [hcr]
      have e : (t : Int) * (d : Int) * (s : Int) = ((s : Int) * (t : Int)) * (d : Int) := by
        rw [Int.mul_right_comm, Int.mul_comm (t : Int)]
      rw [e]
      exact Int.mul_le_mul_of_nonneg_right (by omega) (Int.le_of_lt hdp)
  rw [hfl]
  exact Rat.mkRat_one _
theorem split_parts {N s : Nat} (hN : N ≠ 0) (hs : s ≠ 0) : ((N : Int) : Rat) - ((1 : Int) : Rat) = (((N - 1 : Nat) : Int) : Rat) ∧ ((N : Int) : Rat) - (((((N - 1) / s : Nat) : Int) : Rat)) * ((s : Int) : Rat) = ((((N - 1) % s + 1 : Nat) : Int) : Rat) := by
  constructor
  · rw [← Rat.intCast_sub]
    congr 1
    omega
  · rw [← Rat.intCast_mul, ← Rat.intCast_sub]
    congr 1
    have := Nat.div_add_mod (N - 1) s
    have e : ((((N - 1) / s : Nat) : Int)) * (s : Int) = ((s * ((N - 1) / s) : Nat) : Int) := by rw [Int.natCast_mul, Int.mul_comm]
    rw [e]
    omega
theorem whole_whole {a : Int} (h1 : -9223372036854775808 ≤ a) (h2 : a < 9223372036854775808) : wholeOf (a : Rat) = a ∧ wholeOk (a : Rat) = true := by
  have h : wholeOk (a : Rat) = true := by
    unfold wholeOk
    rw [Rat.den_intCast, Rat.num_intCast]
    exact decide_eq_true ⟨rfl, h1, h2⟩
  refine ⟨?_, h⟩
  unfold wholeOf
  rw [if_pos h, Rat.num_intCast]
theorem sz_mono {a b : Nat} (h : a ≤ b) {L : Nat} (hb : Sz (((b : Nat) : Int) : Rat) L) : Sz (((a : Nat) : Int) : Rat) L := by
  refine ⟨?_, ?_⟩
  · have := hb.1
    rw [Rat.num_intCast, Int.natAbs_natCast] at this ⊢
    exact Nat.le_trans (length_mono h) this
  · have := hb.2
    rw [Rat.den_intCast] at this ⊢
    exact this
end Go.Proofs.YtdlmhgijpgnilaaGreatDoor

namespace Go.Proofs.YtdlmhgijpgnilaaGreatDoor
open Go.RowKit

theorem cell_alc_d {w : World} {a : Addr} {v : Value} (o : Obj) (h : w.drew.cell? a = some v) : (w.alloc o).drew.cell? a = some v := cell_alc (w := w) o h
theorem cell_st {w : World} {b g k k' : Nat} {v u : Value} (hne : b ≠ g) (h : w.cell? ⟨b, k, none⟩ = some v) : (w.setCell ⟨g, k', none⟩ u).cell? ⟨b, k, none⟩ = some v := by
  rw [World.cell?_setCell_other _ _ _ _ (fun e => hne (by injection e with e1; first | exact e1 | exact e1.symm))]; exact h
/-- What a variable of the region holds, once all is stored. -/
def QRel (w0 : World) (r : Rat) (p : Value) (wx : World) : Prop :=
  ∃ g nb A n c B m e, p = .pointer (some ⟨g, 0, none⟩) ∧ Cs wx g [.bool nb, .slice A n c, .slice B m e] 25 ∧ w0.heap.size ≤ g ∧ RatQ wx (.agg #[.bool nb, .slice A n c, .slice B m e]) r ∧ Below w0.heap.size w0 wx
theorem qrel1 {w0 W : World} {r : Rat} {nb : Bool} {A B : Option Addr} {n c m e : Nat} (hb : Below w0.heap.size w0 W) (h : RatQ W (.agg #[.bool nb, .slice A n c, .slice B m e]) r) : QRel w0 r (.pointer (some ⟨W.heap.size, 0, none⟩)) (W.alloc (R1 (.bool nb) (.slice A n c) (.slice B m e))) := by
  have hx := blk1 W [.bool nb, .slice A n c, .slice B m e] 25
  exact ⟨_, _, _, _, _, _, _, _, rfl, hx.2, hb.size, h.below hx.1, hb.trans (hx.1.mono hb.size)⟩
theorem qrel2 {w0 W : World} {r : Rat} {nb : Bool} {A B : Option Addr} {n c m e g : Nat} (hb : Below w0.heap.size w0 W) (hg : w0.heap.size ≤ g) (hA : Cs W g [.bool false, .slice none 0 0, .slice none 0 0] 25) (h : RatQ W (.agg #[.bool nb, .slice A n c, .slice B m e]) r) : QRel w0 r (.pointer (some ⟨g, 0, none⟩)) (((W.setCell ⟨g, 0, none⟩ (.bool nb)).setCell ⟨g, 1, none⟩ (.slice A n c)).setCell ⟨g, 2, none⟩ (.slice B m e)) :=
  ⟨_, _, _, _, _, _, _, _, rfl, cs_own3 hA rfl _ _ _, hg, h.set3 (show Rc _ _ _ _ _ from hA) _ _ _, below_s3 hb hg _ _ _⟩
def RetSplit (w0 : World) (N s : Nat) (e : Ending) (w' : World) : Prop := ∃ v, e = .returned (.tuple #[v, .int .i64 (((N - 1) % s + 1 : Nat) : Int)]) ∧ RatQ w' v ((((N - 1) / s : Nat) : Int) : Rat) ∧ Below w0.heap.size w0 w'
set_option maxRecDepth 20000 in
set_option maxHeartbeats 8000000 in
theorem split_any (v v' : Value) (N s : Nat) (w : World) (hT : Tab w) (h : RatQ w v ((N : Int) : Rat)) (h' : RatQ w v' ((s : Int) : Rat)) (hN : N ≠ 0) (hs1 : 1 ≤ s) (hs2 : s ≤ 32) (hz : Sz ((N : Int) : Rat) 900) :
    Calls Tryz.prog 38 #[v, v'] w (RetSplit w N s) := by
  obtain ⟨na, A, n, c, B, m, e, rfl⟩ := h.agg
  obtain ⟨nb2, A2, n2, cc2, B2, mm2, ee2, rfl⟩ := h'.agg
  have hs0 : s ≠ 0 := by omega
  obtain ⟨p1, p2⟩ := split_parts hN hs0
  have p3 := down_whole (N - 1) s hs0
  have p4 := whole_whole (a := (((N - 1) % s + 1 : Nat) : Int)) (by omega) (by have := Nat.mod_lt (N - 1) (show 0 < s by omega); omega)
  have zs : Sz ((s : Int) : Rat) 1 := sz_whole (by omega) (by omega)
  have zo : Sz ((1 : Int) : Rat) 1 := sz_whole (by decide) (by omega)
  have z1 : Sz (((N - 1 : Nat) : Int) : Rat) 900 := sz_mono (Nat.sub_le _ _) hz
  have z3 : Sz ((((N - 1) / s : Nat) : Int) : Rat) 900 := sz_mono (Nat.le_trans (Nat.div_le_self _ _) (Nat.sub_le _ _)) hz
  have ES : Hid (((s : Int) : Rat) ≠ 0) := by
    intro h0
    have := congrArg Rat.num h0
    rw [Rat.num_intCast] at this
    simp at this
    omega
  obtain ⟨q0, e0⟩ : ∃ q : Rat, ((N : Int) : Rat) = q := ⟨_, rfl⟩
  obtain ⟨q1, e1⟩ : ∃ q : Rat, (((N - 1 : Nat) : Int) : Rat) = q := ⟨_, rfl⟩
  obtain ⟨qs, es⟩ : ∃ q : Rat, ((s : Int) : Rat) = q := ⟨_, rfl⟩
  obtain ⟨q3, e3⟩ : ∃ q : Rat, ((((N - 1) / s : Nat) : Int) : Rat) = q := ⟨_, rfl⟩
  obtain ⟨q5, e5⟩ : ∃ q : Rat, ((((N - 1) % s + 1 : Nat) : Int) : Rat) = q := ⟨_, rfl⟩
  obtain ⟨q2, e2'⟩ : ∃ q : Rat, q1 / qs = q := ⟨_, rfl⟩
  obtain ⟨q4, e4⟩ : ∃ q : Rat, q3 * qs = q := ⟨_, rfl⟩
  rw [e0, e1] at p1
  rw [e0, e3, es, e5, e4] at p2
  rw [e1, es, e3, e2'] at p3
  rw [e5] at p4
  rw [e0] at h hz
  rw [es] at h' zs ES
  rw [e1] at z1
  rw [e3] at z3
  have z2 : Sz q2 901 := by rw [← e2']; exact sz_div z1 zs ES.out (by omega)
  have z4 : Sz q4 901 := by rw [← e4]; exact sz_mul z3 zs (by omega)
  have z5 : Sz q5 1802 := by rw [← p2]; exact sz_sub hz z4 (by omega)
  have E1 := Lib.hid p1
  have E2 := Lib.hid e2'
  have E3 := Lib.hid p3
  have E4 := Lib.hid e4
  have E5 := Lib.hid p2
  have E6 := Lib.hid p4
  have EQ3 := Lib.hid e3
  have HT := Lib.hid hT
  have z0 := hz
  obtain ⟨hb0, c1, c2, c3⟩ := blk3 w [.bool na, .slice A n c, .slice B m e] [.bool nb2, .slice A2 n2 cc2, .slice B2 mm2 ee2] [.bool false, .slice none 0 0, .slice none 0 0] 25 25 25
  have hq := h.below hb0
  have hr := h'.below hb0
  have hT1 := hT.below hb0
  clear h h' hT p1 p2 p3 p4 e0 e1 es e3 e5 e2' e4 hz
  go_enter Tryz.func38, Tryz.ntmps38
  go_wp2_with fail
  generalize ((w.alloc (.cells #[.bool na, .slice A n c, .slice B m e] 25)).alloc (.cells #[.bool nb2, .slice A2 n2 cc2, .slice B2 mm2 ee2] 25)).alloc (.cells #[.bool false, .slice none 0 0, .slice none 0 0] 25) = W0 at *
  replace hq : RatQ W0.drew _ q0 := hq.below (Below.refl _ _).drew
  replace hr : RatQ W0.drew _ qs := hr.below (Below.refl _ _).drew
  replace hT1 : Tab W0.drew := hT1.drew
  replace c1 := c1.drew
  replace c2 := c2.drew
  replace c3 := c3.drew
  have hrl : (W0.drew.cell? ⟨w.heap.size, 0, none⟩ = some (.bool na) ∧ W0.drew.cell? ⟨w.heap.size, 1, none⟩ = some (.slice A n c) ∧ W0.drew.cell? ⟨w.heap.size, 2, none⟩ = some (.slice B m e) ∧ W0.drew.cell? ⟨(w.heap.size + 1), 0, none⟩ = some (.bool nb2) ∧ W0.drew.cell? ⟨(w.heap.size + 1), 1, none⟩ = some (.slice A2 n2 cc2) ∧ W0.drew.cell? ⟨(w.heap.size + 1), 2, none⟩ = some (.slice B2 mm2 ee2)) := ⟨c1.cell rfl, c1.cell rfl, c1.cell rfl, c2.cell rfl, c2.cell rfl, c2.cell rfl⟩
  have hb9 := hb0.drew
  replace hb0 : Below W0.drew.heap.size W0.drew W0.drew := Below.refl _ _
  have hz0 := hb9.size
  have hdz1 : W0.drew.heap.size ≤ W0.heap.size := Nat.le_refl _
  have hdz2 : W0.heap.size ≤ W0.drew.heap.size := Nat.le_refl _
  have l0 := c1.lt
  have l1' := c2.lt
  go_cut [6, 7] from 8 to 15 (fun p x wx => x = .int .i64 0 ∧ QRel W0.drew q2 p wx)
  case first =>
    go_region_held3 (fun w' => (w'.cell? ⟨w.heap.size, 0, none⟩ = some (.bool na) ∧ w'.cell? ⟨w.heap.size, 1, none⟩ = some (.slice A n c) ∧ w'.cell? ⟨w.heap.size, 2, none⟩ = some (.slice B m e) ∧ w'.cell? ⟨(w.heap.size + 1), 0, none⟩ = some (.bool nb2) ∧ w'.cell? ⟨(w.heap.size + 1), 1, none⟩ = some (.slice A2 n2 cc2) ∧ w'.cell? ⟨(w.heap.size + 1), 2, none⟩ = some (.slice B2 mm2 ee2)))
        (first | with_reducible exact hrl | ((with_reducible refine ⟨?_, ?_, ?_, ?_, ?_, ?_⟩) <;> (repeat' (first | (with_reducible exact hrl.1) | (with_reducible exact hrl.2.1) | (with_reducible exact hrl.2.2.1) | (with_reducible exact hrl.2.2.2.1) | (with_reducible exact hrl.2.2.2.2.1) | (with_reducible exact hrl.2.2.2.2.2) | (with_reducible refine cell_alc _ ?_) | (with_reducible refine cell_alc_d _ ?_) | (with_reducible refine cell_st ?_ ?_) | omega))) | fail)
        (first
          | (have _g := m2; (with_reducible change Calls _ _ _ (x2) _); go_at_call 76; refine (Div_any _ _ q1 qs q2 1000 0 _ hT1 (h2.inp (z1.mono (by decide)) (by decide)) (hr.inp (zs.mono (by decide)) (by decide)) (z1.mono (by decide)) (zs.mono (by decide)) (.inr ⟨ES.out, E2.out, rfl⟩)).mono ?_; rintro e x3 ⟨y3, rfl, h3, hbk⟩; replace hb0 := hb0.trans (hbk.mono hb0.size); replace c1 := c1.below hbk c1.lt; replace c2 := c2.below hbk c2.lt; replace c3 := c3.below hbk c3.lt; replace hq := hq.below hbk; replace hr := hr.below hbk; replace hT1 := hT1.below hbk; replace h1 := h1.below hbk; replace h2 := h2.below hbk; (try replace rA := rA.below hbk rA.lt); have m3 := Lib.hid (rfl : 1 = 1); have hz3 := hb0.size; have l3c1 := c1.lt; have l3c2 := c2.lt; have hrl : (x3.cell? ⟨w.heap.size, 0, none⟩ = some (.bool na) ∧ x3.cell? ⟨w.heap.size, 1, none⟩ = some (.slice A n c) ∧ x3.cell? ⟨w.heap.size, 2, none⟩ = some (.slice B m e) ∧ x3.cell? ⟨(w.heap.size + 1), 0, none⟩ = some (.bool nb2) ∧ x3.cell? ⟨(w.heap.size + 1), 1, none⟩ = some (.slice A2 n2 cc2) ∧ x3.cell? ⟨(w.heap.size + 1), 2, none⟩ = some (.slice B2 mm2 ee2)) := ⟨c1.cell rfl, c1.cell rfl, c1.cell rfl, c2.cell rfl, c2.cell rfl, c2.cell rfl⟩; obtain ⟨nr, Ar, nr1, cr, Br, mr, er, rfl⟩ := h3.agg; (try (have e0 := rA.at 0 (by decide); have q0 := rA.frozen 0; have e1 := rA.at 1 (by decide); have q1 := rA.frozen 1; have e2 := rA.at 2 (by decide); have q2 := rA.frozen 2; have lA := rA.lt)))
          | (have _g := m2; (with_reducible change Calls _ _ _ ((x2.alloc (.cells #[.bool false, .slice none 0 0, .slice none 0 0] 25))) _); go_at_call 76; have hal : Below (x2).heap.size (x2) ((x2.alloc (.cells #[.bool false, .slice none 0 0, .slice none 0 0] 25))) := (Below.refl _ _).alloc (Nat.le_refl _) _; have rA : Cs ((x2.alloc (.cells #[.bool false, .slice none 0 0, .slice none 0 0] 25))) x2.heap.size [.bool false, .slice none 0 0, .slice none 0 0] 25 := Cs.new x2 _ _; replace hb0 := hb0.trans (hal.mono hb0.size); replace c1 := c1.below hal c1.lt; replace c2 := c2.below hal c2.lt; replace c3 := c3.below hal c3.lt; replace hq := hq.below hal; replace hr := hr.below hal; replace hT1 := hT1.below hal; replace h1 := h1.below hal; replace h2 := h2.below hal; refine (Div_any _ _ q1 qs q2 1000 0 _ hT1 (h2.inp (z1.mono (by decide)) (by decide)) (hr.inp (zs.mono (by decide)) (by decide)) (z1.mono (by decide)) (zs.mono (by decide)) (.inr ⟨ES.out, E2.out, rfl⟩)).mono ?_; rintro e x3 ⟨y3, rfl, h3, hbk⟩; replace hb0 := hb0.trans (hbk.mono hb0.size); replace c1 := c1.below hbk c1.lt; replace c2 := c2.below hbk c2.lt; replace c3 := c3.below hbk c3.lt; replace hq := hq.below hbk; replace hr := hr.below hbk; replace hT1 := hT1.below hbk; replace h1 := h1.below hbk; replace h2 := h2.below hbk; replace rA := rA.below hbk rA.lt; have m3 := Lib.hid (rfl : 1 = 1); have hz3 := hb0.size; have l3c1 := c1.lt; have l3c2 := c2.lt; have hrl : (x3.cell? ⟨w.heap.size, 0, none⟩ = some (.bool na) ∧ x3.cell? ⟨w.heap.size, 1, none⟩ = some (.slice A n c) ∧ x3.cell? ⟨w.heap.size, 2, none⟩ = some (.slice B m e) ∧ x3.cell? ⟨(w.heap.size + 1), 0, none⟩ = some (.bool nb2) ∧ x3.cell? ⟨(w.heap.size + 1), 1, none⟩ = some (.slice A2 n2 cc2) ∧ x3.cell? ⟨(w.heap.size + 1), 2, none⟩ = some (.slice B2 mm2 ee2)) := ⟨c1.cell rfl, c1.cell rfl, c1.cell rfl, c2.cell rfl, c2.cell rfl, c2.cell rfl⟩; obtain ⟨nr, Ar, nr1, cr, Br, mr, er, rfl⟩ := h3.agg; (try (have e0 := rA.at 0 (by decide); have q0 := rA.frozen 0; have e1 := rA.at 1 (by decide); have q1 := rA.frozen 1; have e2 := rA.at 2 (by decide); have q2 := rA.frozen 2; have lA := rA.lt)))
          | (have _g := m1; (with_reducible change Calls _ _ _ (x1) _); go_at_call 77; refine (Sub_any _ _ q0 ((1 : Int) : Rat) q1 1000 _ hT1 (hq.inp (z0.mono (show 900 ≤ 1000 by decide)) (by decide)) (h1.inp (zo.mono (show 1 ≤ 1000 by decide)) (by decide)) (z0.mono (show 900 ≤ 1000000 by decide)) (zo.mono (show 1 ≤ 1000000 by decide)) E1.out).mono ?_; rintro e x2 ⟨y2, rfl, h2, hbk⟩; replace hb0 := hb0.trans (hbk.mono hb0.size); replace c1 := c1.below hbk c1.lt; replace c2 := c2.below hbk c2.lt; replace c3 := c3.below hbk c3.lt; replace hq := hq.below hbk; replace hr := hr.below hbk; replace hT1 := hT1.below hbk; replace h1 := h1.below hbk; (try replace rA := rA.below hbk rA.lt); have m2 := Lib.hid (rfl : 1 = 1); have hz2 := hb0.size; have l2c1 := c1.lt; have l2c2 := c2.lt; have hrl : (x2.cell? ⟨w.heap.size, 0, none⟩ = some (.bool na) ∧ x2.cell? ⟨w.heap.size, 1, none⟩ = some (.slice A n c) ∧ x2.cell? ⟨w.heap.size, 2, none⟩ = some (.slice B m e) ∧ x2.cell? ⟨(w.heap.size + 1), 0, none⟩ = some (.bool nb2) ∧ x2.cell? ⟨(w.heap.size + 1), 1, none⟩ = some (.slice A2 n2 cc2) ∧ x2.cell? ⟨(w.heap.size + 1), 2, none⟩ = some (.slice B2 mm2 ee2)) := ⟨c1.cell rfl, c1.cell rfl, c1.cell rfl, c2.cell rfl, c2.cell rfl, c2.cell rfl⟩)
          | (have _g := m1; (with_reducible change Calls _ _ _ ((x1.alloc (.cells #[.bool false, .slice none 0 0, .slice none 0 0] 25))) _); go_at_call 77; have hal : Below (x1).heap.size (x1) ((x1.alloc (.cells #[.bool false, .slice none 0 0, .slice none 0 0] 25))) := (Below.refl _ _).alloc (Nat.le_refl _) _; have rA : Cs ((x1.alloc (.cells #[.bool false, .slice none 0 0, .slice none 0 0] 25))) x1.heap.size [.bool false, .slice none 0 0, .slice none 0 0] 25 := Cs.new x1 _ _; replace hb0 := hb0.trans (hal.mono hb0.size); replace c1 := c1.below hal c1.lt; replace c2 := c2.below hal c2.lt; replace c3 := c3.below hal c3.lt; replace hq := hq.below hal; replace hr := hr.below hal; replace hT1 := hT1.below hal; replace h1 := h1.below hal; refine (Sub_any _ _ q0 ((1 : Int) : Rat) q1 1000 _ hT1 (hq.inp (z0.mono (show 900 ≤ 1000 by decide)) (by decide)) (h1.inp (zo.mono (show 1 ≤ 1000 by decide)) (by decide)) (z0.mono (show 900 ≤ 1000000 by decide)) (zo.mono (show 1 ≤ 1000000 by decide)) E1.out).mono ?_; rintro e x2 ⟨y2, rfl, h2, hbk⟩; replace hb0 := hb0.trans (hbk.mono hb0.size); replace c1 := c1.below hbk c1.lt; replace c2 := c2.below hbk c2.lt; replace c3 := c3.below hbk c3.lt; replace hq := hq.below hbk; replace hr := hr.below hbk; replace hT1 := hT1.below hbk; replace h1 := h1.below hbk; replace rA := rA.below hbk rA.lt; have m2 := Lib.hid (rfl : 1 = 1); have hz2 := hb0.size; have l2c1 := c1.lt; have l2c2 := c2.lt; have hrl : (x2.cell? ⟨w.heap.size, 0, none⟩ = some (.bool na) ∧ x2.cell? ⟨w.heap.size, 1, none⟩ = some (.slice A n c) ∧ x2.cell? ⟨w.heap.size, 2, none⟩ = some (.slice B m e) ∧ x2.cell? ⟨(w.heap.size + 1), 0, none⟩ = some (.bool nb2) ∧ x2.cell? ⟨(w.heap.size + 1), 1, none⟩ = some (.slice A2 n2 cc2) ∧ x2.cell? ⟨(w.heap.size + 1), 2, none⟩ = some (.slice B2 mm2 ee2)) := ⟨c1.cell rfl, c1.cell rfl, c1.cell rfl, c2.cell rfl, c2.cell rfl, c2.cell rfl⟩)
          | ((with_reducible change Calls _ _ _ (W0.drew) _); go_at_call 29; refine (number_any 1 _ hT1 (by decide) (by decide)).mono ?_; rintro e x1 ⟨y1, rfl, h1, hbk⟩; replace hb0 := hb0.trans (hbk.mono hb0.size); replace c1 := c1.below hbk c1.lt; replace c2 := c2.below hbk c2.lt; replace c3 := c3.below hbk c3.lt; replace hq := hq.below hbk; replace hr := hr.below hbk; replace hT1 := hT1.below hbk; (try replace rA := rA.below hbk rA.lt); have m1 := Lib.hid (rfl : 1 = 1); have hz1 := hb0.size; have l1c1 := c1.lt; have l1c2 := c2.lt; have hrl : (x1.cell? ⟨w.heap.size, 0, none⟩ = some (.bool na) ∧ x1.cell? ⟨w.heap.size, 1, none⟩ = some (.slice A n c) ∧ x1.cell? ⟨w.heap.size, 2, none⟩ = some (.slice B m e) ∧ x1.cell? ⟨(w.heap.size + 1), 0, none⟩ = some (.bool nb2) ∧ x1.cell? ⟨(w.heap.size + 1), 1, none⟩ = some (.slice A2 n2 cc2) ∧ x1.cell? ⟨(w.heap.size + 1), 2, none⟩ = some (.slice B2 mm2 ee2)) := ⟨c1.cell rfl, c1.cell rfl, c1.cell rfl, c2.cell rfl, c2.cell rfl, c2.cell rfl⟩)
          | ((with_reducible change Calls _ _ _ ((W0.alloc (.cells #[.bool false, .slice none 0 0, .slice none 0 0] 25)).drew) _); go_at_call 29; have hal : Below (W0.drew).heap.size (W0.drew) ((W0.alloc (.cells #[.bool false, .slice none 0 0, .slice none 0 0] 25)).drew) := (Below.refl _ _).alloc (Nat.le_refl _) _; have rA : Cs ((W0.alloc (.cells #[.bool false, .slice none 0 0, .slice none 0 0] 25)).drew) W0.heap.size [.bool false, .slice none 0 0, .slice none 0 0] 25 := Cs.new W0 _ _; replace hb0 := hb0.trans (hal.mono hb0.size); replace c1 := c1.below hal c1.lt; replace c2 := c2.below hal c2.lt; replace c3 := c3.below hal c3.lt; replace hq := hq.below hal; replace hr := hr.below hal; replace hT1 := hT1.below hal; refine (number_any 1 _ hT1 (by decide) (by decide)).mono ?_; rintro e x1 ⟨y1, rfl, h1, hbk⟩; replace hb0 := hb0.trans (hbk.mono hb0.size); replace c1 := c1.below hbk c1.lt; replace c2 := c2.below hbk c2.lt; replace c3 := c3.below hbk c3.lt; replace hq := hq.below hbk; replace hr := hr.below hbk; replace hT1 := hT1.below hbk; replace rA := rA.below hbk rA.lt; have m1 := Lib.hid (rfl : 1 = 1); have hz1 := hb0.size; have l1c1 := c1.lt; have l1c2 := c2.lt; have hrl : (x1.cell? ⟨w.heap.size, 0, none⟩ = some (.bool na) ∧ x1.cell? ⟨w.heap.size, 1, none⟩ = some (.slice A n c) ∧ x1.cell? ⟨w.heap.size, 2, none⟩ = some (.slice B m e) ∧ x1.cell? ⟨(w.heap.size + 1), 0, none⟩ = some (.bool nb2) ∧ x1.cell? ⟨(w.heap.size + 1), 1, none⟩ = some (.slice A2 n2 cc2) ∧ x1.cell? ⟨(w.heap.size + 1), 2, none⟩ = some (.slice B2 mm2 ee2)) := ⟨c1.cell rfl, c1.cell rfl, c1.cell rfl, c2.cell rfl, c2.cell rfl, c2.cell rfl⟩))
    all_goals
      (try clear e0 e1 e2 q0 q1 q2)
      go_wp2_with fail
      go_meet
      case rel => exact ⟨rfl, by first | with_reducible exact qrel1 hb0 h3 | with_reducible exact qrel2 hb0 (by omega) rA h3 | fail⟩
  case rest =>
    obtain ⟨rfl, g, nr, Ar, nr1, cr, Br, mr, er, rfl, rA, hg, hqr, hbq⟩ := hcut
    replace c1 := c1.below hbq c1.lt
    replace c2 := c2.below hbq c2.lt
    replace c3 := c3.below hbq c3.lt
    replace hq := hq.below hbq
    replace hr := hr.below hbq
    replace hT1 := hT1.below hbq
    replace hb9 := hb9.trans (hbq.mono hz0)
    clear hbq hb0 hrl
    have k0 := rA.cell (k := 0) rfl
    have k1 := rA.cell (k := 1) rfl
    have k2 := rA.cell (k := 2) rfl
    go_wp2_with fail
    refine (Down_in _ q2 q3 1000 0 _ hT1 (hqr.inp (z2.mono (by decide)) (by decide)) (z2.mono (by decide)) (by omega) E3.out).mono ?_
    rintro e w4 ⟨v4, rfl, h4, hb4⟩
    obtain ⟨nt, At, nt1, ct, Bt, mt, et, rfl⟩ := h4.agg
    replace c1 := c1.below hb4 c1.lt
    replace c2 := c2.below hb4 c2.lt
    replace c3 := c3.below hb4 c3.lt
    replace hq := hq.below hb4
    replace hr := hr.below hb4
    replace hT1 := hT1.below hb4
    replace hb9 := hb9.trans (hb4.mono hb9.size)
    clear hb4 k0 k1 k2 rA hqr
    obtain ⟨k0, k1, k2⟩ := (show Rc w4 _ _ _ _ from c3).cells
    obtain ⟨f0, f1, f2⟩ := (show Rc w4 _ _ _ _ from c3).frozen
    have d1 := cs_far3 c1 (g' := w.heap.size + 1 + 1) (by omega) (.bool nt) (.slice At nt1 ct) (.slice Bt mt et)
    have d2 := cs_far3 c2 (g' := w.heap.size + 1 + 1) (by omega) (.bool nt) (.slice At nt1 ct) (.slice Bt mt et)
    have d3 := cs_own3 c3 rfl (.bool nt) (.slice At nt1 ct) (.slice Bt mt et)
    have dq := hq.set3 (show Rc w4 _ _ _ _ from c3) (.bool nt) (.slice At nt1 ct) (.slice Bt mt et)
    have dr := hr.set3 (show Rc w4 _ _ _ _ from c3) (.bool nt) (.slice At nt1 ct) (.slice Bt mt et)
    have d4 := h4.set3 (show Rc w4 _ _ _ _ from c3) (.bool nt) (.slice At nt1 ct) (.slice Bt mt et)
    have db := below_s3 hb9 (g := w.heap.size + 1 + 1) (by omega) (.bool nt) (.slice At nt1 ct) (.slice Bt mt et)
    have dT := HT.out.below db
    clear c1 c2 c3 hq hr hT1 h4 hb9
    go_upto_region 3 with (fail)
    clear k0 k1 k2 f0 f1 f2
    generalize (((w4.setCell ⟨w.heap.size + 1 + 1, 0, none⟩ (.bool nt)).setCell ⟨w.heap.size + 1 + 1, 1, none⟩ (.slice At nt1 ct)).setCell ⟨w.heap.size + 1 + 1, 2, none⟩ (.slice Bt mt et)) = W5 at *
    have c1 := d1.drew
    have c2 := d2.drew
    have c3 := d3.drew
    have hq : RatQ W5.drew _ q0 := dq.below (Below.refl _ _).drew
    have hr : RatQ W5.drew _ qs := dr.below (Below.refl _ _).drew
    have ht : RatQ W5.drew _ q3 := d4.below (Below.refl _ _).drew
    have hT1 : Tab W5.drew := dT.drew
    have hb9 := db.drew
    have hb0 : Below W5.drew.heap.size W5.drew W5.drew := Below.refl _ _
    have hz5 := hb9.size
    have hrl : (W5.drew.cell? ⟨w.heap.size, 0, none⟩ = some (.bool na) ∧ W5.drew.cell? ⟨w.heap.size, 1, none⟩ = some (.slice A n c) ∧ W5.drew.cell? ⟨w.heap.size, 2, none⟩ = some (.slice B m e) ∧ W5.drew.cell? ⟨(w.heap.size + 1), 0, none⟩ = some (.bool nb2) ∧ W5.drew.cell? ⟨(w.heap.size + 1), 1, none⟩ = some (.slice A2 n2 cc2) ∧ W5.drew.cell? ⟨(w.heap.size + 1), 2, none⟩ = some (.slice B2 mm2 ee2) ∧ W5.drew.cell? ⟨(w.heap.size + 1 + 1), 0, none⟩ = some (.bool nt) ∧ W5.drew.cell? ⟨(w.heap.size + 1 + 1), 1, none⟩ = some (.slice At nt1 ct) ∧ W5.drew.cell? ⟨(w.heap.size + 1 + 1), 2, none⟩ = some (.slice Bt mt et)) := ⟨c1.cell rfl, c1.cell rfl, c1.cell rfl, c2.cell rfl, c2.cell rfl, c2.cell rfl, c3.cell rfl, c3.cell rfl, c3.cell rfl⟩
    clear d1 d2 d3 dq dr d4 dT db
    go_region_held3 (fun w' => (w'.cell? ⟨w.heap.size, 0, none⟩ = some (.bool na) ∧ w'.cell? ⟨w.heap.size, 1, none⟩ = some (.slice A n c) ∧ w'.cell? ⟨w.heap.size, 2, none⟩ = some (.slice B m e) ∧ w'.cell? ⟨(w.heap.size + 1), 0, none⟩ = some (.bool nb2) ∧ w'.cell? ⟨(w.heap.size + 1), 1, none⟩ = some (.slice A2 n2 cc2) ∧ w'.cell? ⟨(w.heap.size + 1), 2, none⟩ = some (.slice B2 mm2 ee2) ∧ w'.cell? ⟨(w.heap.size + 1 + 1), 0, none⟩ = some (.bool nt) ∧ w'.cell? ⟨(w.heap.size + 1 + 1), 1, none⟩ = some (.slice At nt1 ct) ∧ w'.cell? ⟨(w.heap.size + 1 + 1), 2, none⟩ = some (.slice Bt mt et)))
        (first | with_reducible exact hrl | fail)
        (first
          | (go_at_call 31; refine (Mul_any _ _ q3 qs q4 1000 _ hT1 (ht.inp (z3.mono (by decide)) (by decide)) (hr.inp (zs.mono (by decide)) (by decide)) (z3.mono (by decide)) (zs.mono (by decide)) E4.out).mono ?_; rintro e x1 ⟨y1, rfl, h1, hbk⟩; replace hb0 := hb0.trans (hbk.mono hb0.size); replace c1 := c1.below hbk c1.lt; replace c2 := c2.below hbk c2.lt; replace c3 := c3.below hbk c3.lt; replace hq := hq.below hbk; replace hr := hr.below hbk; replace ht := ht.below hbk; replace hT1 := hT1.below hbk; have hrl : (x1.cell? ⟨w.heap.size, 0, none⟩ = some (.bool na) ∧ x1.cell? ⟨w.heap.size, 1, none⟩ = some (.slice A n c) ∧ x1.cell? ⟨w.heap.size, 2, none⟩ = some (.slice B m e) ∧ x1.cell? ⟨(w.heap.size + 1), 0, none⟩ = some (.bool nb2) ∧ x1.cell? ⟨(w.heap.size + 1), 1, none⟩ = some (.slice A2 n2 cc2) ∧ x1.cell? ⟨(w.heap.size + 1), 2, none⟩ = some (.slice B2 mm2 ee2) ∧ x1.cell? ⟨(w.heap.size + 1 + 1), 0, none⟩ = some (.bool nt) ∧ x1.cell? ⟨(w.heap.size + 1 + 1), 1, none⟩ = some (.slice At nt1 ct) ∧ x1.cell? ⟨(w.heap.size + 1 + 1), 2, none⟩ = some (.slice Bt mt et)) := ⟨c1.cell rfl, c1.cell rfl, c1.cell rfl, c2.cell rfl, c2.cell rfl, c2.cell rfl, c3.cell rfl, c3.cell rfl, c3.cell rfl⟩)
          | (go_at_call 77; refine (Sub_any _ _ q0 q4 q5 1000 _ hT1 (hq.inp (z0.mono (by decide)) (by decide)) (h1.inp (z4.mono (by decide)) (by decide)) (z0.mono (by decide)) (z4.mono (by decide)) E5.out).mono ?_; rintro e x2 ⟨y2, rfl, h2, hbk⟩; replace hb0 := hb0.trans (hbk.mono hb0.size); replace c1 := c1.below hbk c1.lt; replace c2 := c2.below hbk c2.lt; replace c3 := c3.below hbk c3.lt; replace hq := hq.below hbk; replace hr := hr.below hbk; replace ht := ht.below hbk; replace hT1 := hT1.below hbk; replace h1 := h1.below hbk; have hrl : (x2.cell? ⟨w.heap.size, 0, none⟩ = some (.bool na) ∧ x2.cell? ⟨w.heap.size, 1, none⟩ = some (.slice A n c) ∧ x2.cell? ⟨w.heap.size, 2, none⟩ = some (.slice B m e) ∧ x2.cell? ⟨(w.heap.size + 1), 0, none⟩ = some (.bool nb2) ∧ x2.cell? ⟨(w.heap.size + 1), 1, none⟩ = some (.slice A2 n2 cc2) ∧ x2.cell? ⟨(w.heap.size + 1), 2, none⟩ = some (.slice B2 mm2 ee2) ∧ x2.cell? ⟨(w.heap.size + 1 + 1), 0, none⟩ = some (.bool nt) ∧ x2.cell? ⟨(w.heap.size + 1 + 1), 1, none⟩ = some (.slice At nt1 ct) ∧ x2.cell? ⟨(w.heap.size + 1 + 1), 2, none⟩ = some (.slice Bt mt et)) := ⟨c1.cell rfl, c1.cell rfl, c1.cell rfl, c2.cell rfl, c2.cell rfl, c2.cell rfl, c3.cell rfl, c3.cell rfl, c3.cell rfl⟩)
          | (go_at_call 79; refine (Whole_any _ q5 2000 _ true _ hT1 (h2.inp (z5.mono (by decide)) (by decide)) E6).mono ?_; rintro e x3 ⟨rfl, hbk⟩; replace hb0 := hb0.trans (hbk.mono hb0.size); replace c1 := c1.below hbk c1.lt; replace c2 := c2.below hbk c2.lt; replace c3 := c3.below hbk c3.lt; replace hq := hq.below hbk; replace hr := hr.below hbk; replace ht := ht.below hbk; replace hT1 := hT1.below hbk; replace h1 := h1.below hbk; replace h2 := h2.below hbk; have hrl : (x3.cell? ⟨w.heap.size, 0, none⟩ = some (.bool na) ∧ x3.cell? ⟨w.heap.size, 1, none⟩ = some (.slice A n c) ∧ x3.cell? ⟨w.heap.size, 2, none⟩ = some (.slice B m e) ∧ x3.cell? ⟨(w.heap.size + 1), 0, none⟩ = some (.bool nb2) ∧ x3.cell? ⟨(w.heap.size + 1), 1, none⟩ = some (.slice A2 n2 cc2) ∧ x3.cell? ⟨(w.heap.size + 1), 2, none⟩ = some (.slice B2 mm2 ee2) ∧ x3.cell? ⟨(w.heap.size + 1 + 1), 0, none⟩ = some (.bool nt) ∧ x3.cell? ⟨(w.heap.size + 1 + 1), 1, none⟩ = some (.slice At nt1 ct) ∧ x3.cell? ⟨(w.heap.size + 1 + 1), 2, none⟩ = some (.slice Bt mt et)) := ⟨c1.cell rfl, c1.cell rfl, c1.cell rfl, c2.cell rfl, c2.cell rfl, c2.cell rfl, c3.cell rfl, c3.cell rfl, c3.cell rfl⟩))
    all_goals
      replace hb9 := hb9.trans (hb0.mono hz5)
      obtain ⟨k0, k1, k2⟩ := (show Rc x3 _ _ _ _ from c3).cells
      obtain ⟨f0, f1, f2⟩ := (show Rc x3 _ _ _ _ from c3).frozen
      have HEND := Lib.hid (And.intro (cs_own3 c3 rfl (.bool nt) (.slice At nt1 ct) (.slice Bt mt et)) (And.intro (ht.set3 (show Rc x3 _ _ _ _ from c3) (.bool nt) (.slice At nt1 ct) (.slice Bt mt et)) (below_s3 hb9 (g := w.heap.size + 1 + 1) (by omega) (.bool nt) (.slice At nt1 ct) (.slice Bt mt et))))
      clear c1 c2 c3 hq hr ht hT1 hb9 hb0 hrl
      go_wp2_with fail
      refine ret_rc_tmp Tryz.results38 rfl rfl (show Rc _ _ _ _ _ from HEND.out.1) rfl ?_
      refine ⟨_, rfl, ?_, HEND.out.2.2⟩
      rw [EQ3.out]
      exact HEND.out.2.1
end Go.Proofs.YtdlmhgijpgnilaaGreatDoor

namespace Go.Proofs.YtdlmhgijpgnilaaGreatDoor
open Go.RowKit

theorem cntq_sz {s : Nat} (hs : s ≤ 32) : ∀ k, Sz ((((cnt s k : Nat) : Int)) : Rat) (3 * k + 1)
  | 0 => sz_whole (by unfold cnt; decide) (by omega)
  | k + 1 => by
    have e : (((cnt s (k + 1) : Nat) : Int) : Rat) = (((cnt s k : Nat) : Int) : Rat) * ((s : Int) : Rat) + ((1 : Int) : Rat) := by
      rw [← Rat.intCast_mul, ← Rat.intCast_add]
      congr 1
    rw [e]
    exact sz_add (sz_mul (cntq_sz hs k) (sz_whole (a := (s : Int)) (L := 1) (by omega) (by omega)) (Nat.le_refl _)) (sz_whole (a := 1) (L := 1) (by decide) (by omega)) (by omega)
theorem cntq_step (s k : Nat) : (((cnt s k : Nat) : Int) : Rat) * ((s : Int) : Rat) + ((1 : Int) : Rat) = (((cnt s (k + 1) : Nat) : Int) : Rat) := by
  rw [← Rat.intCast_mul, ← Rat.intCast_add]
  congr 1
theorem cmpQ_whole (a b : Int) : cmpQ (a : Rat) (b : Rat) = cmpI a b := by
  rw [cmpQ_I, Rat.num_intCast, Rat.num_intCast, Rat.den_intCast, Rat.den_intCast, Int.natCast_one, Int.mul_one, Int.mul_one]
theorem dl_zero_iff (d : Nat) (hd : d ≠ 0) : (dl d).length = 0 ↔ d = 1 := by
  unfold dl
  split
  · next h => simp [h]
  · next h =>
    constructor
    · intro h2
      exact absurd (limbs_nil.1 (List.eq_nil_of_length_eq_zero h2)) hd
    · intro h2; exact absurd h2 h
theorem whole_of_den {q : Rat} (h : q.den = 1) : q = ((q.num : Int) : Rat) := by
  apply Rat.ext
  · rw [Rat.num_intCast]
  · rw [Rat.den_intCast, h]
/-- The answer of lengthAt. -/
def lenA (s N : Nat) : Int × Bool := if N < cnt s 256 then (((unr s N).length : Int), true) else (0, false)
def RetLen (w0 : World) (V : Int) (O : Bool) (e : Ending) (w' : World) : Prop := e = .returned (.tuple #[.int .i64 V, .bool O]) ∧ Below w0.heap.size w0 w'
structure LnI (w0 : World) (gb : Nat) (rv bv : Bool × Option Addr × Nat × Nat × Option Addr × Nat × Nat) (q : Rat) (s k : Nat) (W : World) : Prop where
  rank : Rc W w0.heap.size (.bool rv.1) (.slice rv.2.1 rv.2.2.1 rv.2.2.2.1) (.slice rv.2.2.2.2.1 rv.2.2.2.2.2.1 rv.2.2.2.2.2.2) ∧ RatQ W (.agg #[.bool rv.1, .slice rv.2.1 rv.2.2.1 rv.2.2.2.1, .slice rv.2.2.2.2.1 rv.2.2.2.2.2.1 rv.2.2.2.2.2.2]) q
  base : Rc W (w0.heap.size + 1) (.bool bv.1) (.slice bv.2.1 bv.2.2.1 bv.2.2.2.1) (.slice bv.2.2.2.2.1 bv.2.2.2.2.2.1 bv.2.2.2.2.2.2) ∧ RatQ W (.agg #[.bool bv.1, .slice bv.2.1 bv.2.2.1 bv.2.2.2.1, .slice bv.2.2.2.2.1 bv.2.2.2.2.2.1 bv.2.2.2.2.2.2]) ((s : Int) : Rat)
  long : ∃ nb A n c B m d, Rc W gb (.bool nb) (.slice A n c) (.slice B m d) ∧ RatQ W (.agg #[.bool nb, .slice A n c, .slice B m d]) (((cnt s k : Nat) : Int) : Rat)
  below : Below w0.heap.size w0 W
set_option maxRecDepth 20000 in
set_option maxHeartbeats 1000000 in
theorem lengthAt_no (v v' : Value) (q : Rat) (s : Nat) (w : World) (h : RatQ w v q) (h' : RatQ w v' ((s : Int) : Rat)) (hq : q.num < 0 ∨ q.den ≠ 1) :
    Calls Tryz.prog 36 #[v, v'] w (RetLen w 0 false) := by
  obtain ⟨nb, A, n, c, B, m, e, rfl⟩ := h.agg
  obtain ⟨nb2, A2, n2, c2, B2, m2, e2, rfl⟩ := h'.agg
  obtain ⟨p1, p2, p3⟩ := h.parts
  have hm := p3.len
  have hdz := dl_zero_iff q.den q.den_nz
  obtain ⟨hb0, c1, c3⟩ := blk2 w [.bool nb, .slice A n c, .slice B m e] [.bool nb2, .slice A2 n2 c2, .slice B2 m2 e2] 25 25
  have k0 := c1.cell (k := 0) rfl
  have k2 := c1.cell (k := 2) rfl
  have HB := Lib.hid hb0
  clear h h' p2 p3 c1 c3 hb0
  cases nb with
  | true =>
    clear p1 hm hdz hq
    go_enter Tryz.func36, Tryz.ntmps36
    go_wp2_with fail
    refine bodyPost_ret (results_tmp2 rfl _ _ _) rfl ?_
    exact ⟨rfl, HB.out⟩
  | false =>
    have hn : ¬ q.num < 0 := of_decide_eq_false p1.symm
    have hd : q.den ≠ 1 := hq.resolve_left hn
    have hm0 : (0 : Int) < (m : Int) := by
      rcases Nat.eq_zero_or_pos m with h0 | h0
      · exact absurd (hdz.1 (by omega)) hd
      · omega
    clear p1 hm hdz hq hn hd
    go_enter Tryz.func36, Tryz.ntmps36
    go_wp2_with fail
    refine bodyPost_ret (results_tmp2 rfl _ _ _) rfl ?_
    exact ⟨rfl, HB.out⟩
set_option maxRecDepth 20000 in
set_option maxHeartbeats 4000000 in
theorem lengthAt_ok (v v' : Value) (N s : Nat) (w : World) (hT : Tab w) (h : RatQ w v ((N : Int) : Rat)) (h' : RatQ w v' ((s : Int) : Rat)) (hs1 : 1 ≤ s) (hs2 : s ≤ 32) (hz : Sz ((N : Int) : Rat) 900) (V : Int) (O : Bool) (H : Hid (lenA s N = (V, O))) :
    Calls Tryz.prog 36 #[v, v'] w (RetLen w V O) := by
  obtain ⟨nb, A, n, c, B, m, e, rfl⟩ := h.agg
  obtain ⟨nb2, A2, n2, c2, B2, m2, e2, rfl⟩ := h'.agg
  obtain ⟨p1, p2, p3⟩ := h.parts
  have hm := p3.len
  rw [Rat.den_intCast, dl_one] at hm
  have hnb : nb = false := by rw [p1, Rat.num_intCast]; exact decide_eq_false (by omega)
  subst hnb
  obtain rfl : m = 0 := by simpa using hm
  clear p1 p2 p3 hm
  obtain ⟨hb0, c1, c3⟩ := blk2 w [.bool false, .slice A n c, .slice B 0 e] [.bool nb2, .slice A2 n2 c2, .slice B2 m2 e2] 25 25
  have k0 := c1.cell (k := 0) rfl
  have k2 := c1.cell (k := 2) rfl
  have h1 := h.below hb0
  have h2 := h'.below hb0
  have hT1 := hT.below hb0
  have HT := Lib.hid hT
  have HZ := Lib.hid hz
  clear h h' hT hz
  go_enter Tryz.func36, Tryz.ntmps36
  go_wp2_with fail
  generalize (w.alloc (.cells #[.bool false, .slice A n c, .slice B 0 e] 25)).alloc (.cells #[.bool nb2, .slice A2 n2 c2, .slice B2 m2 e2] 25) = W1 at *
  refine (number_any 1 _ hT1 (by decide) (by decide)).mono ?_
  rintro e0 w2 ⟨vl, rfl, hl, hbl⟩
  obtain ⟨lb, lA, ln, lc, lB, lm, le, rfl⟩ := hl.agg
  have hal : Below w2.heap.size w2 (w2.alloc (.cells #[.bool lb, .slice lA ln lc, .slice lB lm le] 25)) := (Below.refl _ _).alloc (Nat.le_refl _) _
  have hsz1 := hb0.size
  have hsz2 := hbl.size
  have hI0 : LnI w w2.heap.size (false, A, n, c, B, 0, e) (nb2, A2, n2, c2, B2, m2, e2) ((N : Int) : Rat) s 0 (w2.alloc (.cells #[.bool lb, .slice lA ln lc, .slice lB lm le] 25)) := by
    have d1 := (c1.below hbl c1.lt).below hal (c1.below hbl c1.lt).lt
    have d2 := (c3.below hbl c3.lt).below hal (c3.below hbl c3.lt).lt
    exact ⟨⟨d1, (h1.below hbl).below hal⟩, ⟨d2, (h2.below hbl).below hal⟩, ⟨_, _, _, _, _, _, _, Rc.new _ _ _ _, hl.below hal⟩, (hb0.trans (hbl.mono hsz1)).trans (hal.mono (by omega))⟩
  have hg3 : w.heap.size + 1 < w2.heap.size := (c3.below hbl c3.lt).lt
  clear hal hl c1 c3 h1 h2 hb0 hbl hT1 k0 k2
  go_wp2_with fail
  generalize w2.alloc (.cells #[.bool lb, .slice lA ln lc, .slice lB lm le] 25) = W3 at *
  go_loopw [7, 17] (fun _ i wr => ∃ k : Nat, k ≤ 257 ∧ i = .int .i64 (k : Int) ∧ LnI w w2.heap.size (false, A, n, c, B, 0, e) (nb2, A2, n2, c2, B2, m2, e2) ((N : Int) : Rat) s k wr ∧ Hid (∀ j, j < k → ¬ N < cnt s j)) (fun _ i _ => (257 - intOf i).toNat)
  case atStart => exact ⟨0, Nat.zero_le _, rfl, hI0, show Hid _ from fun j hj => absurd hj (by omega)⟩
  case round =>
    obtain ⟨k, hk, rfl, hI, HE⟩ := hrel
    rcases Nat.lt_or_ge k 257 with hkn | hkn
    · obtain ⟨rb, rA, rn, rc, rB, rm, rd, hrr, hrq⟩ := hI.long
      obtain ⟨r0, r1, r2⟩ := hrr.cells
      obtain ⟨a0, a1, a2⟩ := hI.rank.1.cells
      have HI := Lib.hid hI
      have HRR := Lib.hid hrr
      have HRQ := Lib.hid hrq
      have HTr := Lib.hid (HT.out.below HI.out.below)
      have hzc := cntq_sz hs2 k
      have hkn2 : (k : Int) < 257 := by omega
      obtain ⟨C, hC⟩ : ∃ C, cmpQ ((N : Int) : Rat) (((cnt s k : Nat) : Int) : Rat) = C := ⟨_, rfl⟩
      have hC2 := hC
      rw [cmpQ_whole] at hC2
      have HC := Lib.hid hC
      clear hI hrr hrq hC
      go_wp2_with fail
      refine (Compare_any _ _ ((N : Int) : Rat) (((cnt s k : Nat) : Int) : Rat) 1000 C _ HTr.out (HI.out.rank.2.inp (HZ.out.mono (by omega)) (by omega)) (HRQ.out.inp (hzc.mono (by omega)) (by omega)) (HZ.out.mono (by omega)) (hzc.mono (by omega)) HC).mono ?_
      rintro e0 w4 ⟨rfl, hb4⟩
      by_cases hlt : N < cnt s k
      · have hCn : C = -1 := by rw [← hC2]; unfold cmpI; rw [if_pos (by omega)]
        subst hCn
        have hlen := unr_len_at hs1 hlt HE.out
        have h256 : N < cnt s 256 := Nat.lt_of_lt_of_le hlt (cnt_mono hs1 (by omega))
        have HEND := Lib.hid (And.intro hlen (And.intro h256 (HI.out.below.trans (hb4.mono HI.out.below.size))))
        clear hlen h256 r0 r1 r2 a0 a1 a2 hb4 hC2
        go_wp2_with fail
        refine bodyPost_ret (results_tmp2 rfl _ _ _) rfl ?_
        have hA := H.out
        unfold lenA at hA
        rw [if_pos HEND.out.2.1, HEND.out.1] at hA
        injection hA with hA1 hA2
        subst hA1 hA2
        exact ⟨rfl, HEND.out.2.2⟩
      · have hCn : ¬ C < 0 := by
          rw [← hC2]; unfold cmpI
          rw [if_neg (by omega)]
          split <;> omega
        have hI4 : LnI w w2.heap.size (false, A, n, c, B, 0, e) (nb2, A2, n2, c2, B2, m2, e2) ((N : Int) : Rat) s k w4 :=
          ⟨⟨HI.out.rank.1.below hb4 HI.out.rank.1.lt, HI.out.rank.2.below hb4⟩, ⟨HI.out.base.1.below hb4 HI.out.base.1.lt, HI.out.base.2.below hb4⟩, ⟨_, _, _, _, _, _, _, HRR.out.below hb4 HRR.out.lt, HRQ.out.below hb4⟩, HI.out.below.trans (hb4.mono HI.out.below.size)⟩
        have hr4 := HRR.out.below hb4 HRR.out.lt
        have hq4 := HRQ.out.below hb4
        have H4 := Lib.hid hI4
        clear r0 r1 r2 a0 a1 a2 HRR HRQ HI hI4
        obtain ⟨r0, r1, r2⟩ := hr4.cells
        obtain ⟨a0, a1, a2⟩ := H4.out.base.1.cells
        have HT4 := Lib.hid (HT.out.below H4.out.below)
        have hst := cntq_step s k
        have hz2 := cntq_sz hs2 (k + 1)
        obtain ⟨q0, hq0⟩ : ∃ q : Rat, (((cnt s k : Nat) : Int) : Rat) = q := ⟨_, rfl⟩
        obtain ⟨q1, hq1⟩ : ∃ q : Rat, (((cnt s (k + 1) : Nat) : Int) : Rat) = q := ⟨_, rfl⟩
        rw [hq0] at hq4 hzc hst
        rw [hq1] at hz2 hst
        have zs : Sz ((s : Int) : Rat) 1 := sz_whole (by omega) (by omega)
        have zo : Sz ((1 : Int) : Rat) 1 := sz_whole (by decide) (by omega)
        have zm : Sz (q0 * ((s : Int) : Rat)) (3 * k + 2) := sz_mul hzc zs (by omega)
        have HR4 := Lib.hid hr4
        have HQ4 := Lib.hid hq4
        have HZ4 := Lib.hid (And.intro hzc (And.intro zs (And.intro zo zm)))
        have HST := Lib.hid hst
        have HQ1 := Lib.hid hq1
        have hal : Hid (∀ j, j < k + 1 → ¬ N < cnt s j) := by
          intro j hj
          rcases Nat.lt_or_eq_of_le (Nat.le_of_lt_succ hj) with h' | rfl
          · exact HE.out j h'
          · exact hlt
        clear hr4 hq4 hzc zs zo zm hst hq1 hb4 hC2 HC
        go_wp2_with fail
        refine (Mul_any _ _ q0 ((s : Int) : Rat) _ 1000 _ HT4.out (HQ4.out.inp (HZ4.out.1.mono (by omega)) (by omega)) (H4.out.base.2.inp (HZ4.out.2.1.mono (by omega)) (by omega)) (HZ4.out.1.mono (by omega)) (HZ4.out.2.1.mono (by omega)) rfl).mono ?_
        rintro e0 w5 ⟨v5, rfl, h5, hb5⟩
        obtain ⟨z0, zA, zn, zc, zB, zm, zd, rfl⟩ := h5.agg
        go_wp2_with fail
        refine (number_any 1 _ (HT4.out.below hb5) (by decide) (by decide)).mono ?_
        rintro e0 w6 ⟨v6, rfl, h6, hb6⟩
        obtain ⟨y0, yA, yn, yc, yB, ym, yd, rfl⟩ := h6.agg
        have hb56 := hb5.trans (hb6.mono hb5.size)
        go_wp2_with fail
        refine (Add_any _ _ (q0 * ((s : Int) : Rat)) ((1 : Int) : Rat) q1 1000 _ (HT4.out.below hb56) ((h5.below hb6).inp (HZ4.out.2.2.2.mono (by omega)) (by omega)) (h6.inp (HZ4.out.2.2.1.mono (by omega)) (by omega)) (HZ4.out.2.2.2.mono (by omega)) (HZ4.out.2.2.1.mono (by omega)) HST.out).mono ?_
        rintro e0 w7 ⟨v7, rfl, h7, hb7⟩
        have hb57 := hb56.trans (hb7.mono hb56.size)
        obtain ⟨t0, tA, tn, tc, tB, tm, td, rfl⟩ := h7.agg
        have hr7 := HR4.out.below hb57 HR4.out.lt
        obtain ⟨p0, p1, p2⟩ := hr7.cells
        obtain ⟨f0, f1, f2⟩ := hr7.frozen
        have hl1 := HR4.out.lt
        have hrk := (H4.out.rank.1.below hb57 H4.out.rank.1.lt).far3 (g' := w2.heap.size) (by omega) (.bool t0) (.slice tA tn tc) (.slice tB tm td)
        have hrkq := (H4.out.rank.2.below hb57).set3 hr7 (.bool t0) (.slice tA tn tc) (.slice tB tm td)
        have hbs := (H4.out.base.1.below hb57 H4.out.base.1.lt).far3 (g' := w2.heap.size) (by omega) (.bool t0) (.slice tA tn tc) (.slice tB tm td)
        have hbsq := (H4.out.base.2.below hb57).set3 hr7 (.bool t0) (.slice tA tn tc) (.slice tB tm td)
        have hlg := hr7.set (.bool t0) (.slice tA tn tc) (.slice tB tm td)
        have hlgq := h7.set3 hr7 (.bool t0) (.slice tA tn tc) (.slice tB tm td)
        rw [← HQ1.out] at hlgq
        have hbel := below_set3 (H4.out.below.trans (hb57.mono H4.out.below.size)) (g := w2.heap.size) (by omega) (.bool t0) (.slice tA tn tc) (.slice tB tm td)
        have HEND : Hid (LnI w w2.heap.size (false, A, n, c, B, 0, e) (nb2, A2, n2, c2, B2, m2, e2) ((N : Int) : Rat) s (k + 1) _) := Lib.hid ⟨⟨hrk, hrkq⟩, ⟨hbs, hbsq⟩, ⟨_, _, _, _, _, _, _, hlg, hlgq⟩, hbel⟩
        clear hrk hrkq hbs hbsq hlg hlgq hbel hr7 h7 hb7 hb57 hb56 hb6 hb5 h5 h6 r0 r1 r2 a0 a1 a2
        go_wp2_with fail
        go_roundw
        case rel => exact ⟨k + 1, by omega, by go_num, HEND.out, hal⟩
        case measure => simp [intOf]; omega
    · obtain rfl : k = 257 := by omega
      have h256 := HE.out 256 (by omega)
      have HEND := Lib.hid (And.intro h256 hI.below)
      clear hI hI0 h256
      go_wp2_with fail
      refine bodyPost_ret (results_tmp2 rfl _ _ _) rfl ?_
      have hA := H.out
      unfold lenA at hA
      rw [if_neg HEND.out.1] at hA
      injection hA with hA1 hA2
      subst hA1 hA2
      exact ⟨rfl, HEND.out.2⟩
end Go.Proofs.YtdlmhgijpgnilaaGreatDoor

namespace Go.Proofs.YtdlmhgijpgnilaaGreatDoor
open Go.RowKit

theorem next12 : nextA [1, 2] 2 = ([2, 1], 0) := by decide
theorem rank21 : ((rk 2 [2, 1] : Int) : Rat) = ((5 : Int) : Rat) := by rfl
set_option maxRecDepth 20000 in
set_option maxHeartbeats 4000000 in
theorem awake5_any (w : World) (hT : Tab w) : Calls Tryz.prog 8 #[] w (RetV w (.bool true)) := by
  have hb0 : Below w.heap.size w (w.alloc (.cells #[.int .i64 2, .int .i64 1] 3)) := (Below.refl _ _).alloc (Nat.le_refl _) _
  have hi : Ints (w.alloc (.cells #[.int .i64 2, .int .i64 1] 3)) [2, 1] (some ⟨w.heap.size, 0, none⟩) 2 2 := Rd.lits w (ints [2, 1]) _ rfl
  have HT := Lib.hid hT
  clear hT
  go_enter Tryz.func8, Tryz.ntmps8
  go_wp2_with fail
  generalize w.alloc (.cells #[.int .i64 2, .int .i64 1] 3) = W0 at *
  refine (wRank_ok _ 2 2 [2, 1] 2 _ (HT.out.below hb0) hi (by decide)).mono ?_
  rintro e w1 ⟨v, rfl, hr, hb1⟩
  rw [rank21] at hr
  obtain ⟨nb, A, n, c, B, m, d, rfl⟩ := hr.agg
  have hz0 := hb0.size
  replace hb1 := hb0.trans (hb1.mono hz0)
  clear hi hb0
  have hal : Below w1.heap.size w1 (w1.alloc (.cells #[.bool nb, .slice A n c, .slice B m d] 25)) := (Below.refl _ _).alloc (Nat.le_refl _) _
  have hx := Rc.new w1 (.bool nb) (.slice A n c) (.slice B m d)
  replace hr := hr.below hal
  have hz1 := hb1.size
  replace hb1 := hb1.trans (hal.mono hz1)
  have hbl : Below (w1.alloc (.cells #[.bool nb, .slice A n c, .slice B m d] 25)).heap.size (w1.alloc (.cells #[.bool nb, .slice A n c, .slice B m d] 25)) ((w1.alloc (.cells #[.bool nb, .slice A n c, .slice B m d] 25)).alloc (.cells #[.int .i64 1, .int .i64 2] 3)) := (Below.refl _ _).alloc (Nat.le_refl _) _
  have hi : Ints ((w1.alloc (.cells #[.bool nb, .slice A n c, .slice B m d] 25)).alloc (.cells #[.int .i64 1, .int .i64 2] 3)) [1, 2] (some ⟨(w1.alloc (.cells #[.bool nb, .slice A n c, .slice B m d] 25)).heap.size, 0, none⟩) 2 2 := Rd.lits _ (ints [1, 2]) _ rfl
  rw [World.size_alloc] at hi
  replace hx := hx.below hbl hx.lt
  replace hr := hr.below hbl
  replace hb1 := hb1.trans (hbl.mono hb1.size)
  clear hal hbl
  go_wp2_with fail
  generalize (w1.alloc (.cells #[.bool nb, .slice A n c, .slice B m d] 25)).alloc (.cells #[.int .i64 1, .int .i64 2] 3) = W2 at *
  refine (wNext_any _ 2 2 [1, 2] 2 _ hi).mono ?_
  rw [next12]
  rintro e w3 ⟨v3, rfl, ho, hb3⟩
  replace hx := hx.below hb3 hx.lt
  replace hr := hr.below hb3
  replace hb1 := hb1.trans (hb3.mono hb1.size)
  obtain ⟨A3, c3, rfl, -⟩ := ho.shape
  obtain ⟨A4, c4, h4, hrd⟩ := ho.reads
  injection h4 with h5 _ h6
  subst h5 h6
  clear ho hb3 hi
  go_wp2_with fail
  replace hx : Rc w3.drew w1.heap.size (.bool nb) (.slice A n c) (.slice B m d) := hx
  replace hr := hr.drew1
  replace hrd : Ints w3 [2, 1] A3 2 c3 := hrd
  replace hrd := hrd.below (Below.refl _ _).drew
  have hb9 := hb1.drew
  have hrl : (w3.drew.cell? ⟨w1.heap.size, 0, none⟩ = some (.bool nb) ∧ w3.drew.cell? ⟨w1.heap.size, 1, none⟩ = some (.slice A n c) ∧ w3.drew.cell? ⟨w1.heap.size, 2, none⟩ = some (.slice B m d)) := hx.cells
  clear hb1
  have s5 : Sz ((5 : Int) : Rat) 1 := sz_whole (by decide) (by omega)
  go_region_held3 (fun w' => (w'.cell? ⟨w1.heap.size, 0, none⟩ = some (.bool nb) ∧ w'.cell? ⟨w1.heap.size, 1, none⟩ = some (.slice A n c) ∧ w'.cell? ⟨w1.heap.size, 2, none⟩ = some (.slice B m d)))
    (first | with_reducible exact hrl | ((with_reducible refine ⟨?_, ?_, ?_⟩) <;> (repeat' (first | (with_reducible exact hrl.1) | (with_reducible exact hrl.2.1) | (with_reducible exact hrl.2.2) | (with_reducible refine cell_alc _ ?_) | omega))) | fail)
    (first
      | (go_at_call 24; refine (r_Of 5 1 _ (by decide) ((5 : Int) : Rat) (qv_whole 5) (by decide) (by decide) (by decide) (by decide)).mono ?_; rintro e0 x1 ⟨v1, rfl, h1, hbk⟩; replace hx := hx.below hbk hx.lt; replace hr := hr.below hbk; replace hrd := hrd.below hbk; replace hb9 := hb9.trans (hbk.mono hb9.size); obtain ⟨nb1, B1, n1, c1, B2, m1, d1, rfl⟩ := h1.agg; have hrl : (x1.cell? ⟨w1.heap.size, 0, none⟩ = some (.bool nb) ∧ x1.cell? ⟨w1.heap.size, 1, none⟩ = some (.slice A n c) ∧ x1.cell? ⟨w1.heap.size, 2, none⟩ = some (.slice B m d)) := hx.cells)
      | (go_at_call 13; refine (r_Same_true _ _ _ _ _ 1 hr h1 s5 (by omega) rfl).mono ?_; rintro e0 x2 ⟨rfl, hbk⟩; replace hx := hx.below hbk hx.lt; have hrl : (x2.cell? ⟨w1.heap.size, 0, none⟩ = some (.bool nb) ∧ x2.cell? ⟨w1.heap.size, 1, none⟩ = some (.slice A n c) ∧ x2.cell? ⟨w1.heap.size, 2, none⟩ = some (.slice B m d)) := hx.cells; replace hrd := hrd.below hbk; replace hb9 := hb9.trans (hbk.mono hb9.size); have hal : Below x2.heap.size x2 (x2.alloc (.cells #[.int .i64 2, .int .i64 1] 3)) := (Below.refl _ _).alloc (Nat.le_refl _) _; have hi2 : Ints (x2.alloc (.cells #[.int .i64 2, .int .i64 1] 3)) [2, 1] (some ⟨x2.heap.size, 0, none⟩) 2 2 := Rd.lits _ (ints [2, 1]) _ rfl; replace hrd := hrd.below hal; replace hx := hx.below hal hx.lt; replace hb9 := hb9.trans (hal.mono hb9.size))
      | (go_at_call 14; refine (qSame_any _ _ 2 _ 2 _ [2, 1] [2, 1] _ true hrd hi2 (by omega) (by omega) (Lib.hid (by decide))).mono ?_; rintro e0 x3 ⟨rfl, qk, rfl⟩; replace hb9 := hb9.trans (below_of_drewN _ qk _); replace hx := hx.drewN qk; have hrl : (((x2.alloc (.cells #[.int .i64 2, .int .i64 1] 3)).drewN qk).cell? ⟨w1.heap.size, 0, none⟩ = some (.bool nb) ∧ ((x2.alloc (.cells #[.int .i64 2, .int .i64 1] 3)).drewN qk).cell? ⟨w1.heap.size, 1, none⟩ = some (.slice A n c) ∧ ((x2.alloc (.cells #[.int .i64 2, .int .i64 1] 3)).drewN qk).cell? ⟨w1.heap.size, 2, none⟩ = some (.slice B m d)) := hx.cells))
  all_goals
    go_wp2_with fail
    go_ret
    exact ⟨rfl, hb9⟩
def lightB (n : Nat) : Bool := decide (n ≤ 20) || (decide (255 ≤ n) && decide (n ≤ 258))
theorem nextA_len (l : List Int) (s : Int) : (nextA l s).1.length ≤ 256 := by
  unfold nextA
  split
  · split
    · assumption
    · simp
  · simp
end Go.Proofs.YtdlmhgijpgnilaaGreatDoor
