/- The law WordsRankBack. -/
import Derived.Test.YtdlmhgijpgnilaaGreatDoorQ30
import Derived.Test.YtdlmhgijpgnilaaGreatDoorQ26
import Derived.Test.YtdlmhgijpgnilaaGreatDoorQ27
import Derived.Test.YtdlmhgijpgnilaaGreatDoorQ22
set_option linter.unusedVariables false
set_option linter.unusedSimpArgs false
namespace Go.Proofs.YtdlmhgijpgnilaaGreatDoor
open Go.RowKit

theorem cmpR_v (v v' : Value) (x y : Rat) (C : Int) (w : World) (h : Inr w v x) (h' : Inr w v' y) (sx : Sz x 400000) (sy : Sz y 400000) (HC : (x - y).num.sign = C) : Calls Tryz.prog 26 #[v, v'] w (RetV w (.int .i64 C)) := by
  rw [← HC]; exact r_Compare v v' x y w h h' sx sy
theorem rkq_len {s : Int} {l : List Int} (h : wok l s = true) (hl : l.length ≤ 21) : Sz ((rk s l : Int) : Rat) 64 := by
  have := rkq_sz h l.length (Nat.le_refl _)
  rw [List.take_length] at this
  exact this.mono (by omega)
theorem unrQ_rk {s : Nat} {l : List Int} (hs1 : 1 ≤ s) (hl : l.length ≤ 20) (hm : ∀ x ∈ l, 1 ≤ x ∧ x ≤ (s : Int)) : unrQ ((rk (s : Int) l : Int) : Rat) s = (l, 0) := by
  have h0 := rk_nonneg (s := (s : Int)) (by omega) hm
  unfold unrQ
  rw [Rat.num_intCast, Rat.den_intCast, if_neg (by omega)]
  obtain ⟨N, hN⟩ : ∃ N : Nat, rk (s : Int) l = (N : Int) := ⟨(rk (s : Int) l).toNat, by omega⟩
  rw [hN, Int.toNat_natCast]
  have hu := unr_rk hs1 hm hN
  have hc : N < cnt s 256 := (unr_len hs1 256 N).1 (by rw [hu]; omega)
  unfold unrA
  rw [if_pos hc, hu]
set_option maxRecDepth 20000 in
set_option maxHeartbeats 16000000 in
theorem rankBack_law (A : Option Addr) (n c : Nat) (l : List Int) (A' : Option Addr) (n' c' : Nat) (r : List Int) (s : Int) (w : World) (hT : Tab w) (h : Ints w l A n c) (hrl : ∀ x ∈ l, -9223372036854775808 ≤ x ∧ x ≤ 9223372036854775807) (h' : Ints w r A' n' c') (hrr : ∀ x ∈ r, -9223372036854775808 ≤ x ∧ x ≤ 9223372036854775807) (hs1 : -9223372036854775808 ≤ s) (hs2 : s ≤ 9223372036854775807) :
    Calls Tryz.prog 5 #[.slice A n c, .slice A' n' c', .int .i64 s] w (RetV w (.bool true)) := by
  have HT := Lib.hid hT
  have HL := Lib.hid hrl
  have HR := Lib.hid hrr
  clear hT hrl hrr
  go_enter Tryz.func5, Tryz.ntmps5
  go_wp2_with fail
  refine (Mod_in s 32 _ hs1 hs2 (by omega) (by omega)).mono ?_
  rintro e0 w' ⟨y, hy, rfl, rfl⟩
  obtain ⟨S, hS⟩ : ∃ S : Nat, 1 + (y : Int) = (S : Int) := ⟨y + 1, by omega⟩
  have hS1 : 1 ≤ S := by omega
  have hS2 : S ≤ 32 := by omega
  have hw1 : IntKind.i64.wrap (1 + (y : Int)) = (S : Int) := by rw [IntWalk.i64_in _ (by omega)]; exact hS
  clear hS
  go_wp2_with fail
  refine (Word_any A n c l S _ h HL.out hS1 hS2).mono ?_
  rintro e0 w1 ⟨v1, lv, rfl, ov, hlv, hmv, hb1⟩
  obtain ⟨A1, c1, rfl, hv⟩ := ov.reads
  clear ov
  have h2 := h'.below hb1
  clear h h'
  go_wp2_with fail
  refine (Word_any A' n' c' r S _ h2 HR.out hS1 hS2).mono ?_
  rintro e0 w2 ⟨v2, lw, rfl, ow, hlw, hmw, hb2⟩
  obtain ⟨A2, c2, rfl, hw⟩ := ow.reads
  clear ow
  replace hv := hv.below hb2
  have hb := hb1.trans (hb2.mono hb1.size)
  clear hb1 hb2 h2
  have okv : wok lv (S : Int) = true := wok_mk (by omega) (by omega) (by omega) hmv
  have okw : wok lw (S : Int) = true := wok_mk (by omega) (by omega) (by omega) hmw
  have EN1 : nextA lv (S : Int) = (nxt (S : Int) lv, 0) := nextA_ok okv (by have := (nxt_length (S : Int) lv).1; omega)
  have hmn := nxt_mem (s := (S : Int)) (by omega) hmv
  have hln := (nxt_length (S : Int) lv).1
  have okn : wok (nxt (S : Int) lv) (S : Int) = true := wok_mk (by omega) (by omega) (by omega) hmn
  have EK := rk_nxt (s := (S : Int)) (by omega) hmv
  have ECM := cmp_rk (s := (S : Int)) (by omega) hmv hmw
  have ECN := cmp_rk (s := (S : Int)) (by omega) hmv hmn
  have EU := unrQ_rk hS1 hlv hmv
  have sa := rkq_len okv (by omega)
  have sb := rkq_len okw (by omega)
  have sd := rkq_len okn (by omega)
  have so : Sz ((1 : Int) : Rat) 64 := sz_whole (by decide) (by omega)
  obtain ⟨ln, hln2⟩ : ∃ x, nxt (S : Int) lv = x := ⟨_, rfl⟩
  rw [hln2] at EN1 hmn hln okn EK ECN sd
  have hd : ((rk (S : Int) ln : Int) : Rat) = ((rk (S : Int) lv : Int) : Rat) + ((1 : Int) : Rat) := by rw [EK, Rat.intCast_add]
  obtain ⟨C, hC⟩ : ∃ C, cmpW lv lw = C := ⟨_, rfl⟩
  have hC2 : (((rk (S : Int) lv : Int) : Rat) - ((rk (S : Int) lw : Int) : Rat)).num.sign = C := by rw [← Rat.intCast_sub, Rat.num_intCast, ← hC, ECM]
  have hN2 : cmpW lv ln = -1 := by
    rw [ECN, EK, show rk (S : Int) lv - (rk (S : Int) lv + 1) = -1 by omega]
    rfl
  obtain ⟨fa, hfa⟩ : ∃ q : Rat, ((rk (S : Int) lv : Int) : Rat) = q := ⟨_, rfl⟩
  obtain ⟨fb, hfb⟩ : ∃ q : Rat, ((rk (S : Int) lw : Int) : Rat) = q := ⟨_, rfl⟩
  obtain ⟨fd, hfd⟩ : ∃ q : Rat, ((rk (S : Int) ln : Int) : Rat) = q := ⟨_, rfl⟩
  rw [hfa] at hd hC2 sa EU
  rw [hfb] at hC2 sb
  rw [hfd] at hd sd
  have EW := Lib.hid hC
  have EC := Lib.hid hC2
  have EN := Lib.hid hN2
  have ED := Lib.hid hd
  have EV := Lib.hid (And.intro okv (And.intro okw okn))
  have EF := Lib.hid (And.intro hfa (And.intro hfb hfd))
  have EX := Lib.hid (And.intro EN1 EU)
  have hCC : (C == C) = true := by simp
  clear hmv hmw hmn okv okw okn EN1 EU ECM ECN EK hC hC2 hN2 hd hfa hfb hfd hln2
  go_wp2_with fail
  refine (wRank_ok A1 _ c1 lv S _ (HT.out.below hb) hv EV.out.1).mono ?_
  rw [EF.out.1]
  rintro e0 w3 ⟨va, rfl, ra, hb1⟩
  obtain ⟨a0, aA, an, ac, aB, am, ae, rfl⟩ := ra.agg
  obtain ⟨hb2, q7⟩ := blk1 w3 [.bool a0, .slice aA an ac, .slice aB am ae] 25
  replace hv := (hv.below hb1).below hb2
  replace hw := (hw.below hb1).below hb2
  replace ra := ra.below hb2
  replace hb := (hb.trans (hb1.mono hb.size)).trans (hb2.mono (Nat.le_trans hb.size hb1.size))
  clear hb1 hb2
  go_wp2_with fail
  generalize w3.alloc (.cells #[.bool a0, .slice aA an ac, .slice aB am ae] 25) = W3 at *
  replace q7 : Rc W3 w3.heap.size (.bool a0) (.slice aA an ac) (.slice aB am ae) := q7
  refine (wRank_ok A2 _ c2 lw S _ (HT.out.below hb) hw EV.out.2.1).mono ?_
  rw [EF.out.2.1]
  rintro e0 w4 ⟨vb, rfl, rb, hb1⟩
  obtain ⟨b0, bA, bn, bc, bB, bm, be, rfl⟩ := rb.agg
  obtain ⟨hb2, q9⟩ := blk1 w4 [.bool b0, .slice bA bn bc, .slice bB bm be] 25
  replace hv := (hv.below hb1).below hb2
  replace hw := (hw.below hb1).below hb2
  replace ra := (ra.below hb1).below hb2
  replace q7 := (q7.below hb1 q7.lt).below hb2 (q7.below hb1 q7.lt).lt
  replace rb := rb.below hb2
  replace hb := (hb.trans (hb1.mono hb.size)).trans (hb2.mono (Nat.le_trans hb.size hb1.size))
  clear hb1 hb2
  obtain ⟨k0, k1, k2⟩ := q7.cells
  go_wp2_with fail
  generalize w4.alloc (.cells #[.bool b0, .slice bA bn bc, .slice bB bm be] 25) = W4 at *
  replace q9 : Rc W4 w4.heap.size (.bool b0) (.slice bA bn bc) (.slice bB bm be) := q9
  refine (unrank_in _ fa S _ (HT.out.below hb) (ra.inp (sa.mono (by omega)) (by omega)) hS1 hS2 (lv, 0) (Lib.hid EX.out.2)).mono ?_
  rintro e0 w5 ⟨vk, rfl, ok, hb1⟩
  obtain ⟨A3, c3, rfl, hk⟩ := ok.reads
  clear ok
  clear k0 k1 k2
  replace hv := hv.below hb1
  replace hw := hw.below hb1
  replace ra := ra.below hb1
  replace rb := rb.below hb1
  replace q7 := q7.below hb1 q7.lt
  replace q9 := q9.below hb1 q9.lt
  replace hb := hb.trans (hb1.mono hb.size)
  clear hb1
  go_wp2_with fail
  refine (wNext_any A1 _ c1 lv S _ hv).mono ?_
  rw [EX.out.1]
  rintro e0 w6 ⟨vx, rfl, ox, hb1⟩
  obtain ⟨A4, c4, rfl, hx⟩ := ox.reads
  clear ox
  replace hv := hv.below hb1
  replace hw := hw.below hb1
  replace hk := hk.below hb1
  replace ra := ra.below hb1
  replace rb := rb.below hb1
  replace q7 := q7.below hb1 q7.lt
  replace q9 := q9.below hb1 q9.lt
  replace hb := hb.trans (hb1.mono hb.size)
  clear hb1
  go_wp2_with fail
  refine (wRank_ok A4 _ c4 ln S _ (HT.out.below hb) hx EV.out.2.2).mono ?_
  rw [EF.out.2.2]
  rintro e0 w7 ⟨vd, rfl, rd, hb1⟩
  obtain ⟨d0, dA, dn, dc, dB, dm, de, rfl⟩ := rd.agg
  obtain ⟨hb2, q15⟩ := blk1 w7 [.bool d0, .slice dA dn dc, .slice dB dm de] 25
  replace hv := (hv.below hb1).below hb2
  replace hw := (hw.below hb1).below hb2
  replace hk := (hk.below hb1).below hb2
  replace hx := (hx.below hb1).below hb2
  replace ra := (ra.below hb1).below hb2
  replace rb := (rb.below hb1).below hb2
  replace rd := rd.below hb2
  replace q7 := (q7.below hb1 q7.lt).below hb2 (q7.below hb1 q7.lt).lt
  replace q9 := (q9.below hb1 q9.lt).below hb2 (q9.below hb1 q9.lt).lt
  replace hb := (hb.trans (hb1.mono hb.size)).trans (hb2.mono (Nat.le_trans hb.size hb1.size))
  clear hb1 hb2
  go_wp2_with fail
  generalize w7.alloc (.cells #[.bool d0, .slice dA dn dc, .slice dB dm de] 25) = W7 at *
  replace q15 : Rc W7.drew w7.heap.size (.bool d0) (.slice dA dn dc) (.slice dB dm de) := q15
  replace q7 : Rc W7.drew w3.heap.size (.bool a0) (.slice aA an ac) (.slice aB am ae) := q7
  replace q9 : Rc W7.drew w4.heap.size (.bool b0) (.slice bA bn bc) (.slice bB bm be) := q9
  replace ra := ra.drew1
  replace rb := rb.drew1
  replace rd := rd.drew1
  replace hv := hv.below (Below.refl _ _).drew
  replace hw := hw.below (Below.refl _ _).drew
  replace hk := hk.below (Below.refl _ _).drew
  replace hx := hx.below (Below.refl _ _).drew
  replace hb := hb.drew
  have hT := HT.out.below hb
  have hrl : (W7.drew.cell? ⟨w3.heap.size, 0, none⟩ = some (.bool a0) ∧ W7.drew.cell? ⟨w3.heap.size, 1, none⟩ = some (.slice aA an ac) ∧ W7.drew.cell? ⟨w3.heap.size, 2, none⟩ = some (.slice aB am ae) ∧ W7.drew.cell? ⟨w4.heap.size, 0, none⟩ = some (.bool b0) ∧ W7.drew.cell? ⟨w4.heap.size, 1, none⟩ = some (.slice bA bn bc) ∧ W7.drew.cell? ⟨w4.heap.size, 2, none⟩ = some (.slice bB bm be) ∧ W7.drew.cell? ⟨w7.heap.size, 0, none⟩ = some (.bool d0) ∧ W7.drew.cell? ⟨w7.heap.size, 1, none⟩ = some (.slice dA dn dc) ∧ W7.drew.cell? ⟨w7.heap.size, 2, none⟩ = some (.slice dB dm de)) := ⟨q7.cells.1, q7.cells.2.1, q7.cells.2.2, q9.cells.1, q9.cells.2.1, q9.cells.2.2, q15.cells.1, q15.cells.2.1, q15.cells.2.2⟩
  go_region_held3 (fun w' => (w'.cell? ⟨w3.heap.size, 0, none⟩ = some (.bool a0) ∧ w'.cell? ⟨w3.heap.size, 1, none⟩ = some (.slice aA an ac) ∧ w'.cell? ⟨w3.heap.size, 2, none⟩ = some (.slice aB am ae) ∧ w'.cell? ⟨w4.heap.size, 0, none⟩ = some (.bool b0) ∧ w'.cell? ⟨w4.heap.size, 1, none⟩ = some (.slice bA bn bc) ∧ w'.cell? ⟨w4.heap.size, 2, none⟩ = some (.slice bB bm be) ∧ w'.cell? ⟨w7.heap.size, 0, none⟩ = some (.bool d0) ∧ w'.cell? ⟨w7.heap.size, 1, none⟩ = some (.slice dA dn dc) ∧ w'.cell? ⟨w7.heap.size, 2, none⟩ = some (.slice dB dm de)))
    (first | with_reducible exact hrl | fail)
    (first
      | (go_at_call 8; refine (awake5_any _ hT).mono ?_; rintro e0 x1 ⟨rfl, hbk⟩; replace q7 := q7.below hbk q7.lt; replace q9 := q9.below hbk q9.lt; replace q15 := q15.below hbk q15.lt; replace ra := ra.below hbk; replace rb := rb.below hbk; replace rd := rd.below hbk; replace hv := hv.below hbk; replace hw := hw.below hbk; replace hk := hk.below hbk; replace hx := hx.below hbk; replace hT := hT.below hbk; replace hb := hb.trans (hbk.mono hb.size); have hrl : (x1.cell? ⟨w3.heap.size, 0, none⟩ = some (.bool a0) ∧ x1.cell? ⟨w3.heap.size, 1, none⟩ = some (.slice aA an ac) ∧ x1.cell? ⟨w3.heap.size, 2, none⟩ = some (.slice aB am ae) ∧ x1.cell? ⟨w4.heap.size, 0, none⟩ = some (.bool b0) ∧ x1.cell? ⟨w4.heap.size, 1, none⟩ = some (.slice bA bn bc) ∧ x1.cell? ⟨w4.heap.size, 2, none⟩ = some (.slice bB bm be) ∧ x1.cell? ⟨w7.heap.size, 0, none⟩ = some (.bool d0) ∧ x1.cell? ⟨w7.heap.size, 1, none⟩ = some (.slice dA dn dc) ∧ x1.cell? ⟨w7.heap.size, 2, none⟩ = some (.slice dB dm de)) := ⟨q7.cells.1, q7.cells.2.1, q7.cells.2.2, q9.cells.1, q9.cells.2.1, q9.cells.2.2, q15.cells.1, q15.cells.2.1, q15.cells.2.2⟩)
      | (go_at_call 14; refine (qSame_any _ _ _ _ _ _ lv lv _ true hk hv (by omega) (by omega) (Lib.hid (by simp))).mono ?_; rintro e0 x2 ⟨rfl, qk, rfl⟩; have hbk := below_of_drewN x1 qk x1.heap.size; replace q7 := q7.below hbk q7.lt; replace q9 := q9.below hbk q9.lt; replace q15 := q15.below hbk q15.lt; replace ra := ra.below hbk; replace rb := rb.below hbk; replace rd := rd.below hbk; replace hv := hv.below hbk; replace hw := hw.below hbk; replace hk := hk.below hbk; replace hx := hx.below hbk; replace hT := hT.below hbk; replace hb := hb.trans (hbk.mono hb.size); have hrl : ((x1.drewN qk).cell? ⟨w3.heap.size, 0, none⟩ = some (.bool a0) ∧ (x1.drewN qk).cell? ⟨w3.heap.size, 1, none⟩ = some (.slice aA an ac) ∧ (x1.drewN qk).cell? ⟨w3.heap.size, 2, none⟩ = some (.slice aB am ae) ∧ (x1.drewN qk).cell? ⟨w4.heap.size, 0, none⟩ = some (.bool b0) ∧ (x1.drewN qk).cell? ⟨w4.heap.size, 1, none⟩ = some (.slice bA bn bc) ∧ (x1.drewN qk).cell? ⟨w4.heap.size, 2, none⟩ = some (.slice bB bm be) ∧ (x1.drewN qk).cell? ⟨w7.heap.size, 0, none⟩ = some (.bool d0) ∧ (x1.drewN qk).cell? ⟨w7.heap.size, 1, none⟩ = some (.slice dA dn dc) ∧ (x1.drewN qk).cell? ⟨w7.heap.size, 2, none⟩ = some (.slice dB dm de)) := ⟨q7.cells.1, q7.cells.2.1, q7.cells.2.2, q9.cells.1, q9.cells.2.1, q9.cells.2.2, q15.cells.1, q15.cells.2.1, q15.cells.2.2⟩)
      | (go_at_call 24; refine (r_Of 1 1 _ (by decide) ((1 : Int) : Rat) (qv_whole 1) (by decide) (by decide) (by decide) (by decide)).mono ?_; rintro e0 x3 ⟨v1, rfl, h1, hbk⟩; replace q7 := q7.below hbk q7.lt; replace q9 := q9.below hbk q9.lt; replace q15 := q15.below hbk q15.lt; replace ra := ra.below hbk; replace rb := rb.below hbk; replace rd := rd.below hbk; replace hv := hv.below hbk; replace hw := hw.below hbk; replace hk := hk.below hbk; replace hx := hx.below hbk; replace hT := hT.below hbk; replace hb := hb.trans (hbk.mono hb.size); have hrl : (x3.cell? ⟨w3.heap.size, 0, none⟩ = some (.bool a0) ∧ x3.cell? ⟨w3.heap.size, 1, none⟩ = some (.slice aA an ac) ∧ x3.cell? ⟨w3.heap.size, 2, none⟩ = some (.slice aB am ae) ∧ x3.cell? ⟨w4.heap.size, 0, none⟩ = some (.bool b0) ∧ x3.cell? ⟨w4.heap.size, 1, none⟩ = some (.slice bA bn bc) ∧ x3.cell? ⟨w4.heap.size, 2, none⟩ = some (.slice bB bm be) ∧ x3.cell? ⟨w7.heap.size, 0, none⟩ = some (.bool d0) ∧ x3.cell? ⟨w7.heap.size, 1, none⟩ = some (.slice dA dn dc) ∧ x3.cell? ⟨w7.heap.size, 2, none⟩ = some (.slice dB dm de)) := ⟨q7.cells.1, q7.cells.2.1, q7.cells.2.2, q9.cells.1, q9.cells.2.1, q9.cells.2.2, q15.cells.1, q15.cells.2.1, q15.cells.2.2⟩; obtain ⟨y0, yA, yn, yc, yB, ym, ye, rfl⟩ := h1.agg)
      | (go_at_call 23; refine (r_Add _ _ fa ((1 : Int) : Rat) _ (ra.inr sa (by omega)) (h1.inr so (by omega)) (sa.mono (by omega)) (so.mono (by omega))).mono ?_; rintro e0 x4 ⟨v2, rfl, h2, hbk⟩; replace q7 := q7.below hbk q7.lt; replace q9 := q9.below hbk q9.lt; replace q15 := q15.below hbk q15.lt; replace ra := ra.below hbk; replace rb := rb.below hbk; replace rd := rd.below hbk; replace hv := hv.below hbk; replace hw := hw.below hbk; replace hk := hk.below hbk; replace hx := hx.below hbk; replace hT := hT.below hbk; replace hb := hb.trans (hbk.mono hb.size); have hrl : (x4.cell? ⟨w3.heap.size, 0, none⟩ = some (.bool a0) ∧ x4.cell? ⟨w3.heap.size, 1, none⟩ = some (.slice aA an ac) ∧ x4.cell? ⟨w3.heap.size, 2, none⟩ = some (.slice aB am ae) ∧ x4.cell? ⟨w4.heap.size, 0, none⟩ = some (.bool b0) ∧ x4.cell? ⟨w4.heap.size, 1, none⟩ = some (.slice bA bn bc) ∧ x4.cell? ⟨w4.heap.size, 2, none⟩ = some (.slice bB bm be) ∧ x4.cell? ⟨w7.heap.size, 0, none⟩ = some (.bool d0) ∧ x4.cell? ⟨w7.heap.size, 1, none⟩ = some (.slice dA dn dc) ∧ x4.cell? ⟨w7.heap.size, 2, none⟩ = some (.slice dB dm de)) := ⟨q7.cells.1, q7.cells.2.1, q7.cells.2.2, q9.cells.1, q9.cells.2.1, q9.cells.2.2, q15.cells.1, q15.cells.2.1, q15.cells.2.2⟩; obtain ⟨z0, zA, zn, zc, zB, zm, ze, rfl⟩ := h2.agg)
      | (go_at_call 13; refine (r_Same_true _ _ _ _ _ 64 rd h2 sd (by omega) ED.out).mono ?_; rintro e0 x5 ⟨rfl, hbk⟩; replace q7 := q7.below hbk q7.lt; replace q9 := q9.below hbk q9.lt; replace q15 := q15.below hbk q15.lt; replace ra := ra.below hbk; replace rb := rb.below hbk; replace rd := rd.below hbk; replace hv := hv.below hbk; replace hw := hw.below hbk; replace hk := hk.below hbk; replace hx := hx.below hbk; replace hT := hT.below hbk; replace hb := hb.trans (hbk.mono hb.size); have hrl : (x5.cell? ⟨w3.heap.size, 0, none⟩ = some (.bool a0) ∧ x5.cell? ⟨w3.heap.size, 1, none⟩ = some (.slice aA an ac) ∧ x5.cell? ⟨w3.heap.size, 2, none⟩ = some (.slice aB am ae) ∧ x5.cell? ⟨w4.heap.size, 0, none⟩ = some (.bool b0) ∧ x5.cell? ⟨w4.heap.size, 1, none⟩ = some (.slice bA bn bc) ∧ x5.cell? ⟨w4.heap.size, 2, none⟩ = some (.slice bB bm be) ∧ x5.cell? ⟨w7.heap.size, 0, none⟩ = some (.bool d0) ∧ x5.cell? ⟨w7.heap.size, 1, none⟩ = some (.slice dA dn dc) ∧ x5.cell? ⟨w7.heap.size, 2, none⟩ = some (.slice dB dm de)) := ⟨q7.cells.1, q7.cells.2.1, q7.cells.2.2, q9.cells.1, q9.cells.2.1, q9.cells.2.2, q15.cells.1, q15.cells.2.1, q15.cells.2.2⟩)
      | (go_at_call 26; refine (cmpR_v _ _ fa fb C _ (ra.inr sa (by omega)) (rb.inr sb (by omega)) (sa.mono (by omega)) (sb.mono (by omega)) EC.out).mono ?_; rintro e0 x6 ⟨rfl, hbk⟩; replace q7 := q7.below hbk q7.lt; replace q9 := q9.below hbk q9.lt; replace q15 := q15.below hbk q15.lt; replace ra := ra.below hbk; replace rb := rb.below hbk; replace rd := rd.below hbk; replace hv := hv.below hbk; replace hw := hw.below hbk; replace hk := hk.below hbk; replace hx := hx.below hbk; replace hT := hT.below hbk; replace hb := hb.trans (hbk.mono hb.size); have hrl : (x6.cell? ⟨w3.heap.size, 0, none⟩ = some (.bool a0) ∧ x6.cell? ⟨w3.heap.size, 1, none⟩ = some (.slice aA an ac) ∧ x6.cell? ⟨w3.heap.size, 2, none⟩ = some (.slice aB am ae) ∧ x6.cell? ⟨w4.heap.size, 0, none⟩ = some (.bool b0) ∧ x6.cell? ⟨w4.heap.size, 1, none⟩ = some (.slice bA bn bc) ∧ x6.cell? ⟨w4.heap.size, 2, none⟩ = some (.slice bB bm be) ∧ x6.cell? ⟨w7.heap.size, 0, none⟩ = some (.bool d0) ∧ x6.cell? ⟨w7.heap.size, 1, none⟩ = some (.slice dA dn dc) ∧ x6.cell? ⟨w7.heap.size, 2, none⟩ = some (.slice dB dm de)) := ⟨q7.cells.1, q7.cells.2.1, q7.cells.2.2, q9.cells.1, q9.cells.2.1, q9.cells.2.2, q15.cells.1, q15.cells.2.1, q15.cells.2.2⟩; have mC := Lib.hid (rfl : 1 = 1))
      | (have _g := mC; go_at_call 25; refine (wCompare_any _ _ _ _ _ _ lv ln _ (-1) hv hx (by omega) (by omega) EN).mono ?_; rintro e0 x8 ⟨rfl, rfl⟩)
      | (go_at_call 25; refine (wCompare_any _ _ _ _ _ _ lv lw _ C hv hw (by omega) (by omega) EW).mono ?_; rintro e0 x7 ⟨rfl, rfl⟩))
  all_goals
    go_wp2_with fail
    go_ret
    exact ⟨rfl, hb⟩
end Go.Proofs.YtdlmhgijpgnilaaGreatDoor
