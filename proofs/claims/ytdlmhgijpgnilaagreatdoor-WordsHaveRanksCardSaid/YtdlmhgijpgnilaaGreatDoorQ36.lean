/- The specification's Unrank. -/
import Derived.Test.YtdlmhgijpgnilaaGreatDoorQ30
import Derived.Test.YtdlmhgijpgnilaaGreatDoorQ34
import Derived.Test.YtdlmhgijpgnilaaGreatDoorQ35
import Derived.Test.YtdlmhgijpgnilaaGreatDoorQ33
import Derived.Deep.RegionHeld3
import Derived.Deep.LoopGhost
set_option linter.unusedVariables false
set_option linter.unusedSimpArgs false
namespace Go.Proofs.YtdlmhgijpgnilaaGreatDoor
open Go.RowKit

theorem r_QuoV (v v' : Value) (x y r : Rat) (w : World) (h : Inr w v x) (h' : Inr w v' y) (sx : Sz x 400000) (sy : Sz y 400000) (hy0 : y ≠ 0) (hr : x / y = r) : Calls Tryz.prog 44 #[v, v'] w (RetRat w r) := by
  rw [← hr]; exact r_Quo v v' x y w h h' sx sy hy0
theorem r_DownV (v : Value) (x r : Rat) (w : World) (h : Inr w v x) (sx : Sz x 100000) (hr : down x 0 = r) : Calls Tryz.prog 43 #[v, .int .i64 0] w (RetRat w r) := by
  rw [← hr]
  exact r_Down_in v x 0 w h sx (by omega)
theorem r_SignV (v : Value) (q : Rat) (V : Int) (w : World) (h : Inr w v q) (hV : q.num.sign = V) : Calls Tryz.prog 41 #[v] w (RetV w (.int .i64 V)) := by
  rw [← hV]; exact r_Sign v q w h
theorem own_set3v {W : World} {B g : Nat} {v : Value} {l : List Int} (h : OwnI W B v l) {l' : List Value} {t : TypeId} (hc : Cs W g l' t) (ht : t ≠ 3) (u0 u1 u2 : Value) : OwnI (((W.setCell ⟨g, 0, none⟩ u0).setCell ⟨g, 1, none⟩ u1).setCell ⟨g, 2, none⟩ u2) B v l := by
  have hne := own_ne2 h hc ht
  exact ((h.set (p := ⟨g, 0, none⟩) hne u0).set (p := ⟨g, 1, none⟩) hne u1).set (p := ⟨g, 2, none⟩) hne u2
theorem num_grown {W W' : World} {B n : Nat} {v : Value} {xs : List Value} {l : List Nat} {A : Option Addr} {m c : Nat} (h : Num W l A m c) (ho : W.ownsRow B 3 1 v n xs) (hx : ∀ u ∈ xs, ∀ y : Nat, u ≠ .int .u32 (y : Int)) (hf : v.ownBlock = none ∨ ∃ g, v = .slice (some ⟨g, 0, none⟩) n n) (hg : W.grownBy W' v.ownBlock) : Num W' l A m c :=
  ⟨h.len, h.cap, h.lim, fun hn => by
    obtain ⟨b, o, hA, hb, hc⟩ := h.cells hn
    have hne : some b ≠ v.ownBlock := by
      intro e
      rcases hf with hf | ⟨g, hf⟩
      · rw [hf] at e; cases e
      · subst hf
        have hbg : b = g := Option.some.inj e
        subst hbg
        rcases ho.2 with ⟨h1, _⟩ | ⟨g', cap, cur, h1, _, h3, _, _, h6, h7⟩
        · cases h1
        · simp only [Value.slice.injEq, Option.some.injEq, Addr.mk.injEq, and_true] at h1
          obtain ⟨rfl, _, rfl⟩ := h1
          have hcur : cur.toList = xs := by
            rw [← h7]
            symm
            exact List.take_of_length_le (by rw [Array.length_toList, h6]; exact Nat.le_refl _)
          have hpos : 0 < l.length := by have := h.len; omega
          have hc0 := hc 0 _ (List.getElem?_eq_getElem hpos)
          rw [cell_of_row W b _ _ _ _ h3] at hc0
          have hm : (Value.int .u32 ((l[0] : Nat) : Int)) ∈ xs := by
            rw [← hcur]
            exact List.mem_of_getElem? (by rw [Array.getElem?_toList]; exact hc0)
          exact hx _ hm _ rfl
    refine ⟨b, o, hA, Nat.lt_of_lt_of_le hb hg.size, fun k x hx => ?_⟩
    exact (World.cell?_of_block (w := W) (hg.block b hb hne)).trans (hc k x hx)⟩
theorem ratq_grown {W W' : World} {B g : Nat} {x : Int} {v : Value} {q : Rat} (h : RatQ W v q) (ho : W.ownsRow B 3 1 (.slice (some ⟨g, 0, none⟩) 1 1) 1 (ints [x])) (hg : W.grownBy W' (Value.slice (some ⟨g, 0, none⟩) 1 1).ownBlock) : RatQ W' v q := by
  obtain ⟨A, n, c, A', m, c', e, h1, h2⟩ := h
  exact ⟨A, n, c, A', m, c', e, num_grown h1 ho (ints_no _) (.inr ⟨_, rfl⟩) hg, num_grown h2 ho (ints_no _) (.inr ⟨_, rfl⟩) hg⟩
/-- Between two rounds: what is left of the rank. -/
structure RqU (w0 : World) (s N k : Nat) (W : World) : Prop where
  rank : ∃ nb A n c B m d, Rc W w0.heap.size (.bool nb) (.slice A n c) (.slice B m d) ∧ RatQ W (.agg #[.bool nb, .slice A n c, .slice B m d]) ((lft s N k : Int) : Rat)
  below : Below w0.heap.size w0 W
theorem lft_end {s N k : Nat} (hs : 1 ≤ s) (hk : k ≤ (unr s N).length) (h : lft s N k = 0) : k = (unr s N).length := by
  rcases Nat.lt_or_eq_of_le hk with h1 | h1
  · exact absurd h ((unr_left (s := s) N k hk).2 h1).1
  · exact h1
theorem lft_more {s N k : Nat} (hs : 1 ≤ s) (hk : k ≤ (unr s N).length) (h : lft s N k ≠ 0) : k < (unr s N).length := by
  rcases Nat.lt_or_eq_of_le hk with h1 | h1
  · exact h1
  · exfalso
    have h2 := (unr_left (s := s) N k hk).1
    rw [h1, Nat.sub_self, List.take_zero] at h2
    rw [← h1] at h2
    rw [unr_pos s h] at h2
    simp at h2
theorem sub_parts {N s : Nat} (hN : N ≠ 0) : (((N - 1 : Nat) : Int) : Rat) - (((((N - 1) / s : Nat) : Int) : Rat)) * ((s : Int) : Rat) = ((((N - 1) % s : Nat) : Int) : Rat) := by
  rw [← Rat.intCast_mul, ← Rat.intCast_sub]
  congr 1
  have := Nat.div_add_mod (N - 1) s
  have e : ((((N - 1) / s : Nat) : Int)) * (s : Int) = ((s * ((N - 1) / s) : Nat) : Int) := by rw [Int.natCast_mul, Int.mul_comm]
  rw [e]
  omega
theorem drop_more {U : List Int} {k : Nat} (hk : k < U.length) : U.drop (U.length - (k + 1)) = [U.getD (U.length - 1 - k) 0] ++ U.drop (U.length - k) := by
  have e : U.length - (k + 1) = U.length - 1 - k := by omega
  rw [e, List.drop_eq_getElem_cons (by omega), List.getD_eq_getElem?_getD, List.getElem?_eq_getElem (by omega), show U.length - 1 - k + 1 = U.length - k by omega]
  rfl
set_option maxRecDepth 20000 in
set_option maxHeartbeats 16000000 in
theorem qUnrank_in (v : Value) (q : Rat) (s : Nat) (w : World) (h : Inr w v q) (hz : Sz q 900) (hs1 : 1 ≤ s) (hs2 : s ≤ 32) (r0 : List Int × Int) (H : Hid (unrQ q s = r0)) :
    Calls Tryz.prog 12 #[v, .int .i64 (s : Int)] w (RetIE w r0.1 r0.2) := by
  obtain ⟨nb, A, n, c, B, m, e, rfl⟩ := h.agg
  have HZQ := Lib.hid hz
  obtain ⟨hb0, c0⟩ := blk1 w [.bool nb, .slice A n c, .slice B m e] 25
  have h1 := h.below hb0
  have hal : decide (1 ≤ (s : Int) ∧ (s : Int) ≤ 32) = true := decide_eq_true (by omega)
  clear h hz
  go_enter Tryz.func12, Tryz.ntmps12
  go_wp2_with fail
  generalize w.alloc (.cells #[.bool nb, .slice A n c, .slice B m e] 25) = W0 at *
  refine (Alphabet_any (s : Int) _ true (Lib.hid hal)).mono ?_
  rintro e0 w' ⟨rfl, rfl⟩
  obtain ⟨k0, k1, k2⟩ := (show Rc W0 _ _ _ _ from c0).cells
  clear hal
  go_wp2_with fail
  refine (r_Take _ q _ h1).mono ?_
  rintro e0 w1 ⟨v1, rfl, hq, hb1⟩
  obtain ⟨t0, tA, tn, tc, tB, tm, td, rfl⟩ := hq.agg
  have c1 : Rc w1 w.heap.size _ _ _ := (show Rc W0 _ _ _ _ from c0).below hb1 (Cs.lt c0)
  replace hb0 := hb0.trans (hb1.mono hb0.size)
  clear hb1 k0 k1 k2 c0 h1
  obtain ⟨k0, k1, k2⟩ := c1.cells
  obtain ⟨f0, f1, f2⟩ := c1.frozen
  have d0 := c1.set (.bool t0) (.slice tA tn tc) (.slice tB tm td)
  have dq := hq.set3 c1 (.bool t0) (.slice tA tn tc) (.slice tB tm td)
  have db := below_set3 hb0 (Nat.le_refl _) (.bool t0) (.slice tA tn tc) (.slice tB tm td)
  have j0 := d0.cells.1
  have j2 := d0.cells.2.2
  obtain ⟨p1, p2, p3⟩ := dq.parts
  have hm := p3.len
  have hdz := dl_zero_iff q.den q.den_nz
  have HD := Lib.hid (And.intro d0 (And.intro dq db))
  clear d0 dq db p2 p3 hb0 hq c1
  by_cases hw : q.num < 0 ∨ q.den ≠ 1
  · have HR : Hid (r0 = ([], 1)) := by rw [← H.out]; unfold unrQ; rw [if_pos hw]; exact Lib.hid rfl
    cases t0 with
    | true =>
      clear p1 hm hdz hw
      go_wp2_with fail
      refine bodyPost_ret (results_tmp2 rfl _ _ _) rfl ?_
      rw [HR.out]
      exact ⟨_, rfl, OwnI.nil _ _, HD.out.2.2⟩
    | false =>
      have hn : ¬ q.num < 0 := of_decide_eq_false p1.symm
      have hd : q.den ≠ 1 := hw.resolve_left hn
      have hm0 : (0 : Int) < (tm : Int) := by
        rcases Nat.eq_zero_or_pos tm with h0 | h0
        · exact absurd (hdz.1 (by omega)) hd
        · omega
      clear p1 hm hdz hw hn hd
      go_wp2_with fail
      refine bodyPost_ret (results_tmp2 rfl _ _ _) rfl ?_
      rw [HR.out]
      exact ⟨_, rfl, OwnI.nil _ _, HD.out.2.2⟩
  · obtain ⟨N, hN⟩ : ∃ N : Nat, q.num.toNat = N := ⟨_, rfl⟩
    have hd1 : q.den = 1 := Classical.byContradiction fun h => hw (.inr h)
    have hn0 : ¬ q.num < 0 := fun h => hw (.inl h)
    have hqN : q = ((N : Int) : Rat) := by
      have := whole_of_den hd1
      rw [this]
      congr 1
      omega
    have HR : Hid (r0 = unrA s N) := by rw [← H.out]; unfold unrQ; rw [if_neg hw, hN]; exact Lib.hid rfl
    obtain rfl : t0 = false := by rw [p1]; exact decide_eq_false hn0
    obtain rfl : tm = 0 := by
      rw [hd1, dl_one] at hm
      simpa using hm
    subst hqN
    clear hw hN H p1 hm hdz hd1 hn0
    have HZN : Hid (Sz ((N : Int) : Rat) 900) := HZQ
    have hI0 : RqU w s N 0 (((w1.setCell ⟨w.heap.size, 0, none⟩ (.bool false)).setCell ⟨w.heap.size, 1, none⟩ (.slice tA tn tc)).setCell ⟨w.heap.size, 2, none⟩ (.slice tB 0 td)) := ⟨⟨_, _, _, _, _, _, _, HD.out.1, HD.out.2.1⟩, HD.out.2.2⟩
    clear HD
    go_wp2_with fail
    clear k0 k1 k2 f0 f1 f2 j0 j2
    generalize ((w1.setCell ⟨w.heap.size, 0, none⟩ (.bool false)).setCell ⟨w.heap.size, 1, none⟩ (.slice tA tn tc)).setCell ⟨w.heap.size, 2, none⟩ (.slice tB 0 td) = W4 at *
    go_loopg [6] N (fun g vo wr => ∃ (k : Nat) (r : List Int), OwnI wr w.heap.size vo r ∧ RqU w s N k wr ∧ Hid (k ≤ 256 ∧ k ≤ (unr s N).length ∧ r = (unr s N).drop ((unr s N).length - k)) ∧ lft s N k ≤ g)
    case atStart => exact ⟨0, [], OwnI.nil _ _, hI0, ⟨Nat.zero_le _, Nat.zero_le _, by simp⟩, Nat.le_refl _⟩
    case round =>
      obtain ⟨k, r, ho, hI, HK, hg⟩ := hrel
      obtain ⟨A1, c1, rfl, -⟩ := ho.shape
      have hrl2 : r.length = k := by rw [HK.out.2.2, List.length_drop]; have := HK.out.2.1; omega
      rw [hrl2] at ho ⊢
      obtain ⟨r0', rA, rn, rc, rB, rm, rd, hrr, hrq⟩ := hI.rank
      have hk256 := HK.out.1
      obtain ⟨k0, k1, k2⟩ := hrr.cells
      have hbI := hI.below
      have hzk : Sz ((lft s N k : Int) : Rat) 900 := sz_mono (lft_le s N k) HZN.out
      by_cases hl0 : lft s N k = 0
      · have hV : ((lft s N k : Int) : Rat).num.sign = 0 := by rw [hl0]; rfl
        have hke := lft_end hs1 HK.out.2.1 hl0
        have hru : r = unr s N := by rw [HK.out.2.2, hke, Nat.sub_self, List.drop_zero]
        have hc256 : N < cnt s 256 := (unr_len hs1 256 N).1 (by omega)
        have HE : Hid (r0 = (r, 0)) := by rw [HR.out, hru]; unfold unrA; rw [if_pos hc256]; exact Lib.hid rfl
        clear hke hru hc256 hI hI0
        go_wp2_with fail
        refine (r_SignV _ _ 0 _ (hrq.inr hzk (by omega)) hV).mono ?_
        rintro e0 w2 ⟨rfl, hb2⟩
        have HEND := Lib.hid (And.intro (own_below ho hb2) (hbI.trans (hb2.mono hbI.size)))
        clear k0 k1 k2 ho hbI hrr hrq hb2
        go_wp2_with fail
        refine bodyPost_ret (results_tmp2 rfl _ _ _) rfl ?_
        rw [HE.out]
        exact ⟨_, rfl, HEND.out.1, HEND.out.2⟩
      · have hV : ((lft s N k : Int) : Rat).num.sign = 1 := by
          rw [Rat.num_intCast]
          exact Int.sign_eq_one_of_pos (by omega)
        have hkm := lft_more hs1 HK.out.2.1 hl0
        clear hI hI0
        go_wp2_with fail
        refine (r_SignV _ _ 1 _ (hrq.inr hzk (by omega)) hV).mono ?_
        rintro e0 W1 ⟨rfl, hb2⟩
        clear k0 k1 k2
        replace hrr := hrr.below hb2 hrr.lt
        replace hrq := hrq.below hb2
        replace ho := own_below ho hb2
        replace hbI := hbI.trans (hb2.mono hbI.size)
        clear hb2
        by_cases h256 : k = 256
        · have hkk : ((k : Int) == 256) = true := by simp; omega
          have hcn : ¬ N < cnt s 256 := fun hc => by
            have := (unr_len hs1 256 N).2 hc
            omega
          have HE : Hid (r0 = ([], 1)) := by rw [HR.out]; unfold unrA; rw [if_neg hcn]; exact Lib.hid rfl
          have HB := Lib.hid hbI
          clear hcn hbI hrr hrq ho
          go_wp2_with fail
          refine bodyPost_ret (results_tmp2 rfl _ _ _) rfl ?_
          rw [HE.out]
          exact ⟨_, rfl, OwnI.nil _ _, HB.out⟩
        · have hkk : ((k : Int) == 256) = false := by simp; omega
          have hs0 : s ≠ 0 := by omega
          have p1 := (split_parts (s := s) hl0 hs0).1
          have p3 := down_whole (lft s N k - 1) s hs0
          have p5 := sub_parts (s := s) hl0
          have hlet := ((unr_left (s := s) N k HK.out.2.1).2 hkm).2
          obtain ⟨cc, hcc⟩ : ∃ c : Int, (((lft s N k - 1) % s : Nat) : Int) = c := ⟨_, rfl⟩
          have hcr : 0 ≤ cc ∧ cc < 32 := by
            rw [← hcc]
            have := Nat.mod_lt (lft s N k - 1) (show 0 < s by omega)
            omega
          have p6 := whole_whole (a := cc) (by omega) (by omega)
          have hlt : lft s N (k + 1) < lft s N k := by
            show (lft s N k - 1) / s < lft s N k
            have := Nat.div_le_self (lft s N k - 1) s
            omega
          have HLT := Lib.hid (Nat.lt_of_lt_of_le hlt hg)
          have HNX : Hid (k + 1 ≤ 256 ∧ k + 1 ≤ (unr s N).length ∧ [cc + 1] ++ r = (unr s N).drop ((unr s N).length - (k + 1))) := by
            refine ⟨by omega, by omega, ?_⟩
            rw [drop_more hkm, hlet, ← HK.out.2.2, ← hcc]
            simp
          have zs : Sz ((s : Int) : Rat) 1 := sz_whole (by omega) (by omega)
          have zo : Sz ((1 : Int) : Rat) 1 := sz_whole (by decide) (by omega)
          have z1 : Sz (((lft s N k - 1 : Nat) : Int) : Rat) 900 := sz_mono (Nat.sub_le _ _) hzk
          have z3 : Sz ((((lft s N k - 1) / s : Nat) : Int) : Rat) 900 := sz_mono (Nat.le_trans (Nat.div_le_self _ _) (Nat.sub_le _ _)) hzk
          have ES : ((s : Int) : Rat) ≠ 0 := by
            intro h0
            have := congrArg Rat.num h0
            rw [Rat.num_intCast] at this
            simp at this
            omega
          have hqs := qv_whole (s : Int)
          have hq3 : ((lft s N (k + 1) : Int) : Rat) = ((((lft s N k - 1) / s : Nat) : Int) : Rat) := rfl
          rw [hcc] at p5
          obtain ⟨q0, e0⟩ : ∃ q : Rat, ((lft s N k : Int) : Rat) = q := ⟨_, rfl⟩
          obtain ⟨q1, e1⟩ : ∃ q : Rat, (((lft s N k - 1 : Nat) : Int) : Rat) = q := ⟨_, rfl⟩
          obtain ⟨qs, es⟩ : ∃ q : Rat, ((s : Int) : Rat) = q := ⟨_, rfl⟩
          obtain ⟨q3, e3⟩ : ∃ q : Rat, ((((lft s N k - 1) / s : Nat) : Int) : Rat) = q := ⟨_, rfl⟩
          obtain ⟨q5, e5⟩ : ∃ q : Rat, ((cc : Int) : Rat) = q := ⟨_, rfl⟩
          obtain ⟨q2, e2⟩ : ∃ q : Rat, q1 / qs = q := ⟨_, rfl⟩
          obtain ⟨q4, e4⟩ : ∃ q : Rat, q3 * qs = q := ⟨_, rfl⟩
          rw [e0, e1] at p1
          rw [e1, e3, es, e5, e4] at p5
          rw [e1, es, e3, e2] at p3
          rw [e5] at p6
          rw [e0] at hrq hzk
          rw [es] at zs ES hqs
          rw [e1] at z1
          rw [e3] at z3 hq3
          have z2 : Sz q2 901 := by rw [← e2]; exact sz_div z1 zs ES (by omega)
          have z4 : Sz q4 901 := by rw [← e4]; exact sz_mul z3 zs (by omega)
          have z5 : Sz q5 1802 := by rw [← p5]; exact sz_sub z1 z4 (by omega)
          have HZ := Lib.hid (And.intro hzk (And.intro z1 (And.intro zo (And.intro zs (And.intro z2 z3)))))
          have HZ4 := Lib.hid z4
          have HZ5 := Lib.hid z5
          have HE1 := Lib.hid p1
          have HE2 := Lib.hid e2
          have HE3 := Lib.hid p3
          have HE4 := Lib.hid e4
          have HE5 := Lib.hid p5
          have HE6 : Hid (Hid (wholeOf q5 = cc ∧ wholeOk q5 = true)) := Lib.hid (Lib.hid p6)
          have HQS := Lib.hid hqs
          have HS0 := Lib.hid ES
          have HQ3 := Lib.hid hq3
          clear p1 p3 p5 p6 hlet hcc hlt zs zo z1 z3 z2 z4 z5 ES hqs hq3 e0 e1 es e3 e5 e2 e4 hzk hV hg
          have hb9 := hbI.drew
          replace hrr : Rc W1.drew _ _ _ _ := hrr
          replace hrq := hrq.drew1
          replace ho := own_below ho (Below.refl _ _).drew
          have hgr : w.heap.size < W1.drew.heap.size := hrr.lt
          clear hbI
          go_upto_region 10 with (fail)
          refine wp_region_front0 (by kernel_rfl) (fun i => decide (i < 4)) (sOf [.val (.agg #[.bool r0', .slice rA rn rc, .slice rB rm rd]), .rat (((1 : Int) : Rat)), .rat (q1), .blk (W1.drew.heap.size) [.bool false, .slice none 0 0, .slice none 0 0] 25]) [30, 31, 32, 7] (gOf [.val (.agg #[.bool r0', .slice rA rn rc, .slice rB rm rd]), .rat (((1 : Int) : Rat)), .rat (q1), .blk (W1.drew.heap.size) [.bool false, .slice none 0 0, .slice none 0 0] 25]) (fun wx => Below W1.drew.heap.size W1.drew wx) (Below.refl _ _) (by kernel_rfl) (by kernel_rfl) (gOf_keep _) (gOf_ptr _) ?step 1 (by kernel_rfl) _ rfl ?fin
          case step =>
            intro i oi ho hF f wx hB hdep K hK
            have hi : i < 4 := of_decide_eq_true hF
            clear hF
            simp only [frontAct, List.foldl_cons, List.foldl_nil, List.setIfInBounds_toArray, List.set_cons_succ, List.set_cons_zero] at hK ⊢
            obtain rfl | rfl | rfl | rfl : i = 0 ∨ i = 1 ∨ i = 2 ∨ i = 3 := by omega
            · obtain rfl := Option.some.inj ho
              have HQ : Hid (∀ (val : Value) w', val = .agg #[.bool r0', .slice rA rn rc, .slice rB rm rd] → Below wx.heap.size wx w' → Below W1.drew.heap.size W1.drew w' → K _ w') := Lib.hid (fun val w' h1 h2 h3 => hK val w' h1 h2 h3 (fun h => by cases h))
              simp only [Act.put, List.setIfInBounds_toArray, List.set_cons_succ, List.set_cons_zero] at HQ
              clear hK hdep
              obtain ⟨p0, p1, p2⟩ := (hrr.below hB hrr.lt).cells
              go_simp
              exact HQ.out (.agg #[.bool r0', .slice rA rn rc, .slice rB rm rd]) wx rfl (Below.refl _ _) hB
            · obtain rfl := Option.some.inj ho
              have HQ : Hid (∀ (val : Value) w', RatQ w' val (((1 : Int) : Rat)) → Below wx.heap.size wx w' → Below W1.drew.heap.size W1.drew w' → K _ w') := Lib.hid (fun val w' h1 h2 h3 => hK val w' h1 h2 h3 (fun h => by cases h))
              simp only [Act.put, List.setIfInBounds_toArray, List.set_cons_succ, List.set_cons_zero] at HQ
              clear hK hdep
              go_simp
              refine (r_Of 1 1 _ (by decide) ((1 : Int) : Rat) (qv_whole 1) (by decide) (by decide) (by decide) (by decide)).mono ?_
              rintro e0 w' ⟨val, rfl, hr, hb⟩
              exact HQ.out val w' hr hb (hB.trans (hb.mono hB.size))
            · obtain rfl := Option.some.inj ho
              have HQ : Hid (∀ (val : Value) w', RatQ w' val (q1) → Below wx.heap.size wx w' → Below W1.drew.heap.size W1.drew w' → K _ w') := Lib.hid (fun val w' h1 h2 h3 => hK val w' h1 h2 h3 (fun h => by cases h))
              have e30 := hdep ⟨0, .data⟩ (by simp) (by rfl)
              have e31 := hdep ⟨1, .data⟩ (by simp) (by rfl)
              simp only [Act.put, List.setIfInBounds_toArray, List.set_cons_succ, List.set_cons_zero] at HQ
              clear hK hdep
              replace e30 : f 30 = .agg #[.bool r0', .slice rA rn rc, .slice rB rm rd] := e30
              generalize f 30 = f30 at *
              subst e30
              replace e31 : RatQ wx (f 31) (((1 : Int) : Rat)) := e31
              generalize f 31 = f31 at *
              go_simp
              refine (r_SubV _ _ q0 ((1 : Int) : Rat) q1 _ ((hrq.below hB).inr HZ.out.1 (by omega)) (e31.inr HZ.out.2.2.1 (by omega)) (HZ.out.1.mono (by omega)) (HZ.out.2.2.1.mono (by omega)) HE1.out).mono ?_
              rintro e0 w' ⟨val, rfl, hr, hb⟩
              exact HQ.out val w' hr hb (hB.trans (hb.mono hB.size))
            · obtain rfl := Option.some.inj ho
              have HQ : Hid (∀ (val : Value) w', (∃ g, val = .pointer (some ⟨g, 0, none⟩) ∧ W1.drew.heap.size ≤ g ∧ Cs w' g [.bool false, .slice none 0 0, .slice none 0 0] 25) → Below wx.heap.size wx w' → Below W1.drew.heap.size W1.drew w' → (∃ g, val = .pointer (some ⟨g, 0, none⟩) ∧ wx.heap.size ≤ g) → K _ w') := Lib.hid (fun val w' h1 h2 h3 h4 => hK val w' h1 h2 h3 (fun _ => h4))
              simp only [Act.put, List.setIfInBounds_toArray, List.set_cons_succ, List.set_cons_zero] at HQ
              clear hK hdep
              go_simp
              have hbl := blk1 wx [.bool false, .slice none 0 0, .slice none 0 0] 25
              exact HQ.out _ _ ⟨wx.heap.size, rfl, hB.size, hbl.2⟩ hbl.1 (hB.trans (hbl.1.mono hB.size)) ⟨_, rfl, Nat.le_refl _⟩
          case fin =>
            intro f wx hB hG hne
            have h4 : RatQ wx (f 32) q1 := hG 2 (by decide) (by rfl)
            obtain ⟨l0, lA, ln, lc, lB, lm, ld, ex⟩ := h4.agg
            obtain ⟨g7, ea, hg7, cz⟩ : ∃ g, f 7 = .pointer (some ⟨g, 0, none⟩) ∧ W1.drew.heap.size ≤ g ∧ Cs wx g [.bool false, .slice none 0 0, .slice none 0 0] 25 := hG 3 (by decide) (by rfl)
            clear hG hne
            simp only [frontAct, List.foldl_cons, List.foldl_nil, List.setIfInBounds_toArray, List.set_cons_succ, List.set_cons_zero]
            generalize f 32 = f32 at *
            generalize f 7 = f7 at *
            subst ex ea
            replace hrr := hrr.below hB hrr.lt
            replace ho := own_below ho hB
            replace hb9 := hb9.trans (hB.mono hb9.size)
            have hg0 : w.heap.size < W1.drew.heap.size := hgr
            have czr : Rc wx g7 (.bool false) (.slice none 0 0) (.slice none 0 0) := cz
            obtain ⟨p0, p1, p2⟩ := czr.cells
            obtain ⟨f0, f1, f2⟩ := czr.frozen
            have hll := czr.set (.bool l0) (.slice lA ln lc) (.slice lB lm ld)
            have hlq := h4.set3 czr (.bool l0) (.slice lA ln lc) (.slice lB lm ld)
            have hr2 := hrr.far3 (g' := g7) (by omega) (.bool l0) (.slice lA ln lc) (.slice lB lm ld)
            have ho2 := own_set3v ho cz (by decide) (.bool l0) (.slice lA ln lc) (.slice lB lm ld)
            have hb2 := below_set3 hb9 (g := g7) (by omega) (.bool l0) (.slice lA ln lc) (.slice lB lm ld)
            have HN11 := Lib.hid (And.intro hll (And.intro hlq (And.intro hr2 (And.intro ho2 hb2))))
            clear hll hlq hr2 ho2 hb2 hrr hrq ho hb9 h4 cz czr hg0
            refine wpAny_ready (rs := [4]) (by kernel_rfl) (by simp) ?_
            refine AllReady.cons rfl (fun K hK => ?_) AllReady.nil
            have HQ := Lib.hid hK
            clear hK
            go_simp
            refine HQ.out _ _ ?_
            clear HQ K
            refine wpAny_done (by kernel_rfl) ?_ _
            go_upto_region 11 with (fail)
            clear p0 p1 p2 f0 f1 f2
            obtain ⟨hll, hlq, hrr, ho, hb9⟩ := HN11.out
            clear HN11
            generalize ((wx.setCell ⟨g7, 0, none⟩ (.bool l0)).setCell ⟨g7, 1, none⟩ (.slice lA ln lc)).setCell ⟨g7, 2, none⟩ (.slice lB lm ld) = W2 at *
            replace hll : Rc W2.drew _ _ _ _ := hll
            replace hrr : Rc W2.drew _ _ _ _ := hrr
            replace hlq := hlq.drew1
            replace ho := own_below ho (Below.refl _ _).drew
            replace hb9 := hb9.drew
            have hgl : g7 < W2.drew.heap.size := hll.lt
            refine wp_region_front0 (by kernel_rfl) (fun i => decide (i < 6)) (sOf [.val (.agg #[.bool l0, .slice lA ln lc, .slice lB lm ld]), .val (.int .i64 (s : Int)), .rat (qs), .rat (q2), .rat (q3), .blk (W2.drew.heap.size) [.bool false, .slice none 0 0, .slice none 0 0] 25]) [33, 34, 35, 36, 37, 8] (gOf [.val (.agg #[.bool l0, .slice lA ln lc, .slice lB lm ld]), .val (.int .i64 (s : Int)), .rat (qs), .rat (q2), .rat (q3), .blk (W2.drew.heap.size) [.bool false, .slice none 0 0, .slice none 0 0] 25]) (fun wx => Below W2.drew.heap.size W2.drew wx) (Below.refl _ _) (by kernel_rfl) (by kernel_rfl) (gOf_keep _) (gOf_ptr _) ?step 1 (by kernel_rfl) _ rfl ?fin
            case step =>
              intro i oi ho hF f wx hB hdep K hK
              have hi : i < 6 := of_decide_eq_true hF
              clear hF
              simp only [frontAct, List.foldl_cons, List.foldl_nil, List.setIfInBounds_toArray, List.set_cons_succ, List.set_cons_zero] at hK ⊢
              obtain rfl | rfl | rfl | rfl | rfl | rfl : i = 0 ∨ i = 1 ∨ i = 2 ∨ i = 3 ∨ i = 4 ∨ i = 5 := by omega
              · obtain rfl := Option.some.inj ho
                have HQ : Hid (∀ (val : Value) w', val = .agg #[.bool l0, .slice lA ln lc, .slice lB lm ld] → Below wx.heap.size wx w' → Below W2.drew.heap.size W2.drew w' → K _ w') := Lib.hid (fun val w' h1 h2 h3 => hK val w' h1 h2 h3 (fun h => by cases h))
                simp only [Act.put, List.setIfInBounds_toArray, List.set_cons_succ, List.set_cons_zero] at HQ
                clear hK hdep
                obtain ⟨p0, p1, p2⟩ := (hll.below hB hll.lt).cells
                go_simp
                exact HQ.out (.agg #[.bool l0, .slice lA ln lc, .slice lB lm ld]) wx rfl (Below.refl _ _) hB
              · obtain rfl := Option.some.inj ho
                have HQ : Hid (∀ (val : Value) w', val = .int .i64 (s : Int) → Below wx.heap.size wx w' → Below W2.drew.heap.size W2.drew w' → K _ w') := Lib.hid (fun val w' h1 h2 h3 => hK val w' h1 h2 h3 (fun h => by cases h))
                simp only [Act.put, List.setIfInBounds_toArray, List.set_cons_succ, List.set_cons_zero] at HQ
                clear hK hdep
                go_simp
                exact HQ.out (.int .i64 (s : Int)) wx rfl (Below.refl _ _) hB
              · obtain rfl := Option.some.inj ho
                have HQ : Hid (∀ (val : Value) w', RatQ w' val (qs) → Below wx.heap.size wx w' → Below W2.drew.heap.size W2.drew w' → K _ w') := Lib.hid (fun val w' h1 h2 h3 => hK val w' h1 h2 h3 (fun h => by cases h))
                have e34 := hdep ⟨1, .data⟩ (by simp) (by rfl)
                simp only [Act.put, List.setIfInBounds_toArray, List.set_cons_succ, List.set_cons_zero] at HQ
                clear hK hdep
                replace e34 : f 34 = .int .i64 (s : Int) := e34
                generalize f 34 = f34 at *
                subst e34
                go_simp
                refine (r_Of (s : Int) 1 _ (by decide) qs HQS.out (by omega) (by omega) (by decide) (by decide)).mono ?_
                rintro e0 w' ⟨val, rfl, hr, hb⟩
                exact HQ.out val w' hr hb (hB.trans (hb.mono hB.size))
              · obtain rfl := Option.some.inj ho
                have HQ : Hid (∀ (val : Value) w', RatQ w' val (q2) → Below wx.heap.size wx w' → Below W2.drew.heap.size W2.drew w' → K _ w') := Lib.hid (fun val w' h1 h2 h3 => hK val w' h1 h2 h3 (fun h => by cases h))
                have e33 := hdep ⟨0, .data⟩ (by simp) (by rfl)
                have e35 := hdep ⟨2, .data⟩ (by simp) (by rfl)
                simp only [Act.put, List.setIfInBounds_toArray, List.set_cons_succ, List.set_cons_zero] at HQ
                clear hK hdep
                replace e33 : f 33 = .agg #[.bool l0, .slice lA ln lc, .slice lB lm ld] := e33
                generalize f 33 = f33 at *
                subst e33
                replace e35 : RatQ wx (f 35) (qs) := e35
                generalize f 35 = f35 at *
                go_simp
                refine (r_QuoV _ _ q1 qs q2 _ ((hlq.below hB).inr HZ.out.2.1 (by omega)) (e35.inr HZ.out.2.2.2.1 (by omega)) (HZ.out.2.1.mono (by omega)) (HZ.out.2.2.2.1.mono (by omega)) HS0.out HE2.out).mono ?_
                rintro e0 w' ⟨val, rfl, hr, hb⟩
                exact HQ.out val w' hr hb (hB.trans (hb.mono hB.size))
              · obtain rfl := Option.some.inj ho
                have HQ : Hid (∀ (val : Value) w', RatQ w' val (q3) → Below wx.heap.size wx w' → Below W2.drew.heap.size W2.drew w' → K _ w') := Lib.hid (fun val w' h1 h2 h3 => hK val w' h1 h2 h3 (fun h => by cases h))
                have e36 := hdep ⟨3, .data⟩ (by simp) (by rfl)
                simp only [Act.put, List.setIfInBounds_toArray, List.set_cons_succ, List.set_cons_zero] at HQ
                clear hK hdep
                replace e36 : RatQ wx (f 36) (q2) := e36
                generalize f 36 = f36 at *
                go_simp
                refine (r_DownV _ q2 q3 _ (e36.inr HZ.out.2.2.2.2.1 (by omega)) (HZ.out.2.2.2.2.1.mono (by omega)) HE3.out).mono ?_
                rintro e0 w' ⟨val, rfl, hr, hb⟩
                exact HQ.out val w' hr hb (hB.trans (hb.mono hB.size))
              · obtain rfl := Option.some.inj ho
                have HQ : Hid (∀ (val : Value) w', (∃ g, val = .pointer (some ⟨g, 0, none⟩) ∧ W2.drew.heap.size ≤ g ∧ Cs w' g [.bool false, .slice none 0 0, .slice none 0 0] 25) → Below wx.heap.size wx w' → Below W2.drew.heap.size W2.drew w' → (∃ g, val = .pointer (some ⟨g, 0, none⟩) ∧ wx.heap.size ≤ g) → K _ w') := Lib.hid (fun val w' h1 h2 h3 h4 => hK val w' h1 h2 h3 (fun _ => h4))
                simp only [Act.put, List.setIfInBounds_toArray, List.set_cons_succ, List.set_cons_zero] at HQ
                clear hK hdep
                go_simp
                have hbl := blk1 wx [.bool false, .slice none 0 0, .slice none 0 0] 25
                exact HQ.out _ _ ⟨wx.heap.size, rfl, hB.size, hbl.2⟩ hbl.1 (hB.trans (hbl.1.mono hB.size)) ⟨_, rfl, Nat.le_refl _⟩
            case fin =>
              intro f wx hB hG hne
              have h4 : RatQ wx (f 37) q3 := hG 4 (by decide) (by rfl)
              obtain ⟨t0, tA, tn, tc, tB, tm, td, ex⟩ := h4.agg
              obtain ⟨g8, ea, hg8, cz⟩ : ∃ g, f 8 = .pointer (some ⟨g, 0, none⟩) ∧ W2.drew.heap.size ≤ g ∧ Cs wx g [.bool false, .slice none 0 0, .slice none 0 0] 25 := hG 5 (by decide) (by rfl)
              clear hG hne
              simp only [frontAct, List.foldl_cons, List.foldl_nil, List.setIfInBounds_toArray, List.set_cons_succ, List.set_cons_zero]
              generalize f 37 = f37 at *
              generalize f 8 = f8 at *
              subst ex ea
              replace hll := hll.below hB hll.lt
              replace hlq := hlq.below hB
              replace hrr := hrr.below hB hrr.lt
              replace ho := own_below ho hB
              replace hb9 := hb9.trans (hB.mono hb9.size)
              have hg7 := hll.lt
              have hg0 := hrr.lt
              have czr : Rc wx g8 (.bool false) (.slice none 0 0) (.slice none 0 0) := cz
              have hz8 : g7 < W2.drew.heap.size := hgl
              obtain ⟨p0, p1, p2⟩ := czr.cells
              obtain ⟨f0, f1, f2⟩ := czr.frozen
              have htt := czr.set (.bool t0) (.slice tA tn tc) (.slice tB tm td)
              have htq := h4.set3 czr (.bool t0) (.slice tA tn tc) (.slice tB tm td)
              have hl2 := hll.far3 (g' := g8) (by omega) (.bool t0) (.slice tA tn tc) (.slice tB tm td)
              have hlq2 := hlq.set3 czr (.bool t0) (.slice tA tn tc) (.slice tB tm td)
              have hr2 := hrr.far3 (g' := g8) (by omega) (.bool t0) (.slice tA tn tc) (.slice tB tm td)
              have ho2 := own_set3v ho cz (by decide) (.bool t0) (.slice tA tn tc) (.slice tB tm td)
              have hb2 := below_set3 hb9 (g := g8) (by omega) (.bool t0) (.slice tA tn tc) (.slice tB tm td)
              have HN12 := Lib.hid (And.intro htt (And.intro htq (And.intro hl2 (And.intro hlq2 (And.intro hr2 (And.intro ho2 hb2))))))
              clear htt htq hl2 hlq2 hr2 ho2 hb2 hll hlq hrr ho hb9 h4 cz czr
              refine wpAny_ready (rs := [6]) (by kernel_rfl) (by simp) ?_
              refine AllReady.cons rfl (fun K hK => ?_) AllReady.nil
              have HQ := Lib.hid hK
              clear hK
              go_simp
              refine HQ.out _ _ ?_
              clear HQ K
              refine wpAny_done (by kernel_rfl) ?_ _
              go_upto_region 12 with (fail)
              clear p0 p1 p2 f0 f1 f2
              obtain ⟨htt, htq, hll, hlq, hrr, ho, hb9⟩ := HN12.out
              clear HN12
              generalize ((wx.setCell ⟨g8, 0, none⟩ (.bool t0)).setCell ⟨g8, 1, none⟩ (.slice tA tn tc)).setCell ⟨g8, 2, none⟩ (.slice tB tm td) = W3 at *
              replace htt : Rc W3.drew _ _ _ _ := htt
              replace hll : Rc W3.drew _ _ _ _ := hll
              replace hrr : Rc W3.drew _ _ _ _ := hrr
              replace htq := htq.drew1
              replace hlq := hlq.drew1
              replace ho := own_below ho (Below.refl _ _).drew
              replace hb9 := hb9.drew
              have hb0 : Below W3.drew.heap.size W3.drew W3.drew := Below.refl _ _
              have hz3 := hb9.size
              have hrl : (W3.drew.cell? ⟨g7, 0, none⟩ = some (.bool l0) ∧ W3.drew.cell? ⟨g7, 1, none⟩ = some (.slice lA ln lc) ∧ W3.drew.cell? ⟨g7, 2, none⟩ = some (.slice lB lm ld) ∧ W3.drew.cell? ⟨g8, 0, none⟩ = some (.bool t0) ∧ W3.drew.cell? ⟨g8, 1, none⟩ = some (.slice tA tn tc) ∧ W3.drew.cell? ⟨g8, 2, none⟩ = some (.slice tB tm td)) := ⟨hll.cells.1, hll.cells.2.1, hll.cells.2.2, htt.cells.1, htt.cells.2.1, htt.cells.2.2⟩
              go_region_held3 (fun w' => (w'.cell? ⟨g7, 0, none⟩ = some (.bool l0) ∧ w'.cell? ⟨g7, 1, none⟩ = some (.slice lA ln lc) ∧ w'.cell? ⟨g7, 2, none⟩ = some (.slice lB lm ld) ∧ w'.cell? ⟨g8, 0, none⟩ = some (.bool t0) ∧ w'.cell? ⟨g8, 1, none⟩ = some (.slice tA tn tc) ∧ w'.cell? ⟨g8, 2, none⟩ = some (.slice tB tm td)))
                (first | with_reducible exact hrl | fail)
                (first
                  | (go_at_call 45; refine (r_Whole _ q5 _ true _ (h3.inr HZ5.out (by omega)) HE6.out).mono ?_; rintro e0 x4 ⟨rfl, hbk⟩; replace hll := hll.below hbk hll.lt; replace htt := htt.below hbk htt.lt; replace hlq := hlq.below hbk; replace htq := htq.below hbk; replace hrr := hrr.below hbk hrr.lt; replace ho := own_below ho hbk; replace hb0 := hb0.trans (hbk.mono hb0.size); have hrl : (x4.cell? ⟨g7, 0, none⟩ = some (.bool l0) ∧ x4.cell? ⟨g7, 1, none⟩ = some (.slice lA ln lc) ∧ x4.cell? ⟨g7, 2, none⟩ = some (.slice lB lm ld) ∧ x4.cell? ⟨g8, 0, none⟩ = some (.bool t0) ∧ x4.cell? ⟨g8, 1, none⟩ = some (.slice tA tn tc) ∧ x4.cell? ⟨g8, 2, none⟩ = some (.slice tB tm td)) := ⟨hll.cells.1, hll.cells.2.1, hll.cells.2.2, htt.cells.1, htt.cells.2.1, htt.cells.2.2⟩)
                  | (go_at_call 42; refine (r_SubV _ _ q1 q4 q5 _ (hlq.inr HZ.out.2.1 (by omega)) (h2.inr HZ4.out (by omega)) (HZ.out.2.1.mono (by omega)) (HZ4.out.mono (by omega)) HE5.out).mono ?_; rintro e0 x3 ⟨v3, rfl, h3, hbk⟩; replace hll := hll.below hbk hll.lt; replace htt := htt.below hbk htt.lt; replace hlq := hlq.below hbk; replace htq := htq.below hbk; replace hrr := hrr.below hbk hrr.lt; replace ho := own_below ho hbk; replace hb0 := hb0.trans (hbk.mono hb0.size); have hrl : (x3.cell? ⟨g7, 0, none⟩ = some (.bool l0) ∧ x3.cell? ⟨g7, 1, none⟩ = some (.slice lA ln lc) ∧ x3.cell? ⟨g7, 2, none⟩ = some (.slice lB lm ld) ∧ x3.cell? ⟨g8, 0, none⟩ = some (.bool t0) ∧ x3.cell? ⟨g8, 1, none⟩ = some (.slice tA tn tc) ∧ x3.cell? ⟨g8, 2, none⟩ = some (.slice tB tm td)) := ⟨hll.cells.1, hll.cells.2.1, hll.cells.2.2, htt.cells.1, htt.cells.2.1, htt.cells.2.2⟩)
                  | (go_at_call 33; refine (r_MulV _ _ q3 qs q4 _ (htq.inr HZ.out.2.2.2.2.2 (by omega)) (h1.inr HZ.out.2.2.2.1 (by omega)) (HZ.out.2.2.2.2.2.mono (by omega)) (HZ.out.2.2.2.1.mono (by omega)) HE4.out).mono ?_; rintro e0 x2 ⟨v2, rfl, h2, hbk⟩; replace hll := hll.below hbk hll.lt; replace htt := htt.below hbk htt.lt; replace hlq := hlq.below hbk; replace htq := htq.below hbk; replace hrr := hrr.below hbk hrr.lt; replace ho := own_below ho hbk; replace hb0 := hb0.trans (hbk.mono hb0.size); have hrl : (x2.cell? ⟨g7, 0, none⟩ = some (.bool l0) ∧ x2.cell? ⟨g7, 1, none⟩ = some (.slice lA ln lc) ∧ x2.cell? ⟨g7, 2, none⟩ = some (.slice lB lm ld) ∧ x2.cell? ⟨g8, 0, none⟩ = some (.bool t0) ∧ x2.cell? ⟨g8, 1, none⟩ = some (.slice tA tn tc) ∧ x2.cell? ⟨g8, 2, none⟩ = some (.slice tB tm td)) := ⟨hll.cells.1, hll.cells.2.1, hll.cells.2.2, htt.cells.1, htt.cells.2.1, htt.cells.2.2⟩)
                  | (go_at_call 24; refine (r_Of (s : Int) 1 _ (by decide) qs HQS.out (by omega) (by omega) (by decide) (by decide)).mono ?_; rintro e0 x1 ⟨v1, rfl, h1, hbk⟩; replace hll := hll.below hbk hll.lt; replace htt := htt.below hbk htt.lt; replace hlq := hlq.below hbk; replace htq := htq.below hbk; replace hrr := hrr.below hbk hrr.lt; replace ho := own_below ho hbk; replace hb0 := hb0.trans (hbk.mono hb0.size); have hrl : (x1.cell? ⟨g7, 0, none⟩ = some (.bool l0) ∧ x1.cell? ⟨g7, 1, none⟩ = some (.slice lA ln lc) ∧ x1.cell? ⟨g7, 2, none⟩ = some (.slice lB lm ld) ∧ x1.cell? ⟨g8, 0, none⟩ = some (.bool t0) ∧ x1.cell? ⟨g8, 1, none⟩ = some (.slice tA tn tc) ∧ x1.cell? ⟨g8, 2, none⟩ = some (.slice tB tm td)) := ⟨hll.cells.1, hll.cells.2.1, hll.cells.2.2, htt.cells.1, htt.cells.2.1, htt.cells.2.2⟩))
              all_goals
                replace hb9 := hb9.trans (hb0.mono hz3)
                have hw1 : IntKind.i64.wrap (cc + 1) = cc + 1 := IntWalk.i64_in _ (by omega)
                have hal : Below x4.heap.size x4 (x4.alloc (.cells #[.int .i64 (cc + 1)] 3)) := (Below.refl _ _).alloc (Nat.le_refl _) _
                have ho1 : (x4.alloc (.cells #[.int .i64 (cc + 1)] 3)).ownsRow w.heap.size 3 1 (.slice (some ⟨x4.heap.size, 0, none⟩) 1 1) 1 (ints [cc + 1]) := World.ownsRow_lit x4 #[.int .i64 (cc + 1)] 1 hb9.size (by unfold maxLen; omega) rfl
                obtain ⟨A5, c5, h5, hrd⟩ := (show OwnI x4 w.heap.size (.slice A1 k c1) r from ho).reads
                injection h5 with h6 _ h7
                subst h6 h7
                rw [hrl2] at hrd
                have hrd1 : Rd _ (ints r) A1 k c1 := Rd.below hrd hal
                have hbl := hb9.trans (hal.mono hb9.size)
                have hllA := hll.below hal hll.lt
                have httA := htt.below hal htt.lt
                have htqA := htq.below hal
                have hrrA := hrr.below hal hrr.lt
                have HO1 := Lib.hid ho1
                have HRD := Lib.hid hrd1
                have HBL := Lib.hid hbl
                have HAA := Lib.hid (And.intro httA (And.intro htqA hrrA))
                clear hll htt hlq htq hrr ho hb0 hb9 hrl hrd ho1 hrd1 hbl hllA httA htqA hrrA hal hkm hl0 hrl2 hg7 hg0 hz8 hgl hgr hz3
                go_wp2_with (at_builtin; refine wpList_appV rfl (.tmp 50) (.tmp 51) 22 3 rfl rfl _ 8 Tryz.underlying22 info_int rfl (by omega) w.heap.size _ (ints [cc + 1]) rfl HO1.out _ _ _ (ints r) rfl HRD.out (ints_one r) ?c1 HBL.out.size ?_)
                case c1 => show 1 + k ≤ _; omega
                intro v' w5 hv hg5 _
                have ho5 : OwnI w5 w.heap.size v' ([cc + 1] ++ r) := by
                  unfold OwnI
                  rw [ints_append, List.length_append]; exact hv
                have hb5 : Below w.heap.size w w5 := below_grown HBL.out HO1.out hg5 HBL.out.size
                have t5 : Cs w5 g8 [.bool t0, .slice tA tn tc, .slice tB tm td] 25 := cs_grown HAA.out.1 HO1.out hg5 (by decide)
                have r5 : Cs w5 w.heap.size _ 25 := cs_grown HAA.out.2.2 HO1.out hg5 (by decide)
                have q5' : RatQ w5 (.agg #[.bool t0, .slice tA tn tc, .slice tB tm td]) q3 := ratq_grown HAA.out.2.1 HO1.out hg5
                clear hv hg5
                obtain ⟨p0, p1, p2⟩ := (show Rc w5 g8 _ _ _ from t5).cells
                obtain ⟨y0, y1, y2⟩ := (show Rc w5 w.heap.size _ _ _ from r5).cells
                obtain ⟨f0, f1, f2⟩ := (show Rc w5 w.heap.size _ _ _ from r5).frozen
                have hrk := (show Rc w5 w.heap.size _ _ _ from r5).set (.bool t0) (.slice tA tn tc) (.slice tB tm td)
                have hrkq := q5'.set3 (show Rc w5 w.heap.size _ _ _ from r5) (.bool t0) (.slice tA tn tc) (.slice tB tm td)
                have ho6 := own_set3v ho5 r5 (by decide) (.bool t0) (.slice tA tn tc) (.slice tB tm td)
                have hb6 := below_set3 hb5 (Nat.le_refl _) (.bool t0) (.slice tA tn tc) (.slice tB tm td)
                rw [← HQ3.out] at hrkq
                have HEND := Lib.hid (And.intro ho6 (And.intro (RqU.mk (s := s) (N := N) (k := k + 1) ⟨_, _, _, _, _, _, _, hrk, hrkq⟩ hb6) trivial))
                clear hrk hrkq ho6 hb6 q5' ho5 hb5 t5 r5
                go_wp2_with fail
                go_roundg (lft s N (k + 1))
                case rel => exact ⟨k + 1, [cc + 1] ++ r, HEND.out.1, HEND.out.2.1, HNX.out, Nat.le_refl _⟩
                case measure => have := HLT.out; omega

end Go.Proofs.YtdlmhgijpgnilaaGreatDoor
