/- The law WordsHaveRanks. -/
import Derived.Test.YtdlmhgijpgnilaaGreatDoorQ36
import Derived.Test.YtdlmhgijpgnilaaGreatDoorQ27
import Derived.Test.YtdlmhgijpgnilaaGreatDoorQ22
import Derived.Deep.CutRange
set_option linter.unusedVariables false
set_option linter.unusedSimpArgs false
namespace Go.Proofs.YtdlmhgijpgnilaaGreatDoor
open Go.RowKit

/-- The answer of Unrank, whatever the alphabet. -/
def unrR (q : Rat) (s : Int) : List Int × Int := if 1 ≤ s ∧ s ≤ 32 then unrQ q s.toNat else ([], 9)
theorem unrR_len (q : Rat) (s : Int) : (unrR q s).1.length ≤ 256 := by
  unfold unrR
  split
  · next h =>
    unfold unrQ
    split
    · simp
    · unfold unrA
      split
      · next h2 => exact (unr_len (by omega) 256 _).2 h2
      · simp
  · simp
set_option maxRecDepth 20000 in
set_option maxHeartbeats 1000000 in
theorem unrank_any (v : Value) (q : Rat) (s : Int) (w : World) (hT : Tab w) (h : Inp w v q 900) (r : List Int × Int) (H : Hid (unrR q s = r)) :
    Calls Tryz.prog 11 #[v, .int .i64 s] w (RetIE w r.1 r.2) := by
  by_cases hs : 1 ≤ s ∧ s ≤ 32
  · obtain ⟨S, rfl⟩ : ∃ S : Nat, s = (S : Int) := ⟨s.toNat, by omega⟩
    refine unrank_in v q S w hT h (by omega) (by omega) r ?_
    have := H.out
    unfold unrR at this
    rw [if_pos hs, Int.toNat_natCast] at this
    exact this
  · have hr : r = ([], 9) := by
      rw [← H.out]; unfold unrR; rw [if_neg hs]
    subst hr
    obtain ⟨nb, A, n, c, B, m, e, rfl⟩ := h.agg
    have hal : decide (1 ≤ s ∧ s ≤ 32) = false := decide_eq_false hs
    have hb0 : Below w.heap.size w (w.alloc (.cells #[.bool nb, .slice A n c, .slice B m e] 25)) := (Below.refl _ _).alloc (Nat.le_refl _) _
    have HB := Lib.hid hb0
    clear h hT hs hb0 H
    go_enter Tryz.func11, Tryz.ntmps11
    go_wp2_with fail
    refine (isAlphabet_any s _ false (Lib.hid hal)).mono ?_
    rintro e0 w' ⟨rfl, rfl⟩
    go_wp2_with fail
    refine bodyPost_ret (results_tmp2 rfl _ _ _) rfl ?_
    exact ⟨_, rfl, OwnI.nil _ _, HB.out⟩
set_option maxRecDepth 20000 in
set_option maxHeartbeats 1000000 in
theorem qUnrank_any (v : Value) (q : Rat) (s : Int) (w : World) (h : Inr w v q) (hz : Sz q 900) (r : List Int × Int) (H : Hid (unrR q s = r)) :
    Calls Tryz.prog 12 #[v, .int .i64 s] w (RetIE w r.1 r.2) := by
  by_cases hs : 1 ≤ s ∧ s ≤ 32
  · obtain ⟨S, rfl⟩ : ∃ S : Nat, s = (S : Int) := ⟨s.toNat, by omega⟩
    refine qUnrank_in v q S w h hz (by omega) (by omega) r ?_
    have := H.out
    unfold unrR at this
    rw [if_pos hs, Int.toNat_natCast] at this
    exact this
  · have hr : r = ([], 9) := by
      rw [← H.out]; unfold unrR; rw [if_neg hs]
    subst hr
    obtain ⟨nb, A, n, c, B, m, e, rfl⟩ := h.agg
    have hal : decide (1 ≤ s ∧ s ≤ 32) = false := decide_eq_false hs
    have hb0 : Below w.heap.size w (w.alloc (.cells #[.bool nb, .slice A n c, .slice B m e] 25)) := (Below.refl _ _).alloc (Nat.le_refl _) _
    have HB := Lib.hid hb0
    clear h hs hb0 H hz
    go_enter Tryz.func12, Tryz.ntmps12
    go_wp2_with fail
    refine (Alphabet_any s _ false (Lib.hid hal)).mono ?_
    rintro e0 w' ⟨rfl, rfl⟩
    go_wp2_with fail
    refine bodyPost_ret (results_tmp2 rfl _ _ _) rfl ?_
    exact ⟨_, rfl, OwnI.nil _ _, HB.out⟩
theorem rankA_sz {l : List Int} {s : Int} (hl : l.length ≤ 20) : Sz (rankA l s).1 64 := by
  unfold rankA
  split
  · next h =>
    have := rkq_sz h l.length (Nat.le_refl _)
    rw [List.take_length] at this
    exact this.mono (by omega)
  · exact sz_zero _ (by omega)
theorem Inp.mono5 {w : World} {v : Value} {q : Rat} {L M : Nat} (h : Inp w v q L) (hm : L ≤ M) : Inp w v q M := by
  obtain ⟨neg, A, n, c, A', m, c', ln, ld, e, h1, h2, h3, h4, h5, h6⟩ := h
  exact ⟨neg, A, n, c, A', m, c', ln, ld, e, h1, h2, h3, h4, h5, h6.mono hm⟩
/-- What the law's condition leaves. -/
def CondI (w0 : World) (z0 z1 z2 : Value) (n rn rm : Nat) (cv : Value) (wx : World) : Prop := ∃ C : Bool, cv = .bool C ∧ Rc wx w0.heap.size z0 z1 z2 ∧ Below w0.heap.size w0 wx ∧ (C = false → n ≤ 20 ∧ rn ≤ 3 ∧ rm ≤ 3)
set_option maxRecDepth 20000 in
set_option maxHeartbeats 8000000 in
theorem haveRanks_law (A : Option Addr) (n c : Nat) (l : List Int) (v : Value) (neg : Bool) (ln ld : List Nat) (s : Int) (w : World) (hT : Tab w) (h : Ints w l A n c) (hf : Fld w v neg ln ld) (_ : -9223372036854775808 ≤ s) (_ : s ≤ 9223372036854775807) :
    Calls Tryz.prog 3 #[.slice A n c, v, .int .i64 s] w (RetV w (.bool true)) := by
  have HF := Lib.hid hf
  obtain ⟨RA, rn, rc, RB, rm, rd, rfl, hx, hy⟩ := hf.out
  have HT := Lib.hid hT
  have HI := Lib.hid h
  obtain ⟨hb0, c0'⟩ := blk1 w [.bool neg, .slice RA rn rc, .slice RB rm rd] 25
  have c0 : Rc _ w.heap.size (.bool neg) (.slice RA rn rc) (.slice RB rm rd) := c0'
  have hx1 := hx.below hb0
  clear hT h hf c0'
  go_enter Tryz.func3, Tryz.ntmps3
  go_upto_region 1 with (fail)
  generalize w.alloc (.cells #[.bool neg, .slice RA rn rc, .slice RB rm rd] 25) = W0 at *
  go_cut [45] from 15 to 44 (fun cv wx => CondI w (.bool neg) (.slice RA rn rc) (.slice RB rm rd) n rn rm cv wx)
  case first =>
    obtain ⟨k0, k1, k2⟩ := c0.cells
    by_cases h20 : (20 : Int) < (n : Int)
    · go_wp2_with fail
      go_meet
      case rel => exact ⟨true, rfl, c0, hb0, fun h => by cases h⟩
    · obtain ⟨LB, hLB⟩ : ∃ b, (decide (rn ≤ 3) && decide (rm ≤ 3)) = b := ⟨_, rfl⟩
      have HLB := Lib.hid hLB
      cases LB with
      | false =>
        clear hLB
        go_wp2_with fail
        refine (r_Light neg RA RB rn rc rm rd 3 _ false HLB).mono ?_
        rintro e0 w1 ⟨rfl, hb1⟩
        have HEND := Lib.hid (And.intro (c0.below hb1 c0.lt) (hb0.trans (hb1.mono hb0.size)))
        clear k0 k1 k2 hb1 hx1
        go_wp2_with fail
        go_meet
        case rel => exact ⟨true, rfl, HEND.out.1, HEND.out.2, fun h => by cases h⟩
      | true =>
        simp only [Bool.and_eq_true, decide_eq_true_eq] at hLB
        obtain ⟨hrn, hrm⟩ := hLB
        have hn20 : n ≤ 20 := by omega
        by_cases hs : s = 1
        · subst hs
          have hs1 : ((1 : Int) == 1) = true := by simp
          by_cases h0 : (0 : Int) < (rn : Int)
          · by_cases h1 : (1 : Int) < (rn : Int)
            · go_wp2_with fail
              refine (r_Light neg _ RB _ rc rm rd 3 _ true HLB).mono ?_
              rintro e0 w1 ⟨rfl, hb1⟩
              have HEND := Lib.hid (And.intro (c0.below hb1 c0.lt) (hb0.trans (hb1.mono hb0.size)))
              clear k0 k1 k2
              obtain ⟨k0, k1, k2⟩ := HEND.out.1.cells
              clear hb1 hx1
              go_wp2_with fail
              go_meet
              case rel => exact ⟨_, rfl, HEND.out.1, HEND.out.2, fun _ => ⟨hn20, hrn, hrm⟩⟩
            · obtain ⟨b, o, x, rfl, u1, u2, u3, hcx⟩ := hx1.at_ (k := 0) (by omega)
              have HU1 := Lib.hid u1
              clear u1 u2 u3
              obtain rfl : rn = 1 := by omega
              clear h0 h1 hrn hx hy
              have hrn : 1 ≤ 3 := by decide
              have HCX := Lib.hid hcx
              clear hcx
              by_cases h3 : (300 : Int) < (x : Int)
              · go_wp2_with fail
                refine (r_Light neg _ RB _ rc rm rd 3 _ true HLB).mono ?_
                rintro e0 w1 ⟨rfl, hb1⟩
                have HEND := Lib.hid (And.intro (c0.below hb1 c0.lt) (hb0.trans (hb1.mono hb0.size)))
                clear k0 k1 k2
                obtain ⟨k0, k1, k2⟩ := HEND.out.1.cells
                have hcx2 : w1.cell? ⟨b, o + 0, none⟩ = some (.int .u32 (x : Int)) := (hb1.cell (p := ⟨b, o + 0, none⟩) HU1.out).trans HCX.out
                rw [Nat.add_zero] at hcx2
                clear hb1 hx1
                go_wp2_with fail
                go_meet
                case rel => exact ⟨_, rfl, HEND.out.1, HEND.out.2, fun _ => ⟨hn20, hrn, hrm⟩⟩
              · go_wp2_with fail
                refine (r_Light neg _ RB _ rc rm rd 3 _ true HLB).mono ?_
                rintro e0 w1 ⟨rfl, hb1⟩
                have HEND := Lib.hid (And.intro (c0.below hb1 c0.lt) (hb0.trans (hb1.mono hb0.size)))
                clear k0 k1 k2
                obtain ⟨k0, k1, k2⟩ := HEND.out.1.cells
                have hcx2 : w1.cell? ⟨b, o + 0, none⟩ = some (.int .u32 (x : Int)) := (hb1.cell (p := ⟨b, o + 0, none⟩) HU1.out).trans HCX.out
                rw [Nat.add_zero] at hcx2
                clear hb1 hx1
                go_wp2_with fail
                go_meet
                case rel => exact ⟨_, rfl, HEND.out.1, HEND.out.2, fun _ => ⟨hn20, hrn, hrm⟩⟩
          · go_wp2_with fail
            refine (r_Light neg _ RB _ rc rm rd 3 _ true HLB).mono ?_
            rintro e0 w1 ⟨rfl, hb1⟩
            have HEND := Lib.hid (And.intro (c0.below hb1 c0.lt) (hb0.trans (hb1.mono hb0.size)))
            clear k0 k1 k2
            obtain ⟨k0, k1, k2⟩ := HEND.out.1.cells
            clear hb1 hx1
            go_wp2_with fail
            go_meet
            case rel => exact ⟨_, rfl, HEND.out.1, HEND.out.2, fun _ => ⟨hn20, hrn, hrm⟩⟩
        · have hs1 : (s == 1) = false := by simp [hs]
          go_wp2_with fail
          refine (r_Light neg _ RB _ rc rm rd 3 _ true HLB).mono ?_
          rintro e0 w1 ⟨rfl, hb1⟩
          have HEND := Lib.hid (And.intro (c0.below hb1 c0.lt) (hb0.trans (hb1.mono hb0.size)))
          clear k0 k1 k2
          obtain ⟨k0, k1, k2⟩ := HEND.out.1.cells
          clear hb1 hx1
          go_wp2_with fail
          go_meet
          case rel => exact ⟨_, rfl, HEND.out.1, HEND.out.2, fun _ => ⟨hn20, hrn, hrm⟩⟩
  case rest =>
    obtain ⟨C, rfl, c1, hb, hC⟩ := hcut
    clear c0 hb0 hx1 hx hy
    cases C with
    | true =>
      clear hC c1
      go_wp2_with fail
      refine (awake5_any _ (HT.out.below hb)).mono ?_
      rintro e0 w2 ⟨rfl, hb2⟩
      replace hb := hb.trans (hb2.mono hb.size)
      go_wp2_with fail
      go_ret
      exact ⟨rfl, hb⟩
    | false =>
      obtain ⟨hn20, hrn, hrm⟩ := hC rfl
      clear hC
      have hlg : lgt ln ld = true := by
        obtain ⟨A2, n2, d2, A3, n3, d3, e, g1, g2⟩ := HF.out.out
        injection e with e
        injection e with e
        injection e with _ e
        injection e with e1 e
        injection e with e2 _
        injection e1 with _ e1 _
        injection e2 with _ e2 _
        unfold lgt
        have a1 := g1.len
        have a2 := g2.len
        simp
        omega
      obtain ⟨q, hq, HIN, HINR, hz⟩ := fld_in HF.out hlg
      have hz9 : Sz q 900 := hz.mono (by omega)
      obtain ⟨r, hr⟩ : ∃ r, unrR q s = r := ⟨_, rfl⟩
      have HR := Lib.hid hr
      have hlen := unrR_len q s
      rw [hr] at hlen
      obtain ⟨ra, hra⟩ : ∃ x, (rankA l s).1 = x := ⟨_, rfl⟩
      obtain ⟨re, hre⟩ : ∃ x, (rankA l s).2 = x := ⟨_, rfl⟩
      have zr : Sz ra 64 := by rw [← hra]; exact rankA_sz (by have := HI.out.len; omega)
      have HA := Lib.hid (And.intro hra hre)
      obtain ⟨rl, rE⟩ := r
      have HIn := Lib.hid HIN
      have HInr := Lib.hid HINR
      have eE : (rE == rE) = true := by simp
      have eR : (re == re) = true := by simp
      clear hq HIN HINR hz hr hra hre hlg HF hrn hrm
      have hi := HI.out.below hb
      go_wp2_with fail
      refine (wRank_any A n c l s _ (HT.out.below hb) hi).mono ?_
      rw [HA.out.1, HA.out.2]
      rintro e0 w3 ⟨va, rfl, qa, hb1⟩
      obtain ⟨a0, aA, an, ac, aB, am, ae, rfl⟩ := qa.agg
      obtain ⟨hb2, q7'⟩ := blk1 w3 [.bool a0, .slice aA an ac, .slice aB am ae] 25
      have q7 : Rc _ w3.heap.size (.bool a0) (.slice aA an ac) (.slice aB am ae) := q7'
      replace qa := qa.below hb2
      replace c1 := (c1.below hb1 c1.lt).below hb2 (c1.below hb1 c1.lt).lt
      replace hb := (hb.trans (hb1.mono hb.size)).trans (hb2.mono (Nat.le_trans hb.size hb1.size))
      clear hb1 hb2 q7' hi
      go_wp2_with fail
      generalize w3.alloc (.cells #[.bool a0, .slice aA an ac, .slice aB am ae] 25) = W3 at *
      refine (qRank_any A n c l s _ (HI.out.below hb)).mono ?_
      rw [HA.out.1, HA.out.2]
      rintro e0 w4 ⟨vb, rfl, qb, hb1⟩
      obtain ⟨b0, bA, bn, bc, bB, bm, be, rfl⟩ := qb.agg
      obtain ⟨hb2, q9'⟩ := blk1 w4 [.bool b0, .slice bA bn bc, .slice bB bm be] 25
      have q9 : Rc _ w4.heap.size (.bool b0) (.slice bA bn bc) (.slice bB bm be) := q9'
      replace qb := qb.below hb2
      replace qa := (qa.below hb1).below hb2
      replace c1 := (c1.below hb1 c1.lt).below hb2 (c1.below hb1 c1.lt).lt
      replace q7 := (q7.below hb1 q7.lt).below hb2 (q7.below hb1 q7.lt).lt
      replace hb := (hb.trans (hb1.mono hb.size)).trans (hb2.mono (Nat.le_trans hb.size hb1.size))
      clear hb1 hb2 q9'
      obtain ⟨k0, k1, k2⟩ := c1.cells
      go_wp2_with fail
      generalize w4.alloc (.cells #[.bool b0, .slice bA bn bc, .slice bB bm be] 25) = W4 at *
      refine (unrank_any _ q s _ (HT.out.below hb) ((HIn.out.below hb).mono5 (by omega)) (rl, rE) HR).mono ?_
      rintro e0 w5 ⟨vc, rfl, oc, hb1⟩
      obtain ⟨A5, c5, rfl, hc⟩ := oc.reads
      clear k0 k1 k2 oc
      replace qa := qa.below hb1
      replace qb := qb.below hb1
      replace c1 := c1.below hb1 c1.lt
      replace q7 := q7.below hb1 q7.lt
      replace q9 := q9.below hb1 q9.lt
      replace hb := hb.trans (hb1.mono hb.size)
      clear hb1
      obtain ⟨k0, k1, k2⟩ := c1.cells
      go_wp2_with fail
      refine (qUnrank_any _ q s _ (HInr.out.below hb) hz9 (rl, rE) HR).mono ?_
      rintro e0 w6 ⟨vd, rfl, od, hb1⟩
      obtain ⟨A6, c6, rfl, hd⟩ := od.reads
      clear k0 k1 k2 od
      replace qa := qa.below hb1
      replace qb := qb.below hb1
      replace hc := hc.below hb1
      replace q7 := q7.below hb1 q7.lt
      replace q9 := q9.below hb1 q9.lt
      replace hb := hb.trans (hb1.mono hb.size)
      clear hb1 c1
      go_wp2_with fail
      refine (awake5_any _ (HT.out.below hb)).mono ?_
      rintro e0 w7 ⟨rfl, hb1⟩
      replace qa := qa.below hb1
      replace qb := qb.below hb1
      replace hc := hc.below hb1
      replace hd := hd.below hb1
      replace q7 := q7.below hb1 q7.lt
      replace q9 := q9.below hb1 q9.lt
      replace hb := hb.trans (hb1.mono hb.size)
      clear hb1
      obtain ⟨k0, k1, k2⟩ := q7.cells
      obtain ⟨j0, j1, j2⟩ := q9.cells
      go_wp2_with fail
      refine (r_Same_true _ _ _ _ _ 64 qa qb zr (by omega) rfl).mono ?_
      rintro e0 w8 ⟨rfl, hb1⟩
      clear k0 k1 k2 j0 j1 j2
      replace hc := hc.below hb1
      replace hd := hd.below hb1
      replace hb := hb.trans (hb1.mono hb.size)
      clear hb1
      have hlen2 : rl.length ≤ 1073741824 := Nat.le_trans hlen (by omega)
      go_wp2_with fail
      refine (qSame_any A5 A6 _ c5 _ c6 rl rl _ true hc hd hlen2 hlen2 (Lib.hid (by simp))).mono ?_
      rintro e0 w9 ⟨rfl, qk, rfl⟩
      replace hb := hb.trans (below_of_drewN _ qk _)
      go_wp2_with fail
      go_ret
      exact ⟨rfl, hb⟩
end Go.Proofs.YtdlmhgijpgnilaaGreatDoor
