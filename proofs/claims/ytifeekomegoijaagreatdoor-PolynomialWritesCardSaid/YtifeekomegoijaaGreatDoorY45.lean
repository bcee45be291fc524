import Derived.Test.YtifeekomegoijaaGreatDoorY42
import Derived.Deep.CutBlock
set_option linter.unusedVariables false
set_option linter.unusedSimpArgs false
set_option maxRecDepth 100000
set_option maxHeartbeats 8000000
namespace Go.Proofs.YtifeekomegoijaaGreatDoor
open Go.RowKit
abbrev mv (e : EI) (nb : Bool) (A : Option Addr) (n c : Nat) (B : Option Addr) (m k : Nat) : List Value := [.int .i64 e.1, .int .i64 e.2.1, .int .i64 e.2.2, .bool nb, .slice A n c, .slice B m k]
structure PMM (w0 W : World) (g : Nat) (e : EI) (q : Rat) : Prop where
 cur : ∃ nb A n c B m k, Cs W g (mv e nb A n c B m k) MT /\ RatQ W (.agg #[.bool nb, .slice A n c, .slice B m k]) q
 ge : w0.heap.size <= g
 below : Below w0.heap.size w0 W
theorem PMM.lt {w0 W : World} {g : Nat} {e : EI} {q : Rat} (h : PMM w0 W g e q) : g < W.heap.size := by
 obtain ⟨nb, A, n, c, B, m, k, h1, _⟩ := h.cur
 exact h1.lt
theorem PMM.keep {w0 W W' : World} {g : Nat} {e : EI} {q : Rat} (h : PMM w0 W g e q) (hb : Below W.heap.size W W') : PMM w0 W' g e q := by
 obtain ⟨nb, A, n, c, B, m, k, h1, h2⟩ := h.cur
 exact ⟨⟨nb, A, n, c, B, m, k, h1.below hb h1.lt, h2.below hb⟩, h.ge, h.below.trans (hb.mono h.below.size)⟩
theorem PMM.set {w0 W : World} {g : Nat} {e : EI} {q : Rat} (h : PMM w0 W g e q) {j : Nat} (hj : j < 3) (v : Int) : PMM w0 (W.setCell ⟨g, j, none⟩ (.int .i64 v)) g (setE e j v) q := by
 obtain ⟨nb, A, n, c, B, m, k, h1, h2⟩ := h.cur
 have h3 : RatQ (W.setCell ⟨g, j, none⟩ (.int .i64 v)) (.agg #[.bool nb, .slice A n c, .slice B m k]) q := h2.setL (k := j) h1 (by simp) [.int .i64 v]
 have h4 := h1.set j (.int .i64 v)
 refine ⟨⟨nb, A, n, c, B, m, k, ?_, h3⟩, h.ge, h.below.setCell (p := ⟨g, j, none⟩) h.ge _⟩
 obtain rfl | rfl | rfl : j = 0 \/ j = 1 \/ j = 2 := by omega
 ·exact h4
 ·exact h4
 ·exact h4
theorem pmm_coef {w0 W : World} {g : Nat} {e : EI} {z3 z4 z5 : Value} {nb : Bool} {A B : Option Addr} {n c m k : Nat} {q : Rat} (h1 : Cs W g [.int .i64 e.1, .int .i64 e.2.1, .int .i64 e.2.2, z3, z4, z5] MT) (h2 : RatQ W (.agg #[.bool nb, .slice A n c, .slice B m k]) q) (hz : ∀ v ∈ [z3, z4, z5], ∀ x : Nat, v ≠ .int .u32 (x : Int)) (hg : w0.heap.size <= g) (hb : Below w0.heap.size w0 W) :
 PMM w0 (((W.setCell ⟨g, 3, none⟩ (.bool nb)).setCell ⟨g, 4, none⟩ (.slice A n c)).setCell ⟨g, 5, none⟩ (.slice B m k)) g e q := by
 have h3 : RatQ (((W.setCell ⟨g, 3, none⟩ (.bool nb)).setCell ⟨g, 4, none⟩ (.slice A n c)).setCell ⟨g, 5, none⟩ (.slice B m k)) (.agg #[.bool nb, .slice A n c, .slice B m k]) q := h2.setL (k := 3) h1 (by
  intro v hv x
  simp only [List.mem_cons, List.not_mem_nil, or_false] at hv
  rcases hv with rfl | rfl | rfl | rfl | rfl | rfl
  ·simp
  ·simp
  ·simp
  ·exact hz _ (by simp) x
  ·exact hz _ (by simp) x
  ·exact hz _ (by simp) x) [.bool nb, .slice A n c, .slice B m k]
 have h4 := ((h1.set 3 (.bool nb)).set 4 (.slice A n c)).set 5 (.slice B m k)
 exact ⟨⟨nb, A, n, c, B, m, k, h4, h3⟩, hg, ((hb.setCell (p := ⟨g, 3, none⟩) hg _).setCell (p := ⟨g, 4, none⟩) hg _).setCell (p := ⟨g, 5, none⟩) hg _⟩
def RetMonP (w0 : World) (r : Option RawM) (e : Ending) (w' : World) : Prop := ∃ (z : EI) (nb : Bool) (A : Option Addr) (n c : Nat) (B : Option Addr) (m k : Nat), e = .returned (.tuple #[.agg (mv z nb A n c B m k).toArray, .bool r.isSome]) /\ (∀ x, r = some x -> x.1 = z /\ RatQ w' (.agg #[.bool nb, .slice A n c, .slice B m k]) x.2) /\ Below w0.heap.size w0 w'
theorem splitG (s : ByteArray) (c : UInt8) (w : World) (hT : TxG w) (hs : s.size <= 100000) :
 Calls Tryz.prog 111 #[.string s, .string ⟨#[c]⟩] w (fun e w' => ∃ ps : List ByteArray, ps.map (·.data.toList) = sp c s.data.toList /\ e = .returned (.slice (some ⟨w.heap.size, 0, none⟩) ps.length ps.length) /\ Cs w' w.heap.size (ps.map Value.string) ST /\ Below w.heap.size w w') := by
 obtain ⟨m, hm⟩ := hT.txt.max
 refine (Ly.Tryz.strings_Split s ⟨#[c]⟩ m w (by omega) hm (by show 1 <= 1; omega)).mono ?_
 rintro e w' ⟨rfl, rfl⟩
 have hl : (Lib.splitB ⟨#[c]⟩ 0 (Lib.countB s ⟨#[c]⟩) s).length = Lib.countB s ⟨#[c]⟩ + 1 := Lib.splitB_all ⟨#[c]⟩ (by show 1 <= 1; omega) 0 _ s rfl
 refine ⟨Lib.splitB ⟨#[c]⟩ 0 (Lib.countB s ⟨#[c]⟩) s, splitB_sp c s, by rw [hl], Cs.new _ _ _, (Below.refl _ _).alloc (Nat.le_refl _) _⟩
theorem parP_lt {s : List UInt8} {kv : Nat × Int} (h : parP s = some kv) : kv.1 < 3 := by
 rw [parP_eq] at h
 have key : Lib.index [97, 98, 99] (Lib.cut s [94]).1 < 3 \/ (Lib.cut s [94]).1.length ≠ 1 := by
  by_cases hl : (Lib.cut s [94]).1.length = 1
  ·left
   by_cases h0 : 0 <= Lib.index [97, 98, 99] (Lib.cut s [94]).1
   ·have := Lib.index_room [97, 98, 99] (Lib.cut s [94]).1 h0
    rw [hl] at this
    simp only [List.length_cons, List.length_nil] at this
    omega
   ·omega
  ·right; exact hl
 split at h
 ·cases h
 ·rename_i hn
  have h2 : (Lib.index [97, 98, 99] (Lib.cut s [94]).1).toNat < 3 := by omega
  split at h
  ·obtain rfl := Option.some.inj h
   exact h2
  ·obtain ⟨v, _, rfl⟩ := Option.map_eq_some_iff.1 h
   exact h2
theorem sp_len (c : UInt8) : ∀ l, (sp c l).length <= l.length + 1
 | [] => by simp [sp]
 | x :: l => by
   have h := sp_len c l
   rw [sp_step]
   split
   ·simp only [List.length_cons]; omega
   ·simp only [List.length_cons, List.length_tail]; omega
theorem sp_bound (c : UInt8) : ∀ l p, p ∈ sp c l -> p.length <= l.length
 | [], p, h => by
   simp only [sp, List.mem_singleton] at h
   rw [h]; exact Nat.le_refl _
 | x :: l, p, h => by
   rw [sp_step] at h
   split at h
   ·rcases List.mem_cons.1 h with rfl | h
    ·simp
    ·have := sp_bound c l p h
     simp only [List.length_cons]; omega
   ·rcases List.mem_cons.1 h with rfl | h
    ·have := sp_head_le c l
     simp only [List.length_cons]; omega
    ·have := sp_bound c l p (List.mem_of_mem_tail h)
     simp only [List.length_cons]; omega
theorem monomial_any (s : ByteArray) (w : World) (hT : TxG w) (hs : s.size <= 100000) (r : Option RawM) (H : Hid (monP s.data.toList = r)) : Calls Tryz.prog 112 #[.string s] w (RetMonP w r) := by
 have HT := Lib.hid hT
 have HSZ := Lib.hid hs
 clear hT hs
 obtain ⟨hb0, c0⟩ := blk1 w [.int .i64 0, .int .i64 0, .int .i64 0, .bool false, .slice none 0 0, .slice none 0 0] MT
 have HB0 := Lib.hid hb0
 have HC0 := Lib.hid c0
 clear hb0 c0
 go_enter Tryz.func112, Tryz.ntmps112
 go_wp2_with fail
 refine (pone_any _).mono ?_
 rintro e1 w1 ⟨v1, rfl, hq1, hb1⟩
 obtain ⟨nb, A, n, c, B, m, k, rfl⟩ := hq1.agg
 have hc1 := HC0.out.below hb1 HC0.out.lt
 have HM1 := Lib.hid (pmm_coef (w0 := w) (e := (0, 0, 0)) hc1 hq1 (by simp) (Nat.le_refl _) (HB0.out.trans (hb1.mono HB0.out.size)))
 have f3 := hc1.frozen 3
 have f4 := hc1.frozen 4
 have f5 := hc1.frozen 5
 obtain ⟨x0, x1, x2, x3, x4, x5⟩ := hc1.c6
 clear hq1 hb1 hc1
 go_wp2_with fail
 obtain ⟨W2, hW2⟩ : ∃ W2, ((w1.setCell ⟨w.heap.size, 3, none⟩ (.bool nb)).setCell ⟨w.heap.size, 4, none⟩ (.slice A n c)).setCell ⟨w.heap.size, 5, none⟩ (.slice B m k) = W2 := ⟨_, rfl⟩
 rw [hW2] at HM1 ⊢
 clear hW2 f3 f4 f5 x0 x1 x2 x3 x4 x5 HB0 HC0
 obtain ⟨g, hg⟩ : ∃ g, w.heap.size = g := ⟨_, rfl⟩
 have HG := Lib.hid hg
 rw [hg] at HM1
 try rw [hg]
 clear hg
 refine (splitG s 42 W2 (HT.out.below HM1.out.below) HSZ.out).mono ?_
 rintro e3 w3 ⟨ps, hps, rfl, hcp, hb3⟩
 obtain ⟨h, hh⟩ : ∃ h, W2.heap.size = h := ⟨_, rfl⟩
 have HGH : Hid (g < h) := Lib.hid (by rw [<- hh]; exact HM1.out.lt)
 rw [hh] at hcp ⊢
 have HM3 := Lib.hid (HM1.out.keep hb3)
 have HPS := Lib.hid hps
 have HCP := Lib.hid hcp
 have HPL : Hid (ps.length <= 100001) := Lib.hid (by
  have h1 := congrArg List.length hps
  rw [List.length_map] at h1
  rw [h1]
  exact Nat.le_trans (sp_len 42 _) (by rw [Array.length_toList]; exact Nat.succ_le_succ HSZ.out))
 clear hps hcp hb3 hh HM1
 obtain ⟨p0, pr, rfl⟩ : ∃ p0 pr, ps = p0 :: pr := by
  cases ps with
  | nil => exact absurd HPS.out.symm (sp_ne _ _)
  | cons a b => exact ⟨a, b, rfl⟩
 have hcell := HCP.out.cell (k := 0) rfl
 have hlen : (0 : Int) < ((p0 :: pr).length : Int) := by simp only [List.length_cons]; omega
 have HP0 : Hid (p0.size <= 100000) := Lib.hid (by
  have h1 := sp_bound 42 s.data.toList p0.data.toList (by rw [<- HPS.out]; simp)
  rw [Array.length_toList, Array.length_toList] at h1
  exact Nat.le_trans h1 HSZ.out)
 obtain ⟨rq, hrq⟩ : ∃ rq, parseQ p0.data.toList = rq := ⟨_, rfl⟩
 go_wp2_with fail
 refine (Parse_any p0 w3 (HT.out.below HM3.out.below).txt (by have := HP0.out; omega) rq hrq).mono ?_
 rintro e4 w4 ⟨v4, rfl, hq4, hb4⟩
 obtain ⟨nb4, A4, n4, c4, B4, m4, k4, rfl⟩ := hq4.agg
 obtain ⟨ok, hok⟩ : ∃ ok, rq.isSome = ok := ⟨_, rfl⟩
 rw [hok]
 have HOK := Lib.hid hok
 clear hok
 have HM4 := Lib.hid (HM3.out.keep hb4)
 have HC4 := Lib.hid (HCP.out.below hb4 HCP.out.lt)
 have HQ4 := Lib.hid hq4
 have HRQ := Lib.hid hrq
 clear hb4 hq4 hrq hcell HM3 HCP
 go_upto_if 23 with (fail)
 obtain ⟨hb5, c5⟩ := blk1 w4 [.bool nb4, .slice A4 n4 c4, .slice B4 m4 k4] 25
 have HM5 := Lib.hid (HM4.out.keep hb5)
 have HC5 := Lib.hid (HC4.out.below hb5 HC4.out.lt)
 have HQ5 := Lib.hid (HQ4.out.below hb5)
 have HR5 := Lib.hid c5
 obtain ⟨k5, hk5⟩ : ∃ k5, w4.heap.size = k5 := ⟨_, rfl⟩
 have HGK : Hid (g < k5) := Lib.hid (by rw [<- hk5]; exact HM4.out.lt)
 obtain ⟨W5, hW5⟩ : ∃ W5, w4.alloc (.cells #[.bool nb4, .slice A4 n4 c4, .slice B4 m4 k4] 25) = W5 := ⟨_, rfl⟩
 rw [hk5] at HR5
 rw [hW5] at HM5 HC5 HQ5 HR5 ⊢
 try rw [hk5]
 clear hb5 c5 hk5 hW5 HM4 HC4 HQ4
 have HMON : Hid (monP s.data.toList = r) := H
 clear H
 go_cut [4] from 24 to 27 (fun s4 wx => ∃ (o N : Nat) (a : Option Addr) (q : Rat), o <= 1 /\ N + o = pr.length + 1 /\ s4 = .slice a N N /\ Hid (0 < N -> a = some ⟨h, o, none⟩) /\ Hid (PMM w wx g (0, 0, 0) q) /\ Hid (Cs wx h ((p0 :: pr).map Value.string) ST) /\ Hid ((parsF (0, 0, 0) (((p0 :: pr).drop o).map (·.data.toList))).map (fun e => (e, q)) = r))
 case first =>
  cases rq with
  | none =>
    obtain rfl : ok = false := HOK.out.symm
    have HR : Hid ((parsF (0, 0, 0) (((p0 :: pr).drop 0).map (·.data.toList))).map (fun e => (e, (1 : Rat))) = r) := Lib.hid (by
     rw [<- HMON.out]
     unfold monP
     rw [<- HPS.out]
     simp only [List.map_cons, List.headD_cons]
     rw [HRQ.out]
     rfl)
    go_wp2_with fail
    go_meet
    case rel => exact ⟨0, pr.length + 1, _, 1, by omega, rfl, rfl, Lib.hid (fun _ => rfl), HM5, HC5, HR⟩
  | some q0 =>
    obtain rfl : ok = true := HOK.out.symm
    have HR : Hid ((parsF (0, 0, 0) (((p0 :: pr).drop 1).map (·.data.toList))).map (fun e => (e, q0)) = r) := Lib.hid (by
     rw [<- HMON.out]
     unfold monP
     rw [<- HPS.out]
     simp only [List.map_cons, List.headD_cons, List.tail_cons]
     rw [HRQ.out]
     rfl)
    go_upto_region 5 with (fail)
    obtain ⟨nb', A', n', c', B', m', k', hcs, hq0⟩ := HM5.out.cur
    have HM6 := Lib.hid (pmm_coef (w0 := w) (e := (0, 0, 0)) hcs HQ5.out (by simp) HM5.out.ge HM5.out.below)
    have HC6 : Hid (Cs _ h ((p0 :: pr).map Value.string) ST) := Lib.hid (Cs.farL (g' := g) (by have := HGH.out; omega) [.bool nb4, .slice A4 n4 c4, .slice B4 m4 k4] 3 HC5.out)
    have f3 := hcs.frozen 3
    have f4 := hcs.frozen 4
    have f5 := hcs.frozen 5
    obtain ⟨x0, x1, x2, x3, x4, x5⟩ := hcs.c6
    obtain ⟨y0, y1, y2⟩ := HR5.out.c3
    have hne : g ≠ k5 := by have := HGK.out; omega
    go_region
    obtain ⟨a1, ha1⟩ : ∃ a1, (if pr = [] then (some ⟨h, 0, none⟩ : Option Addr) else some ⟨h, 1, none⟩) = a1 := ⟨_, rfl⟩
    have HA1 : Hid (0 < pr.length -> a1 = some ⟨h, 1, none⟩) := Lib.hid (fun hn => by rw [<- ha1, if_neg (fun e => by rw [e] at hn; exact absurd hn (by simp))])
    simp only [ha1]
    clear ha1
    go_wp2_with fail
    go_meet
    case rel => exact ⟨1, pr.length, _, q0, by omega, rfl, rfl, HA1, Lib.hid (HM6.out.keep (Below.refl _ _).drew), Lib.hid (HC6.out.drew), HR⟩
 case rest =>
  obtain ⟨o, N, a, q, ho, hN, rfl, HA, HM, HC, HR⟩ := hcut
  have HNL : Hid (N <= 100001) := Lib.hid (by have := HPL.out; simp only [List.length_cons] at this; omega)
  have HEV : Hid (∀ p ∈ p0 :: pr, p.size <= 100000) := Lib.hid (fun p hp => by
   have h1 := sp_bound 42 s.data.toList p.data.toList (by rw [<- HPS.out]; exact List.mem_map_of_mem hp)
   rw [Array.length_toList, Array.length_toList] at h1
   exact Nat.le_trans h1 HSZ.out)
  obtain ⟨P, hP⟩ : ∃ P, p0 :: pr = P := ⟨_, rfl⟩
  have hPl : P.length = pr.length + 1 := by rw [<- hP]; rfl
  have HPL2 : Hid (N + o = P.length) := Lib.hid (by rw [hPl]; exact hN)
  have HPB : Hid (P.length <= 100002) := Lib.hid (by have := HNL.out; have := HPL2.out; omega)
  rw [hP] at HC HR HEV
  clear hP hPl hN hlen HP0 HM5 HC5 HQ5 HR5 HRQ HOK HPL HPS HMON HSZ
  go_wp2_with fail
  go_loopw [30] (fun iv wr => ∃ (i : Nat) (e : EI), i <= N /\ iv = .int .i64 (i : Int) /\ Hid (PMM w wr g e q) /\ Hid (Cs wr h (P.map Value.string) ST) /\ Hid ((parsF e ((P.drop (o + i)).map (·.data.toList))).map (fun e => (e, q)) = r)) (fun iv _ => (N - intOf iv).toNat)
  case atStart => exact ⟨0, (0, 0, 0), Nat.zero_le _, rfl, HM, HC, HR⟩
  case round =>
   obtain ⟨i, e, hi, rfl, HMr, HCr, HRr⟩ := hrel
   by_cases hin : i < N
   ·have hal := HA.out (by omega)
    have hlt : (i : Int) < (N : Int) := by omega
    obtain ⟨p, hp⟩ : ∃ p, P[o + i]? = some p := ⟨P[o + i]'(by have := HPL2.out; omega), List.getElem?_eq_getElem _⟩
    have hcell := HCr.out.cell (k := o + i) (v := .string p) (by rw [List.getElem?_map, hp]; rfl)
    subst hal
    have HRS : Hid (P.drop (o + i) = p :: P.drop (o + i + 1)) := Lib.hid (by
     rw [List.drop_eq_getElem_cons (by have := HPL2.out; omega)]
     congr 1
     rw [List.getElem?_eq_getElem (by have := HPL2.out; omega)] at hp
     exact Option.some.inj hp)
    have HPZ := Lib.hid (HEV.out p (List.mem_of_getElem? hp))
    obtain ⟨rp, hrp⟩ : ∃ rp, parP p.data.toList = rp := ⟨_, rfl⟩
    have HRP := Lib.hid hrp
    have HIN := Lib.hid hin
    have hw1 : IntKind.i64.wrap ((i : Int) + 1) = (i : Int) + 1 := IntWalk.i64_in _ (by have := HPL2.out; have := HPB.out; omega)
    clear hp hrp hin
    go_wp2_with fail
    refine (parameter_any p wr (HT.out.below HMr.out.below) HPZ.out rp HRP).mono ?_
    rintro e5 w5 ⟨a5, p5, rfl, hx5, hb5⟩
    have HM6 := Lib.hid (HMr.out.keep hb5)
    have HC6 := Lib.hid (HCr.out.below hb5 HCr.out.lt)
    have HX5 := Lib.hid hx5
    clear hb5 hx5 hcell
    obtain ⟨nb', A', n', c', B', m', k', hcs, hq0⟩ := HM6.out.cur
    have f0 := hcs.frozen 0
    have f1 := hcs.frozen 1
    have f2 := hcs.frozen 2
    have f3 := hcs.frozen 3
    have f4 := hcs.frozen 4
    have f5 := hcs.frozen 5
    obtain ⟨x0, x1, x2, x3, x4, x5⟩ := hcs.c6
    cases rp with
    | none =>
      have HF : Hid (r = none) := Lib.hid (by
       rw [<- HRr.out, HRS.out, List.map_cons, parsF, HRP.out]
       rfl)
      go_wp2_with fail
      have hfin := hcs.setL [.int .i64 0, .int .i64 0, .int .i64 0, .bool false, .slice none 0 0, .slice none 0 0] rfl
      refine ret_cs_tmp Tryz.results112 Tryz.underlying59 (by kernel_rfl) rfl rfl hfin rfl ?_
      exact ⟨(0, 0, 0), false, none, 0, 0, none, 0, 0, by rw [HF.out]; rfl, (fun x hx => by rw [HF.out] at hx; cases hx), (((((HM6.out.below.setCell (p := ⟨g, 0, none⟩) HM6.out.ge _).setCell (p := ⟨g, 1, none⟩) HM6.out.ge _).setCell (p := ⟨g, 2, none⟩) HM6.out.ge _).setCell (p := ⟨g, 3, none⟩) HM6.out.ge _).setCell (p := ⟨g, 4, none⟩) HM6.out.ge _).setCell (p := ⟨g, 5, none⟩) HM6.out.ge _⟩
    | some kv =>
      obtain ⟨ha5, hp5⟩ := HX5.out kv rfl
      subst ha5 hp5
      have HKV : Hid (kv.1 < 3) := Lib.hid (parP_lt HRP.out)
      have HNX : Hid ((parsF (setE e kv.1 kv.2) ((P.drop (o + (i + 1))).map (·.data.toList))).map (fun e => (e, q)) = r) := Lib.hid (by
       rw [<- HRr.out, HRS.out, List.map_cons, parsF, HRP.out]
       rfl)
      have hk := HKV.out
      obtain ⟨kk, vv⟩ := kv
      simp only at hk
      rcases (show kk = 0 \/ kk = 1 \/ kk = 2 by omega) with rfl | rfl | rfl
      all_goals
       go_wp2_with fail
       exact ⟨⟨i + 1, setE e _ vv, by have := HIN.out; omega, congrArg (Value.int _) (by omega), Lib.hid (HM6.out.set (by decide) vv), Lib.hid (Cs.farL (g' := g) (by have := HGH.out; omega) [.int .i64 vv] _ HC6.out), HNX⟩, by simp [intOf]; have := HIN.out; omega⟩
   ·obtain ⟨nb', A', n', c', B', m', k', hcs, hq0⟩ := HMr.out.cur
    have f0 := hcs.frozen 0
    have f1 := hcs.frozen 1
    have f2 := hcs.frozen 2
    have f3 := hcs.frozen 3
    have f4 := hcs.frozen 4
    have f5 := hcs.frozen 5
    obtain ⟨x0, x1, x2, x3, x4, x5⟩ := hcs.c6
    obtain ⟨e0, e1, e2⟩ := e
    simp only at x0 x1 x2
    have hge : ¬ (i : Int) < (N : Int) := by omega
    have HF : Hid (r = some ((e0, e1, e2), q)) := Lib.hid (by
     rw [<- HRr.out, List.drop_eq_nil_of_le (by have := HPL2.out; omega)]
     rfl)
    have HQ := Lib.hid (hq0.setL (k := 0) hcs (by simp) [.int .i64 e0, .int .i64 e1, .int .i64 e2, .bool nb', .slice A' n' c', .slice B' m' k'])
    clear hq0
    go_wp2_with fail
    have hfin := hcs.setL [.int .i64 e0, .int .i64 e1, .int .i64 e2, .bool nb', .slice A' n' c', .slice B' m' k'] rfl
    refine ret_cs_tmp Tryz.results112 Tryz.underlying59 (by kernel_rfl) rfl rfl hfin rfl ?_
    exact ⟨(e0, e1, e2), nb', A', n', c', B', m', k', by rw [HF.out]; rfl, (fun x hx => by rw [HF.out] at hx; obtain rfl := Option.some.inj hx; exact ⟨rfl, HQ.out⟩), (((((HMr.out.below.setCell (p := ⟨g, 0, none⟩) HMr.out.ge _).setCell (p := ⟨g, 1, none⟩) HMr.out.ge _).setCell (p := ⟨g, 2, none⟩) HMr.out.ge _).setCell (p := ⟨g, 3, none⟩) HMr.out.ge _).setCell (p := ⟨g, 4, none⟩) HMr.out.ge _).setCell (p := ⟨g, 5, none⟩) HMr.out.ge _⟩
end Go.Proofs.YtifeekomegoijaaGreatDoor
namespace Go.Proofs.YtifeekomegoijaaGreatDoor
open Go.RowKit Go.Shelf
attribute [local go_sem] Oper.semAt_some
def roundP (I : World -> Prop) (Ix : Code -> World -> Prop) (W : World) : Exit -> Act -> World -> Prop
 | .normal, _, W' => KeepsOthers W W' /\ I W'
 | .ret, _, W' => KeepsOthers W W' /\ Ix .ret W'
 | .exit id, _, W' => KeepsOthers W W' /\ Ix (.exit id) W'
 | .goto t, _, W' => KeepsOthers W W' /\ Ix (.goto t) W'
 | .panic _, _, _ => False
 | .outgrown, _, _ => False
def lpRec (fn : FuncId) (tmps : Array Value) (ps : Array Tmp) (assign body : Code) (D : Nat) (st : LoopState) (pe : Option Code) : Loop :=
 { state := st, pending := pe, fn := fn, tmps := tmps, params := ps, assign := assign, body := body, defers := D }
structure Kept (I : World -> Prop) (L D : Nat) (r : Loop) (W : World) : Prop where
 own : I W
 lp : W.heap[L]? = some (.loop r)
 dfr : W.heap[D]? = some (.deferred (some []))
theorem Kept.turn {β : Type} {I : β -> World -> Prop} {B : Nat} (hI : OwnFrom B I) {k : β} {L D : Nat} {r r' : Loop} {W : World} (h : Kept (I k) L D r W) (hB : B <= L) (hne : L ≠ D) : Kept (I k) L D r' (W.putObj L (.loop r')) :=
 ⟨hI.putObj _ h.own hB h.lp rfl, World.putObj_heap_same (Array.getElem?_eq_some_iff.1 h.lp).1, (World.putObj_heap_other (fun e => hne e.symm)).trans h.dfr⟩
theorem Kept.over {I I' : World -> Prop} {L D : Nat} {r : Loop} {W W' : World} (h : Kept I L D r W) (hk : KeepsOthers W W') (hI : I' W') : Kept I' L D r W' :=
 ⟨hI, hk.same _ _ h.lp rfl, hk.same _ _ h.dfr rfl⟩
structure ChC (Bs Bn h L : Nat) (W : World) : Prop where
 s : W.cell? ⟨Bs, 0, none⟩ = some (.slice (some ⟨h, 0, none⟩) L L)
 n : W.cell? ⟨Bn, 0, none⟩ = some (.int .i64 2)
abbrev chV (h L i : Nat) : Value := .slice (some ⟨h, i, none⟩) (min 2 (L - i)) (min 2 (L - i))
theorem chunkI_in (m l Bs Bn h L : Nat) (J : Nat -> World -> Prop) (Jx : World -> Prop) (hm : 1 <= m) (hL : L <= 1000000)
 (hJs : ∀ i W, J i W -> ChC Bs Bn h L W)
 (hJd : ∀ i W, J i W -> J i W.drew)
 (hY : ∀ (i : Nat) W, J i W -> i < L -> YieldAt Fence.wide (m - 1) Tryz.prog l #[chV h L i] W fun e W' =>
  (e = .returned (.bool true) /\ J (i + 2) W') \/ (e = .returned (.bool false) /\ Jx W'))
 (W : World) (h0 : J 0 W) :
 CallsIn Fence.wide m Tryz.prog 141 #[.func (.yield l) #[] #[], .pointer (some ⟨Bs, 0, none⟩), .pointer (some ⟨Bn, 0, none⟩)] W fun e W' => (∃ v, e = .returned v) /\ ((∃ i, L <= i /\ J i W') \/ Jx W') := by
 refine callsIn_of_wp Tryz.func141 rfl trivial ?_ rfl
 simp only [Tryz.ntmps141, List.size_toArray, List.length_cons, List.length_nil, Nat.reduceAdd, Nat.reduceSub, Array.replicate_succ, Array.replicate_zero, List.push_toArray, List.append_toArray, List.nil_append, List.cons_append]
 gi_wp2
 gi_loopw [4] (fun iv wr => ∃ i : Nat, iv = .int .i64 (i : Int) /\ i <= L + 1 /\ J i wr) (fun iv _ => (L + 2 - intOf iv).toNat)
 case atStart => exact ⟨0, rfl, by omega, h0⟩
 case round =>
  obtain ⟨i, rfl, hi, hj⟩ := hrel
  obtain ⟨c1, c2⟩ := hJs i wr hj
  have HJ := Lib.hid hj
  clear hj
  by_cases hlt : i < L
  ·have hlt' : (i : Int) < (L : Int) := by omega
   have hL1 : (i : Int) <= (L : Int) := by omega
   have hi0 : (0 : Int) <= (i : Int) := by omega
   obtain ⟨d1, d2⟩ := hJs i _ (hJd _ _ HJ.out)
   have hw2 : IntKind.i64.wrap ((i : Int) + 2) = (i : Int) + 2 := IntWalk.i64_in _ (by omega)
   have hw1 : IntKind.i64.wrap ((i : Int) + 1) = (i : Int) + 1 := IntWalk.i64_in _ (by omega)
   rcases (show L = i + 1 \/ ∃ d, L = i + (d + 2) by
    by_cases h : L = i + 1
    ·exact .inl h
    ·exact .inr ⟨L - i - 2, by omega⟩) with rfl | ⟨d, rfl⟩
   ·have hmn : min (2 : Int) 1 = 1 := by decide
    have hmN : min 2 (i + 1 - i) = 1 := by omega
    gi_wp2_with fail
    gi_region
    have hye := hY i _ (hJd _ _ HJ.out) hlt
    simp only [chV, hmN] at hye
    obtain ⟨fn, tmps, assign, body, hy, hR⟩ := hye
    clear c1 c2
    gi_wp2_with fail
    refine hR.mono ?_
    rintro e W3 (⟨rfl, hJ3⟩ | ⟨rfl, hJ3⟩)
    ·obtain ⟨d3, d4⟩ := hJs _ W3 hJ3
     have HJ3 := Lib.hid hJ3
     clear d1 d2 hJ3
     gi_wp2_with fail
     go_roundw
     case rel => exact ⟨i + 2, congrArg (Value.int _) (by omega), by omega, HJ3.out⟩
     case measure => simp [intOf]; omega
    ·gi_wp2
     refine bodyPost_ret (results_none rfl _ _ _) rfl ?_
     exact ⟨⟨_, rfl⟩, .inr hJ3⟩
   ·have hmn : min (2 : Int) ((d : Int) + 2) = 2 := by omega
    have hmN : min 2 (i + (d + 2) - i) = 2 := by omega
    gi_wp2_with fail
    gi_region
    have hye := hY i _ (hJd _ _ HJ.out) hlt
    simp only [chV, hmN] at hye
    obtain ⟨fn, tmps, assign, body, hy, hR⟩ := hye
    clear c1 c2
    gi_wp2_with fail
    refine hR.mono ?_
    rintro e W3 (⟨rfl, hJ3⟩ | ⟨rfl, hJ3⟩)
    ·obtain ⟨d3, d4⟩ := hJs _ W3 hJ3
     have HJ3 := Lib.hid hJ3
     clear d1 d2 hJ3
     gi_wp2_with fail
     go_roundw
     case rel => exact ⟨i + 2, congrArg (Value.int _) (by omega), by omega, HJ3.out⟩
     case measure => simp [intOf]; omega
    ·gi_wp2
     refine bodyPost_ret (results_none rfl _ _ _) rfl ?_
     exact ⟨⟨_, rfl⟩, .inr hJ3⟩
  ·have hlt' : ¬ (i : Int) < (L : Int) := by omega
   gi_wp2_with fail
   go_end0
   exact ⟨⟨_, rfl⟩, .inl ⟨i, by omega, HJ.out⟩⟩
theorem wpIn_chunk {n : Nat} {g : Operand} {ps : Array Tmp} {assign body : Code} {Q : Exit -> Act -> World -> Prop} {a : Act} {w : World}
 (h1 : 2 <= n) (Bs Bn h L : Nat) (hL : L <= 1000000)
 (hg : a.eval g = .func (.func 141) #[] #[.pointer (some ⟨Bs, 0, none⟩), .pointer (some ⟨Bn, 0, none⟩)]) (hps : ps.size = 1)
 (I : Nat -> World -> Prop) (Ix : Code -> World -> Prop)
 (hI : OwnFrom w.heap.size I) (hIx : OwnFrom w.heap.size Ix)
 (hIs : ∀ i W, I i W -> ChC Bs Bn h L W) (hId : ∀ i W, I i W -> I i W.drew) (h0 : I 0 w) (a₁ : Nat -> Act)
 (hassign : ∀ (l : Nat) (i : Nat) (W : World) (K : Act -> World -> Prop), K (a₁ i) W ->
  assign.wpIn (Fence.wide.inRound l) (n - 1 - 1) Tryz.prog (Exit.then K (fun _ _ _ => False)) { tmps := (ps.zip #[chV h L i]).foldl (fun t (p, v) => t.setIfInBounds p v) a.tmps, defers := [] } W)
 (hbody : ∀ (l : Nat) (i : Nat) (W : World), I i W -> i < L -> body.wpIn (Fence.wide.inRound l) (n - 1 - 1) Tryz.prog (roundP (I (i + 2)) Ix W) (a₁ i) W)
 (hdone : ∀ (D i : Nat) (W : World), w.heap.size <= D -> L <= i -> I i W -> W.heap[D]? = some (.deferred (some [])) -> Q .normal { a with defers := { target := .collected D, args := #[] } :: a.defers } W)
 (hstop : ∀ (D : Nat) (c : Code) (W : World), w.heap.size <= D -> Ix c W -> W.heap[D]? = some (.deferred (some [])) -> c.wpIn Fence.wide n Tryz.prog Q { a with defers := { target := .collected D, args := #[] } :: a.defers } W) :
 (Code.rangeFunc g ps assign body).wpIn Fence.wide n Tryz.prog Q a w := by
 refine wpIn_rangeFunc fun fn hfn => ?_
 have hro : Fence.wide.round = none := rfl
 rw [hro]
 obtain ⟨D, hD⟩ : ∃ D, w.heap.size = D := ⟨_, rfl⟩
 rw [hD] at hI hIx hdone hstop
 obtain ⟨rec, hrec⟩ : ∃ rec : LoopState -> Option Code -> Loop, lpRec fn a.tmps ps assign body D = rec := ⟨_, rfl⟩
 obtain ⟨W1, hW1⟩ : ∃ W1, (w.alloc (.deferred (some []))).alloc (.loop (rec .ready none)) = W1 := ⟨_, rfl⟩
 have hK1 : Kept (I 0) (D + 1) D (rec .ready none) W1 := by
  subst hW1 hD
  refine ⟨hI.alloc _ (hI.alloc _ h0), ?_, (Below.heap_alloc _ _ _ (by simp)).trans (World.alloc_heap_new w _)⟩
  have := World.alloc_heap_new (w.alloc (.deferred (some []))) (.loop (rec .ready none))
  rwa [World.size_alloc] at this
 have hpar : ∀ st pe, (rec st pe).params = ps := fun _ _ => by rw [<- hrec]; rfl
 refine ⟨D + 1, [{ target := .collected D, args := #[] }], W1, { target := .fn (.func 141) #[.pointer (some ⟨Bs, 0, none⟩), .pointer (some ⟨Bn, 0, none⟩)], args := #[.func (.yield (D + 1)) #[] #[]] }, W1, 141,
  #[.func (.yield (D + 1)) #[] #[]] ++ #[.pointer (some ⟨Bs, 0, none⟩), .pointer (some ⟨Bn, 0, none⟩)], W1, ?_, ?_, ?_, ?_, fun _ => by omega, ?_⟩
 ·rw [<- hW1, <- hrec, <- hD]; exact run_enterLoop_outer _ _ _ _ _
 ·simp only [resolve, hg]
  simp [go_sem]
 ·intro f' hf'
  trivial
 ·have eg : ∀ args w, (callFunc 141 args).run Tryz.prog w = .ok (.enter 141 args) w := enters_of Tryz.func141 (by kernel_rfl) rfl
  simp [invoke, go_sem, eg]
 have hround : ∀ (b i : Nat) (W : World) (I0 : World -> Prop), Kept I0 (D + 1) D (rec .ready none) W ->
  (∀ W, I0 W -> body.wpIn (Fence.wide.inRound (D + 1)) (n - 1 - 1) Tryz.prog (roundP (I b) Ix W) (a₁ i) W) -> Kept I0 (D + 1) D { rec .ready none with state := .busy } (W.putObj (D + 1) (.loop { rec .ready none with state := .busy })) ->
  YieldAt Fence.wide (n - 1 - 1) Tryz.prog (D + 1) #[chV h L i] W fun e W' =>
   (e = .returned (.bool true) /\ Kept (I b) (D + 1) D (rec .ready none) W') \/ (e = .returned (.bool false) /\ ∃ c, Kept (Ix c) (D + 1) D (rec .done (some c)) W') := by
  intro b i W I0 hW hb hB
  have hy := run_yield (P := Tryz.prog) (args := #[chV h L i]) hW.lp (by rw [hpar, hps]; rfl)
  rw [<- hrec] at hy
  refine ⟨fn, _, assign, body, hy, roundIn_of_wpIn hfn (hassign _ i W _ ⟨_, run_beginRound hW.lp (by rw [<- hrec]; rfl), ?_⟩)⟩
  refine wpIn_mono (hb _ hB.own) ?_
  have fin : ∀ (I' : World -> Prop) (jump : Option Code) (W3 : World), Kept I' (D + 1) D { rec .ready none with state := .busy } W3 ->
   (Instr.endRound (D + 1) jump).run Tryz.prog W3 = .ok (.bool jump.isNone) (W3.putObj (D + 1) (.loop (rec (if jump.isNone then .ready else .done) jump))) := fun I' jump W3 h3 => by
   have := run_endRound (P := Tryz.prog) jump h3.lp
   rw [<- hrec] at this ⊢
   exact this
  rintro e a3 W3 hp
  cases e with
  | normal =>
    have h3 := hB.over hp.1 hp.2
    exact ⟨_, _, fin _ none W3 h3, .inl ⟨rfl, Kept.turn hI h3 (by omega) (by omega)⟩⟩
  | ret =>
    have h3 := hB.over hp.1 hp.2
    exact ⟨_, _, fin _ (some .ret) W3 h3, .inr ⟨rfl, _, Kept.turn hIx h3 (by omega) (by omega)⟩⟩
  | exit id =>
    have h3 := hB.over hp.1 hp.2
    exact ⟨_, _, fin _ (some (.exit id)) W3 h3, .inr ⟨rfl, _, Kept.turn hIx h3 (by omega) (by omega)⟩⟩
  | goto t =>
    have h3 := hB.over hp.1 hp.2
    exact ⟨_, _, fin _ (some (.goto t)) W3 h3, .inr ⟨rfl, _, Kept.turn hIx h3 (by omega) (by omega)⟩⟩
  | panic ch => exact hp.elim
  | outgrown => exact hp.elim
 refine (chunkI_in (n - 1) (D + 1) Bs Bn h L (fun i W => Kept (I i) (D + 1) D (rec .ready none) W) (fun W => ∃ c, Kept (Ix c) (D + 1) D (rec .done (some c)) W) (by omega) hL
  (fun i W h => hIs i W h.own) (fun i W h => ⟨hId i W h.own, h.lp, h.dfr⟩) (fun i W h hi => hround (i + 2) i W (I i) h (fun W' h' => hbody _ i W' h' hi) (Kept.turn hI h (by omega) (by omega))) W1 hK1).mono ?_
 rintro e W2 ⟨⟨v, rfl⟩, (⟨i, hi, h2⟩ | ⟨c, h2⟩)⟩
 ·have hend := run_endLoop (P := Tryz.prog) h2.lp (by rw [<- hrec]; simp [lpRec])
  have h3 := Kept.turn hI (r' := { rec .ready none with state := .exhausted }) h2 (by omega) (by omega)
  refine ⟨none, _, ?_, hdone D i _ (Nat.le_refl _) hi h3.own h3.dfr⟩
  rw [<- hrec] at hend ⊢
  exact hend
 ·have hend := run_endLoop (P := Tryz.prog) h2.lp (by rw [<- hrec]; simp [lpRec])
  have h3 := Kept.turn hIx (r' := { rec .done (some c) with state := .exhausted }) h2 (by omega) (by omega)
  refine ⟨some c, _, ?_, hstop D c _ (Nat.le_refl _) h3.own h3.dfr⟩
  rw [<- hrec] at hend ⊢
  exact hend
end Go.Proofs.YtifeekomegoijaaGreatDoor
namespace Go.Proofs.YtifeekomegoijaaGreatDoor
open Go.RowKit
theorem bytesTakeR (t : ByteArray) (k : Nat) : (t.extract 0 k).data.toList = t.data.toList.take k := by
 rw [Lib.extract_eq]; simp
theorem bytesDropR (t : ByteArray) (k : Nat) : (t.extract k t.size).data.toList = t.data.toList.drop k := by
 rw [Lib.extract_eq]
 show (t.data.toList.drop k).take (t.size - k) = _
 rw [List.take_of_length_le]
 rw [List.length_drop]
 exact Nat.le_of_eq rfl
theorem hasPre (s : ByteArray) (w : World) (b : Bool) (H : Hid (Lib.hasPrefix s.data.toList [45] = b)) : Calls Tryz.prog 168 #[.string s, .string ⟨#[45]⟩] w (fun e w' => e = .returned (.bool b) /\ w' = w) := by
 obtain ⟨⟨l⟩⟩ := s
 cases l with
 | nil =>
   have hb : b = false := by rw [<- H.out]; rfl
   subst hb
   go_enter Tryz.func168, Tryz.ntmps168
   go_wp2
   go_ret
   exact ⟨rfl, rfl⟩
 | cons c t =>
   have hb : (((⟨⟨c :: t⟩⟩ : ByteArray).extract 0 1).toList == [45]) = b := by
    rw [<- H.out, Lib.toList_data, bytesTakeR]
    show ((c :: t).take 1 == [45]) = [45].isPrefixOf (c :: t)
    by_cases hc : c = 45
    ·subst hc; simp
    ·have h1 : (c == (45 : UInt8)) = false := by simpa using hc
     have h2 : ((45 : UInt8) == c) = false := by simpa using fun e : (45 : UInt8) = c => hc e.symm
     show ([c] == [45]) = ((45 : UInt8) == c && [].isPrefixOf t)
     rw [h2, Bool.false_and]
     show (c == 45 && ([] : List UInt8) == []) = false
     rw [h1, Bool.false_and]
   go_enter Tryz.func168, Tryz.ntmps168
   go_wp2
   go_ret
   exact ⟨rfl, rfl⟩
def RetCutP (s : ByteArray) (b : Bool) (w : World) (e : Ending) (w' : World) : Prop := ∃ rest : ByteArray, (b = true -> rest.data.toList = s.data.toList.drop 1) /\ e = .returned (.tuple #[.string rest, .bool b]) /\ w' = w
theorem cutPre (s : ByteArray) (w : World) (b : Bool) (H : Hid (Lib.hasPrefix s.data.toList [45] = b)) : Calls Tryz.prog 140 #[.string s, .string ⟨#[45]⟩] w (RetCutP s b w) := by
 go_enter Tryz.func140, Tryz.ntmps140
 go_wp2_with fail
 refine (hasPre s w b H).mono ?_
 rintro e w1 ⟨rfl, rfl⟩
 cases b with
 | false =>
   clear H
   go_wp2_with fail
   refine bodyPost_ret (results_tmp2 rfl _ _ _) rfl ?_
   exact ⟨s, nofun, rfl, rfl⟩
 | true =>
   have h1 : 1 <= s.size := by
    obtain ⟨⟨l⟩⟩ := s
    cases l with
    | nil => exact absurd H.out (by decide)
    | cons c t => show 1 <= (c :: t).length; simp
   have h1i : (1 : Int) <= (s.size : Int) := by omega
   clear H
   go_wp2_with fail
   refine bodyPost_ret (results_tmp2 rfl _ _ _) rfl ?_
   exact ⟨_, fun _ => bytesDropR s 1, rfl, rfl⟩
theorem prefixG (s : ByteArray) (w : World) (b : Bool) (H : Hid (Lib.hasPrefix s.data.toList [45] = b)) : Calls Tryz.prog 109 #[.string s, .string ⟨#[45]⟩] w (RetCutP s b w) := by
 go_enter Tryz.func109, Tryz.ntmps109
 go_wp2_with fail
 refine (cutPre s w b H).mono ?_
 rintro e w1 ⟨rest, hr, rfl, rfl⟩
 have HR := Lib.hid hr
 clear hr H
 go_wp2_with fail
 refine bodyPost_ret (results_tmp2 rfl _ _ _) rfl ?_
 exact ⟨rest, HR.out, rfl, rfl⟩
theorem chunkG (h L : Nat) (w : World) : Calls Tryz.prog 110 #[.slice (some ⟨h, 0, none⟩) L L, .int .i64 2] w fun e w' => e = .returned (.func (.func 141) #[] #[.pointer (some ⟨w.heap.size, 0, none⟩), .pointer (some ⟨w.heap.size + 1, 0, none⟩)]) /\
 w' = (w.alloc (.cells #[.slice (some ⟨h, 0, none⟩) L L] 96)).alloc (.cells #[.int .i64 2] 3) := by
 go_enter Tryz.func110, Tryz.ntmps110
 go_wp2
 go_ret
 exact ⟨rfl, rfl⟩
def Cells6R (w : World) (ys : List (List Value)) (l : List RawM) : Prop := ys.length = l.length /\ ∀ (i : Nat) (m : RawM), l[i]? = some m -> ∃ z0 z1 z2, ys[i]? = some (mcells m.1 z0 z1 z2) /\ RatQ w (.agg #[z0, z1, z2]) m.2
theorem Cells6R.nil (w : World) : Cells6R w [] [] := ⟨rfl, fun i m h => by simp at h⟩
theorem Cells6R.app {w : World} {ys ys' : List (List Value)} {l l' : List RawM} (h : Cells6R w ys l) (h' : Cells6R w ys' l') : Cells6R w (ys ++ ys') (l ++ l') := by
 refine ⟨by rw [List.length_append, List.length_append, h.1, h'.1], fun i m hm => ?_⟩
 rcases Nat.lt_or_ge i l.length with hi | hi
 ·rw [List.getElem?_append_left hi] at hm
  obtain ⟨z0, z1, z2, g1, g2⟩ := h.2 i m hm
  exact ⟨z0, z1, z2, by rw [List.getElem?_append_left (by rw [h.1]; exact hi)]; exact g1, g2⟩
 ·rw [List.getElem?_append_right hi] at hm
  obtain ⟨z0, z1, z2, g1, g2⟩ := h'.2 _ m hm
  exact ⟨z0, z1, z2, by rw [List.getElem?_append_right (by rw [h.1]; exact hi), h.1]; exact g1, g2⟩
theorem Cells6R.imp {w w' : World} {ys : List (List Value)} {l : List RawM} (h : Cells6R w ys l) (hR : ∀ z q, RatQ w z q -> RatQ w' z q) : Cells6R w' ys l :=
 ⟨h.1, fun i m hm => by
  obtain ⟨z0, z1, z2, g1, g2⟩ := h.2 i m hm
  exact ⟨z0, z1, z2, g1, hR _ _ g2⟩⟩
theorem Cells6R.below {w w' : World} {ys : List (List Value)} {l : List RawM} (h : Cells6R w ys l) (hb : Below w.heap.size w w') : Cells6R w' ys l := h.imp (fun _ _ hr => hr.below hb)
theorem Cells6R.mem {w : World} {ys : List (List Value)} {l : List RawM} (h : Cells6R w ys l) : ∀ y ∈ ys, y.length = 6 /\ ∀ u ∈ y, u.oneCell' = true /\ NoLimb u := by
 intro y hy
 obtain ⟨i, hi, rfl⟩ := List.getElem_of_mem hy
 have hil : i < l.length := by rw [<- h.1]; exact hi
 obtain ⟨z0, z1, z2, g1, g2⟩ := h.2 i l[i] (List.getElem?_eq_getElem hil)
 rw [List.getElem?_eq_getElem hi] at g1
 injection g1 with g1
 rw [g1]
 obtain ⟨nb, A, n, c, B, m, e, heq⟩ := g2.agg
 simp only [Value.agg.injEq, Array.mk.injEq, List.cons.injEq, and_true] at heq
 obtain ⟨rfl, rfl, rfl⟩ := heq
 refine ⟨rfl, fun u hu => ?_⟩
 simp only [List.mem_cons, List.not_mem_nil, or_false] at hu
 rcases hu with rfl | rfl | rfl | rfl | rfl | rfl
 all_goals exact ⟨rfl, fun x hx => by cases hx⟩
theorem Cells6R.len6 {w : World} {ys : List (List Value)} {l : List RawM} (h : Cells6R w ys l) : ∀ y ∈ ys, y.length = 6 := fun y hy => (h.mem y hy).1
structure OwnW (w : World) (B : Nat) (v : Value) (l : List RawM) : Prop where
 row : ∃ ys, w.ownsRow B MT 6 v l.length ys.flatten /\ Cells6R w ys l
 clear : Clear w v
theorem OwnW.nil (w : World) (B : Nat) : OwnW w B (.slice none 0 0) [] := ⟨⟨[], World.ownsRow_nil .., Cells6R.nil w⟩, clear_nil w⟩
theorem OwnW.lt {w : World} {B : Nat} {v : Value} {l : List RawM} (h : OwnW w B v l) : ∀ g, v.ownBlock = some g -> B <= g /\ g < w.heap.size := fun g hg => by
 obtain ⟨ys, hown, _⟩ := h.row
 obtain ⟨cur, e, fz, h1, _⟩ := h.clear g hg
 exact ⟨(hown.lt g hg).1, heap_lt h1⟩
theorem OwnW.more {w : World} {B B' : Nat} {v : Value} {l : List RawM} (h : OwnW w B v l) (hB : B' <= B) : OwnW w B' v l := by
 obtain ⟨ys, hown, hc⟩ := h.row
 refine ⟨⟨ys, ⟨hown.1, ?_⟩, hc⟩, h.clear⟩
 rcases hown.2 with h1 | ⟨g, cap, cur, h1, h2, h3⟩
 ·exact .inl h1
 ·exact .inr ⟨g, cap, cur, h1, Nat.le_trans hB h2, h3⟩
theorem OwnW.below {w w' : World} {B : Nat} {v : Value} {l : List RawM} (h : OwnW w B v l) (hb : Below w.heap.size w w') : OwnW w' B v l := by
 obtain ⟨ys, hown, hc⟩ := h.row
 exact ⟨⟨ys, ow_below hown hb, hc.below hb⟩, h.clear.keep fun g hg => hb.block g (h.lt g hg).2⟩
theorem OwnW.app {w : World} {B : Nat} {v : Value} {l : List RawM} (h : OwnW w B v l) {A : Option Addr} {m c : Nat} {ys : List (List Value)} {r : List RawM} (hr : RdK w 6 ys A m c) (hc : Cells6R w ys r) (hn : l.length + m <= 1000000) (hB : B <= w.heap.size) :
 ∃ v' w', Hid ((Builtin.append_ #[22, 22] 22 #[v, .slice A m c]).run Tryz.prog w = .ok v' w') /\ OwnW w' B v' (l ++ r) /\ w.grownBy w' v.ownBlock /\ (∀ z q, RatQ w z q -> RatQ w' z q) := by
 obtain ⟨ys0, hown, hc0⟩ := h.row
 obtain ⟨v', w', hrun, hown', hg⟩ := appP_run w B v l.length ys0.flatten hown A m c ys hr hc.len6 (fun y hy u hu => ((hc.mem y hy).2 u hu).1) hn hB
 have hcl := app_clear w B v l.length ys0.flatten hown h.clear A m c ys hr hc.len6 (fun y hy => (hc.mem y hy).2) hn hrun
 have hk : ∀ z q, RatQ w z q -> RatQ w' z q := fun z q hq => hq.clr h.clear hg
 refine ⟨v', w', Lib.hid hrun, ⟨⟨ys0 ++ ys, ?_, (hc0.imp hk).app (hc.imp hk)⟩, hcl⟩, hg, hk⟩
 rw [List.length_append, <- hc.1, <- hr.len, List.flatten_append]
 exact hown'
theorem OwnW.turn {w w' : World} {B : Nat} {v : Value} {l : List RawM} (h : OwnW w B v l) (hk : ∀ g, v.ownBlock = some g -> w'.heap[g]? = w.heap[g]?) (hq : ∀ z q, RatQ w z q -> RatQ w' z q) : OwnW w' B v l := by
 obtain ⟨ys, hown, hc⟩ := h.row
 refine ⟨⟨ys, ⟨hown.1, ?_⟩, hc.imp hq⟩, h.clear.keep hk⟩
 rcases hown.2 with h1 | ⟨g, cap, cur, rfl, h2, h3, h4⟩
 ·exact .inl h1
 ·exact .inr ⟨g, cap, cur, rfl, h2, (hk g rfl).trans h3, h4⟩
theorem cells6R_one {w : World} {m : RawM} {z0 z1 z2 : Value} (h : RatQ w (.agg #[z0, z1, z2]) m.2) : Cells6R w [mcells m.1 z0 z1 z2] [m] :=
 ⟨rfl, fun i x hx => by
  match i, hx with
  | 0, hx => cases hx; exact ⟨z0, z1, z2, rfl, h⟩
  | i + 1, hx => simp at hx⟩
theorem OwnW.app1 {w : World} {B : Nat} {v : Value} {l : List RawM} (h : OwnW w B v l) {g : Nat} {m : RawM} {z0 z1 z2 : Value} (hg : Cs w g (mcells m.1 z0 z1 z2) MT) (hq : RatQ w (.agg #[z0, z1, z2]) m.2) (hn : l.length + 1 <= 1000000) (hB : B <= w.heap.size) :
 ∃ v' w', Hid ((Builtin.append_ #[22, 22] 22 #[v, .slice (some ⟨g, 0, none⟩) 1 1]).run Tryz.prog w = .ok v' w') /\ OwnW w' B v' (l ++ [m]) /\ w.grownBy w' v.ownBlock /\ (∀ z q, RatQ w z q -> RatQ w' z q) :=
 h.app (rdk_one hg) (cells6R_one hq) hn hB
theorem OwnW.grown {w0 w w' : World} {B : Nat} {v : Value} {l : List RawM} (h : OwnW w B v l) (hb : Below B w0 w) (hB : B <= w.heap.size) (hg : w.grownBy w' v.ownBlock) : Below B w0 w' := hb.grown hg hB (fun j e => (h.lt j e).1)
theorem OwnW.pin {w : World} {B : Nat} {v : Value} {l : List RawM} (h : OwnW w B v l) {L : Nat} (hs : ∀ m ∈ l, Sz m.2 L) (hL : L <= 8388608) (hn : l.length <= 1000000) : PIn w v l L := by
 obtain ⟨ys, hown, hc⟩ := h.row
 obtain ⟨A, c, rfl, hr⟩ := rdk_row hown hc.len6
 refine ⟨⟨A, _, c, ys, rfl, hr, hc.1, fun i e q hi => ?_⟩, hn⟩
 obtain ⟨z0, z1, z2, g1, g2⟩ := hc.2 i (e, q) hi
 exact ⟨z0, z1, z2, g1, g2.inp (hs _ (List.mem_of_getElem? hi)) hL⟩
end Go.Proofs.YtifeekomegoijaaGreatDoor
namespace Go.Proofs.YtifeekomegoijaaGreatDoor
open Go.RowKit Go.Shelf
theorem cs_round {w w' : World} {B g : Nat} {l : List Value} {t : TypeId} {row : Option Nat} (h : Cs w g l t) (hg : w.grownBy w' row) (hr : ∀ r, row = some r -> B <= r /\ ∃ o : Obj, w.heap[r]? = some o /\ o.isCells = false) : Cs w' g l t := by
 refine (hg.block g h.lt (fun e => ?_)).trans h
 obtain ⟨_, o, ho, hc⟩ := hr g e.symm
 have h' : w.heap[g]? = some (.cells l.toArray t (0, 0)) := h
 rw [h'] at ho
 cases ho
 cases hc
theorem below_round {w0 w w' : World} {B0 B : Nat} {row : Option Nat} (h : Below B0 w0 w) (hg : w.grownBy w' row) (hB : B0 <= B) (hs : B0 <= w.heap.size) (hr : ∀ r, row = some r -> B <= r /\ ∃ o : Obj, w.heap[r]? = some o /\ o.isCells = false) : Below B0 w0 w' :=
 h.grown hg hs (fun k e => Nat.le_trans hB (hr k e).1)
theorem cs_put {W : World} {D g : Nat} {l : List Value} {t : TypeId} {d : Option (List Deferred)} (h : Cs W g l t) (hK : W.heap[D]? = some (.deferred d)) (o : Obj) : Cs (W.putObj D o) g l t := by
 refine (World.putObj_heap_other (fun e => ?_)).trans h
 have h' : W.heap[g]? = some (.cells l.toArray t (0, 0)) := h
 rw [e, hK] at h'
 cases h'
theorem num_round {w w' : World} {B : Nat} {l : List Nat} {A : Option Addr} {n c : Nat} {row : Option Nat} (h : Num w l A n c) (hg : w.grownBy w' row) (hr : ∀ r, row = some r -> B <= r /\ ∃ o : Obj, w.heap[r]? = some o /\ o.isCells = false) : Num w' l A n c :=
 ⟨h.len, h.cap, h.lim, fun hn => by
  obtain ⟨b, o, hA, hb, hc⟩ := h.cells hn
  have hk : w'.heap[b]? = w.heap[b]? := by
   refine hg.block b hb (fun e => ?_)
   obtain ⟨_, ob, ho, hcl⟩ := hr b e.symm
   have hpos : 0 < l.length := by have := h.len; omega
   have hc0 := hc 0 _ (List.getElem?_eq_getElem hpos)
   obtain ⟨ob2, h1, h2⟩ := cells_of_cell hc0
   rw [show (⟨b, o + 0, none⟩ : Addr).block = b from rfl, ho] at h1
   cases h1
   rw [hcl] at h2
   cases h2
  refine ⟨b, o, hA, Nat.lt_of_lt_of_le hb hg.size, fun k x hx => ?_⟩
  exact (World.cell?_of_block (w := w) hk).trans (hc k x hx)⟩
theorem ratq_round {w w' : World} {B : Nat} {v : Value} {q : Rat} {row : Option Nat} (h : RatQ w v q) (hg : w.grownBy w' row) (hr : ∀ r, row = some r -> B <= r /\ ∃ o : Obj, w.heap[r]? = some o /\ o.isCells = false) : RatQ w' v q := by
 obtain ⟨A, n, c, A', m, c', e, h1, h2⟩ := h
 exact ⟨A, n, c, A', m, c', e, num_round h1 hg hr, num_round h2 hg hr⟩
theorem OwnW.round {w w' : World} {B0 B : Nat} {v : Value} {l : List RawM} {row : Option Nat} (h : OwnW w B0 v l) (hg : w.grownBy w' row) (hr : ∀ r, row = some r -> B <= r /\ ∃ o : Obj, w.heap[r]? = some o /\ o.isCells = false) : OwnW w' B0 v l :=
 h.turn (fun g hv => hg.block g (h.lt g hv).2 fun e => by
  obtain ⟨_, o, ho, hc⟩ := hr g e.symm
  obtain ⟨cur, t, fz, hcur, _⟩ := h.clear g hv
  rw [hcur] at ho
  cases ho
  cases hc) (fun z q hq => ratq_round hq hg hr)
theorem OwnW.drew {w : World} {B : Nat} {v : Value} {l : List RawM} (h : OwnW w B v l) : OwnW w.drew B v l := h.turn (fun _ _ => rfl) (fun _ _ hq => hq.drew1)
theorem OwnW.set1 {w : World} {B : Nat} {v : Value} {l : List RawM} (h : OwnW w B v l) {g : Nat} {z : List Value} {t : TypeId} (hc : Cs w g z t) (hl : ∀ u ∈ z, ∀ x : Nat, u ≠ .int .u32 (x : Int)) (hne : v.ownBlock ≠ some g) (k : Nat) (u : Value) : OwnW (w.setCell ⟨g, k, none⟩ u) B v l :=
 h.turn (fun b hb => Below.heap_setCell w ⟨g, k, none⟩ u b (fun e => hne (by rw [hb]; exact congrArg some e))) (fun _ _ hq => hq.set1c hc hl u)
theorem monP_sz {s : List UInt8} {m : RawM} (h : monP s = some m) : Sz m.2 2000 := by
 unfold monP at h
 split at h
 ·rename_i q hq
  obtain ⟨e, _, rfl⟩ := Option.map_eq_some_iff.1 h
  exact parseQ_sz hq
 ·obtain ⟨e, _, rfl⟩ := Option.map_eq_some_iff.1 h
  exact sz_one' 2000 (by decide)
abbrev PT : TypeId := 22
structure MoJ (w0 : World) (B2 B3 h Bs Bn : Nat) (P : List ByteArray) (res : Option (List RawM)) (i : Nat) (v : Value) (raw : List RawM) (W : World) : Prop where
 o : w0.heap.size <= B2 /\ B2 < B3 /\ B3 < h /\ h < Bs /\ Bs < Bn
 c2 : Cs W B2 [v] PT
 c3 : Cs W B3 [.bool false] 4
 ch : Cs W h (P.map Value.string) ST
 cs : Cs W Bs [.slice (some ⟨h, 0, none⟩) P.length P.length] 96
 cn : Cs W Bn [.int .i64 2] 3
 own : OwnW W w0.heap.size v raw
 ne : v.ownBlock ≠ some B2 /\ v.ownBlock ≠ some B3 /\ v.ownBlock ≠ some h /\ v.ownBlock ≠ some Bs /\ v.ownBlock ≠ some Bn
 below : Below w0.heap.size w0 W
 res : (pairsP ((P.drop i).map (·.data.toList))).map (raw ++ ·) = res
 len : raw.length <= i
 sz : ∀ m ∈ raw, Sz m.2 2000
structure MoX (w0 : World) (B2 B3 : Nat) (res : Option (List RawM)) (W : World) : Prop where
 c2 : Cs W B2 [.slice none 0 0] PT
 c3 : Cs W B3 [.bool false] 4
 below : Below w0.heap.size w0 W
 res : res = none
variable {w0 W W' : World} {B2 B3 h Bs Bn i : Nat} {P : List ByteArray} {res : Option (List RawM)} {v : Value} {raw : List RawM}
theorem MoJ.drew (H : MoJ w0 B2 B3 h Bs Bn P res i v raw W) : MoJ w0 B2 B3 h Bs Bn P res i v raw W.drew :=
 ⟨H.o, H.c2, H.c3, H.ch, H.cs, H.cn, H.own.drew, H.ne, H.below.drew, H.res, H.len, H.sz⟩
theorem MoJ.round {B : Nat} {row : Option Nat} (H : MoJ w0 B2 B3 h Bs Bn P res i v raw W) (hB : w0.heap.size <= B) (hg : W.grownBy W' row) (hr : ∀ r, row = some r -> B <= r /\ ∃ o : Obj, W.heap[r]? = some o /\ o.isCells = false) : MoJ w0 B2 B3 h Bs Bn P res i v raw W' :=
 ⟨H.o, cs_round H.c2 hg hr, cs_round H.c3 hg hr, cs_round H.ch hg hr, cs_round H.cs hg hr, cs_round H.cn hg hr, H.own.round hg hr, H.ne, below_round H.below hg hB H.below.size hr, H.res, H.len, H.sz⟩
theorem moI_from (w0 : World) (B2 B3 h Bs Bn : Nat) (P : List ByteArray) (res : Option (List RawM)) (B : Nat) (hB : w0.heap.size <= B) : OwnFrom B (fun (i : Nat) W => ∃ v raw, MoJ w0 B2 B3 h Bs Bn P res i v raw W) := fun i W W' row h hg hr => by
 obtain ⟨v, raw, h⟩ := h
 exact ⟨v, raw, h.round hB hg hr⟩
theorem moX_from (w0 : World) (B2 B3 : Nat) (res : Option (List RawM)) (B : Nat) (hB : w0.heap.size <= B) : OwnFrom B (fun (c : Code) W => c = .ret /\ MoX w0 B2 B3 res W) := fun _ W W' row h hg hr =>
 ⟨h.1, cs_round h.2.c2 hg hr, cs_round h.2.c3 hg hr, below_round h.2.below hg hB h.2.below.size hr, h.2.res⟩
theorem MoJ.below' {w0 W W' : World} {B2 B3 h Bs Bn i : Nat} {P : List ByteArray} {res : Option (List RawM)} {v : Value} {raw : List RawM} (H : MoJ w0 B2 B3 h Bs Bn P res i v raw W) (hb : Below W.heap.size W W') : MoJ w0 B2 B3 h Bs Bn P res i v raw W' :=
 ⟨H.o, H.c2.below hb H.c2.lt, H.c3.below hb H.c3.lt, H.ch.below hb H.ch.lt, H.cs.below hb H.cs.lt, H.cn.below hb H.cn.lt, H.own.below hb, H.ne, H.below.trans (hb.mono H.below.size), H.res, H.len, H.sz⟩
theorem others_new {W W' : World} (h : Below W.heap.size W W') : KeepsOthers W W' := ⟨h.size, fun k o hk _ => (h.block k (heap_lt hk)).trans hk⟩
theorem MoJ.bad (H : MoJ w0 B2 B3 h Bs Bn P res i v raw W) (hres : res = none) : MoX w0 B2 B3 res ((W.setCell ⟨B2, 0, none⟩ (.slice none 0 0)).setCell ⟨B3, 0, none⟩ (.bool false)) :=
 ⟨(H.c2.set 0 (.slice none 0 0)).far (p := ⟨B3, 0, none⟩) (by have := H.o; intro e; have e2 : B2 = B3 := e; omega) _,
  (H.c3.far (p := ⟨B2, 0, none⟩) (by have := H.o; intro e; have e2 : B3 = B2 := e; omega) (.slice none 0 0)).set 0 (.bool false),
  (H.below.setCell (p := ⟨B2, 0, none⟩) H.o.1 _).setCell (p := ⟨B3, 0, none⟩) (by have := H.o; show w0.heap.size <= B3; omega) _, hres⟩
attribute [local go_sem] Oper.semAt_some
theorem wpListIn_appM {F : Fence} {n : Nat} {w : World} {ops : Array Oper} {rest : List Oper} {o : Oper} {a : Act} {Q : Exit -> Act -> World -> Prop} (hgd : o.guard = none) (sl x : Operand)
 (ho : o.op = .call { callee := .builtin .append, args := #[sl, x], argTypes := #[22, 22] }) (hty : o.type = 22) (v v' u : Value) (w' : World) (hs : a.eval sl = v) (hx : a.eval x = u)
 (hrun : Hid ((Builtin.append_ #[22, 22] 22 #[v, u]).run Tryz.prog w = .ok v' w')) (h : wpListIn F n Tryz.prog ops Q rest (a.put o.dst v') w') : wpListIn F n Tryz.prog ops Q (o :: rest) a w := by
 refine wpListIn_plain hgd fun K hK => ?_
 have hr := hrun.out
 unfold Oper.wpIn
 refine ⟨?_, ?_⟩
 ·simp [Oper.about, ho, resolve, Target.leads, Sem.run_pure]
 ·rw [Oper.semAt_plain F _ _ (by rw [ho]; intro c hc'; cases hc')]
  simp [execOp, ho, hty, resolve, invoke, builtin, hs, hx, hr, Result.andThen]
  exact hK _ _ h
theorem own_off {w : World} {B g : Nat} {v : Value} {l : List RawM} {z : List Value} {t : TypeId} (h : OwnW w B v l) (hc : Cs w g z t) (ht : t ≠ MT) : v.ownBlock ≠ some g := by
 obtain ⟨ys, hown, _⟩ := h.row
 rcases ow_ne hown hc (fun cur e => ht (Obj.cells.inj e).2.1) with e | e
 ·rw [e]; simp
 ·exact e
theorem cs_grown' {w w' : World} {g : Nat} {z : List Value} {t : TypeId} {row : Option Nat} (h : Cs w g z t) (hg : w.grownBy w' row) (hne : row ≠ some g) : Cs w' g z t := (hg.block g h.lt (fun e => hne e.symm)).trans h
theorem MoJ.good {w0 W W1 : World} {B2 B3 h Bs Bn i : Nat} {P : List ByteArray} {res : Option (List RawM)} {v : Value} {raw : List RawM} (H : MoJ w0 B2 B3 h Bs Bn P res i v raw W) (hb : Below W.heap.size W W1) {g : Nat} {m : RawM} {z0 z1 z2 : Value} (hg : Cs W1 g (mcells m.1 z0 z1 z2) MT) (hq : RatQ W1 (.agg #[z0, z1, z2]) m.2) (hn : i <= 100000)
 (hstep : pairsP ((P.drop i).map (·.data.toList)) = (pairsP ((P.drop (i + 2)).map (·.data.toList))).map (m :: ·)) (hsz : Sz m.2 2000) :
 ∃ v' W2, Hid ((Builtin.append_ #[22, 22] 22 #[v, .slice (some ⟨g, 0, none⟩) 1 1]).run Tryz.prog W1 = .ok v' W2) /\ (∃ A n c, v' = .slice A n c) /\ W2.frozen? ⟨B2, 0, none⟩ = false /\ W2.cell? ⟨B2, 0, none⟩ = some v /\ KeepsOthers W (W2.setCell ⟨B2, 0, none⟩ v') /\ MoJ w0 B2 B3 h Bs Bn P res (i + 2) v' (raw ++ [m]) (W2.setCell ⟨B2, 0, none⟩ v') := by
 have H1 := H.below' hb
 have hl := H.len
 obtain ⟨v', W2, hrun, hown, hgr, hk⟩ := H1.own.app1 hg hq (by omega) H1.below.size
 have d2 := cs_grown' H1.c2 hgr H1.ne.1
 have d3 := cs_grown' H1.c3 hgr H1.ne.2.1
 have dh := cs_grown' H1.ch hgr H1.ne.2.2.1
 have ds := cs_grown' H1.cs hgr H1.ne.2.2.2.1
 have dn := cs_grown' H1.cn hgr H1.ne.2.2.2.2
 have n2 := own_off hown d2 (by decide)
 have ho := H.o
 have hv : ∃ A n c, v' = .slice A n c := by
  obtain ⟨ys, h1, h2⟩ := hown.row
  obtain ⟨A, c, e, _⟩ := rdk_row h1 h2.len6
  exact ⟨A, _, c, e⟩
 have hvs : ∃ A n c, v = .slice A n c := by
  obtain ⟨ys, h1, h2⟩ := H.own.row
  obtain ⟨A, c, e, _⟩ := rdk_row h1 h2.len6
  exact ⟨A, _, c, e⟩
 refine ⟨v', W2, hrun, hv, d2.frozen 0, d2.cell rfl, ((others_new hb).trans (KeepsOthers.of_grownBy hgr ?_)).trans (KeepsOthers.setCell ..), ⟨ho, d2.set 0 v', d3.far (p := ⟨B2, 0, none⟩) (by intro e; have e2 : B3 = B2 := e; omega) _, dh.far (p := ⟨B2, 0, none⟩) (by intro e; have e2 : h = B2 := e; omega) _, ds.far (p := ⟨B2, 0, none⟩) (by intro e; have e2 : Bs = B2 := e; omega) _, dn.far (p := ⟨B2, 0, none⟩) (by intro e; have e2 : Bn = B2 := e; omega) _,
  hown.set1 d2 ?_ n2 0 v', ⟨n2, own_off hown d3 (by decide), own_off hown dh (by decide), own_off hown ds (by decide), own_off hown dn (by decide)⟩, (H1.own.grown H1.below H1.below.size hgr).setCell (p := ⟨B2, 0, none⟩) ho.1 _, ?_, ?_, ?_⟩⟩
 ·intro j o hj hjo
  obtain ⟨cur, e, fz, h1, _⟩ := H1.own.clear j hj
  rw [hjo] at h1
  cases h1
  rfl
 ·obtain ⟨A, n, c, rfl⟩ := hvs
  intro u hu x
  simp only [List.mem_cons, List.not_mem_nil, or_false] at hu
  subst hu
  simp
 ·rw [<- H.res, hstep, Option.map_map]
  refine congrArg (fun f => Option.map f _) (funext fun t => ?_)
  show raw ++ [m] ++ t = raw ++ m :: t
  rw [List.append_assoc]
  rfl
 ·simp only [List.length_append, List.length_cons, List.length_nil]; omega
 ·intro x hx
  rcases List.mem_append.1 hx with hx | hx
  ·exact H.sz x hx
  ·rw [List.mem_singleton.1 hx]; exact hsz
def RetMons (w0 : World) (r : Option (List RawM)) (e : Ending) (w' : World) : Prop := ∃ v, e = .returned (.tuple #[v, .bool r.isSome]) /\ (r = none -> v = .slice none 0 0) /\ (∀ x, r = some x -> OwnW w' w0.heap.size v x /\ x.length <= 100002 /\ ∀ m ∈ x, Sz m.2 2000) /\ Below w0.heap.size w0 w'
end Go.Proofs.YtifeekomegoijaaGreatDoor
