import Derived.Test.YtifeekomegoijaaGreatDoorY45
import Derived.Sort.CutIn
set_option linter.unusedVariables false
set_option linter.unusedSimpArgs false
set_option maxRecDepth 40000
set_option maxHeartbeats 8000000
namespace Go.Proofs.YtifeekomegoijaaGreatDoor
open Go.RowKit Go.Shelf
attribute [local go_sem] Oper.semAt_some
theorem below_put {w0 W : World} {B D : Nat} (h : Below B w0 W) (hD : B <= D) (hs : B <= W.heap.size) (o : Obj) : Below B w0 (W.putObj D o) :=
 h.grown (grownBy_putObj' _ D _) hs (fun k e => by have := Option.some.inj e; omega)
theorem run_loadVar_plain {t : TypeId} {d : TypeDesc} {w : World} {p : Addr} {x : Value} (hu : Tryz.prog.underlying t = some d) (hd : (match d with | .struct _ | .array _ _ => true | _ => false) = false) (hc : w.cell? p = some x) : (loadVar t p).run Tryz.prog w = .ok x w := by
 have hagg : (isAgg t).run Tryz.prog w = .ok false w := by
  unfold isAgg
  rw [Sem.run_bind, run_underlying hu w]
  cases d <;> simp_all
 simp [loadVar, Sem.run_bind, hagg, hc]
theorem results_cells2 {fn : Func} {p q : Tmp} {t t' : TypeId} {d d' : TypeDesc} (hres : fn.results = #[.cell p t, .cell q t']) (hu : Tryz.prog.underlying t = some d) (hd1 : (match d with | .struct _ | .array _ _ => true | _ => false) = false) (hu' : Tryz.prog.underlying t' = some d') (hd2 : (match d' with | .struct _ | .array _ _ => true | _ => false) = false)
 {tmps : Array Value} {w : World} {g g' : Addr} {x y : Value} (hp : tmps.getD p undef = .pointer (some g)) (hq : tmps.getD q undef = .pointer (some g')) (h : w.cell? g = some x) (h' : w.cell? g' = some y) : (results fn tmps).run Tryz.prog w = .ok (.tuple #[x, y]) w := by
 have hp' : tmps[p]?.getD undef = .pointer (some g) := by simpa using hp
 have hq' : tmps[q]?.getD undef = .pointer (some g') := by simpa using hq
 simp [results, hres, hp', hq', asAddr, run_loadVar_plain hu hd1 h, run_loadVar_plain hu' hd2 h']
theorem OwnW.put {W : World} {B D : Nat} {v : Value} {l : List RawM} {d : Option (List Deferred)} (h : OwnW W B v l) (hK : W.heap[D]? = some (.deferred d)) (o : Obj) : OwnW (W.putObj D o) B v l :=
 h.round (B := D) (grownBy_putObj' _ D _) (fun r e => by
  obtain rfl := Option.some.inj e
  exact ⟨Nat.le_refl _, _, hK, rfl⟩)
theorem pairsP_len : ∀ (n : Nat) (l : List (List UInt8)) (x : List RawM), l.length <= n -> pairsP l = some x -> x.length <= l.length
 | _, [], x, _, h => by
   rw [pairsP] at h
   obtain rfl := Option.some.inj h
   exact Nat.le_refl _
 | _, [_], x, _, h => by
   rw [pairsP] at h
   cases h
 | 0, _ :: _ :: _, x, hn, h => by simp at hn
 | n + 1, g :: s :: r, x, hn, h => by
   rw [pairsP] at h
   split at h
   ·cases h
   ·split at h
    ·cases h
    ·obtain ⟨t, ht, rfl⟩ := Option.map_eq_some_iff.1 h
     have := pairsP_len n r t (by simp only [List.length_cons] at hn; omega) ht
     simp only [List.length_cons]
     omega
theorem signed_eq (s : List UInt8) (b : Bool) (h : Lib.hasPrefix s [45] = b) : signed s = if b then 45 :: 32 :: s.drop 1 else 43 :: 32 :: s := by
 unfold signed Lib.trimPrefix
 rw [h]
 cases b <;> rfl
theorem monomials_any (s : ByteArray) (w : World) (hT : TxG w) (hs : s.size <= 90000) (r : Option (List RawM)) (H : Hid (monsP s.data.toList = r)) : Calls Tryz.prog 74 #[.string s] w (RetMons w r) := by
 have HT := Lib.hid hT
 have HSZ := Lib.hid hs
 obtain ⟨b, hb⟩ : ∃ b, Lib.hasPrefix s.data.toList [45] = b := ⟨_, rfl⟩
 have HB := Lib.hid hb
 obtain ⟨hb0, c2, c3⟩ := blk2 w [.slice none 0 0] [.bool false] PT 4
 have HB0 := Lib.hid hb0
 have HC2 := Lib.hid c2
 have HC3 := Lib.hid c3
 clear hT hs hb hb0 c2 c3
 refine (callsIn_wide (n := 6)).1 ?_
 refine callsIn_of_wp_marks Tryz.func74 rfl trivial ?_ rfl
 simp only [Tryz.ntmps74, List.size_toArray, List.length_cons, List.length_nil, Nat.reduceAdd, Nat.reduceSub, Array.replicate_succ, Array.replicate_zero, List.push_toArray, List.append_toArray, List.nil_append, List.cons_append]
 refine wpIn_wide.2 ?_
 go_wp2_with fail
 obtain ⟨W0, hW0⟩ : ∃ W0, (w.alloc (.cells #[.slice none 0 0] PT)).alloc (.cells #[.bool false] 4) = W0 := ⟨_, rfl⟩
 rw [hW0] at HB0 HC2 HC3 ⊢
 clear hW0
 refine (prefixG s _ b HB).mono ?_
 rintro e w1 ⟨rest, hr, rfl, rfl⟩
 have HR := Lib.hid hr
 clear hr
 go_upto_if 14 with (fail)
 have HMON : Hid (pairsP (sp 32 (if b then 45 :: 32 :: s.data.toList.drop 1 else 43 :: 32 :: s.data.toList)) = r) := Lib.hid (by rw [<- signed_eq _ b HB.out]; exact H.out)
 clear H HB
 go_cut [0] from 15 to 18 (fun s0 wx => ∃ s2 : ByteArray, s0 = .string s2 /\ wx = w1 /\ Hid (s2.data.toList = (if b then 45 :: 32 :: s.data.toList.drop 1 else 43 :: 32 :: s.data.toList)))
 case first =>
  cases b with
  | true =>
    have hz0 : rest.size <= 90000 := by
     have h1 : rest.data.toList.length = rest.size := by rw [Array.length_toList]; rfl
     have h2 : s.data.toList.length = s.size := by rw [Array.length_toList]; rfl
     rw [<- h1, HR.out rfl, List.length_drop]
     have := HSZ.out
     omega
    have hz1 : ¬ (9223372036854775807 < 2 + rest.size) := by omega
    have hz2 : ¬ (2 + rest.size > 9223372036854775807) := by omega
    have hz3 : 2 + rest.size <= 9223372036854775807 := by omega
    go_wp2_with fail
    go_meet
    case rel => exact ⟨_, rfl, rfl, Lib.hid (by
     have := HR.out (by simp)
     simp [this])⟩
  | false =>
    have hz0 := HSZ.out
    have hz1 : ¬ (9223372036854775807 < 2 + s.size) := by omega
    have hz2 : ¬ (2 + s.size > 9223372036854775807) := by omega
    have hz3 : 2 + s.size <= 9223372036854775807 := by omega
    go_wp2_with fail
    go_meet
    case rel => exact ⟨_, rfl, rfl, Lib.hid (by simp)⟩
 case rest =>
  obtain ⟨s2, rfl, rfl, hs2⟩ := hcut
  have HS2 : Hid (s2.size <= 100000) := Lib.hid (by
   have h1 : s2.data.toList.length = s2.size := by rw [Array.length_toList]; rfl
   have h2 : s.data.toList.length = s.size := by rw [Array.length_toList]; rfl
   rw [<- h1, hs2.out]
   have := HSZ.out
   split <;> simp only [List.length_cons, List.length_drop] <;> omega)
  rw [<- hs2.out] at HMON
  clear hs2 HR HSZ
  go_wp2_with fail
  refine (splitG s2 32 _ (HT.out.below HB0.out) HS2.out).mono ?_
  rintro e3 w3 ⟨P, hps, rfl, hcp, hb3⟩
  obtain ⟨h, hh⟩ : ∃ h, wc.heap.size = h := ⟨_, rfl⟩
  have HPL : Hid (P.length <= 100001) := Lib.hid (by
   have h1 := congrArg List.length hps
   rw [List.length_map] at h1
   rw [h1]
   exact Nat.le_trans (sp_len 32 _) (by rw [Array.length_toList]; exact Nat.succ_le_succ HS2.out))
  have HPB : Hid (∀ p ∈ P, p.size <= 100000) := Lib.hid (fun p hp => by
   have h1 := sp_bound 32 s2.data.toList p.data.toList (by rw [<- hps]; exact List.mem_map_of_mem hp)
   rw [Array.length_toList, Array.length_toList] at h1
   exact Nat.le_trans h1 HS2.out)
  have HP0 : Hid (0 < P.length) := Lib.hid (by
   cases P with
   | nil => exact absurd hps.symm (sp_ne _ _)
   | cons a b => simp)
  have HB3 := Lib.hid (HB0.out.trans (hb3.mono HB0.out.size))
  have HE2 := Lib.hid (HC2.out.below hb3 HC2.out.lt)
  have HE3 := Lib.hid (HC3.out.below hb3 HC3.out.lt)
  have HCP := Lib.hid hcp
  have HO : Hid (w.heap.size + 1 < h /\ h < w3.heap.size) := Lib.hid ⟨by rw [<- hh]; exact HC3.out.lt, by rw [<- hh]; exact hcp.lt⟩
  rw [hh] at HCP ⊢
  rw [<- hps] at HMON
  clear hps hcp hb3 hh HC2 HC3 HB0 HS2
  go_wp2_with fail
  refine (chunkG h P.length w3).mono ?_
  rintro e4 w4 ⟨rfl, rfl⟩
  obtain ⟨hb4, cs4, cn4⟩ := blk2 w3 [.slice (some ⟨h, 0, none⟩) P.length P.length] [.int .i64 2] 96 3
  have hI0 : MoJ w w.heap.size (w.heap.size + 1) h w3.heap.size (w3.heap.size + 1) P r 0 (.slice none 0 0) [] _ :=
   ⟨⟨Nat.le_refl _, by omega, HO.out.1, HO.out.2, by omega⟩, HE2.out.below hb4 HE2.out.lt, HE3.out.below hb4 HE3.out.lt, HCP.out.below hb4 HCP.out.lt, cs4, cn4, OwnW.nil _ _, ⟨nofun, nofun, nofun, nofun, nofun⟩, HB3.out.trans (hb4.mono HB3.out.size), by rw [List.drop_zero, HMON.out]; simp, Nat.le_refl _, nofun⟩
  have hzw := hI0.below.size
  clear hb4 cs4 cn4 HE2 HE3 HCP HB3
  obtain ⟨W2, hW2⟩ : ∃ W2, (w3.alloc (.cells #[.slice (some ⟨h, 0, none⟩) P.length P.length] 96)).alloc (.cells #[.int .i64 2] 3) = W2 := ⟨_, rfl⟩
  rw [hW2] at hI0 hzw ⊢
  clear hW2
  go_wp2_with fail
  refine (wpIn_wide (n := 6)).1 ?_
  refine wpIn_chunk (by omega) w3.heap.size (w3.heap.size + 1) h P.length (by have := HPL.out; omega) rfl rfl
   (fun (i : Nat) W => ∃ v raw, MoJ w w.heap.size (w.heap.size + 1) h w3.heap.size (w3.heap.size + 1) P r i v raw W)
   (fun (cd : Code) W => cd = .ret /\ MoX w w.heap.size (w.heap.size + 1) r W)
   (moI_from _ _ _ _ _ _ _ _ _ hzw) (moX_from _ _ _ _ _ hzw) ?spc ?drw ⟨_, _, hI0⟩ ?a1 ?assign ?body ?done ?stop
  case spc =>
   rintro i W ⟨v, raw, H⟩
   exact ⟨H.cs.cell rfl, H.cn.cell rfl⟩
  case drw =>
   rintro i W ⟨v, raw, H⟩
   exact ⟨v, raw, H.drew⟩
  case assign =>
   intro lr i W K hK
   gi_wp2
   exact hK
  case body =>
   rintro lr i W ⟨v, raw, hJ⟩ hi
   have HJ := Lib.hid hJ
   have q2 := hJ.c2.frozen 0
   have q2c := hJ.c2.cell (k := 0) rfl
   have q3 := (hJ.c3.far (p := ⟨w.heap.size, 0, none⟩) (by intro e; have e2 : w.heap.size + 1 = w.heap.size := e; omega) (.slice none 0 0)).frozen 0
   have q3c := (hJ.c3.far (p := ⟨w.heap.size, 0, none⟩) (by intro e; have e2 : w.heap.size + 1 = w.heap.size := e; omega) (.slice none 0 0)).cell (k := 0) rfl
   have HBAD : Hid (r = none -> KeepsOthers W ((W.setCell ⟨w.heap.size, 0, none⟩ (.slice none 0 0)).setCell ⟨w.heap.size + 1, 0, none⟩ (.bool false)) /\ MoX w w.heap.size (w.heap.size + 1) r ((W.setCell ⟨w.heap.size, 0, none⟩ (.slice none 0 0)).setCell ⟨w.heap.size + 1, 0, none⟩ (.bool false))) := Lib.hid fun hr => ⟨(KeepsOthers.setCell W _ _).trans (KeepsOthers.setCell _ _ _), HJ.out.bad hr⟩
   obtain ⟨vA, vn, vc, rfl⟩ : ∃ A n c, v = .slice A n c := by
    obtain ⟨ys, h1, h2⟩ := hJ.own.row
    obtain ⟨A, c, e, _⟩ := rdk_row h1 h2.len6
    exact ⟨A, _, c, e⟩
   have hch := hJ.ch
   have HIL := Lib.hid hi
   clear hJ
   rcases (show P.length = i + 1 \/ i + 2 <= P.length by omega) with hL | hL
   ·have hm : min 2 (P.length - i) = 1 := by omega
    have HN : Hid (r = none) := Lib.hid (by
     rw [<- HJ.out.res, List.drop_eq_getElem_cons hi, List.drop_eq_nil_of_le (by omega)]
     rfl)
    simp only [chV, hm]
    clear hi hch hm hL
    gi_wp2_with fail
    exact ⟨(HBAD.out HN.out).1, rfl, (HBAD.out HN.out).2⟩
   ·have hm : min 2 (P.length - i) = 2 := by omega
    simp only [chV, hm]
    obtain ⟨g, hg⟩ : ∃ g, P[i]? = some g := ⟨P[i]'(by omega), List.getElem?_eq_getElem _⟩
    obtain ⟨p, hp⟩ : ∃ p, P[i + 1]? = some p := ⟨P[i + 1]'(by omega), List.getElem?_eq_getElem _⟩
    have hcg := hch.cell (k := i) (v := .string g) (by rw [List.getElem?_map, hg]; rfl)
    have hcp := hch.cell (k := i + 1) (v := .string p) (by rw [List.getElem?_map, hp]; rfl)
    have HD : Hid (P.drop i = g :: p :: P.drop (i + 2)) := Lib.hid (by
     rw [List.drop_eq_getElem_cons (by omega), List.drop_eq_getElem_cons (by omega)]
     rw [List.getElem?_eq_getElem (by omega)] at hg hp
     rw [Option.some.inj hg, Option.some.inj hp])
    have HPZ := Lib.hid (HPB.out p (List.mem_of_getElem? hp))
    have HG := Lib.hid hg
    clear hg hp hch hm hi hL
    by_cases hne : g.data.toList ≠ [43] /\ g.data.toList ≠ [45]
    ·have HN : Hid (r = none) := Lib.hid (by
      rw [<- HJ.out.res, HD.out, List.map_cons, List.map_cons, pairsP, if_pos hne]
      rfl)
     have hn1 : (g.toList == [43]) = false := by rw [Lib.toList_data]; simpa using hne.1
     have hn2 : (g.toList == [45]) = false := by rw [Lib.toList_data]; simpa using hne.2
     clear hne
     gi_wp2_with fail
     exact ⟨(HBAD.out HN.out).1, rfl, (HBAD.out HN.out).2⟩
    ·obtain ⟨rm, hrm⟩ : ∃ rm, monP p.data.toList = rm := ⟨_, rfl⟩
     have HRM := Lib.hid hrm
     have HNO : Hid (rm = none -> r = none) := Lib.hid (fun h0 => by
      rw [<- HJ.out.res, HD.out, List.map_cons, List.map_cons, pairsP, if_neg hne, hrm, h0]
      rfl)
     have HST : Hid (∀ m : RawM, rm = some m -> pairsP ((P.drop i).map (·.data.toList)) = (pairsP ((P.drop (i + 2)).map (·.data.toList))).map ((m.1, if g.data.toList = [45] then -m.2 else m.2) :: ·)) := Lib.hid (fun m h0 => by
      rw [HD.out, List.map_cons, List.map_cons, pairsP, if_neg hne, hrm, h0])
     have hTW := HT.out.below HJ.out.below
     obtain ⟨sg, hsg⟩ : ∃ sg : Bool, g = (if sg then ⟨#[45]⟩ else ⟨#[43]⟩) := by
      by_cases h45 : g.data.toList = [45]
      ·refine ⟨true, ?_⟩
       obtain ⟨⟨x⟩⟩ := g
       have : x = [45] := h45
       subst this
       rfl
      ·have h43 : g.data.toList = [43] := Classical.not_not.1 fun h => hne ⟨h, h45⟩
       refine ⟨false, ?_⟩
       obtain ⟨⟨x⟩⟩ := g
       have : x = [43] := h43
       subst this
       rfl
     clear hrm hne
     cases sg with
     | true =>
       obtain rfl : g = ⟨#[45]⟩ := hsg
       gi_wp2_with fail
       refine ⟨trivial, (CallsIn.inRound lr (callsIn_wide.2 (monomial_any p W hTW HPZ.out rm HRM))).mono ?_⟩
       rintro e w5 ⟨z, nb, A, n, c, B, m, k, rfl, hz, hb5⟩
       obtain ⟨hb6, d6⟩ := blk1 w5 (mv z nb A n c B m k) MT
       have hb56 : Below W.heap.size W _ := hb5.trans (hb6.mono hb5.size)
       have hj6 := HJ.out.below' hb56
       have HZ := Lib.hid hz
       clear q2 q2c q3 q3c hcg hcp
       cases rm with
       | none =>
         have q2 := hj6.c2.frozen 0
         have q2c := hj6.c2.cell (k := 0) rfl
         have q3 := (hj6.c3.far (p := ⟨w.heap.size, 0, none⟩) (by intro e; have e2 : w.heap.size + 1 = w.heap.size := e; omega) (.slice none 0 0)).frozen 0
         have q3c := (hj6.c3.far (p := ⟨w.heap.size, 0, none⟩) (by intro e; have e2 : w.heap.size + 1 = w.heap.size := e; omega) (.slice none 0 0)).cell (k := 0) rfl
         have HEND := Lib.hid (And.intro (((others_new hb56).trans (KeepsOthers.setCell _ ⟨w.heap.size, 0, none⟩ (.slice none 0 0))).trans (KeepsOthers.setCell _ ⟨w.heap.size + 1, 0, none⟩ (.bool false))) (hj6.bad (HNO.out rfl)))
         clear hj6 d6 hb6 hb5 hb56 hz
         gi_wp2_with fail
         exact ⟨HEND.out.1, rfl, HEND.out.2⟩
       | some mm =>
         obtain ⟨rfl, hq5⟩ := HZ.out mm rfl
         have hq6 := hq5.below hb6
         have HJ6 := Lib.hid hj6
         have HQ6 := Lib.hid hq6
         have HD6 := Lib.hid d6
         have hcg6 := hj6.ch.cell (k := i) (v := .string ⟨#[45]⟩) (by rw [List.getElem?_map, HG.out]; rfl)
         have y := d6.c6
         obtain ⟨y0, y1, y2, y3, y4, y5⟩ := y
         have HS5 := Lib.hid hb5.size
         clear hj6 hb6 hb5 hz hq5 hq6 d6
         gi_wp2_with fail
         obtain ⟨W6, hW6⟩ : ∃ W6, w5.alloc (.cells #[.int .i64 mm.1.1, .int .i64 mm.1.2.1, .int .i64 mm.1.2.2, .bool nb, .slice A n c, .slice B m k] MT) = W6 := ⟨_, rfl⟩
         obtain ⟨g6, hg6⟩ : ∃ g6, w5.heap.size = g6 := ⟨_, rfl⟩
         have HB6 := Lib.hid hb56
         have HG6 : Hid (W.heap.size <= g6) := Lib.hid (by rw [<- hg6]; exact HS5.out)
         rw [hW6] at HJ6 HQ6 HD6 HB6 ⊢
         rw [hg6] at HD6 ⊢
         clear hW6 hg6 hb56 hcg6 y0 y1 y2 y3 y4 y5
         have hS2 := monP_sz HRM.out
         refine ⟨trivial, (CallsIn.inRound lr (callsIn_wide.2 (Neg_any _ mm.2 2000 W6 (HT.out.below HJ6.out.below).txt.tab (HQ6.out.inp hS2 (by decide)) (hS2.mono (by decide))))).mono ?_⟩
         rintro e7 w7 ⟨v7, rfl, hq7, hb7⟩
         obtain ⟨nb7, A7, n7, c7, B7, m7, k7, rfl⟩ := hq7.agg
         have d7 := HD6.out.below hb7 HD6.out.lt
         have f3 := d7.frozen 3
         have f4 := d7.frozen 4
         have f5 := d7.frozen 5
         obtain ⟨y0, y1, y2, y3, y4, y5⟩ := d7.c6
         have hq8 := hq7.setL (k := 3) d7 (by simp) [.bool nb7, .slice A7 n7 c7, .slice B7 m7 k7]
         have d8 : Cs (setL w7 g6 3 [.bool nb7, .slice A7 n7 c7, .slice B7 m7 k7]) g6 [.int .i64 mm.1.1, .int .i64 mm.1.2.1, .int .i64 mm.1.2.2, .bool nb7, .slice A7 n7 c7, .slice B7 m7 k7] MT := ((d7.set 3 (.bool nb7)).set 4 (.slice A7 n7 c7)).set 5 (.slice B7 m7 k7)
         have hb8 : Below W.heap.size W (setL w7 g6 3 [.bool nb7, .slice A7 n7 c7, .slice B7 m7 k7]) := (((HB6.out.trans (hb7.mono HB6.out.size)).setCell (p := ⟨g6, 3, none⟩) HG6.out _).setCell (p := ⟨g6, 4, none⟩) HG6.out _).setCell (p := ⟨g6, 5, none⟩) HG6.out _
         have HQ8 := Lib.hid hq8
         have HD8 := Lib.hid d8
         have HB8 := Lib.hid hb8
         clear hq8 d8 hb8 hq7 hb7 d7
         gi_upto_region 14 with (fail)
         obtain ⟨W8, hW8⟩ : ∃ W8, setL w7 g6 3 [.bool nb7, .slice A7 n7 c7, .slice B7 m7 k7] = W8 := ⟨_, rfl⟩
         have hW8' : ((w7.setCell ⟨g6, 3, none⟩ (.bool nb7)).setCell ⟨g6, 4, none⟩ (.slice A7 n7 c7)).setCell ⟨g6, 5, none⟩ (.slice B7 m7 k7) = W8 := hW8
         rw [hW8] at HQ8 HD8 HB8
         rw [hW8']
         clear hW8 hW8' f3 f4 f5 y0 y1 y2 y3 y4 y5
         obtain ⟨hb9, d9⟩ := blk1 W8 [.int .i64 mm.1.1, .int .i64 mm.1.2.1, .int .i64 mm.1.2.2, .bool nb7, .slice A7 n7 c7, .slice B7 m7 k7] MT
         have hB9 : Below W.heap.size W _ := HB8.out.trans (hb9.mono HB8.out.size)
         obtain ⟨v9, W10, hrun, ⟨vA9, vn9, vc9, rfl⟩, q7, q8, hko, hJ10⟩ := HJ.out.good hB9 (m := (mm.1, -mm.2)) d9 (HQ8.out.below hb9) (by have := HIL.out; have := HPL.out; omega) (HST.out mm rfl) (sz_neg hS2)
         have hc8 := (HJ.out.below' HB8.out).c2.cell (k := 0) rfl
         have hc9 := (HJ.out.below' hB9).c2.cell (k := 0) rfl
         have HEND := Lib.hid (And.intro hko hJ10)
         obtain ⟨y0, y1, y2, y3, y4, y5⟩ := HD8.out.c6
         clear hko hJ10 hB9 hb9 d9
         gi_wp2_with (gi_at_builtin; refine wpListIn_appM rfl (.tmp 55) (.tmp 57) rfl rfl (.slice vA vn vc) _ _ _ rfl rfl hrun ?_)
         gi_wp2_with fail
         exact ⟨HEND.out.1, _, _, HEND.out.2⟩
     | false =>
       obtain rfl : g = ⟨#[43]⟩ := hsg
       gi_wp2_with fail
       refine ⟨trivial, (CallsIn.inRound lr (callsIn_wide.2 (monomial_any p W hTW HPZ.out rm HRM))).mono ?_⟩
       rintro e w5 ⟨z, nb, A, n, c, B, m, k, rfl, hz, hb5⟩
       obtain ⟨hb6, d6⟩ := blk1 w5 (mv z nb A n c B m k) MT
       have hb56 : Below W.heap.size W _ := hb5.trans (hb6.mono hb5.size)
       have hj6 := HJ.out.below' hb56
       have HZ := Lib.hid hz
       clear q2 q2c q3 q3c hcg hcp
       cases rm with
       | none =>
         have q2 := hj6.c2.frozen 0
         have q2c := hj6.c2.cell (k := 0) rfl
         have q3 := (hj6.c3.far (p := ⟨w.heap.size, 0, none⟩) (by intro e; have e2 : w.heap.size + 1 = w.heap.size := e; omega) (.slice none 0 0)).frozen 0
         have q3c := (hj6.c3.far (p := ⟨w.heap.size, 0, none⟩) (by intro e; have e2 : w.heap.size + 1 = w.heap.size := e; omega) (.slice none 0 0)).cell (k := 0) rfl
         have HEND := Lib.hid (And.intro (((others_new hb56).trans (KeepsOthers.setCell _ ⟨w.heap.size, 0, none⟩ (.slice none 0 0))).trans (KeepsOthers.setCell _ ⟨w.heap.size + 1, 0, none⟩ (.bool false))) (hj6.bad (HNO.out rfl)))
         clear hj6 d6 hb6 hb5 hb56 hz
         gi_wp2_with fail
         exact ⟨HEND.out.1, rfl, HEND.out.2⟩
       | some mm =>
         obtain ⟨rfl, hq5⟩ := HZ.out mm rfl
         have hq6 := hq5.below hb6
         have HJ6 := Lib.hid hj6
         have HQ6 := Lib.hid hq6
         have HD6 := Lib.hid d6
         have hcg6 := hj6.ch.cell (k := i) (v := .string ⟨#[43]⟩) (by rw [List.getElem?_map, HG.out]; rfl)
         have y := d6.c6
         obtain ⟨y0, y1, y2, y3, y4, y5⟩ := y
         have HS5 := Lib.hid hb5.size
         clear hj6 hb6 hb5 hz hq5 hq6 d6
         have HB6 := Lib.hid hb56
         clear y0 y1 y2 y3 y4 y5 hb56
         gi_upto_region 14 with (fail)
         obtain ⟨W8, hW6⟩ : ∃ W6, w5.alloc (.cells #[.int .i64 mm.1.1, .int .i64 mm.1.2.1, .int .i64 mm.1.2.2, .bool nb, .slice A n c, .slice B m k] MT) = W6 := ⟨_, rfl⟩
         obtain ⟨g6, hg6⟩ : ∃ g6, w5.heap.size = g6 := ⟨_, rfl⟩
         rw [hW6] at HJ6 HQ6 HD6 HB6 ⊢
         rw [hg6] at HD6 ⊢
         clear hW6 hg6 hcg6
         have HB8 := HB6
         have HQ8 := HQ6
         have HD8 := HD6
         have hS2 := monP_sz HRM.out
         obtain ⟨hb9, d9⟩ := blk1 W8 [.int .i64 mm.1.1, .int .i64 mm.1.2.1, .int .i64 mm.1.2.2, .bool nb, .slice A n c, .slice B m k] MT
         have hB9 : Below W.heap.size W _ := HB8.out.trans (hb9.mono HB8.out.size)
         obtain ⟨v9, W10, hrun, ⟨vA9, vn9, vc9, rfl⟩, q7, q8, hko, hJ10⟩ := HJ.out.good hB9 (m := (mm.1, mm.2)) d9 (HQ8.out.below hb9) (by have := HIL.out; have := HPL.out; omega) (HST.out mm rfl) hS2
         have hc8 := (HJ.out.below' HB8.out).c2.cell (k := 0) rfl
         have hc9 := (HJ.out.below' hB9).c2.cell (k := 0) rfl
         have HEND := Lib.hid (And.intro hko hJ10)
         obtain ⟨y0, y1, y2, y3, y4, y5⟩ := HD8.out.c6
         clear hko hJ10 hB9 hb9 d9
         gi_wp2_with (gi_at_builtin; refine wpListIn_appM rfl (.tmp 55) (.tmp 57) rfl rfl (.slice vA vn vc) _ _ _ rfl rfl hrun ?_)
         gi_wp2_with fail
         exact ⟨HEND.out.1, _, _, HEND.out.2⟩
  case done =>
   rintro D i W hD hi ⟨v, raw, hJ⟩ hK
   have hres : r = some raw := by
    rw [<- hJ.res, List.drop_eq_nil_of_le hi]
    simp [pairsP]
   have hlt := hJ.below.size
   have hDB : w.heap.size <= D := by omega
   obtain ⟨vA, vn, vc, rfl⟩ : ∃ A n c, v = .slice A n c := by
    obtain ⟨ys, h1, h2⟩ := hJ.own.row
    obtain ⟨A, c, e, _⟩ := rdk_row h1 h2.len6
    exact ⟨A, _, c, e⟩
   have q2 := hJ.c2.frozen 0
   have q4 := hJ.c2.cell (k := 0) rfl
   have n0 : w.heap.size + 1 ≠ w.heap.size := by omega
   have d3 := hJ.c3.far (p := ⟨w.heap.size, 0, none⟩) n0 (.slice vA vn vc)
   have d2 := hJ.c2.set 0 (.slice vA vn vc)
   have q3 := d3.frozen 0
   have q5 := d3.cell (k := 0) rfl
   have o2 := hJ.own.set1 hJ.c2 (by simp) hJ.ne.1 0 (.slice vA vn vc)
   have o3 := o2.set1 d3 (by simp) hJ.ne.2.1 0 (.bool true)
   have e3 := d3.set 0 (.bool true)
   have e2 := d2.far (p := ⟨w.heap.size + 1, 0, none⟩) (fun e => n0 e.symm) (.bool true)
   have hb2 := (hJ.below.setCell (p := ⟨w.heap.size, 0, none⟩) (Nat.le_refl _) (.slice vA vn vc)).setCell (p := ⟨w.heap.size + 1, 0, none⟩) (by show w.heap.size <= w.heap.size + 1; omega) (.bool true)
   have m1 : D ≠ w.heap.size := fun e => by
    have h3 := hJ.c2
    unfold Cs at h3
    rw [<- e, hK] at h3
    cases h3
   have m2 : D ≠ w.heap.size + 1 := fun e => by
    have h3 := hJ.c3
    unfold Cs at h3
    rw [<- e, hK] at h3
    cases h3
   have hK2 : ((W.setCell ⟨w.heap.size, 0, none⟩ (.slice vA vn vc)).setCell ⟨w.heap.size + 1, 0, none⟩ (.bool true)).heap[D]? = some (.deferred (some [])) :=
    (Below.heap_setCell _ ⟨w.heap.size + 1, 0, none⟩ _ D m2).trans ((Below.heap_setCell _ ⟨w.heap.size, 0, none⟩ _ D m1).trans hK)
   have HE := Lib.hid (And.intro e2 (And.intro e3 (And.intro hb2 (And.intro o3 hK2))))
   have HRS := Lib.hid hres
   have HZZ := Lib.hid (And.intro hJ.len hJ.sz)
   have HLN : Hid (raw.length <= 100002) := Lib.hid (by
    have := pairsP_len _ _ raw (Nat.le_refl _) (by rw [<- hres]; exact HMON.out)
    rw [List.length_map] at this
    have := HPL.out
    omega)
   clear e2 e3 hb2 o3 hK2 o2 d2 d3 hJ hres
   gi_wp2
   go_wp2_with fail
   refine ⟨by simp, .inl ⟨_, _, rfl, run_takeDeferred HE.out.2.2.2.2, ?_⟩⟩
   refine ⟨_, results_cells2 rfl Tryz.underlying22 rfl Tryz.underlying4 rfl rfl rfl ((cs_put HE.out.1 HE.out.2.2.2.2 _).cell rfl) ((cs_put HE.out.2.1 HE.out.2.2.2.2 _).cell rfl), ?_⟩
   rw [HRS.out]
   exact ⟨_, rfl, nofun, fun x hx => by
    obtain rfl := Option.some.inj hx
    exact ⟨HE.out.2.2.2.1.put HE.out.2.2.2.2 _, HLN.out, HZZ.out.2⟩, below_put HE.out.2.2.1 (by omega) HE.out.2.2.1.size _⟩
  case stop =>
   rintro D cd W hD ⟨rfl, hR⟩ hK
   gi_wp2
   refine ⟨by simp, .inl ⟨_, _, rfl, run_takeDeferred hK, ?_⟩⟩
   refine ⟨_, results_cells2 rfl Tryz.underlying22 rfl Tryz.underlying4 rfl rfl rfl ((cs_put hR.c2 hK _).cell rfl) ((cs_put hR.c3 hK _).cell rfl), ?_⟩
   rw [hR.res]
   exact ⟨_, rfl, fun _ => rfl, nofun, below_put hR.below (by omega) hR.below.size _⟩
noncomputable def parseA (s : ByteArray) : Option (List Mon) := if 16384 < s.size then none else parseP s.data.toList
def RetParP (w0 : World) (r : Option (List Mon)) (e : Ending) (w' : World) : Prop := ∃ v, e = .returned (.tuple #[v, .bool r.isSome]) /\ (r = none -> v = .slice none 0 0) /\ (∀ x, r = some x -> Pol w' v x) /\ Below w0.heap.size w0 w'
theorem fmtP_nil : fmtP [] = [48] := by
 unfold fmtP
 first | rfl | (rw [if_pos rfl]) | simp
theorem toList_neq (a b : ByteArray) : (a.toList == b.toList) = decide (a.data.toList = b.data.toList) := by
 rw [Lib.toList_data, Lib.toList_data]
 by_cases h : a.data.toList = b.data.toList
 ·rw [decide_eq_true h, h]
  exact beq_self_eq_true _
 ·rw [decide_eq_false h]
  exact beq_eq_false_iff_ne.2 h
theorem pParse_any (s : ByteArray) (w : World) (hT : TxG w) : Calls Tryz.prog 34 #[.string s] w (RetParP w (parseA s)) := by
 obtain ⟨r, hr⟩ : ∃ r, parseA s = r := ⟨_, rfl⟩
 have HR := Lib.hid hr
 rw [hr]
 clear hr
 have HT := Lib.hid hT
 clear hT
 by_cases hz : 16384 < s.size
 ·have hz' : (16384 : Int) < (s.size : Int) := by omega
  have HN : Hid (r = none) := Lib.hid (by rw [<- HR.out]; unfold parseA; rw [if_pos hz])
  clear hz
  go_enter Tryz.func34, Tryz.ntmps34
  go_wp2_with fail
  refine bodyPost_ret (results_tmp2 rfl _ _ _) rfl ?_
  rw [HN.out]
  exact ⟨_, rfl, fun _ => rfl, nofun, Below.refl _ _⟩
 ·have hz' : ¬ (16384 : Int) < (s.size : Int) := by omega
  have HZ : Hid (s.size <= 90000) := Lib.hid (by omega)
  by_cases h0 : s.data.toList = [48]
  ·obtain rfl : s = ⟨#[48]⟩ := by
    obtain ⟨⟨x⟩⟩ := s
    have : x = [48] := h0
    subst this
    rfl
   have HN : Hid (r = some []) := Lib.hid (by rw [<- HR.out]; unfold parseA; rw [if_neg hz]; unfold parseP; rw [if_pos h0])
   clear hz h0
   go_enter Tryz.func34, Tryz.ntmps34
   go_wp2_with fail
   refine bodyPost_ret (results_tmp2 rfl _ _ _) rfl ?_
   rw [HN.out]
   exact ⟨_, rfl, nofun, fun x hx => by obtain rfl := Option.some.inj hx; exact PBy.nil _ _ _ _, Below.refl _ _⟩
  ·obtain ⟨rm, hrm⟩ : ∃ rm, monsP s.data.toList = rm := ⟨_, rfl⟩
   have HRM := Lib.hid hrm
   have hn0 : (s.toList == [48]) = false := by rw [Lib.toList_data]; simpa using h0
   have HNO : Hid (rm = none -> r = none) := Lib.hid (fun h => by
    rw [<- HR.out]; unfold parseA; rw [if_neg hz]; unfold parseP; rw [if_neg h0, hrm, h])
   have HST : Hid (∀ raw, rm = some raw -> r = if fmtP (cleanL raw) = s.data.toList then some (cleanL raw) else none) := Lib.hid (fun raw h => by
    rw [<- HR.out]; unfold parseA; rw [if_neg hz]; unfold parseP; rw [if_neg h0, hrm, h])
   have H0 := Lib.hid h0
   clear hrm h0 hz HR
   go_enter Tryz.func34, Tryz.ntmps34
   go_wp2_with fail
   refine (monomials_any s w HT.out HZ.out rm HRM).mono ?_
   rintro e1 w1 ⟨v, rfl, hv0, hv, hb1⟩
   cases rm with
   | none =>
     have hv1 := hv0 rfl
     subst hv1
     have HN := Lib.hid (HNO.out rfl)
     have HB := Lib.hid hb1
     clear hv0 hv hb1
     go_wp2_with fail
     refine bodyPost_ret (results_tmp2 rfl _ _ _) rfl ?_
     rw [HN.out]
     exact ⟨_, rfl, fun _ => rfl, nofun, HB.out⟩
   | some raw =>
     obtain ⟨hown, hlen, hsz⟩ := hv raw rfl
     have HPI := Lib.hid (hown.pin hsz (by decide) (by omega))
     have HB := Lib.hid hb1
     have hst := HST.out raw rfl
     obtain ⟨A, n, c, rfl⟩ : ∃ A n c, v = .slice A n c := by
      obtain ⟨ys, h1, h2⟩ := hown.row
      obtain ⟨A, c, e, _⟩ := rdk_row h1 h2.len6
      exact ⟨A, _, c, e⟩
     have HSTR := Lib.hid hst
     clear hv0 hv hb1 hown hsz hlen hst
     go_wp2_with fail
     refine (Format_p _ (cleanL raw) 2000 w1 (HT.out.below HB.out).txt.f ⟨raw, HPI.out, rfl⟩ (by decide)).mono ?_
     rintro e2 w2 ⟨rfl, hb2⟩
     have HB2 := Lib.hid (HB.out.trans (hb2.mono HB.out.size))
     have HPI2 := Lib.hid (HPI.out.below hb2)
     clear hb2
     obtain ⟨T, hTt⟩ : ∃ T : ByteArray, (⟨(fmtP (cleanL raw)).toArray⟩ : ByteArray) = T := ⟨_, rfl⟩
     have HTT : Hid (T.data.toList = fmtP (cleanL raw)) := Lib.hid (by rw [<- hTt])
     rw [hTt]
     clear hTt
     by_cases hf : fmtP (cleanL raw) = s.data.toList
     ·have hq : (T.toList == s.toList) = true := by rw [toList_neq, HTT.out]; simp [hf]
      have HN : Hid (r = some (cleanL raw)) := Lib.hid (by rw [HSTR.out, if_pos hf])
      have HV : Hid (vraw raw) := Lib.hid (Classical.not_not.1 fun hnv => by
       rw [cleanL_neg hnv, fmtP_nil] at hf
       exact H0.out hf.symm)
      clear hf
      go_wp2_with fail
      refine bodyPost_ret (results_tmp2 rfl _ _ _) rfl ?_
      rw [HN.out]
      exact ⟨_, rfl, nofun, fun x hx => by obtain rfl := Option.some.inj hx; exact HPI2.out.pol HV.out, HB2.out⟩
     ·have hq : (T.toList == s.toList) = false := by rw [toList_neq, HTT.out]; simp [hf]
      have HN : Hid (r = none) := Lib.hid (by rw [HSTR.out, if_neg hf])
      clear hf
      go_wp2_with fail
      refine bodyPost_ret (results_tmp2 rfl _ _ _) rfl ?_
      rw [HN.out]
      exact ⟨_, rfl, fun _ => rfl, nofun, HB2.out⟩
end Go.Proofs.YtifeekomegoijaaGreatDoor
