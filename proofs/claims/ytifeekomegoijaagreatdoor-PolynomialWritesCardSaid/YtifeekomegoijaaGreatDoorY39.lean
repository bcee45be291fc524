import Derived.Test.YtifeekomegoijaaGreatDoorY38
import Derived.Test.YtifeekomegoijaaGreatDoorY01
set_option linter.unusedVariables false
set_option linter.unusedSimpArgs false
set_option maxRecDepth 20000
set_option maxHeartbeats 4000000
namespace Go.Proofs.YtifeekomegoijaaGreatDoor
open Go.RowKit
theorem szB {l : List Mon} (h : (l.all fun m => decide (m.2.num.natAbs < 4294967296 /\ m.2.den < 4294967296)) = true) : SzL l 1 := fun m hm => by
 have := List.all_eq_true.1 h m hm
 simp only [decide_eq_true_eq] at this
 exact ⟨small_len this.1, small_len this.2⟩
theorem szQ {q : Rat} (h : q.num.natAbs < 4294967296 /\ q.den < 4294967296) : Sz q 1 := ⟨small_len h.1, small_len h.2⟩
theorem txt_sq : (fmtP pSq) = [97, 94, 50, 32, 43, 32, 50, 42, 97, 42, 98, 32, 43, 32, 98, 94, 50] := by decide +kernel
theorem txt_st : (fmtP pSt) = [54, 52, 42, 97, 94, 53, 32, 43, 32, 51, 50, 42, 97, 94, 52, 32, 43, 32, 49, 54, 42, 97, 94, 51, 32, 43, 32, 56, 42, 97, 94, 50, 32, 43, 32, 52, 42, 97, 32, 43, 32, 50] := by decide +kernel
theorem rest_pAH : restL pAH = [((1, 0, 0), 1)] := by decide +kernel
theorem awake2_any (w : World) (hT : TxF w) : Calls Tryz.prog 13 #[] w (RetV w (.bool true)) := by
 have HT := Lib.hid hT
 have sA : SzL pA 1 := szB (by decide +kernel)
 have sB : SzL pB 1 := szB (by decide +kernel)
 have sAB : SzL pAB 1 := szB (by decide +kernel)
 have sAH : SzL pAH 1 := szB (by decide +kernel)
 have sSq : SzL pSq 1 := szB (by decide +kernel)
 have sSt : SzL pSt 1 := szB (by decide +kernel)
 have q2 : qv (decide ((1 : Int) < 0) != decide ((2 : Int) < 0)) (1 : Int).natAbs (2 : Int).natAbs = mkRat 1 2 := by decide +kernel
 have E1 := Lib.hid ex_add
 have E2 := Lib.hid ex_half
 have E3 := Lib.hid ex_sq
 have E4 := Lib.hid ex_star
 clear hT
 go_enter Tryz.func13, Tryz.ntmps13
 go_wp2_with fail
 refine (Parameter_in 0 w (by decide)).mono ?_
 rintro e1 w1 ⟨v1, rfl, h1, hb1⟩
 go_wp2_with fail
 refine (Parameter_in 1 w1 (by decide)).mono ?_
 rintro e2 w2 ⟨v2, rfl, h2, hb2⟩
 have hB2 := hb1.trans (hb2.mono hb1.size)
 have hA2 := h1.below hb2
 go_wp2_with fail
 refine (Add_p v1 v2 pA pB 1 w2 (HT.out.tab.below hB2) (Pol.pi (p := pA) hA2 vp_pA sA (by decide)) (Pol.pi (p := pB) h2 vp_pB sB (by decide)) (by decide)).mono ?_
 rintro e3 w3 ⟨v3, rfl, h3, hb3⟩
 rw [E1.out] at h3
 have hB3 := hB2.trans (hb3.mono hB2.size)
 have hA3 := hA2.below hb3
 go_wp2_with fail
 refine (r_Of 1 2 _ (by decide) _ q2 (by decide) (by decide) (by decide) (by decide)).mono ?_
 rintro e4 w4 ⟨v4, rfl, h4, hb4⟩
 have hB4 := hB3.trans (hb4.mono hB3.size)
 go_wp2_with fail
 refine (Constant_p v4 (mkRat 1 2) w4 (HT.out.tab.below hB4) (h4.inp ((szQ (by decide +kernel)).mono (show 1 <= 1000000 by decide)) (by decide))).mono ?_
 rintro e5 w5 ⟨v5, rfl, h5, hb5⟩
 have hB5 := hB4.trans (hb5.mono hB4.size)
 have hb35 := hb4.trans (hb5.mono hb4.size)
 go_wp2_with fail
 refine (Add_p v1 v5 pA (listOf (constC (mkRat 1 2))) 1 w5 (HT.out.tab.below hB5) (Pol.pi (p := pA) (hA3.below hb35) vp_pA sA (by decide)) (h5.pi (vp_listOf _) (szL_const (szQ (by decide +kernel)) (by decide)) (by decide)) (by decide)).mono ?_
 rintro e6 w6 ⟨v6, rfl, h6, hb6⟩
 rw [co_const, E2.out] at h6
 have hB6 := hB5.trans (hb6.mono hB5.size)
 have hb36 := hb35.trans (hb6.mono hb35.size)
 go_wp2_with fail
 refine (Star_ok v6 pAH 1 2 (mkRat 1 2) (mkRat 1 2) 2 (-1) w6 (HT.out.tab.below hB6) (Pol.pi h6 vp_pAH sAH (by decide)) (by decide) (by decide) (Lib.hid (by decide +kernel)) (Lib.hid (by decide +kernel)) (by decide) (Lib.hid (by decide +kernel)) (Lib.hid (by decide +kernel)) (Lib.hid (by decide +kernel)) ((szQ (by decide +kernel)).mono (by decide))).mono ?_
 rintro e7 w7 ⟨v7, rfl, h7, hb7⟩
 rw [rest_pAH, E4.out] at h7
 have hB7 := hB6.trans (hb7.mono hB6.size)
 have hb37 := hb36.trans (hb7.mono hb36.size)
 have h37 := h3.below hb37
 go_wp2_with fail
 refine (Mul_p v3 v3 pAB pAB 1 1 w7 (HT.out.tab.below hB7) (Pol.pi h37 vp_pAB sAB (by decide)) (Pol.pi h37 vp_pAB sAB (by decide)) (by decide) (by decide)).mono ?_
 rintro e8 w8 ⟨v8, rfl, h8, hb8⟩
 rw [E3.out] at h8
 have hB8 := hB7.trans (hb8.mono hB7.size)
 have h78 := h7.below hb8
 go_wp2_with fail
 refine (Format_p v8 pSq 1 w8 (HT.out.below hB8) (Pol.pi h8 vp_pSq sSq (by decide)) (by decide)).mono ?_
 rintro e9 w9 ⟨rfl, hb9⟩
 rw [txt_sq]
 have hB9 := hB8.trans (hb9.mono hB8.size)
 have h79 := h78.below hb9
 go_wp2_with fail
 refine (Format_p v7 pSt 1 w9 (HT.out.below hB9) (Pol.pi h79 vp_pSt sSt (by decide)) (by decide)).mono ?_
 rintro e10 w10 ⟨rfl, hb10⟩
 rw [txt_st]
 have hB10 := hB9.trans (hb10.mono hB9.size)
 go_wp2_with fail
 go_ret
 exact ⟨rfl, hB10⟩
abbrev FldM := (Int × Int × Int) × Bool × List Nat × List Nat
structure PRaw (w : World) (A : Option Addr) (n c : Nat) (l : List FldM) : Prop where
 out : ∃ xs, RdK w 6 xs A n c /\ xs.length = l.length /\ ∀ (i : Nat) (m : FldM), l[i]? = some m -> ∃ z0 z1 z2, xs[i]? = some (mcells m.1 z0 z1 z2) /\ Fld w (.agg #[z0, z1, z2]) m.2.1 m.2.2.1 m.2.2.2
theorem PRaw.len {w : World} {A : Option Addr} {n c : Nat} {l : List FldM} (h : PRaw w A n c l) : n = l.length := by
 obtain ⟨xs, h1, h2, _⟩ := h.out
 rw [h1.len, h2]
theorem PRaw.below {w w' : World} {A : Option Addr} {n c : Nat} {l : List FldM} (h : PRaw w A n c l) (hb : Below w.heap.size w w') : PRaw w' A n c l := by
 obtain ⟨xs, h1, h2, h3⟩ := h.out
 refine ⟨xs, h1.below hb, h2, fun i m hm => ?_⟩
 obtain ⟨z0, z1, z2, a, b⟩ := h3 i m hm
 exact ⟨z0, z1, z2, a, b.below hb⟩
theorem PRaw.at6 {w : World} {A : Option Addr} {n c : Nat} {l : List FldM} (h : PRaw w A n c l) {i : Nat} {m : FldM} (hi : l[i]? = some m) :
 ∃ b o A' c' B' e', A = some ⟨b, o, none⟩ /\ b < w.heap.size /\ At6 w b (o + i * 6) (.int .i64 m.1.1) (.int .i64 m.1.2.1) (.int .i64 m.1.2.2) (.bool m.2.1) (.slice A' m.2.2.1.length c') (.slice B' m.2.2.2.length e') := by
 obtain ⟨xs, h1, h2, h3⟩ := h.out
 obtain ⟨z0, z1, z2, a, b⟩ := h3 i m hi
 obtain ⟨A', n', c', B', m', e', e, hA, hB⟩ := b.out
 injection e with e
 simp only [Array.mk.injEq, List.cons.injEq, and_true] at e
 obtain ⟨rfl, rfl, rfl⟩ := e
 obtain ⟨b0, o0, rfl, hlt, hc⟩ := h1.at6 a
 have k1 := hA.len
 have k2 := hB.len
 subst k1 k2
 exact ⟨b0, o0, A', c', B', e', rfl, hlt, hc⟩
def lgt2 (m : FldM) : Bool := decide (m.2.2.1.length <= 2) && decide (m.2.2.2.length <= 2)
def lightL (l : List FldM) : Bool := decide (l.length <= 8) && l.all lgt2
def ratL (l : List FldM) : List RawM := l.map (fun m => (m.1, fq m.2.1 m.2.2.1 m.2.2.2))
theorem lightL_len {l : List FldM} (h : lightL l = true) : l.length <= 8 := by
 unfold lightL at h
 rw [Bool.and_eq_true] at h
 exact of_decide_eq_true h.1
theorem lightL_mem {l : List FldM} (h : lightL l = true) {m : FldM} (hm : m ∈ l) : m.2.2.1.length <= 2 /\ m.2.2.2.length <= 2 := by
 unfold lightL at h
 rw [Bool.and_eq_true, List.all_eq_true] at h
 have := h.2 m hm
 unfold lgt2 at this
 rw [Bool.and_eq_true] at this
 exact ⟨of_decide_eq_true this.1, of_decide_eq_true this.2⟩
theorem sz_fq2 {w : World} {neg : Bool} {ln ld : List Nat} {A A' : Option Addr} {n c m c' : Nat} (h1 : Num w ln A n c) (h2 : Num w ld A' m c') (hl : ln.length <= 2) (hl' : ld.length <= 2) : Sz (fq neg ln ld) 2 := by
 by_cases hv : vld neg ln ld = true
 ·obtain ⟨e1, e2, e3, e4, e5⟩ := vld_true h1.lim h2.lim hv
  have hf : fq neg ln ld = qv neg (val ln) (dv ld) := by unfold fq; rw [if_pos hv]
  rw [hf]
  refine sz_qv e3 e4 (by rw [<- e1]; exact hl) ?_
  by_cases h1 : dv ld = 1
  ·rw [h1, limbs_one]; decide
  ·rw [<- dl_ne h1, <- e2]; exact hl'
 ·have hf : fq neg ln ld = 0 := by unfold fq; rw [if_neg hv]
  rw [hf]; exact sz_zero 2 (by decide)
theorem fld_in2 {w : World} {v : Value} {neg : Bool} {ln ld : List Nat} (h : Fld w v neg ln ld) (hl : ln.length <= 2) (hl' : ld.length <= 2) : Inp w v (fq neg ln ld) 2 /\ Inr w v (fq neg ln ld) /\ Sz (fq neg ln ld) 2 := by
 obtain ⟨A, n, c, A', m, c', rfl, h1, h2⟩ := h.out
 have hs := sz_fq2 (neg := neg) h1 h2 hl hl'
 have k1 := h1.len
 have k2 := h2.len
 exact ⟨⟨neg, A, n, c, A', m, c', ln, ld, rfl, h1, h2, by omega, by omega, rfl, hs⟩, ⟨neg, A, n, c, A', m, c', ln, ld, rfl, h1, h2, by omega, by omega, rfl⟩, hs⟩
theorem PRaw.pin {w : World} {A : Option Addr} {n c : Nat} {l : List FldM} (h : PRaw w A n c l) (hl : lightL l = true) : PIn w (.slice A n c) (ratL l) 2 := by
 obtain ⟨xs, h1, h2, h3⟩ := h.out
 have h8 := lightL_len hl
 refine ⟨⟨A, n, c, xs, rfl, h1, by rw [h2]; unfold ratL; rw [List.length_map], fun i e q hi => ?_⟩, by unfold ratL; rw [List.length_map]; omega⟩
 unfold ratL at hi
 rw [List.getElem?_map] at hi
 obtain ⟨m, hm, he⟩ := Option.map_eq_some_iff.1 hi
 obtain ⟨z0, z1, z2, a, b⟩ := h3 i m hm
 have hm2 := lightL_mem hl (List.mem_of_getElem? hm)
 simp only [Prod.mk.injEq] at he
 obtain ⟨rfl, rfl⟩ := he
 exact ⟨z0, z1, z2, a, (fld_in2 b hm2.1 hm2.2).1⟩
theorem PRaw.pre {w : World} {A : Option Addr} {n c : Nat} {l : List FldM} (h : PRaw w A n c l) (hl : lightL l = true) : PRe w (.slice A n c) (ratL l) := by
 obtain ⟨xs, h1, h2, h3⟩ := h.out
 have h8 := lightL_len hl
 refine ⟨⟨A, n, c, xs, rfl, h1, by rw [h2]; unfold ratL; rw [List.length_map], fun i e q hi => ?_⟩, by unfold ratL; rw [List.length_map]; omega⟩
 unfold ratL at hi
 rw [List.getElem?_map] at hi
 obtain ⟨m, hm, he⟩ := Option.map_eq_some_iff.1 hi
 obtain ⟨z0, z1, z2, a, b⟩ := h3 i m hm
 have hm2 := lightL_mem hl (List.mem_of_getElem? hm)
 simp only [Prod.mk.injEq] at he
 obtain ⟨rfl, rfl⟩ := he
 exact ⟨z0, z1, z2, a, (fld_in2 b hm2.1 hm2.2).2.1⟩
noncomputable def polL (l : List FldM) : List Mon := cleanL (ratL l)
theorem PRaw.pi {w : World} {A : Option Addr} {n c : Nat} {l : List FldM} (h : PRaw w A n c l) (hl : lightL l = true) : PI w (.slice A n c) (polL l) 2 := ⟨_, h.pin hl, rfl⟩
theorem PRaw.pir {w : World} {A : Option Addr} {n c : Nat} {l : List FldM} (h : PRaw w A n c l) (hl : lightL l = true) : PIr w (.slice A n c) (polL l) 2 := ⟨_, h.pre hl, rfl, (h.pin hl).szl⟩
theorem light2_any (A : Option Addr) (n c : Nat) (l : List FldM) (w : World) (h : PRaw w A n c l) (V : Bool) (HV : Hid (lightL l = V)) : Calls Tryz.prog 11 #[.slice A n c] w (RetV w (.bool V)) := by
 have HP := Lib.hid h
 have HN := Lib.hid h.len
 clear h
 go_enter Tryz.func11, Tryz.ntmps11
 by_cases h8 : (8 : Int) < (n : Int)
 ·have HF : Hid (false = V) := Lib.hid (by rw [<- HV.out]; symm; unfold lightL; rw [decide_eq_false (by have := HN.out; omega)]; rfl)
  go_wp2_with fail
  have hVF := HF.out
  subst hVF
  go_ret
  exact ⟨rfl, Below.refl _ _⟩
 ·go_wp2_with fail
  go_loopw [3] (fun i wr => ∃ k : Nat, k <= n /\ i = .int .i64 (k : Int) /\ Below w.heap.size w wr /\ Hid (∀ j m, j < k -> l[j]? = some m -> lgt2 m = true)) (fun i _ => (n - intOf i).toNat)
  case atStart => exact ⟨0, Nat.zero_le _, rfl, Below.refl _ _, fun j m hj => absurd hj (Nat.not_lt_zero _)⟩
  case round =>
   obtain ⟨k, hk, rfl, hb, hO⟩ := hrel
   have HB := Lib.hid hb
   have HO := Lib.hid hO
   by_cases hkn : k < n
   ·have hkl : k < l.length := by have := HN.out; omega
    obtain ⟨m, hm⟩ : ∃ m, l[k]? = some m := ⟨l[k], List.getElem?_eq_getElem hkl⟩
    obtain ⟨b, o, A', c', B', e', rfl, hbq, hat⟩ := HP.out.at6 hm
    have hlt : (k : Int) < (n : Int) := by omega
    have hw1 : IntKind.i64.wrap ((k : Int) + 1) = (k : Int) + 1 := IntWalk.i64_in _ (by omega)
    obtain ⟨x0, x1, x2, x3, x4, x5⟩ := hat.below hb hbq
    obtain ⟨L, hL⟩ : ∃ L, lgt2 m = L := ⟨_, rfl⟩
    have HLG := Lib.hid hL
    have HM := Lib.hid hm
    have HK := Lib.hid hkn
    clear hL hm hkn hkl hb hO hat hbq
    go_wp2_with fail
    refine (r_Light m.2.1 A' B' m.2.2.1.length c' m.2.2.2.length e' 2 _ L HLG).mono ?_
    rintro e1 w1 ⟨rfl, hb1⟩
    have HB1 := Lib.hid (HB.out.trans (hb1.mono HB.out.size))
    clear hb1 x0 x1 x2 x3 x4 x5
    cases L
    ·have HF : Hid (false = V) := Lib.hid (by
      rw [<- HV.out]; symm
      unfold lightL
      rw [Bool.and_eq_false_iff]
      right
      rw [Bool.eq_false_iff]
      intro hh
      have := List.all_eq_true.1 hh m (List.mem_of_getElem? HM.out)
      rw [HLG.out] at this
      cases this)
     go_wp2_with fail
     have hVF := HF.out
     subst hVF
     go_ret
     exact ⟨rfl, HB1.out⟩
    ·go_wp2_with fail
     go_roundw
     case rel =>
      refine ⟨k + 1, HK.out, congrArg (Value.int _) (by omega), HB1.out, fun j mm hj hjm => ?_⟩
      rcases Nat.lt_or_ge j k with hjk | hjk
      ·exact HO.out.out j mm hjk hjm
      ·obtain rfl : j = k := by omega
       rw [HM.out] at hjm
       obtain rfl := Option.some.inj hjm
       exact HLG.out
     case measure => simp [intOf]; have := HK.out; omega
   ·have HF : Hid (true = V) := Lib.hid (by
     rw [<- HV.out]; symm
     unfold lightL
     rw [decide_eq_true (by have := HN.out; omega), Bool.true_and]
     refine List.all_eq_true.2 (fun m hm => ?_)
     obtain ⟨j, hj⟩ := List.mem_iff_getElem?.1 hm
     have := (List.getElem?_eq_some_iff.1 hj).1
     exact HO.out.out j m (by have := HN.out; omega) hj)
    have hlt : ¬ (k : Int) < (n : Int) := by omega
    clear hb hO
    go_wp2_with fail
    have hVF := HF.out
    subst hVF
    go_ret
    exact ⟨rfl, HB.out⟩
theorem absq_abs (l : Rat) : qv false l.num.natAbs l.den = l.abs := by
 have h : mkRat l.abs.num l.abs.den = l.abs := Rat.mkRat_self _
 rw [abs_num, abs_den] at h
 rw [<- h]
 rfl
structure GP (w : World) (v : Value) (p : List Mon) : Prop where
 pi : PI w v p 2
 pir : PIr w v p 2
theorem GP.below {w w' : World} {v : Value} {p : List Mon} (h : GP w v p) (hb : Below w.heap.size w w') : GP w' v p := ⟨h.pi.below hb, h.pir.below hb⟩
theorem PRaw.gp {w : World} {A : Option Addr} {n c : Nat} {l : List FldM} (h : PRaw w A n c l) (hl : lightL l = true) : GP w (.slice A n c) (polL l) := ⟨h.pi hl, h.pir hl⟩
structure PS (w : World) (v : Value) (l : List Mon) : Prop where
 pol : Pol w v l
 vp : VP l
 sz : SzL l 5000
theorem PS.below {w w' : World} {v : Value} {l : List Mon} (h : PS w v l) (hb : Below w.heap.size w w') : PS w' v l := ⟨h.pol.below hb, h.vp, h.sz⟩
theorem Same_g (v u : Value) (l : List Mon) (w : World) (h : PS w v l) (h' : PS w u l) : Calls Tryz.prog 16 #[v, u] w (RetV w (.bool true)) := by
 have hlen := vp_length h.vp
 have := r2_Same v u l l w h.pol h'.pol (h.sz.mono (by omega)) (h'.sz.mono (by omega)) (by omega) (by omega)
 rwa [decide_eq_true rfl] at this
end Go.Proofs.YtifeekomegoijaaGreatDoor
