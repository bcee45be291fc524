/- texts -/
import Derived.Test.YtifeekomegoijaaGreatDoorQ49
import Derived.Test.YtifeekomegoijaaGreatDoorQ45
import Derived.Test.YtifeekomegoijaaGreatDoorQ46
set_option linter.unusedVariables false
set_option linter.unusedSimpArgs false
namespace Go.Proofs.YtifeekomegoijaaGreatDoor
open Go.RowKit

theorem eval_card (A1 : Option Addr) (n1 c1 : Nat) (l1 : List Int) (A2 : Option Addr) (n2 c2 : Nat) (l2 : List Int) (k1 k2 k3 : Int) (w : World) (hT : TxF w) (h1 : Ints w l1 A1 n1 c1) (r1 : ∀ x ∈ l1, -9223372036854775808 ≤ x ∧ x ≤ 9223372036854775807) (h2 : Ints w l2 A2 n2 c2) (r2 : ∀ x ∈ l2, -9223372036854775808 ≤ x ∧ x ≤ 9223372036854775807) (a1 : -9223372036854775808 ≤ k1) (b1 : k1 ≤ 9223372036854775807) (a2 : -9223372036854775808 ≤ k2) (b2 : k2 ≤ 9223372036854775807) (a3 : -9223372036854775808 ≤ k3) (b3 : k3 ≤ 9223372036854775807) :
  Calls Tryz.prog 9 #[.slice A1 n1 c1, .slice A2 n2 c2, .int .i64 k1, .int .i64 k2, .int .i64 k3] w (RetV w (.bool true)) := evaluates_law A1 A2 n1 c1 n2 c2 l1 l2 k1 k2 k3 w hT h1 h2 r1 r2 ⟨a1, b1⟩ ⟨a2, b2⟩ ⟨a3, b3⟩
end Go.Proofs.YtifeekomegoijaaGreatDoor

namespace Go.Proofs.YtifeekomegoijaaGreatDoor
open Go.RowKit

abbrev FldM := (Int × Int × Int) × Bool × List Nat × List Nat
structure PRaw (w : World) (A : Option Addr) (n c : Nat) (l : List FldM) : Prop where
 out : ∃ xs, RdK w 6 xs A n c ∧ xs.length = l.length ∧ ∀ (i : Nat) (m : FldM), l[i]? = some m → ∃ z0 z1 z2, xs[i]? = some (mcells m.1 z0 z1 z2) ∧ Fld w (.agg #[z0, z1, z2]) m.2.1 m.2.2.1 m.2.2.2
theorem PRaw.len {w : World} {A : Option Addr} {n c : Nat} {l : List FldM} (h : PRaw w A n c l) : n = l.length := by
 obtain ⟨xs, h1, h2, _⟩ := h.out
 rw [h1.len, h2]
theorem PRaw.below {w w' : World} {A : Option Addr} {n c : Nat} {l : List FldM} (h : PRaw w A n c l) (hb : Below w.heap.size w w') : PRaw w' A n c l := by
 obtain ⟨xs, h1, h2, h3⟩ := h.out
 refine ⟨xs, h1.below hb, h2, fun i m hm => ?_⟩
 obtain ⟨z0, z1, z2, a, b⟩ := h3 i m hm
 exact ⟨z0, z1, z2, a, b.below hb⟩
theorem PRaw.at6 {w : World} {A : Option Addr} {n c : Nat} {l : List FldM} (h : PRaw w A n c l) {i : Nat} {m : FldM} (hi : l[i]? = some m) :
  ∃ b o A' c' B' e', A = some ⟨b, o, none⟩ ∧ b < w.heap.size ∧ At6 w b (o + i * 6) (.int .i64 m.1.1) (.int .i64 m.1.2.1) (.int .i64 m.1.2.2) (.bool m.2.1) (.slice A' m.2.2.1.length c') (.slice B' m.2.2.2.length e') := by
 obtain ⟨xs, h1, h2, h3⟩ := h.out
 obtain ⟨z0, z1, z2, a, b⟩ := h3 i m hi
 obtain ⟨A', n', c', B', m', e', e, hA, hB⟩ := b.out
 injection e with e
 simp only [Array.mk.injEq, List.cons.injEq, and_true] at e
 obtain ⟨rfl, rfl, rfl⟩ := e
 obtain ⟨b0, o0, rfl, hlt, hc⟩ := h1.at6 a
 have k1 := hA.len
 have k2 := hB.len
 subst k1 k2
 exact ⟨b0, o0, A', c', B', e', rfl, hlt, hc⟩
def lgt2 (m : FldM) : Bool := decide (m.2.2.1.length ≤ 2) && decide (m.2.2.2.length ≤ 2)
def lightL (l : List FldM) : Bool := decide (l.length ≤ 8) && l.all lgt2
def ratL (l : List FldM) : List RawM := l.map (fun m => (m.1, fq m.2.1 m.2.2.1 m.2.2.2))
theorem lightL_len {l : List FldM} (h : lightL l = true) : l.length ≤ 8 := by
 unfold lightL at h
 rw [Bool.and_eq_true] at h
 exact of_decide_eq_true h.1
theorem lightL_mem {l : List FldM} (h : lightL l = true) {m : FldM} (hm : m ∈ l) : m.2.2.1.length ≤ 2 ∧ m.2.2.2.length ≤ 2 := by
 unfold lightL at h
 rw [Bool.and_eq_true, List.all_eq_true] at h
 have := h.2 m hm
 unfold lgt2 at this
 rw [Bool.and_eq_true] at this
 exact ⟨of_decide_eq_true this.1, of_decide_eq_true this.2⟩
theorem sz_fq2 {w : World} {neg : Bool} {ln ld : List Nat} {A A' : Option Addr} {n c m c' : Nat} (h1 : Num w ln A n c) (h2 : Num w ld A' m c') (hl : ln.length ≤ 2) (hl' : ld.length ≤ 2) : Sz (fq neg ln ld) 2 := by
 by_cases hv : vld neg ln ld = true
 ·obtain ⟨e1, e2, e3, e4, e5⟩ := vld_true h1.lim h2.lim hv
  have hf : fq neg ln ld = qv neg (val ln) (dv ld) := by unfold fq; rw [if_pos hv]
  rw [hf]
  refine sz_qv e3 e4 (by rw [← e1]; exact hl) ?_
  by_cases h1 : dv ld = 1
  ·rw [h1, limbs_one]; decide
  ·rw [← dl_ne h1, ← e2]; exact hl'
 ·have hf : fq neg ln ld = 0 := by unfold fq; rw [if_neg hv]
  rw [hf]; exact sz_zero 2 (by decide)
theorem fld_in2 {w : World} {v : Value} {neg : Bool} {ln ld : List Nat} (h : Fld w v neg ln ld) (hl : ln.length ≤ 2) (hl' : ld.length ≤ 2) : Inp w v (fq neg ln ld) 2 ∧ Inr w v (fq neg ln ld) ∧ Sz (fq neg ln ld) 2 := by
 obtain ⟨A, n, c, A', m, c', rfl, h1, h2⟩ := h.out
 have hs := sz_fq2 (neg := neg) h1 h2 hl hl'
 have k1 := h1.len
 have k2 := h2.len
 exact ⟨⟨neg, A, n, c, A', m, c', ln, ld, rfl, h1, h2, by omega, by omega, rfl, hs⟩, ⟨neg, A, n, c, A', m, c', ln, ld, rfl, h1, h2, by omega, by omega, rfl⟩, hs⟩
theorem PRaw.pin {w : World} {A : Option Addr} {n c : Nat} {l : List FldM} (h : PRaw w A n c l) (hl : lightL l = true) : PIn w (.slice A n c) (ratL l) 2 := by
 obtain ⟨xs, h1, h2, h3⟩ := h.out
 have h8 := lightL_len hl
 refine ⟨⟨A, n, c, xs, rfl, h1, by rw [h2]; unfold ratL; rw [List.length_map], fun i e q hi => ?_⟩, by unfold ratL; rw [List.length_map]; omega⟩
 unfold ratL at hi
 rw [List.getElem?_map] at hi
 obtain ⟨m, hm, he⟩ := Option.map_eq_some_iff.1 hi
 obtain ⟨z0, z1, z2, a, b⟩ := h3 i m hm
 have hm2 := lightL_mem hl (List.mem_of_getElem? hm)
 simp only [Prod.mk.injEq] at he
 obtain ⟨rfl, rfl⟩ := he
 exact ⟨z0, z1, z2, a, (fld_in2 b hm2.1 hm2.2).1⟩
theorem PRaw.pre {w : World} {A : Option Addr} {n c : Nat} {l : List FldM} (h : PRaw w A n c l) (hl : lightL l = true) : PRe w (.slice A n c) (ratL l) := by
 obtain ⟨xs, h1, h2, h3⟩ := h.out
 have h8 := lightL_len hl
 refine ⟨⟨A, n, c, xs, rfl, h1, by rw [h2]; unfold ratL; rw [List.length_map], fun i e q hi => ?_⟩, by unfold ratL; rw [List.length_map]; omega⟩
 unfold ratL at hi
 rw [List.getElem?_map] at hi
 obtain ⟨m, hm, he⟩ := Option.map_eq_some_iff.1 hi
 obtain ⟨z0, z1, z2, a, b⟩ := h3 i m hm
 have hm2 := lightL_mem hl (List.mem_of_getElem? hm)
 simp only [Prod.mk.injEq] at he
 obtain ⟨rfl, rfl⟩ := he
 exact ⟨z0, z1, z2, a, (fld_in2 b hm2.1 hm2.2).2.1⟩
noncomputable def polL (l : List FldM) : List Mon := cleanL (ratL l)
theorem PRaw.pi {w : World} {A : Option Addr} {n c : Nat} {l : List FldM} (h : PRaw w A n c l) (hl : lightL l = true) : PI w (.slice A n c) (polL l) 2 := ⟨_, h.pin hl, rfl⟩
theorem PRaw.pir {w : World} {A : Option Addr} {n c : Nat} {l : List FldM} (h : PRaw w A n c l) (hl : lightL l = true) : PIr w (.slice A n c) (polL l) 2 := ⟨_, h.pre hl, rfl, (h.pin hl).szl⟩
theorem cleanL_length (l : List RawM) : (cleanL l).length ≤ l.length := by
 by_cases h : vraw l
 ·rw [cleanL_pos h, List.length_map]; exact Nat.le_refl _
 ·rw [cleanL_neg h]; exact Nat.zero_le _
theorem polL_length (l : List FldM) : (polL l).length ≤ l.length := by
 have := cleanL_length (ratL l)
 unfold ratL at this
 rw [List.length_map] at this
 exact this
theorem vp_polL (l : List FldM) : VP (polL l) := vp_cleanL _
set_option maxRecDepth 20000 in
set_option maxHeartbeats 4000000 in
theorem light2_any (A : Option Addr) (n c : Nat) (l : List FldM) (w : World) (h : PRaw w A n c l) (V : Bool) (HV : Hid (lightL l = V)) : Calls Tryz.prog 11 #[.slice A n c] w (RetV w (.bool V)) := by
 have HP := Lib.hid h
 have HN := Lib.hid h.len
 clear h
 go_enter Tryz.func11, Tryz.ntmps11
 by_cases h8 : (8 : Int) < (n : Int)
 ·have HF : Hid (false = V) := Lib.hid (by rw [← HV.out]; symm; unfold lightL; rw [decide_eq_false (by have := HN.out; omega)]; rfl)
  go_wp2_with fail
  have hVF := HF.out
  subst hVF
  go_ret
  exact ⟨rfl, Below.refl _ _⟩
 ·go_wp2_with fail
  go_loopw [3] (fun i wr => ∃ k : Nat, k ≤ n ∧ i = .int .i64 (k : Int) ∧ Below w.heap.size w wr ∧ Hid (∀ j m, j < k → l[j]? = some m → lgt2 m = true)) (fun i _ => (n - intOf i).toNat)
  case atStart => exact ⟨0, Nat.zero_le _, rfl, Below.refl _ _, fun j m hj => absurd hj (Nat.not_lt_zero _)⟩
  case round =>
   obtain ⟨k, hk, rfl, hb, hO⟩ := hrel
   have HB := Lib.hid hb
   have HO := Lib.hid hO
   by_cases hkn : k < n
   ·have hkl : k < l.length := by have := HN.out; omega
    obtain ⟨m, hm⟩ : ∃ m, l[k]? = some m := ⟨l[k], List.getElem?_eq_getElem hkl⟩
    obtain ⟨b, o, A', c', B', e', rfl, hbq, hat⟩ := HP.out.at6 hm
    have hlt : (k : Int) < (n : Int) := by omega
    have hw1 : IntKind.i64.wrap ((k : Int) + 1) = (k : Int) + 1 := IntWalk.i64_in _ (by omega)
    obtain ⟨x0, x1, x2, x3, x4, x5⟩ := hat.below hb hbq
    obtain ⟨L, hL⟩ : ∃ L, lgt2 m = L := ⟨_, rfl⟩
    have HLG := Lib.hid hL
    have HM := Lib.hid hm
    have HK := Lib.hid hkn
    clear hL hm hkn hkl hb hO hat hbq
    go_wp2_with fail
    refine (r_Light m.2.1 A' B' m.2.2.1.length c' m.2.2.2.length e' 2 _ L HLG).mono ?_
    rintro e1 w1 ⟨rfl, hb1⟩
    have HB1 := Lib.hid (HB.out.trans (hb1.mono HB.out.size))
    clear hb1 x0 x1 x2 x3 x4 x5
    cases L
    ·have HF : Hid (false = V) := Lib.hid (by
      rw [← HV.out]; symm
      unfold lightL
      rw [Bool.and_eq_false_iff]
      right
      rw [Bool.eq_false_iff]
      intro hh
      have := List.all_eq_true.1 hh m (List.mem_of_getElem? HM.out)
      rw [HLG.out] at this
      cases this)
     go_wp2_with fail
     have hVF := HF.out
     subst hVF
     go_ret
     exact ⟨rfl, HB1.out⟩
    ·go_wp2_with fail
     go_roundw
     case rel =>
      refine ⟨k + 1, HK.out, congrArg (Value.int _) (by omega), HB1.out, fun j mm hj hjm => ?_⟩
      rcases Nat.lt_or_ge j k with hjk | hjk
      ·exact HO.out.out j mm hjk hjm
      ·obtain rfl : j = k := by omega
       rw [HM.out] at hjm
       obtain rfl := Option.some.inj hjm
       exact HLG.out
     case measure => simp [intOf]; have := HK.out; omega
   ·have HF : Hid (true = V) := Lib.hid (by
     rw [← HV.out]; symm
     unfold lightL
     rw [decide_eq_true (by have := HN.out; omega), Bool.true_and]
     refine List.all_eq_true.2 (fun m hm => ?_)
     obtain ⟨j, hj⟩ := List.mem_iff_getElem?.1 hm
     have := (List.getElem?_eq_some_iff.1 hj).1
     exact HO.out.out j m (by have := HN.out; omega) hj)
    have hlt : ¬ (k : Int) < (n : Int) := by omega
    clear hb hO
    go_wp2_with fail
    have hVF := HF.out
    subst hVF
    go_ret
    exact ⟨rfl, HB.out⟩
end Go.Proofs.YtifeekomegoijaaGreatDoor

namespace Go.Proofs.YtifeekomegoijaaGreatDoor
open Go.RowKit

set_option maxRecDepth 40000 in
set_option maxHeartbeats 8000000 in
theorem stars_law (A : Option Addr) (n c : Nat) (l : List FldM) (w : World) (hT : TxF w) (h : PRaw w A n c l) :
  Calls Tryz.prog 5 #[.slice A n c] w (RetV w (.bool true)) := by
 have HT := Lib.hid hT
 have HP := Lib.hid h
 have HN := Lib.hid h.len
 obtain ⟨V, hV⟩ : ∃ V, lightL l = V := ⟨_, rfl⟩
 have HV := Lib.hid hV
 clear hT h hV
 go_enter Tryz.func5, Tryz.ntmps5
 go_wp2_with fail
 refine (light2_any A n c l w HP.out V HV).mono ?_
 rintro e1 w1 ⟨rfl, hb1⟩
 have HB1 := Lib.hid hb1
 clear hb1
 cases V
 ·go_wp2_with fail
  refine (awake2_any w1 (HT.out.below HB1.out)).mono ?_
  rintro e2 w2 ⟨rfl, hb2⟩
  have HB2 := Lib.hid (HB1.out.trans (hb2.mono HB1.out.size))
  clear hb2
  go_wp2_with fail
  go_ret
  exact ⟨rfl, HB2.out⟩
 by_cases h4 : (4 : Int) < (n : Int)
 ·go_wp2_with fail
  refine (awake2_any w1 (HT.out.below HB1.out)).mono ?_
  rintro e2 w2 ⟨rfl, hb2⟩
  have HB2 := Lib.hid (HB1.out.trans (hb2.mono HB1.out.size))
  clear hb2
  go_wp2_with fail
  go_ret
  exact ⟨rfl, HB2.out⟩
 have HPI := Lib.hid ((HP.out.below HB1.out).pi HV.out)
 have HPR := Lib.hid ((HP.out.below HB1.out).pir HV.out)
 have HLEN : Hid ((polL l).length ≤ 4) := Lib.hid (Nat.le_trans (polL_length l) (by have := HN.out; omega))
 have HVP := Lib.hid (vp_polL l)
 obtain ⟨p, hp⟩ : ∃ p, polL l = p := ⟨_, rfl⟩
 rw [hp] at HPI HPR HLEN HVP
 have HSZ := Lib.hid HPR.out.szl
 clear hp HP
 by_cases hlt : (lowL p).abs < 1
 ·have hne : lowL p ≠ 1 := fun h => by rw [h] at hlt; exact absurd hlt (by decide)
  have hne2 := abs_lt_ne hlt
  have hs1 : Sz (1 - lowL p) 5 := sz_sub (sz_one' 1 (Nat.le_refl _)) (sz_low HVP.out HSZ.out) (by omega)
  have hs2 : Sz (1 / (1 - lowL p)) 6 := sz_div (sz_one' 1 (Nat.le_refl _)) hs1 hne2 (by omega)
  have HST := Lib.hid (Star_ok (.slice A n c) p 2 6 _ _ _ _ w1 (HT.out.tab.below HB1.out) HPI.out (by omega) (by omega) (Lib.hid (absq_abs (lowL p))) (Lib.hid rfl) (cmp_neg.2 hlt) (Lib.hid rfl) (Lib.hid hne2) (Lib.hid rfl) hs2)
  have HRF := Lib.hid (fun W h => r2_Star_ok (.slice A n c) p W h HLEN.out (Lib.hid (decide_eq_true hlt)))
  have HSS := Lib.hid (szL_star HVP.out HSZ.out hs2 (by omega))
  have hvS := vp_listOf (starC (restL p) (1 / (1 - lowL p)))
  rw [← star_sumPow HVP.out hne] at HRF
  obtain ⟨S, hS⟩ : ∃ S, listOf (starC (restL p) (1 / (1 - lowL p))) = S := ⟨_, rfl⟩
  rw [hS] at HST HSS hvS HRF
  have HVS := Lib.hid hvS
  clear hne hne2 hs1 hs2 hS hvS hlt
  go_wp2_with fail
  refine HST.out.mono ?_
  rintro e2 w2 ⟨v2, rfl, hp2, hb2⟩
  have HB2 := Lib.hid (HB1.out.trans (hb2.mono HB1.out.size))
  have HPR2 := Lib.hid (HPR.out.below hb2)
  have HS2 := Lib.hid hp2
  clear hb2 hp2 HST
  go_wp2_with fail
  refine (HRF.out w2 HPR2.out).mono ?_
  rintro e3 w3 ⟨v3, rfl, hp3, hb3⟩
  have HB3 := Lib.hid (HB2.out.trans (hb3.mono HB2.out.size))
  have HS3 := Lib.hid (HS2.out.below hb3)
  have HR3 := Lib.hid hp3
  clear hb3 hp3 HRF
  go_wp2_with fail
  refine (awake2_any w3 (HT.out.below HB3.out)).mono ?_
  rintro e4 w4 ⟨rfl, hb4⟩
  have HB4 := Lib.hid (HB3.out.trans (hb4.mono HB3.out.size))
  have HS4 := Lib.hid (HS3.out.below hb4)
  have HR4 := Lib.hid (HR3.out.below hb4)
  clear hb4
  go_wp2_with fail
  refine (r2_Same v2 v3 S S w4 HS4.out HR4.out (HSS.out.mono (by omega)) (HSS.out.mono (by omega)) (by have := vp_length HVS.out; omega) (by have := vp_length HVS.out; omega)).mono ?_
  rw [decide_eq_true rfl]
  rintro e5 w5 ⟨rfl, hb5⟩
  have HB5 := Lib.hid (HB4.out.trans (hb5.mono HB4.out.size))
  clear hb5
  go_wp2_with fail
  go_ret
  exact ⟨rfl, HB5.out⟩
 ·have hcmp : 0 ≤ cmpQ (lowL p).abs 1 := Int.not_lt.1 (fun h => hlt (cmp_neg.1 h))
  have HST := Lib.hid (Star_err (.slice A n c) p 2 _ _ w1 (HT.out.tab.below HB1.out) HPI.out (by omega) (Lib.hid (absq_abs (lowL p))) (Lib.hid rfl) hcmp)
  have HRF := Lib.hid (fun W h => r2_Star_err (.slice A n c) p W h (Lib.hid (decide_eq_false hlt)))
  clear hcmp hlt
  go_wp2_with fail
  refine HST.out.mono ?_
  rintro e2 w2 ⟨v2, rfl, hp2, hb2⟩
  have HB2 := Lib.hid (HB1.out.trans (hb2.mono HB1.out.size))
  have HPR2 := Lib.hid (HPR.out.below hb2)
  have HS2 := Lib.hid hp2
  clear hb2 hp2 HST
  go_wp2_with fail
  refine (HRF.out w2 HPR2.out).mono ?_
  rintro e3 w3 ⟨v3, rfl, hp3, hb3⟩
  have HB3 := Lib.hid (HB2.out.trans (hb3.mono HB2.out.size))
  have HS3 := Lib.hid (HS2.out.below hb3)
  have HR3 := Lib.hid hp3
  clear hb3 hp3 HRF
  go_wp2_with fail
  refine (awake2_any w3 (HT.out.below HB3.out)).mono ?_
  rintro e4 w4 ⟨rfl, hb4⟩
  have HB4 := Lib.hid (HB3.out.trans (hb4.mono HB3.out.size))
  have HS4 := Lib.hid (HS3.out.below hb4)
  have HR4 := Lib.hid (HR3.out.below hb4)
  clear hb4
  go_wp2_with fail
  refine (r2_Same v2 v3 [] [] w4 HS4.out HR4.out (fun m hm => by cases hm) (fun m hm => by cases hm) (by simp) (by simp)).mono ?_
  rw [decide_eq_true rfl]
  rintro e5 w5 ⟨rfl, hb5⟩
  have HB5 := Lib.hid (HB4.out.trans (hb5.mono HB4.out.size))
  clear hb5
  go_wp2_with fail
  go_ret
  exact ⟨rfl, HB5.out⟩
end Go.Proofs.YtifeekomegoijaaGreatDoor
