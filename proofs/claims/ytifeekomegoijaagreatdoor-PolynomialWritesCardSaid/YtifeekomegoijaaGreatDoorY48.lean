import Derived.Test.YtifeekomegoijaaGreatDoorY46
import Derived.Test.YtifeekomegoijaaGreatDoorY47
set_option linter.unusedVariables false
set_option linter.unusedSimpArgs false
set_option maxRecDepth 40000
set_option maxHeartbeats 8000000
namespace Go.Proofs.YtifeekomegoijaaGreatDoor
open Go.RowKit
abbrev z6 : List Value := [.int .i64 0, .int .i64 0, .int .i64 0, .bool false, .slice none 0 0, .slice none 0 0]
structure PMS (w0 W : World) (g2 g4 : Nat) (e : EI) (q : Rat) : Prop where
 pm : PMM w0 W g4 e q
 rs : Cs W g2 z6 MT
 ne : w0.heap.size <= g2 /\ g2 < g4
theorem PMS.keep {w0 W W' : World} {g2 g4 : Nat} {e : EI} {q : Rat} (h : PMS w0 W g2 g4 e q) (hb : Below W.heap.size W W') : PMS w0 W' g2 g4 e q := ⟨h.pm.keep hb, h.rs.below hb h.rs.lt, h.ne⟩
theorem PMS.set {w0 W : World} {g2 g4 : Nat} {e : EI} {q : Rat} (h : PMS w0 W g2 g4 e q) {j : Nat} (hj : j < 3) (v : Int) : PMS w0 (W.setCell ⟨g4, j, none⟩ (.int .i64 v)) g2 g4 (setE e j v) q :=
 ⟨h.pm.set hj v, h.rs.far (p := ⟨g4, j, none⟩) (by have := h.ne; intro e; have e2 : g2 = g4 := e; omega) _, h.ne⟩
theorem PMS.coef {w0 W : World} {g2 g4 : Nat} {e : EI} {q q' : Rat} (h : PMS w0 W g2 g4 e q) {nb : Bool} {A B : Option Addr} {n c m k : Nat} (h2 : RatQ W (.agg #[.bool nb, .slice A n c, .slice B m k]) q') : PMS w0 (((W.setCell ⟨g4, 3, none⟩ (.bool nb)).setCell ⟨g4, 4, none⟩ (.slice A n c)).setCell ⟨g4, 5, none⟩ (.slice B m k)) g2 g4 e q' := by
 obtain ⟨nb', A', n', c', B', m', k', hcs, _⟩ := h.pm.cur
 exact ⟨pmm_coef hcs h2 (by simp) h.pm.ge h.pm.below, Cs.farL (g' := g4) (by have := h.ne; omega) [.bool nb, .slice A n c, .slice B m k] 3 h.rs, h.ne⟩
def strL : Value -> Nat
 | .string t => t.size
 | _ => 0
def rawO (r : Option (Ex × Rat)) : Option RawM := r.map fun m => rawOf m
theorem refM_eq (s : ByteArray) : refM s.data.toList = if s.data.toList.headD 0 = 45 then (refF true (0, 0, 0) 1 (s.data.toList.drop 1)).map (fun m => (m.1, -m.2)) else refF true (0, 0, 0) 1 s.data.toList := by
 cases s.data.toList with
 | nil => rfl
 | cons c t =>
   show (if c = 45 then _ else _) = if c = 45 then _ else _
   rfl
theorem par_facts {p : ByteArray} {j k : Nat} (h : isPar p.data.toList = some (j, k)) : ∃ h0 : 0 < p.size, IntKind.u8.wrap ((p[0].toNat : Int) - 97) = (j : Int) /\ j < 3 /\ ((p.size = 1 /\ k = 1) \/ ∃ h2 : 2 < p.size, p.size = 3 /\ IntKind.u8.wrap ((p[2].toNat : Int) - 48) = (k : Int) /\ 2 <= k /\ k <= 5) := by
 obtain ⟨⟨l⟩⟩ := p
 match l, h with
 | [c], h =>
   have h' : (if 97 <= c.toNat /\ c.toNat < 100 then some (c.toNat - 97, 1) else none) = some (j, k) := h
   split at h'
   ·rename_i hc
    have e := Option.some.inj h'
    simp only [Prod.mk.injEq] at e
    refine ⟨by show 0 < [c].length; simp, ?_, by omega, .inl ⟨rfl, e.2.symm⟩⟩
    show IntKind.u8.wrap ((c.toNat : Int) - 97) = (j : Int)
    rw [IntWalk.u8_in _ (by omega)]
    omega
   ·cases h'
 | [c, x, d], h =>
   have h' : (if (97 <= c.toNat /\ c.toNat < 100) /\ x = 94 /\ 50 <= d.toNat /\ d.toNat <= 53 then some (c.toNat - 97, d.toNat - 48) else none) = some (j, k) := h
   split at h'
   ·rename_i hc
    have e := Option.some.inj h'
    simp only [Prod.mk.injEq] at e
    refine ⟨by show 0 < [c, x, d].length; simp, ?_, by omega, .inr ⟨by show 2 < [c, x, d].length; simp, rfl, ?_, by omega, by omega⟩⟩
    ·show IntKind.u8.wrap ((c.toNat : Int) - 97) = (j : Int)
     rw [IntWalk.u8_in _ (by omega)]
     omega
    ·show IntKind.u8.wrap ((d.toNat : Int) - 48) = (k : Int)
     rw [IntWalk.u8_in _ (by omega)]
     omega
   ·cases h'
 | [], h => exact nomatch (show (none : Option (Nat × Nat)) = some (j, k) from h)
 | [_, _], h => exact nomatch (show (none : Option (Nat × Nat)) = some (j, k) from h)
 | _ :: _ :: _ :: _ :: _, h => exact nomatch (show (none : Option (Nat × Nat)) = some (j, k) from h)
theorem r2_parse (s : ByteArray) (w : World) (hs : s.size <= 90000) (r : Option (Ex × Rat)) (H : Hid (refM s.data.toList = r)) : Calls Tryz.prog 115 #[.string s] w (RetMonP w (rawO r)) := by
 have HSZ := Lib.hid hs
 clear hs
 obtain ⟨hb0, c0⟩ := blk1 w z6 MT
 have HB0 := Lib.hid hb0
 have HC0 := Lib.hid c0
 clear hb0 c0
 go_enter Tryz.func115, Tryz.ntmps115
 go_wp2_with fail
 refine (r_Of 1 1 _ (by decide) 1 (by decide) (by decide) (by decide) (by decide) (by decide)).mono ?_
 rintro e1 w1 ⟨v1, rfl, hq1, hb1⟩
 obtain ⟨nb, A, n, c, B, m, k, rfl⟩ := hq1.agg
 have HC1 := Lib.hid (HC0.out.below hb1 HC0.out.lt)
 have HB1 := Lib.hid (HB0.out.trans (hb1.mono HB0.out.size))
 have HQ1 := Lib.hid hq1
 clear hq1 hb1
 obtain ⟨b, hb⟩ : ∃ b, decide (s.data.toList.headD 0 = 45) = b := ⟨_, rfl⟩
 have HBD := Lib.hid hb
 clear hb
 go_upto_region 2 with (fail)
 obtain ⟨hb2, c2⟩ := blk1 w1 [.int .i64 0, .int .i64 0, .int .i64 0, .bool nb, .slice A n c, .slice B m k] MT
 have HS : Hid (PMS w _ w.heap.size w1.heap.size (0, 0, 0) 1) := Lib.hid ⟨⟨⟨nb, A, n, c, B, m, k, c2, HQ1.out.below hb2⟩, HB1.out.size, HB1.out.trans (hb2.mono HB1.out.size)⟩, HC1.out.below hb2 HC1.out.lt, Nat.le_refl _, HC1.out.lt⟩
 clear hb2 c2
 obtain ⟨W2, hW2⟩ : ∃ W2, w1.alloc (.cells #[.int .i64 0, .int .i64 0, .int .i64 0, .bool nb, .slice A n c, .slice B m k] MT) = W2 := ⟨_, rfl⟩
 obtain ⟨g4, hg4⟩ : ∃ g4, w1.heap.size = g4 := ⟨_, rfl⟩
 obtain ⟨g2, hg2⟩ : ∃ g2, w.heap.size = g2 := ⟨_, rfl⟩
 rw [hW2, hg4, hg2] at HS
 rw [hW2]
 try rw [hg4]
 try rw [hg2]
 clear hW2 hg4 hg2 HC1 HB1 HQ1 HC0 HB0
 go_cut [21] from 14 to 20 (fun s21 wx => s21 = .bool b /\ wx = W2)
 case first =>
  by_cases h0 : 0 < s.size
  ·have hsp := split_atS s 0 h0
   by_cases h45 : s[0] = 45
   ·have hb1 : ((s[0].toNat : Int) == 45) = true := by rw [h45]; rfl
    obtain rfl : b = true := by
     rw [<- HBD.out, hsp, h45]
     rfl
    clear hsp h45
    go_wp2_with fail
    go_meet
    case rel => exact ⟨rfl, rfl⟩
   ·have hb1 : ((s[0].toNat : Int) == 45) = false := by
     rw [beq_eq_false_iff_ne]
     intro e
     exact h45 (by apply UInt8.toNat.inj; show _ = 45; omega)
    obtain rfl : b = false := by
     rw [<- HBD.out, hsp]
     exact decide_eq_false h45
    clear hsp h45
    go_wp2_with fail
    go_meet
    case rel => exact ⟨rfl, rfl⟩
  ·have hl : s.data.toList = [] := List.eq_nil_of_length_eq_zero (by rw [Array.length_toList]; show s.size = 0; omega)
   obtain rfl : b = false := by
    rw [<- HBD.out, hl]
    rfl
   have hz : s.size = 0 := by omega
   clear hl
   go_wp2_with fail
   go_meet
   case rel => exact ⟨rfl, rfl⟩
 case rest =>
  obtain ⟨rfl, rfl⟩ := hcut
  go_upto_if 21 with (fail)
  go_cut [0, 5] from 22 to 23 (fun s0 s5 wx => ∃ t : ByteArray, s0 = .string t /\ s5 = .bool b /\ t.size <= s.size /\ Hid (PMS w wx g2 g4 (0, 0, 0) 1) /\ Hid ((refF true (0, 0, 0) 1 t.data.toList).map (fun m => (m.1, if b then -m.2 else m.2)) = r))
  case first =>
   cases b with
   | true =>
     have h45 := of_decide_eq_true HBD.out
     have h1 : 1 <= s.size := by
      have : s.data.toList.length = s.size := by rw [Array.length_toList]; rfl
      cases hl : s.data.toList with
      | nil => rw [hl] at h45; exact absurd h45 (by decide)
      | cons a b => rw [hl, List.length_cons] at this; omega
     have h1i : (1 : Int) <= (s.size : Int) := by omega
     have HF : Hid ((refF true (0, 0, 0) 1 (s.extract 1 s.size).data.toList).map (fun m => (m.1, if true then -m.2 else m.2)) = r) := Lib.hid (by
      rw [bytesDropR, <- H.out, refM_eq, if_pos h45]
      rfl)
     have HSE : Hid ((s.extract 1 s.size).size <= s.size) := Lib.hid (by rw [ByteArray.size_extract]; omega)
     clear h45
     go_upto_region 3 with (fail)
     go_region
     all_goals
      go_wp2_with fail
      go_meet
      case rel => exact ⟨_, rfl, rfl, HSE.out, Lib.hid (HS.out.keep (Below.refl _ _).drew), HF⟩
   | false =>
     have h45 := of_decide_eq_false HBD.out
     have HF : Hid ((refF true (0, 0, 0) 1 s.data.toList).map (fun m => (m.1, if false then -m.2 else m.2)) = r) := Lib.hid (by
      rw [<- H.out, refM_eq, if_neg h45]
      simp)
     clear h45
     go_wp2_with fail
     go_meet
     case rel => exact ⟨_, rfl, rfl, Nat.le_refl _, HS, HF⟩
  case rest =>
   obtain ⟨t, rfl, rfl, hts, HT, HF⟩ := hcut
   have HTS := Lib.hid hts
   have HW : Hid (∀ x, r = some x -> True) := Lib.hid (fun _ _ => trivial)
   clear hts
   go_upto_block 0 with (fail)
   go_cut [0, 6] from 7 to 118 (fun s0 s6 wx => ∃ (first : Bool) (e : Ex) (q : Rat), s6 = .bool first /\ Hid (PMS w wx g2 g4 (rawOf (e, q)).1 q) /\ Hid (Sz q 2000) /\ Hid (r = if first then none else some (e, if b then -q else q)))
   case first =>
    go_wp2_with fail
    go_loopw [0, 6] (fun s0 s6 wr => ∃ (t : ByteArray) (first : Bool) (e : Ex) (q : Rat), s0 = .string t /\ s6 = .bool first /\ Hid (t.size <= 90000) /\ Hid (PMS w wr g2 g4 (rawOf (e, q)).1 q) /\ Hid (Sz q 2000) /\ Hid (e.1 + e.2.1 + e.2.2 + 5 * t.size <= 500000) /\ Hid ((refF first e q t.data.toList).map (fun m => (m.1, if b then -m.2 else m.2)) = r)) (fun s0 _ _ => strL s0)
    case atStart => exact ⟨t, true, (0, 0, 0), 1, rfl, rfl, Lib.hid (by have := HTS.out; have := HSZ.out; omega), HT, Lib.hid (sz_one' 2000 (by decide)), Lib.hid (by have := HTS.out; have := HSZ.out; simp only; omega), HF⟩
    case round =>
     clear HT HF HTS
     obtain ⟨t, first, e, q, rfl, rfl, HTZ, HPr, HSQ, HEB, HRr⟩ := hrel
     by_cases h0 : t.data.toList = []
     ·obtain rfl : t = ⟨#[]⟩ := by
       obtain ⟨⟨x⟩⟩ := t
       have : x = [] := h0
       subst this
       rfl
      have HF : Hid (r = if first then none else some (e, if b then -q else q)) := Lib.hid (by
       rw [<- HRr.out]
       show Option.map _ (refF first e q []) = _
       rw [refF, dif_pos rfl]
       cases first <;> rfl)
      clear h0
      go_wp2_with fail
      go_meet
      case rel => exact ⟨first, e, q, rfl, HPr, HSQ, HF⟩
     ·have hne : (t.toList == ([] : List UInt8)) = false := by rw [Lib.toList_data]; simpa using h0
      have H0 := Lib.hid h0
      clear h0
      go_upto_block 2 with (fail)
      go_cut [7, 8] from 24 to 39 (fun s7 s8 wx => ∃ p : ByteArray, s7 = .string p /\ Hid (p.data.toList = (sp 42 t.data.toList).headD []) /\ wx = wr)
      case first =>
       go_wp2_with fail
       go_loopw [7, 8] (fun s7 s8 wx => ∃ k : Nat, s7 = .string t /\ s8 = .int .i64 (k : Int) /\ k <= t.size /\ wx = wr /\ Hid (∀ c ∈ t.data.toList.take k, c ≠ 42)) (fun _ s8 _ => (t.size - intOf s8).toNat)
       case atStart => exact ⟨0, rfl, rfl, Nat.zero_le _, rfl, Lib.hid (fun c hc => by simp at hc)⟩
       case round =>
        obtain ⟨k, rfl, rfl, hk, rfl, HK⟩ := hrel
        have htz := HTZ.out
        by_cases hkn : k < t.size
        ·have hsp := split_atS t k hkn
         have hlt : (k : Int) < (t.size : Int) := by omega
         by_cases h42 : t[k] = 42
         ·have hb1 : ((t[k].toNat : Int) == 42) = true := by rw [h42]; rfl
          have HPP : Hid ((t.extract 0 k).data.toList = (sp 42 t.data.toList).headD []) := Lib.hid (by
           rw [ext_zero]
           conv => rhs; rw [hsp, h42, sp_cons _ HK.out]
           rfl)
          clear hsp h42
          go_wp2_with fail
          go_meet
          case rel => exact ⟨_, rfl, HPP, rfl⟩
         ·have hb1 : ((t[k].toNat : Int) == 42) = false := by
           rw [beq_eq_false_iff_ne]
           intro e
           exact h42 (by apply UInt8.toNat.inj; show _ = 42; omega)
          have HK2 : Hid (∀ c ∈ t.data.toList.take (k + 1), c ≠ 42) := Lib.hid (by
           intro c hc
           rw [List.take_succ_eq_append_getElem (by simpa using hkn)] at hc
           rcases List.mem_append.1 hc with hc | hc
           ·exact HK.out c hc
           ·have : c = t[k] := List.mem_singleton.1 hc
            rw [this]; exact h42)
          have hw1 : IntKind.i64.wrap ((k : Int) + 1) = (k : Int) + 1 := IntWalk.i64_in _ (by omega)
          clear hsp h42
          go_wp2_with fail
          go_roundw
          case rel => exact ⟨k + 1, by trivial, congrArg (Value.int _) (by omega), hkn, by trivial, HK2⟩
          case measure => simp [intOf]; omega
        ·have HPP : Hid (t.data.toList = (sp 42 t.data.toList).headD []) := Lib.hid (by
          have h1 : t.data.toList.take k = t.data.toList := List.take_of_length_le (by rw [Array.length_toList]; show t.size <= k; omega)
          have h2 := HK.out
          rw [h1] at h2
          conv => rhs; rw [sp_none h2]
          rfl)
         have hlt : ¬ (k : Int) < (t.size : Int) := by omega
         go_wp2_with fail
         go_meet
         case rel => exact ⟨_, rfl, HPP, rfl⟩
      case rest =>
       obtain ⟨p, rfl, HPP, rfl⟩ := hcut
       rename_i wc
       go_upto_block 4 with (fail)
       go_cut [9, 10, 11, 41] from 42 to 108 (fun s9 s10 s11 s41 wx => ∃ (e' : Ex) (q' : Rat), Hid (PMS w wx g2 g4 (rawOf (e', q')).1 q') /\ Hid (Sz q' 2000) /\ Hid (e'.1 + e'.2.1 + e'.2.2 <= e.1 + e.2.1 + e.2.2 + 5) /\ Hid ((if p.data.toList.length = t.data.toList.length then some (e', q') else refF false e' q' (t.data.toList.drop (p.data.toList.length + 1))).map (fun m => (m.1, if b then -m.2 else m.2)) = r))
       case first =>
        go_upto_region 13 with (fail)
        go_cut [41] from 42 to 79 (fun s41 wx => s41 = .bool (isPar p.data.toList).isSome /\ wx = wc)
        case first =>
         obtain ⟨⟨l⟩⟩ := p
         match l with
         | [] =>
           go_wp2_with fail
           go_meet
           case rel => exact ⟨rfl, rfl⟩
         | [c] =>
           have hs1 : ((⟨⟨[c]⟩⟩ : ByteArray).size : Int) = 1 := rfl
           have hv : (⟨⟨[c]⟩⟩ : ByteArray)[0].toNat = c.toNat := rfl
           go_wp2_with fail
           all_goals
            go_meet
            case rel =>
             refine ⟨congrArg Value.bool ?_, rfl⟩
             show _ = Option.isSome (if 97 <= c.toNat /\ c.toNat < 100 then some (c.toNat - 97, 1) else none)
             split <;> first | rfl | (exfalso; omega)
         | [c, d] =>
           have hs1 : ((⟨⟨[c, d]⟩⟩ : ByteArray).size : Int) = 2 := rfl
           go_wp2_with fail
           all_goals
            go_meet
            case rel =>
             refine ⟨congrArg Value.bool ?_, rfl⟩
             rfl
         | [c, h, d] =>
           have hs1 : ((⟨⟨[c, h, d]⟩⟩ : ByteArray).size : Int) = 3 := rfl
           have hv : (⟨⟨[c, h, d]⟩⟩ : ByteArray)[0].toNat = c.toNat := rfl
           have hv1 : (⟨⟨[c, h, d]⟩⟩ : ByteArray)[1].toNat = h.toNat := rfl
           have hv2 : (⟨⟨[c, h, d]⟩⟩ : ByteArray)[2].toNat = d.toNat := rfl
           have hh : h = 94 ↔ h.toNat = 94 := ⟨fun e => by rw [e]; rfl, fun e => UInt8.toNat.inj e⟩
           go_wp2_with fail
           all_goals
            go_meet
            case rel =>
             refine ⟨congrArg Value.bool ?_, rfl⟩
             show _ = Option.isSome (if (97 <= c.toNat /\ c.toNat < 100) /\ h = 94 /\ 50 <= d.toNat /\ d.toNat <= 53 then some (c.toNat - 97, d.toNat - 48) else none)
             split <;> (rename_i hcond; rw [hh] at hcond; first | rfl | (exfalso; omega) | exact decide_eq_true (by omega) | exact decide_eq_false (by omega))
         | c :: h :: d :: x :: r =>
           have hs1 : ((⟨⟨c :: h :: d :: x :: r⟩⟩ : ByteArray).size : Int) = (r.length : Int) + 4 := by show (((c :: h :: d :: x :: r).length : Nat) : Int) = _; simp only [List.length_cons]; omega
           have hs2 : ((r.length : Int) + 4 == 1) = false := by rw [beq_eq_false_iff_ne]; omega
           have hs3 : ((r.length : Int) + 4 == 3) = false := by rw [beq_eq_false_iff_ne]; omega
           have hs4 : (0 : Int) < (r.length : Int) + 4 := by omega
           go_wp2_with fail
           all_goals
            go_meet
            case rel =>
             refine ⟨congrArg Value.bool ?_, rfl⟩
             first | rfl | (exfalso; omega)
        case rest =>
         obtain ⟨rfl, hwx⟩ := hcut
         have hwx2 := hwx.symm
         subst hwx2
         clear hwx
         obtain ⟨o, ho⟩ : ∃ o, isPar p.data.toList = o := ⟨_, rfl⟩
         rw [ho]
         cases o with
         | some kn =>
           obtain ⟨j, k⟩ := kn
           obtain ⟨hp0, hwj, hj3, hk⟩ := par_facts ho
           have HO := Lib.hid ho
           have HK : Hid (k <= 5) := Lib.hid (by
            rcases hk with ⟨_, rfl⟩ | ⟨_, _, _, _, h5⟩
            ·omega
            ·exact h5)
           clear ho
           go_upto_if 82 with (fail)
           go_cut [9] from 83 to 86 (fun s9 wx => s9 = .int .i64 (k : Int) /\ wx = wc)
           case first =>
            rcases hk with ⟨hs1, hk1⟩ | ⟨hp2, hs3, hwk, h2k, hk5⟩
            ·have hb : ((p.size : Int) == 3) = false := by rw [beq_eq_false_iff_ne]; omega
             subst hk1
             go_wp2_with fail
             go_meet
             case rel => exact ⟨rfl, rfl⟩
            ·have hb : ((p.size : Int) == 3) = true := by rw [hs3]; rfl
             have hwc : IntKind.i64.wrap (k : Int) = (k : Int) := IntWalk.i64_in _ (by omega)
             go_wp2_with fail
             go_meet
             case rel => exact ⟨rfl, rfl⟩
           case rest =>
            obtain ⟨rfl, hwx⟩ := hcut
            have hwx2 := hwx.symm
            subst hwx2
            clear hwx hk
            obtain ⟨nb, A, n, c, B, m, kk, hcs, hq⟩ := HPr.out.pm.cur
            obtain ⟨x0, x1, x2, x3, x4, x5⟩ := hcs.c6
            have f0 := hcs.frozen 0
            have f1 := hcs.frozen 1
            have f2 := hcs.frozen 2
            clear hcs hq
            obtain rfl | rfl | rfl : j = 0 \/ j = 1 \/ j = 2 := by omega
            ·have hwj' : IntKind.u8.wrap ((p[0].toNat : Int) - 97) = 0 := hwj
             have hse : setE (rawOf (e, q)).1 0 ((rawOf (e, q)).1.1 + (k : Int)) = (rawOf (addE e 0 k, q)).1 := by
              simp [setE, rawOf, addE]
             have hwa : IntKind.i64.wrap ((rawOf (e, q)).1.1 + (k : Int)) = (rawOf (e, q)).1.1 + (k : Int) := IntWalk.i64_in _ (by
              have := HEB.out
              have h5 := HK.out
              show _ <= ((e.1 : Nat) : Int) + (k : Int) /\ ((e.1 : Nat) : Int) + (k : Int) <= _
              omega)
             have HP0 := Lib.hid (HPr.out.set (j := 0) (by decide) ((rawOf (e, q)).1.1 + (k : Int)))
             rw [hse] at HP0
             have HE' : Hid ((addE e 0 k).1 + (addE e 0 k).2.1 + (addE e 0 k).2.2 <= e.1 + e.2.1 + e.2.2 + 5) := Lib.hid (by
              have h5 := HK.out
              simp only [addE]
              omega)
             have HR' : Hid ((if p.data.toList.length = t.data.toList.length then some (addE e 0 k, q) else refF false (addE e 0 k) q (t.data.toList.drop (p.data.toList.length + 1))).map (fun m => (m.1, if b then -m.2 else m.2)) = r) := Lib.hid (by
              rw [<- HRr.out, refF_step H0.out, <- HPP.out, HO.out])
             have HS' := HSQ
             clear hse hwj
             go_wp2_with fail
             go_meet
             case rel => exact ⟨_, _, HP0, HS', HE', HR'⟩
            ·have hwj' : IntKind.u8.wrap ((p[0].toNat : Int) - 97) = 1 := hwj
             have hse : setE (rawOf (e, q)).1 1 ((rawOf (e, q)).1.2.1 + (k : Int)) = (rawOf (addE e 1 k, q)).1 := by
              simp [setE, rawOf, addE]
             have hwa : IntKind.i64.wrap ((rawOf (e, q)).1.2.1 + (k : Int)) = (rawOf (e, q)).1.2.1 + (k : Int) := IntWalk.i64_in _ (by
              have := HEB.out
              have h5 := HK.out
              show _ <= ((e.2.1 : Nat) : Int) + (k : Int) /\ ((e.2.1 : Nat) : Int) + (k : Int) <= _
              omega)
             have HP0 := Lib.hid (HPr.out.set (j := 1) (by decide) ((rawOf (e, q)).1.2.1 + (k : Int)))
             rw [hse] at HP0
             have HE' : Hid ((addE e 1 k).1 + (addE e 1 k).2.1 + (addE e 1 k).2.2 <= e.1 + e.2.1 + e.2.2 + 5) := Lib.hid (by
              have h5 := HK.out
              simp only [addE]
              omega)
             have HR' : Hid ((if p.data.toList.length = t.data.toList.length then some (addE e 1 k, q) else refF false (addE e 1 k) q (t.data.toList.drop (p.data.toList.length + 1))).map (fun m => (m.1, if b then -m.2 else m.2)) = r) := Lib.hid (by
              rw [<- HRr.out, refF_step H0.out, <- HPP.out, HO.out])
             have HS' := HSQ
             clear hse hwj
             go_wp2_with fail
             go_meet
             case rel => exact ⟨_, _, HP0, HS', HE', HR'⟩
            ·have hwj' : IntKind.u8.wrap ((p[0].toNat : Int) - 97) = 2 := hwj
             have hse : setE (rawOf (e, q)).1 2 ((rawOf (e, q)).1.2.2 + (k : Int)) = (rawOf (addE e 2 k, q)).1 := by
              simp [setE, rawOf, addE]
             have hwa : IntKind.i64.wrap ((rawOf (e, q)).1.2.2 + (k : Int)) = (rawOf (e, q)).1.2.2 + (k : Int) := IntWalk.i64_in _ (by
              have := HEB.out
              have h5 := HK.out
              show _ <= ((e.2.2 : Nat) : Int) + (k : Int) /\ ((e.2.2 : Nat) : Int) + (k : Int) <= _
              omega)
             have HP0 := Lib.hid (HPr.out.set (j := 2) (by decide) ((rawOf (e, q)).1.2.2 + (k : Int)))
             rw [hse] at HP0
             have HE' : Hid ((addE e 2 k).1 + (addE e 2 k).2.1 + (addE e 2 k).2.2 <= e.1 + e.2.1 + e.2.2 + 5) := Lib.hid (by
              have h5 := HK.out
              simp only [addE]
              omega)
             have HR' : Hid ((if p.data.toList.length = t.data.toList.length then some (addE e 2 k, q) else refF false (addE e 2 k) q (t.data.toList.drop (p.data.toList.length + 1))).map (fun m => (m.1, if b then -m.2 else m.2)) = r) := Lib.hid (by
              rw [<- HRr.out, refF_step H0.out, <- HPP.out, HO.out])
             have HS' := HSQ
             clear hse hwj
             go_wp2_with fail
             go_meet
             case rel => exact ⟨_, _, HP0, HS', HE', HR'⟩
         | none =>
           have HO := Lib.hid ho
           clear ho
           cases first with
           | false =>
             have HRN : Hid (r = none) := Lib.hid (by
              rw [<- HRr.out, refF_step H0.out, <- HPP.out, HO.out]
              rfl)
             obtain ⟨nb8, A8, n8, c8, B8, m8, k8, hcs, hq8⟩ := HPr.out.pm.cur
             have hne : g2 ≠ g4 := by have := HPr.out.ne; omega
             have f0 := HPr.out.rs.frozen 0
             have f1 := HPr.out.rs.frozen 1
             have f2 := HPr.out.rs.frozen 2
             have f3 := HPr.out.rs.frozen 3
             have f4 := HPr.out.rs.frozen 4
             have f5 := HPr.out.rs.frozen 5
             obtain ⟨x0, x1, x2, x3, x4, x5⟩ := hcs.c6
             obtain ⟨y0, y1, y2, y3, y4, y5⟩ := HPr.out.rs.c6
             have hfin := HPr.out.rs.setL (mv (rawOf (e, q)).1 nb8 A8 n8 c8 B8 m8 k8) rfl
             have hge := HPr.out.ne.1
             have hbf := (((((HPr.out.pm.below.setCell (p := ⟨g2, 0, none⟩) hge (.int .i64 (rawOf (e, q)).1.1)).setCell (p := ⟨g2, 1, none⟩) hge (.int .i64 (rawOf (e, q)).1.2.1)).setCell (p := ⟨g2, 2, none⟩) hge (.int .i64 (rawOf (e, q)).1.2.2)).setCell (p := ⟨g2, 3, none⟩) hge (.bool nb8)).setCell (p := ⟨g2, 4, none⟩) hge (.slice A8 n8 c8)).setCell (p := ⟨g2, 5, none⟩) hge (.slice B8 m8 k8)
             have HE := Lib.hid (And.intro hfin hbf)
             clear hcs hfin hbf hq8
             go_wp2_with fail
             refine ret_cs_tmp Tryz.results115 Tryz.underlying59 (by kernel_rfl) rfl rfl HE.out.1 rfl ?_
             rw [HRN.out]
             exact ⟨(rawOf (e, q)).1, nb8, A8, n8, c8, B8, m8, k8, rfl, nofun, HE.out.2⟩
           | true =>
             obtain ⟨o1, hr⟩ : ∃ o1, parseQ p.data.toList = o1 := ⟨_, rfl⟩
             have HR1 := Lib.hid hr
             clear hr
             have hpz : p.size <= 90000 := by
              have hpl : p.data.toList.length = p.size := by rw [Array.length_toList]; rfl
              have htl : t.data.toList.length = t.size := by rw [Array.length_toList]; rfl
              have := sp_head_le 42 t.data.toList
              rw [<- HPP.out, hpl, htl] at this
              have := HTZ.out
              omega
             go_wp2_with fail
             refine (r_Parse p wc (by omega) o1 HR1).mono ?_
             rintro e5 w5 ⟨v5, rfl, hq5, hb5⟩
             obtain ⟨nb5, A5, n5, c5, B5, m5, k5, rfl⟩ := hq5.agg
             have HP5 := Lib.hid (HPr.out.keep hb5)
             have HQ5 := Lib.hid hq5
             clear hq5 hb5
             cases o1 with
             | none =>
               have HRN : Hid (r = none) := Lib.hid (by
                rw [<- HRr.out, refF_step H0.out, <- HPP.out, HO.out, HR1.out]
                rfl)
               obtain ⟨hb6, c6⟩ := blk1 w5 [.bool nb5, .slice A5 n5 c5, .slice B5 m5 k5] 25
               have HP6 := Lib.hid (HP5.out.keep hb6)
               clear hb6 c6
               obtain ⟨nb8, A8, n8, c8, B8, m8, k8, hcs, hq8⟩ := HP6.out.pm.cur
               have hne : g2 ≠ g4 := by have := HP6.out.ne; omega
               have f0 := HP6.out.rs.frozen 0
               have f1 := HP6.out.rs.frozen 1
               have f2 := HP6.out.rs.frozen 2
               have f3 := HP6.out.rs.frozen 3
               have f4 := HP6.out.rs.frozen 4
               have f5 := HP6.out.rs.frozen 5
               obtain ⟨x0, x1, x2, x3, x4, x5⟩ := hcs.c6
               obtain ⟨y0, y1, y2, y3, y4, y5⟩ := HP6.out.rs.c6
               have hfin := HP6.out.rs.setL (mv (rawOf (e, q)).1 nb8 A8 n8 c8 B8 m8 k8) rfl
               have hge := HP6.out.ne.1
               have hbf := (((((HP6.out.pm.below.setCell (p := ⟨g2, 0, none⟩) hge (.int .i64 (rawOf (e, q)).1.1)).setCell (p := ⟨g2, 1, none⟩) hge (.int .i64 (rawOf (e, q)).1.2.1)).setCell (p := ⟨g2, 2, none⟩) hge (.int .i64 (rawOf (e, q)).1.2.2)).setCell (p := ⟨g2, 3, none⟩) hge (.bool nb8)).setCell (p := ⟨g2, 4, none⟩) hge (.slice A8 n8 c8)).setCell (p := ⟨g2, 5, none⟩) hge (.slice B8 m8 k8)
               have HE := Lib.hid (And.intro hfin hbf)
               clear hcs hfin hbf hq8
               go_wp2_with fail
               refine ret_cs_tmp Tryz.results115 Tryz.underlying59 (by kernel_rfl) rfl rfl HE.out.1 rfl ?_
               rw [HRN.out]
               exact ⟨(rawOf (e, q)).1, nb8, A8, n8, c8, B8, m8, k8, rfl, nofun, HE.out.2⟩
             | some q' =>
               obtain ⟨hb6, c6⟩ := blk1 w5 [.bool nb5, .slice A5 n5 c5, .slice B5 m5 k5] 25
               have HP6 := Lib.hid (HP5.out.keep hb6)
               have HP0 := Lib.hid (HP6.out.coef (HQ5.out.below hb6))
               obtain ⟨nb7, A7, n7, c7, B7, m7, k7, hcs, hq7⟩ := HP6.out.pm.cur
               obtain ⟨x0, x1, x2, x3, x4, x5⟩ := hcs.c6
               have f3 := hcs.frozen 3
               have f4 := hcs.frozen 4
               have f5 := hcs.frozen 5
               obtain ⟨y0, y1, y2⟩ := c6.c3
               have HS' : Hid (Sz q' 2000) := Lib.hid (parseQ_sz HR1.out)
               have HE' : Hid (e.1 + e.2.1 + e.2.2 <= e.1 + e.2.1 + e.2.2 + 5) := Lib.hid (by omega)
               have HR' : Hid ((if p.data.toList.length = t.data.toList.length then some (e, q') else refF false e q' (t.data.toList.drop (p.data.toList.length + 1))).map (fun m => (m.1, if b then -m.2 else m.2)) = r) := Lib.hid (by
                rw [<- HRr.out, refF_step H0.out, <- HPP.out, HO.out, HR1.out]
                rfl)
               clear hcs hq7 hb6 c6
               go_wp2_with fail
               go_meet
               case rel => exact ⟨_, _, HP0, HS', HE', HR'⟩
       case rest =>
        obtain ⟨e', q', HP', HS', HE', HR'⟩ := hcut
        have hpl : p.data.toList.length = p.size := by rw [Array.length_toList]; rfl
        have htl : t.data.toList.length = t.size := by rw [Array.length_toList]; rfl
        have hle : p.size <= t.size := by
         rw [<- hpl, <- htl, HPP.out]
         exact sp_head_le 42 _
        have htz := HTZ.out
        by_cases hl : p.size = t.size
        ·have hli : ((p.size : Int) == (t.size : Int)) = true := by rw [hl]; exact beq_self_eq_true _
         have HF : Hid (r = if false then none else some (e', if b then -q' else q')) := Lib.hid (by
          rw [<- HR'.out, if_pos (by rw [hpl, htl, hl])]
          rfl)
         clear hpl htl hl hle
         go_wp2_with fail
         go_meet
         case rel => exact ⟨false, e', q', rfl, HP', HS', HF⟩
        ·have hli : ((p.size : Int) == (t.size : Int)) = false := by rw [beq_eq_false_iff_ne]; omega
         obtain ⟨m, hm⟩ : ∃ m, p.size + 1 = m := ⟨_, rfl⟩
         have hw1 : IntKind.i64.wrap ((p.size : Int) + 1) = (m : Int) := by rw [IntWalk.i64_in _ (by omega)]; omega
         have hml : m <= t.size := by omega
         have HZ2 : Hid ((t.extract m t.size).size <= 90000) := Lib.hid (by rw [ByteArray.size_extract]; omega)
         have HE2 : Hid ((e').1 + (e').2.1 + (e').2.2 + 5 * (t.extract m t.size).size <= 500000) := Lib.hid (by
          have := HE'.out
          have := HEB.out
          rw [ByteArray.size_extract]
          omega)
         have HM2 : Hid ((t.extract m t.size).size < t.size) := Lib.hid (by rw [ByteArray.size_extract]; omega)
         have HF : Hid ((refF false (e') q' (t.extract m t.size).data.toList).map (fun m => (m.1, if b then -m.2 else m.2)) = r) := Lib.hid (by
          rw [bytesDropR, <- HR'.out, if_neg (by rw [hpl, htl]; exact hl), hpl, hm])
         clear hpl htl hl hle hm
         go_wp2_with fail
         go_roundw
         case rel => exact ⟨_, false, e', q', rfl, rfl, HZ2, HP', HS', HE2, HF⟩
         case measure => exact HM2.out
   case rest =>
    obtain ⟨first, e, q, rfl, HP, HSQ, HRF⟩ := hcut
    cases b with
    | false =>
      obtain ⟨nb8, A8, n8, c8, B8, m8, k8, hcs, hq8⟩ := HP.out.pm.cur
      have hne : g2 ≠ g4 := by have := HP.out.ne; omega
      have f0 := HP.out.rs.frozen 0
      have f1 := HP.out.rs.frozen 1
      have f2 := HP.out.rs.frozen 2
      have f3 := HP.out.rs.frozen 3
      have f4 := HP.out.rs.frozen 4
      have f5 := HP.out.rs.frozen 5
      obtain ⟨x0, x1, x2, x3, x4, x5⟩ := hcs.c6
      obtain ⟨y0, y1, y2, y3, y4, y5⟩ := HP.out.rs.c6
      have hfin := HP.out.rs.setL (mv (rawOf (e, q)).1 nb8 A8 n8 c8 B8 m8 k8) rfl
      have hqf := hq8.setL (k := 0) HP.out.rs (by simp) (mv (rawOf (e, q)).1 nb8 A8 n8 c8 B8 m8 k8)
      have hge := HP.out.ne.1
      have hbf := (((((HP.out.pm.below.setCell (p := ⟨g2, 0, none⟩) hge (.int .i64 (rawOf (e, q)).1.1)).setCell (p := ⟨g2, 1, none⟩) hge (.int .i64 (rawOf (e, q)).1.2.1)).setCell (p := ⟨g2, 2, none⟩) hge (.int .i64 (rawOf (e, q)).1.2.2)).setCell (p := ⟨g2, 3, none⟩) hge (.bool nb8)).setCell (p := ⟨g2, 4, none⟩) hge (.slice A8 n8 c8)).setCell (p := ⟨g2, 5, none⟩) hge (.slice B8 m8 k8)
      have HE := Lib.hid (And.intro hfin (And.intro hqf hbf))
      clear hcs hfin hqf hbf
      go_wp2_with fail
      refine ret_cs_tmp Tryz.results115 Tryz.underlying59 (by kernel_rfl) rfl rfl HE.out.1 rfl ?_
      refine ⟨(rawOf (e, q)).1, nb8, A8, n8, c8, B8, m8, k8, ?_, fun x hx => ?_, HE.out.2.2⟩
      ·rw [HRF.out]
       cases first <;> rfl
      ·rw [HRF.out] at hx
       cases first with
       | true => exact nomatch hx
       | false =>
         obtain rfl := Option.some.inj hx
         exact ⟨rfl, HE.out.2.1⟩
    | true =>
      obtain ⟨nb7, A7, n7, c7, B7, m7, k7, hc7, hq7⟩ := HP.out.pm.cur
      obtain ⟨x0, x1, x2, x3, x4, x5⟩ := hc7.c6
      have HQ7 := Lib.hid hq7
      clear hq7
      go_wp2_with fail
      refine (r_Neg _ q _ (HQ7.out.inr HSQ.out (by decide))).mono ?_
      rintro e7 w7 ⟨v7, rfl, hq8, hb8⟩
      obtain ⟨nb9, A9, n9, c9, B9, m9, k9, rfl⟩ := hq8.agg
      have HP7 := Lib.hid (HP.out.keep hb8)
      have HP8 := Lib.hid (HP7.out.coef hq8)
      have d7 := hc7.below hb8 hc7.lt
      have r3 := d7.frozen 3
      have r4 := d7.frozen 4
      have r5 := d7.frozen 5
      obtain ⟨t0, t1, t2, t3, t4, t5⟩ := d7.c6
      clear hq8 hb8 hc7 d7 x0 x1 x2 x3 x4 x5
      go_upto_region 28 with (fail)
      obtain ⟨W8, hW8⟩ : ∃ W8, ((w7.setCell ⟨g4, 3, none⟩ (.bool nb9)).setCell ⟨g4, 4, none⟩ (.slice A9 n9 c9)).setCell ⟨g4, 5, none⟩ (.slice B9 m9 k9) = W8 := ⟨_, rfl⟩
      rw [hW8] at HP8 ⊢
      clear hW8 r3 r4 r5 t0 t1 t2 t3 t4 t5
      obtain ⟨nb8, A8, n8, c8, B8, m8, k8, hcs, hq8⟩ := HP8.out.pm.cur
      have hne : g2 ≠ g4 := by have := HP8.out.ne; omega
      have f0 := HP8.out.rs.frozen 0
      have f1 := HP8.out.rs.frozen 1
      have f2 := HP8.out.rs.frozen 2
      have f3 := HP8.out.rs.frozen 3
      have f4 := HP8.out.rs.frozen 4
      have f5 := HP8.out.rs.frozen 5
      obtain ⟨x0, x1, x2, x3, x4, x5⟩ := hcs.c6
      obtain ⟨y0, y1, y2, y3, y4, y5⟩ := HP8.out.rs.c6
      have hfin := HP8.out.rs.setL (mv (rawOf (e, q)).1 nb8 A8 n8 c8 B8 m8 k8) rfl
      have hqf := hq8.setL (k := 0) HP8.out.rs (by simp) (mv (rawOf (e, q)).1 nb8 A8 n8 c8 B8 m8 k8)
      have hge := HP8.out.ne.1
      have hbf := (((((HP8.out.pm.below.setCell (p := ⟨g2, 0, none⟩) hge (.int .i64 (rawOf (e, q)).1.1)).setCell (p := ⟨g2, 1, none⟩) hge (.int .i64 (rawOf (e, q)).1.2.1)).setCell (p := ⟨g2, 2, none⟩) hge (.int .i64 (rawOf (e, q)).1.2.2)).setCell (p := ⟨g2, 3, none⟩) hge (.bool nb8)).setCell (p := ⟨g2, 4, none⟩) hge (.slice A8 n8 c8)).setCell (p := ⟨g2, 5, none⟩) hge (.slice B8 m8 k8)
      have HE := Lib.hid (And.intro hfin (And.intro hqf hbf))
      clear hcs hfin hqf hbf
      go_wp2_with fail
      refine ret_cs_tmp Tryz.results115 Tryz.underlying59 (by kernel_rfl) rfl rfl HE.out.1 rfl ?_
      refine ⟨(rawOf (e, q)).1, nb8, A8, n8, c8, B8, m8, k8, ?_, fun x hx => ?_, HE.out.2.2⟩
      ·rw [HRF.out]
       cases first <;> rfl
      ·rw [HRF.out] at hx
       cases first with
       | true => exact nomatch hx
       | false =>
         obtain rfl := Option.some.inj hx
         exact ⟨rfl, HE.out.2.1⟩
theorem trim_le (l : List UInt8) : (Lib.trimPrefix l [45]).length <= l.length := by
 unfold Lib.trimPrefix
 split
 ·rw [List.length_drop]; omega
 ·exact Nat.le_refl _
theorem cut_le (l : List UInt8) : (Lib.cut l [47]).1.length <= l.length /\ (Lib.cut l [47]).2.1.length <= l.length := by
 unfold Lib.cut
 split
 ·refine ⟨?_, ?_⟩
  ·simp only []; rw [List.length_take]; omega
  ·simp only []; rw [List.length_drop]; omega
 ·exact ⟨Nat.le_refl _, Nat.zero_le _⟩
theorem readDec_small {l : List UInt8} {n : Nat} (h : readDec l = some n) (hl : l.length <= 201) : (limbs n).length <= 23 := by
 unfold readDec at h
 split at h
 ·cases h
 ·have h1 := decVal_lt h
  have h2 : (10 : Nat) ^ l.length <= 10 ^ 201 := Nat.pow_le_pow_right (by omega) hl
  have h3 : (10 : Nat) ^ 201 <= P 23 := by decide +kernel
  exact limbs_length_le (by omega)
theorem parseQ_small {l : List UInt8} {q : Rat} (h : parseQ l = some q) (hl : l.length <= 201) : Sz q 23 := by
 have h0 := trim_le l
 have hc := cut_le (Lib.trimPrefix l [45])
 unfold parseQ at h
 simp only at h
 split at h
 ·cases h
 ·rename_i n hn
  have h1 := readDec_small hn (by omega)
  split at h
  ·split at h
   ·cases h
   ·rename_i d hd
    have h2 := readDec_small hd (by omega)
    split at h
    ·cases h
    ·rename_i hd0
     obtain rfl := Option.some.inj h
     exact sz_qv' hd0 h1 h2
  ·obtain rfl := Option.some.inj h
   exact sz_qv' (by omega) h1 (by rw [limbs_one]; decide)
theorem refF_small : ∀ (n : Nat) (first : Bool) (e : Ex) (q : Rat) (s : List UInt8) (r : Ex × Rat), s.length <= n -> s.length <= 201 -> Sz q 23 -> refF first e q s = some r -> Sz r.2 23 := by
 intro n
 induction n with
 | zero =>
   intro first e q s r hn hs hq h
   have h0 : s = [] := List.eq_nil_of_length_eq_zero (by omega)
   rw [refF, dif_pos h0] at h
   cases first with
   | true => simp at h
   | false => simp at h; rw [<- h]; exact hq
 | succ n ih =>
   intro first e q s r hn hs hq h
   by_cases h0 : s = []
   ·rw [refF, dif_pos h0] at h
    cases first with
    | true => simp at h
    | false => simp at h; rw [<- h]; exact hq
   ·have hp := sp_head_le 42 s
    have hl : 0 < s.length := List.length_pos_iff.2 h0
    rw [refF_step h0] at h
    split at h
    ·split at h
     ·obtain rfl := Option.some.inj h; exact hq
     ·exact ih _ _ _ _ _ (by rw [List.length_drop]; omega) (by rw [List.length_drop]; omega) hq h
    ·split at h
     ·split at h
      ·cases h
      ·rename_i q' hq'
       have hz := parseQ_small hq' (by omega)
       split at h
       ·obtain rfl := Option.some.inj h; exact hz
       ·exact ih _ _ _ _ _ (by rw [List.length_drop]; omega) (by rw [List.length_drop]; omega) hz h
     ·cases h
theorem refM_small {s : List UInt8} {r : Ex × Rat} (hs : s.length <= 201) (h : refM s = some r) : Sz r.2 23 := by
 have h1 := sz_one' 23 (by omega)
 cases s with
 | nil => exact refF_small _ _ _ _ _ _ (Nat.le_refl _) hs h1 h
 | cons c t =>
   unfold refM at h
   simp only at h
   split at h
   ·obtain ⟨m, hm, rfl⟩ := Option.map_eq_some_iff.1 h
    exact sz_neg (refF_small _ _ _ _ _ _ (Nat.le_refl _) (by simp only [List.length_cons] at hs; omega) h1 hm)
   ·exact refF_small _ _ _ _ _ _ (Nat.le_refl _) hs h1 h
theorem pcR_le : ∀ (n : Nat) (first : Bool) (cur s : List UInt8), s.length <= n -> (∀ x ∈ pcR first cur s, x.length <= cur.length + s.length) /\ (pcR first cur s).length <= s.length + 1 := by
 intro n
 induction n with
 | zero =>
   intro first cur s hn
   obtain rfl : s = [] := List.eq_nil_of_length_eq_zero (by omega)
   rw [pcR_nil]
   exact ⟨fun x hx => by rw [List.mem_singleton.1 hx]; simp, by simp⟩
 | succ n ih =>
   intro first cur s hn
   cases s with
   | nil =>
     rw [pcR_nil]
     exact ⟨fun x hx => by rw [List.mem_singleton.1 hx]; simp, by simp⟩
   | cons x l =>
     simp only [List.length_cons] at hn
     by_cases h2 : l.length < 2
     ·rw [pcR_short h2]
      exact ⟨fun y hy => by rw [List.mem_singleton.1 hy, List.length_append]; exact Nat.le_refl _, by simp⟩
     ·rw [pcR, if_neg h2]
      split
      ·have h5 : (if (x :: l).take 3 = [32, 45, 32] then [(45 : UInt8)] else []).length <= 1 := by split <;> simp
       obtain ⟨h3, h4⟩ := ih false (if (x :: l).take 3 = [32, 45, 32] then [45] else []) (l.drop 2) (by rw [List.length_drop]; omega)
       rw [List.length_drop] at h4
       refine ⟨fun y hy => ?_, ?_⟩
       ·rcases List.mem_cons.1 hy with rfl | hy
        ·omega
        ·have := h3 y hy
         rw [List.length_drop] at this
         simp only [List.length_cons]
         omega
       ·simp only [List.length_cons]; omega
      ·obtain ⟨h3, h4⟩ := ih false (cur ++ [x]) l (by omega)
       refine ⟨fun y hy => ?_, ?_⟩
       ·have := h3 y hy
        rw [List.length_append] at this
        simp only [List.length_cons, List.length_nil] at this ⊢
        omega
       ·simp only [List.length_cons]; omega
noncomputable def refO (l : List Mon) (ps : List (List UInt8)) : Option (List Mon) := (refL ps (co l)).map listOf
theorem refL_agree : ∀ (ps : List (List UInt8)) (c d : Co), (∀ e, deg e <= 5 -> c e = d e) -> (refL ps c).map listOf = (refL ps d).map listOf
 | [], c, d, h => by
   simp only [refL, Option.map_some]
   rw [listOf_congr h]
 | s :: r, c, d, h => by
   simp only [refL]
   cases refM s with
   | none => rfl
   | some m => exact refL_agree r _ _ (fun e he => by unfold addAt; rw [h e he])
theorem refO_nil {l : List Mon} (hv : VP l) : refO l [] = some l := by
 unfold refO
 simp only [refL, Option.map_some]
 rw [listOf_co hv]
theorem refO_none {l : List Mon} {s : List UInt8} {r : List (List UInt8)} (h : refM s = none) : refO l (s :: r) = none := by
 unfold refO
 simp only [refL, h]
 rfl
theorem refO_some {l : List Mon} {s : List UInt8} {r : List (List UInt8)} {m : Ex × Rat} (h : refM s = some m) : refO l (s :: r) = refO (listOf (addAt (co l) m.1 m.2)) r := by
 unfold refO
 simp only [refL, h]
 exact refL_agree r _ _ (fun e he => by rw [co_listOf, if_pos he])
theorem parseR_O (s : List UInt8) : parseR s = match refO [] (pcR true [] s) with
 | none => none
 | some l => if fmtP l = s then some l else none := by
 unfold parseR refO
 have hz : co [] = zeroC := rfl
 rw [hz]
 cases refL (pcR true [] s) zeroC <;> rfl
theorem szL_put {l : List Mon} (hv : VP l) {L : Nat} (hL : 1 <= L) (hs : SzL l L) {e : Ex} {q : Rat} (hq : Sz q 23) : SzL (listOf (addAt (co l) e q)) (L + 24) := szL_listOf (szC_addAt (szC_co hv hs hL) hq (by omega))
theorem bsL_len (ps : List (List UInt8)) : (bsL ps).length = ps.length := by unfold bsL; rw [List.length_map]
theorem r2_reads (s : ByteArray) (w : World) (hs : s.size <= 200) : Calls Tryz.prog 75 #[.string s, .string ⟨#[32, 43, 32]⟩, .string ⟨#[32, 45, 32]⟩] w (RetParP w (parseR s.data.toList)) := by
 obtain ⟨r, hr⟩ : ∃ r, parseR s.data.toList = r := ⟨_, rfl⟩
 obtain ⟨R, hR⟩ : ∃ R, refO [] (pcR true [] s.data.toList) = R := ⟨_, rfl⟩
 have HNO : Hid (R = none -> r = none) := Lib.hid (fun h => by rw [<- hr, parseR_O, hR, h])
 have HSO : Hid (∀ l, R = some l -> r = if fmtP l = s.data.toList then some l else none) := Lib.hid (fun l h => by rw [<- hr, parseR_O, hR, h])
 rw [hr]
 clear hr
 obtain ⟨ps, hps⟩ : ∃ ps, pcR true [] s.data.toList = ps := ⟨_, rfl⟩
 have hle := pcR_le _ true [] s.data.toList (Nat.le_refl _)
 have hsl : s.data.toList.length = s.size := by rw [Array.length_toList]; rfl
 have HPL : Hid (∀ x ∈ ps, x.length <= 200) := Lib.hid (fun x hx => by
  rw [<- hps] at hx
  have := hle.1 x hx
  rw [List.length_nil] at this
  omega)
 have HPN : Hid (ps.length <= 201) := Lib.hid (by rw [<- hps]; have := hle.2; omega)
 rw [hps] at hR
 have HRO0 := Lib.hid hR
 have hz : ¬ (16384 : Int) < (s.size : Int) := by omega
 have HSZ := Lib.hid hs
 have HPS := Lib.hid hps
 clear hle hsl hR hs hps
 go_enter Tryz.func75, Tryz.ntmps75
 go_wp2_with fail
 refine (r2_pieces s w (by have := HSZ.out; omega)).mono ?_
 rintro e1 w1 ⟨v9, rfl, hrow, hb1⟩
 rw [HPS.out] at hrow
 obtain ⟨A9, c9, rfl, hrd⟩ := Rd.of_own hrow
 have HN1 : Hid (Names w1 (bsL ps) A9 (bsL ps).length c9) := Lib.hid hrd
 rw [bsL_len] at HN1 ⊢
 have HB1 := Lib.hid hb1
 clear hrow hrd hb1 HPS hz
 go_wp2_with fail
 go_loopw [8, 10] (fun pv iv wr => ∃ (k : Nat) (l : List Mon), iv = .int .i64 (k : Int) /\ k <= ps.length /\ Hid (Pol wr pv l) /\ Hid (VP l) /\ Hid (SzL l (1 + 24 * k)) /\ Hid (refO l (ps.drop k) = R) /\ Hid (Names wr (bsL ps) A9 ps.length c9) /\ Hid (Below w.heap.size w wr)) (fun _ iv _ => (ps.length - intOf iv).toNat)
 case atStart => exact ⟨0, [], rfl, Nat.zero_le _, Lib.hid (Pol.nil _ _ _), Lib.hid ⟨fun _ h => by simp at h, List.Pairwise.nil⟩, Lib.hid (fun _ h => by simp at h), HRO0, HN1, HB1⟩
 case round =>
  clear HRO0 HN1 HB1
  obtain ⟨k, l, rfl, hk, HP, HV, HS, HRO, HN, HB⟩ := hrel
  have hpn := HPN.out
  by_cases hkn : k < ps.length
  ·obtain ⟨b, o, hA, hblt, hc⟩ := HN.out.at_ hkn
   subst hA
   obtain ⟨x, hx⟩ : ∃ x, ps[k]? = some x := ⟨ps[k], List.getElem?_eq_getElem hkn⟩
   have hgd : (bsL ps).getD k ByteArray.empty = ⟨x.toArray⟩ := by
    unfold bsL; rw [List.getD_eq_getElem?_getD, List.getElem?_map, hx]; rfl
   rw [hgd] at hc
   obtain ⟨t, ht⟩ : ∃ t : ByteArray, (⟨x.toArray⟩ : ByteArray) = t := ⟨_, rfl⟩
   have htd : t.data.toList = x := by rw [<- ht]
   rw [ht] at hc
   have hxl : x.length <= 200 := HPL.out x (List.mem_of_getElem? hx)
   have htz : t.size <= 90000 := by
    have h9 : t.data.toList.length = t.size := by rw [Array.length_toList]; rfl
    rw [htd] at h9
    omega
   have hpx : ps[k] = x := Option.some.inj ((List.getElem?_eq_getElem hkn).symm.trans hx)
   have hdr : ps.drop k = x :: ps.drop (k + 1) := by rw [List.drop_eq_getElem_cons hkn, hpx]
   obtain ⟨rm, hrm⟩ : ∃ rm, refM x = rm := ⟨_, rfl⟩
   have HM : Hid (refM t.data.toList = rm) := Lib.hid (by rw [htd]; exact hrm)
   have HX := Lib.hid hrm
   have HXL := Lib.hid hxl
   have HD : Hid (refO l (x :: ps.drop (k + 1)) = R) := Lib.hid (by rw [<- hdr]; exact HRO.out)
   have hlt : (k : Int) < (ps.length : Int) := by omega
   have hw1 : IntKind.i64.wrap ((k : Int) + 1) = (k : Int) + 1 := IntWalk.i64_in _ (by omega)
   clear hgd ht htd hxl hpx hdr hrm hx
   go_wp2_with fail
   refine (r2_parse t wr htz rm HM).mono ?_
   rintro e2 w2 ⟨z, nb, A, n, c, B, m, kk, rfl, hres, hb2⟩
   have HRES := Lib.hid hres
   have HB2 := Lib.hid hb2
   clear hres hb2 hc
   cases rm with
   | none =>
     have HN0 : Hid (r = none) := Lib.hid (HNO.out (by rw [<- HD.out, refO_none HX.out]))
     obtain ⟨hb6, c6⟩ := blk1 w2 (mv z nb A n c B m kk) MT
     have HBE := Lib.hid ((HB.out.trans (HB2.out.mono HB.out.size)).trans (hb6.mono (Nat.le_trans HB.out.size HB2.out.size)))
     clear hb6 c6
     go_wp2_with fail
     refine bodyPost_ret (results_tmp2 rfl _ _ _) rfl ?_
     rw [HN0.out]
     exact ⟨_, rfl, fun _ => rfl, nofun, HBE.out⟩
   | some m0 =>
     obtain ⟨e, q⟩ := m0
     obtain ⟨rfl, hq⟩ := HRES.out (rawOf (e, q)) rfl
     obtain ⟨hb6, c6⟩ := blk1 w2 (mv (rawOf (e, q)).1 nb A n c B m kk) MT
     obtain ⟨y0, y1, y2, y3, y4, y5⟩ := c6.c6
     have hb26 := HB2.out.trans (hb6.mono HB2.out.size)
     have HBE := Lib.hid (HB.out.trans (hb26.mono HB.out.size))
     have HPE := Lib.hid (HP.out.below hb26)
     have HQE := Lib.hid (hq.below hb6)
     have HNE := Lib.hid (HN.out.below hb26)
     have HQS : Hid (Sz q 23) := Lib.hid (refM_small (by have := HXL.out; omega) HX.out)
     have HDE : Hid (refO (listOf (addAt (co l) e q)) (ps.drop (k + 1)) = R) := Lib.hid (by rw [<- HD.out, refO_some HX.out])
     clear hb6 c6 hb26 hq HRES HB2
     go_wp2_with fail
     generalize hW6 : World.alloc w2 _ = W6 at HBE HPE HQE HNE y0 y1 y2 y3 y4 y5 ⊢
     refine (r2_put _ l e q nb A B n c m kk W6 HPE.out HV.out (HS.out.mono (by omega)) HQE.out (HQS.out.mono (by omega))).mono ?_
     rintro e3 w3 ⟨v3, rfl, hp3, hb3⟩
     have HP3 := Lib.hid hp3
     have HB3 := Lib.hid (HBE.out.trans (hb3.mono HBE.out.size))
     have HN3 := Lib.hid (HNE.out.below hb3)
     have HS3 : Hid (SzL (listOf (addAt (co l) e q)) (1 + 24 * (k + 1))) := Lib.hid ((szL_put HV.out (by omega) HS.out HQS.out).mono (by omega))
     clear hp3 hb3 hW6 y0 y1 y2 y3 y4 y5
     go_wp2_with fail
     go_roundw
     case rel => exact ⟨k + 1, _, congrArg (Value.int _) (by omega), hkn, HP3, Lib.hid (vp_listOf _), HS3, HDE, HN3, HB3⟩
     case measure => simp [intOf]; omega
  ·have hk2 : k = ps.length := by omega
   have hlt : ¬ (k : Int) < (ps.length : Int) := by omega
   have HR1 : Hid (R = some l) := Lib.hid (by rw [<- HRO.out, List.drop_eq_nil_of_le (by omega), refO_nil HV.out])
   have HS5 : Hid (SzL l 5000) := Lib.hid (HS.out.mono (by omega))
   have hst := HSO.out l HR1.out
   have HSTR := Lib.hid hst
   clear hst HRO hk2 hkn
   go_wp2_with fail
   refine (r2_write _ l wr HP.out HV.out HS5.out).mono ?_
   rintro e4 w4 ⟨rfl, hb4⟩
   have HB4 := Lib.hid (HB.out.trans (hb4.mono HB.out.size))
   have HP4 := Lib.hid (HP.out.below hb4)
   clear hb4
   obtain ⟨T, hTt⟩ : ∃ T : ByteArray, (⟨(fmtP l).toArray⟩ : ByteArray) = T := ⟨_, rfl⟩
   have HTT : Hid (T.data.toList = fmtP l) := Lib.hid (by rw [<- hTt])
   rw [hTt]
   clear hTt
   by_cases hf : fmtP l = s.data.toList
   ·have hq : (T.toList == s.toList) = true := by rw [toList_neq, HTT.out]; simp [hf]
    have HN0 : Hid (r = some l) := Lib.hid (by rw [HSTR.out, if_pos hf])
    clear hf
    go_wp2_with fail
    refine bodyPost_ret (results_tmp2 rfl _ _ _) rfl ?_
    rw [HN0.out]
    exact ⟨_, rfl, nofun, fun x hx => by obtain rfl := Option.some.inj hx; exact HP4.out, HB4.out⟩
   ·have hq : (T.toList == s.toList) = false := by rw [toList_neq, HTT.out]; simp [hf]
    have HN0 : Hid (r = none) := Lib.hid (by rw [HSTR.out, if_neg hf])
    clear hf
    go_wp2_with fail
    refine bodyPost_ret (results_tmp2 rfl _ _ _) rfl ?_
    rw [HN0.out]
    exact ⟨_, rfl, fun _ => rfl, nofun, HB4.out⟩
theorem r2_Parse (s : ByteArray) (w : World) (hs : s.size <= 200) : Calls Tryz.prog 35 #[.string s] w (RetParP w (parseR s.data.toList)) := by
 go_enter Tryz.func35, Tryz.ntmps35
 go_wp2_with fail
 refine (r2_reads s w hs).mono ?_
 rintro e1 w1 ⟨v, rfl, h1, h2, h3⟩
 have H1 := Lib.hid h1
 have H2 := Lib.hid h2
 have H3 := Lib.hid h3
 clear h1 h2 h3
 go_wp2_with fail
 refine bodyPost_ret (results_tmp2 rfl _ _ _) rfl ?_
 exact ⟨_, rfl, H1.out, H2.out, H3.out⟩
theorem parseA_small {s : ByteArray} (h : s.size <= 200) : parseA s = parseP s.data.toList := by unfold parseA; rw [if_neg (by omega)]
theorem parse_same {s : ByteArray} (h : s.size <= 200) : parseP s.data.toList = parseR s.data.toList := parse_both fun l hv hf => small_text hv (by
 rw [hf, Array.length_toList]
 exact h)
theorem parseR_sz {s : ByteArray} (h : s.size <= 200) {l : List Mon} (hr : parseR s.data.toList = some l) : VP l /\ SzL l 100 /\ fmtP l = s.data.toList := by
 obtain ⟨h1, h2⟩ := parseR_sound hr
 exact ⟨h2, small_text h2 (by rw [h1, Array.length_toList]; exact h), h1⟩
theorem strs_same (T : ByteArray) : (T.toList == T.toList) = true := beq_self_eq_true _
theorem writes2_law (A1 : Option Addr) (n1 c1 : Nat) (l1 : List FldM) (s : ByteArray) (w : World) (hT : TxG w) (h1 : PRaw w A1 n1 c1 l1) :
 Calls Tryz.prog 6 #[.slice A1 n1 c1, .string s] w (RetV w (.bool true)) := by
 have HT := Lib.hid hT
 have H1 := Lib.hid h1
 obtain ⟨V1, hV1⟩ : ∃ V, lightL l1 = V := ⟨_, rfl⟩
 have HV1 := Lib.hid hV1
 clear hT h1 hV1
 go_enter Tryz.func6, Tryz.ntmps6
 go_wp2_with fail
 refine (light2_any A1 n1 c1 l1 w H1.out V1 HV1).mono ?_
 rintro e1 w1 ⟨rfl, hb1⟩
 have HB1 := Lib.hid hb1
 clear hb1
 cases V1
 ·go_wp2_with fail
  refine (awake2_any w1 (HT.out.below HB1.out).txt.f).mono ?_
  rintro e9 w9 ⟨rfl, hb9⟩
  have HB9 := Lib.hid (HB1.out.trans (hb9.mono HB1.out.size))
  clear hb9
  go_wp2_with fail
  go_ret
  exact ⟨rfl, HB9.out⟩
 by_cases hs : 200 < s.size
 ·have hsi : (200 : Int) < (s.size : Int) := by omega
  clear hs
  go_wp2_with fail
  refine (awake2_any w1 (HT.out.below HB1.out).txt.f).mono ?_
  rintro e9 w9 ⟨rfl, hb9⟩
  have HB9 := Lib.hid (HB1.out.trans (hb9.mono HB1.out.size))
  clear hb9
  go_wp2_with fail
  go_ret
  exact ⟨rfl, HB9.out⟩
 have hsi : ¬ (200 : Int) < (s.size : Int) := by omega
 have hs2 : s.size <= 200 := by omega
 obtain ⟨r, hr⟩ : ∃ r, parseR s.data.toList = r := ⟨_, rfl⟩
 have HC1 : Hid (∀ W, TxG W -> Calls Tryz.prog 34 #[.string s] W (RetParP W r)) := Lib.hid (fun W h => by
  have := pParse_any s W h
  rwa [parseA_small hs2, parse_same hs2, hr] at this)
 have HC2 : Hid (∀ W, Calls Tryz.prog 35 #[.string s] W (RetParP W r)) := Lib.hid (fun W => by
  have := r2_Parse s W hs2
  rwa [hr] at this)
 have HRS : Hid (∀ l, r = some l -> VP l /\ SzL l 100) := Lib.hid (fun l h => by
  have := parseR_sz hs2 (hr.trans h)
  exact ⟨this.1, this.2.1⟩)
 clear hr hs2 hs
 go_wp2_with fail
 refine (HC1.out w1 (HT.out.below HB1.out)).mono ?_
 rintro e2 w2 ⟨v5, rfl, hn5, hp5, hb2⟩
 have HB2 := Lib.hid (HB1.out.trans (hb2.mono HB1.out.size))
 have HN5 := Lib.hid hn5
 have HP5 := Lib.hid hp5
 clear hn5 hp5 hb2
 go_wp2_with fail
 refine (HC2.out w2).mono ?_
 rintro e3 w3 ⟨v7, rfl, hn7, hp7, hb3⟩
 have HB3 := Lib.hid (HB2.out.trans (hb3.mono HB2.out.size))
 obtain ⟨l, HL5, HL7⟩ : ∃ l, Hid (PS w3 v5 l) /\ Hid (PS w3 v7 l) := by
  cases r with
  | none =>
    obtain rfl := HN5.out rfl
    obtain rfl := hn7 rfl
    exact ⟨[], Lib.hid ⟨Pol.nil _ _ _, ⟨fun _ h => by simp at h, List.Pairwise.nil⟩, fun _ h => by simp at h⟩, Lib.hid ⟨Pol.nil _ _ _, ⟨fun _ h => by simp at h, List.Pairwise.nil⟩, fun _ h => by simp at h⟩⟩
  | some x =>
    obtain ⟨a, b⟩ := HRS.out x rfl
    exact ⟨x, Lib.hid ⟨(HP5.out x rfl).below hb3, a, b.mono (by omega)⟩, Lib.hid ⟨hp7 x rfl, a, b.mono (by omega)⟩⟩
 clear hn7 hp7 hb3 HN5 HP5
 go_wp2_with fail
 refine (awake2_any w3 (HT.out.below HB3.out).txt.f).mono ?_
 rintro e4 w4 ⟨rfl, hb4⟩
 have HB4 := Lib.hid (HB3.out.trans (hb4.mono HB3.out.size))
 have HL5b := Lib.hid (HL5.out.below hb4)
 have HL7b := Lib.hid (HL7.out.below hb4)
 clear hb4 HL5 HL7
 have HG := Lib.hid ((H1.out.below HB4.out).gp HV1.out)
 go_wp2_with fail
 refine (Format_p _ (polL l1) 2 w4 (HT.out.below HB4.out).txt.f HG.out.pi (by omega)).mono ?_
 rintro e5 w5 ⟨rfl, hb5⟩
 have HB5 := Lib.hid (HB4.out.trans (hb5.mono HB4.out.size))
 have HL5c := Lib.hid (HL5b.out.below hb5)
 have HL7c := Lib.hid (HL7b.out.below hb5)
 have HG5 := Lib.hid (HG.out.below hb5)
 obtain ⟨T, hTt⟩ : ∃ T : ByteArray, (⟨(fmtP (polL l1)).toArray⟩ : ByteArray) = T := ⟨_, rfl⟩
 rw [hTt]
 have HTT := Lib.hid hTt
 clear hb5 HL5b HL7b HG hTt
 go_wp2_with fail
 refine (r2_Format _ (polL l1) 2 w5 HG5.out.pir (by omega)).mono ?_
 rintro e6 w6 ⟨rfl, hb6⟩
 rw [HTT.out]
 have HB6 := Lib.hid (HB5.out.trans (hb6.mono HB5.out.size))
 have HL5d := Lib.hid (HL5c.out.below hb6)
 have HL7d := Lib.hid (HL7c.out.below hb6)
 have hqq := strs_same T
 clear hb6 HL5c HL7c
 go_wp2_with fail
 refine (Same_g v5 v7 l w6 HL5d.out HL7d.out).mono ?_
 rintro e7 w7 ⟨rfl, hb7⟩
 have HB7 := Lib.hid (HB6.out.trans (hb7.mono HB6.out.size))
 have hrr : (r.isSome == r.isSome) = true := beq_self_eq_true _
 clear hb7
 go_wp2_with fail
 go_ret
 exact ⟨rfl, HB7.out⟩
end Go.Proofs.YtifeekomegoijaaGreatDoor
