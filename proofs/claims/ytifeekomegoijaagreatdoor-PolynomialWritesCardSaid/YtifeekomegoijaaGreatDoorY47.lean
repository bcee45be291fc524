import Derived.Test.YtifeekomegoijaaGreatDoorY31
import Derived.Deep.CutBlock
set_option linter.unusedVariables false
set_option linter.unusedSimpArgs false
set_option maxRecDepth 20000
set_option maxHeartbeats 4000000
namespace Go.Proofs.YtifeekomegoijaaGreatDoor
open Go.RowKit
def comb (neg : Bool) (a b : Option Nat) : Option Rat :=
 match a, b with
 | some n, some d => if d = 0 then none else some (qv neg n d)
 | _, _ => none
def parseT (neg : Bool) (l : List UInt8) : Option Rat :=
 match readDec (Lib.cut l [47]).1 with
 | none => none
 | some n => if (Lib.cut l [47]).2.2 then (match readDec (Lib.cut l [47]).2.1 with | none => none | some d => if d = 0 then none else some (qv neg n d)) else some (qv neg n 1)
theorem parseT_miss (neg : Bool) (l : List UInt8) (h : ∀ c ∈ l, c ≠ 47) : parseT neg l = comb neg (readDec l) (readDec [49]) := by
 unfold parseT
 rw [cut_miss47 l h]
 have h1 : readDec [49] = some 1 := by decide
 rw [h1]
 cases hr : readDec l with
 | none => rfl
 | some n => simp [comb]
theorem parseT_hit (neg : Bool) (l r : List UInt8) (h : ∀ c ∈ l, c ≠ 47) : parseT neg (l ++ 47 :: r) = comb neg (readDec l) (readDec r) := by
 unfold parseT
 rw [cut_hit47 l r h]
 cases hr : readDec l with
 | none => rfl
 | some n => 
   cases hr2 : readDec r with
   | none => rfl
   | some d => rfl
theorem parseQ_minus (l : List UInt8) : parseQ (45 :: l) = parseT true l := by
 unfold parseQ Lib.trimPrefix
 rw [prefix_yes]
 rfl
theorem parseQ_plain (l : List UInt8) (h : l.getD 0 0 ≠ 45) : parseQ l = parseT false l := by
 have hp : Lib.hasPrefix l [45] = false := by
  cases l with
  | nil => rfl
  | cons b l =>
    have hne : (45 == b) = false := beq_eq_false_iff_ne.2 (fun e => h e.symm)
    simp [Lib.hasPrefix, List.isPrefixOf, hne]
 unfold parseQ Lib.trimPrefix
 rw [hp]
 rfl
theorem split_atS (s : ByteArray) (k : Nat) (h : k < s.size) : s.data.toList = s.data.toList.take k ++ s[k] :: s.data.toList.drop (k + 1) := by
 have h2 : k < s.data.toList.length := by rw [Array.length_toList]; exact h
 conv => lhs; rw [<- List.take_append_drop k s.data.toList, List.drop_eq_getElem_cons h2]
 rfl
theorem ext_zero (s : ByteArray) (a : Nat) : (s.extract 0 a).data.toList = s.data.toList.take a := by
 rw [Lib.extract_eq]; simp
theorem r_Parse (s : ByteArray) (w : World) (hs : s.size <= 1000000) (r : Option Rat) (hr : Hid (parseQ s.data.toList = r)) :
 Calls Tryz.prog 145 #[.string s] w (RetParse w r) := by
 have hw : (∃ h : 0 < s.size, ((s[0].toNat : Int) == 45) = true /\ parseT true (s.extract 1 s.size).data.toList = r) \/ (∃ h : 0 < s.size, ((s[0].toNat : Int) == 45) = false /\ parseT false s.data.toList = r) \/ (s.size = 0 /\ parseT false s.data.toList = r) := by
  by_cases h0 : 0 < s.size
  ·have hsp := split_atS s 0 h0
   by_cases h45 : s[0] = 45
   ·refine .inl ⟨h0, by rw [h45]; rfl, ?_⟩
    rw [<- hr.out, Lib.extract_to_end]
    conv => rhs; rw [hsp, h45, List.take_zero, List.nil_append, parseQ_minus]
   ·refine .inr (.inl ⟨h0, ?_, ?_⟩)
    ·rw [beq_eq_false_iff_ne]
     intro e
     exact h45 (by apply UInt8.toNat.inj; show _ = 45; omega)
    ·rw [<- hr.out, parseQ_plain]
     rw [hsp]
     exact h45
  ·refine .inr (.inr ⟨by omega, ?_⟩)
   have hl : s.data.toList = [] := List.eq_nil_of_length_eq_zero (by rw [Array.length_toList]; show s.size = 0; omega)
   rw [<- hr.out, hl]; rfl
 clear hr
 have hbA : Below w.heap.size w (w.alloc R0) := (Below.refl _ _).alloc (Nat.le_refl _) _
 have hrr := Rc.new w (.bool false) (.slice none 0 0) (.slice none 0 0)
 rcases hw with ⟨h0, hb, hP⟩ | ⟨h0, hb, hP⟩ | ⟨h0, hP⟩
 ·have HP := Lib.hid hP
  have hts : (s.extract 1 s.size).size <= 1000000 := by rw [ByteArray.size_extract]; omega
  clear hP
  go_enter Tryz.func145, Tryz.ntmps145
  go_upto_block 0 with (fail)
  clear hb
  generalize s.extract 1 s.size = t at *
  generalize w.alloc R0 = W at *
  have hlen : t.data.toList.length = t.size := by rw [Array.length_toList]; rfl
  have HLN := Lib.hid hlen
  clear hlen
  go_cut [5, 6] from 24 to 40 (fun sn sd wx => ∃ n d : ByteArray, sn = .string n /\ sd = .string d /\ n.size <= 1000000 /\ d.size <= 1000000 /\ Below w.heap.size w wx /\ Rc wx w.heap.size (.bool false) (.slice none 0 0) (.slice none 0 0) /\ Hid (comb true (readDec n.data.toList) (readDec d.data.toList) = r))
  case first =>
   go_wp2_with fail
   go_loopg [5, 6, 7] t.size (fun g s5 s6 si wr => ∃ k : Nat, k <= t.size /\ si = .int .i64 k /\ s5 = .string t /\ s6 = .string ⟨#[49]⟩ /\ W = wr /\ t.size - k <= g /\ Hid (∀ c ∈ t.data.toList.take k, c ≠ 47))
   case atStart => exact ⟨0, Nat.zero_le _, rfl, rfl, rfl, rfl, Nat.sub_le _ _, fun c hc => by simp at hc⟩
   case round =>
    obtain ⟨k, hk, rfl, rfl, rfl, rfl, hg, HK⟩ := hrel
    by_cases hkn : k < t.size
    ·have hc8 : t[k].toNat < 256 := t[k].toNat_lt
     have hsp := split_atS t k hkn
     by_cases h47 : t[k] = 47
     ·have hb47 : ((t[k].toNat : Int) == 47) = true := by rw [h47]; rfl
      have hw1 : IntKind.i64.wrap ((k : Int) + 1) = (k : Int) + 1 := IntWalk.i64_in _ (by omega)
      have hw2 : (0 : Int) <= (k : Int) + 1 := by omega
      have hw3 : ((k : Int) + 1).toNat = k + 1 := by omega
      have hw4 : k + 1 <= t.size := hkn
      have hn1 : (t.extract 0 k).size <= 1000000 := by rw [ByteArray.size_extract]; omega
      have hn2 : (t.extract (k + 1) t.size).size <= 1000000 := by rw [ByteArray.size_extract]; omega
      have HC : Hid (comb true (readDec (t.extract 0 k).data.toList) (readDec (t.extract (k + 1) t.size).data.toList) = r) := by
       show _ = _
       rw [ext_zero, Lib.extract_to_end, <- parseT_hit true _ _ HK.out]
       rw [h47] at hsp
       rw [<- hsp]
       exact HP.out
      clear hsp h47
      go_wp2_with fail
      go_region
      all_goals
       go_wp2_with fail
       go_meet
       case rel => exact ⟨_, _, rfl, rfl, hn1, hn2, hbA.drew, hrr.drewN 1, HC⟩
     ·have hb47 : ((t[k].toNat : Int) == 47) = false := by
       rw [beq_eq_false_iff_ne]
       intro e
       exact h47 (by apply UInt8.toNat.inj; show _ = 47; omega)
      have HK2 : Hid (∀ c ∈ t.data.toList.take (k + 1), c ≠ 47) := by
       show ∀ _, _
       intro c hc
       rw [List.take_succ_eq_append_getElem (by simpa using hkn)] at hc
       rcases List.mem_append.1 hc with hc | hc
       ·exact HK.out c hc
       ·have : c = t[k] := List.mem_singleton.1 hc
        rw [this]; exact h47
      clear hsp h47
      go_wp2_with fail
      go_roundg (t.size - (k + 1))
      case rel => exact ⟨k + 1, hkn, by go_num, rfl, rfl, rfl, Nat.le_refl _, HK2⟩
      case measure => omega
    ·have HC : Hid (comb true (readDec t.data.toList) (readDec (⟨#[49]⟩ : ByteArray).data.toList) = r) := by
      show _ = _
      have h1 := HK.out
      rw [List.take_of_length_le (by rw [HLN.out]; omega)] at h1
      show comb true (readDec t.data.toList) (readDec [49]) = r
      rw [<- parseT_miss true _ h1]
      exact HP.out
     go_wp2_with fail
     go_meet
     case rel => exact ⟨t, ⟨#[49]⟩, rfl, rfl, hts, by decide, hbA, hrr, HC⟩
  case rest =>
   obtain ⟨n, d, rfl, rfl, hn, hd, hbb, hrc, HC⟩ := hcut
   clear hrr hbA HP HLN
   go_wp2_with fail
   obtain ⟨ra, hra⟩ : ∃ ra, readDec n.data.toList = ra := ⟨_, rfl⟩
   obtain ⟨rb, hrb⟩ : ∃ rb, readDec d.data.toList = rb := ⟨_, rfl⟩
   have hC := HC.out
   rw [hra, hrb] at hC
   have HRA := Lib.hid hra
   have HRB := Lib.hid hrb
   have HC2 := Lib.hid hC
   clear hra hrb hC HC
   refine (r_read n _ ra HRA hn).mono ?_
   rintro e w2 ⟨A, k1, c1, rfl, h1, hk1, hb1⟩
   go_wp2_with fail
   refine (r_read d _ rb HRB hd).mono ?_
   rintro e w3 ⟨A', k2, c2, rfl, h2, hk2, hb2⟩
   have h1' := h1.below hb2
   have hb13 := hb1.trans (hb2.mono hb1.size)
   have hrc3 := hrc.below hb13 hrc.lt
   have hb03 := hbb.trans (hb13.mono hbb.size)
   clear h1 hb1 hb2 hb13 hrc hbb HRA HRB
   obtain ⟨k0', k1', k2'⟩ := hrc3.cells
   obtain ⟨f0, f1, f2⟩ := hrc3.frozen
   cases ra with
   | none =>
     have HE : Hid (r = none) := by show _ = _; rw [<- HC2.out]; rfl
     clear HC2
     go_wp2_with fail
     refine ret_rc_tmp Tryz.results145 rfl rfl (hrc3.set _ _ _) rfl ?_
     rw [HE.out]
     exact ⟨_, rfl, ratq_zero _, below_set3 hb03 (Nat.le_refl _) _ _ _⟩
   | some a =>
     cases rb with
     | none =>
       have HE : Hid (r = none) := by show _ = _; rw [<- HC2.out]; rfl
       clear HC2
       go_wp2_with fail
       refine ret_rc_tmp Tryz.results145 rfl rfl (hrc3.set _ _ _) rfl ?_
       rw [HE.out]
       exact ⟨_, rfl, ratq_zero _, below_set3 hb03 (Nat.le_refl _) _ _ _⟩
     | some b =>
       have h1b : Num w3 (limbs a) A k1 c1 := h1'
       have h2b : Num w3 (limbs b) A' k2 c2 := h2
       have hz : k2 = 0 ↔ b = 0 := by rw [h2b.len]; exact limbs_length_zero
       clear h1' h2
       by_cases hk0 : k2 = 0
       ·have HE : Hid (r = none) := by show _ = _; rw [<- HC2.out]; unfold comb; simp only; rw [if_pos (hz.1 hk0)]
        subst hk0
        clear HC2 hz
        go_wp2_with fail
        refine ret_rc_tmp Tryz.results145 rfl rfl (hrc3.set _ _ _) rfl ?_
        rw [HE.out]
        exact ⟨_, rfl, ratq_zero _, below_set3 hb03 (Nat.le_refl _) _ _ _⟩
       ·have hb0 : b ≠ 0 := fun h => hk0 (hz.2 h)
        have HE : Hid (r = some (qv true a b)) := by show _ = _; rw [<- HC2.out]; unfold comb; simp only; rw [if_neg hb0]
        have hne : ((k2 : Int) == 0) = false := by rw [beq_eq_false_iff_ne]; omega
        obtain ⟨j1, j2, j3⟩ := qv_reduce true (a := a) hb0
        have HJ := Lib.hid (And.intro j1 (And.intro j2 j3))
        have HB0 := Lib.hid hb0
        clear HC2 hz hb0 hk0 j1 j2 j3
        go_wp2_with fail
        refine (r_over true _ _ _ _ _ _ a b _ h1b h2b (by omega) (by omega) HB0.out).mono ?_
        rintro e w6 hr
        obtain ⟨v6, rfl, h6, hb6⟩ := RetFrac.rat HJ.out.2.1 HJ.out.2.2 HJ.out.1 hr
        have hrc6 := hrc3.below hb6 hrc3.lt
        obtain ⟨nb, A6, n6, c6, B6, m6, e6, rfl⟩ := h6.agg
        clear k0' k1' k2' f0 f1 f2
        obtain ⟨k0', k1', k2'⟩ := hrc6.cells
        obtain ⟨f0, f1, f2⟩ := hrc6.frozen
        go_wp2_with fail
        refine ret_rc_tmp Tryz.results145 rfl rfl (hrc6.set _ _ _) rfl ?_
        rw [HE.out]
        exact ⟨_, rfl, h6.set3 hrc6 _ _ _, below_set3 (hb03.trans (hb6.mono hb03.size)) (Nat.le_refl _) _ _ _⟩
 ·have HP := Lib.hid hP
  have hts := hs
  clear hP
  go_enter Tryz.func145, Tryz.ntmps145
  go_upto_block 0 with (fail)
  clear hb
  generalize s = t at *
  generalize w.alloc R0 = W at *
  have hlen : t.data.toList.length = t.size := by rw [Array.length_toList]; rfl
  have HLN := Lib.hid hlen
  clear hlen
  go_cut [5, 6] from 24 to 40 (fun sn sd wx => ∃ n d : ByteArray, sn = .string n /\ sd = .string d /\ n.size <= 1000000 /\ d.size <= 1000000 /\ Below w.heap.size w wx /\ Rc wx w.heap.size (.bool false) (.slice none 0 0) (.slice none 0 0) /\ Hid (comb false (readDec n.data.toList) (readDec d.data.toList) = r))
  case first =>
   go_wp2_with fail
   go_loopg [5, 6, 7] t.size (fun g s5 s6 si wr => ∃ k : Nat, k <= t.size /\ si = .int .i64 k /\ s5 = .string t /\ s6 = .string ⟨#[49]⟩ /\ W = wr /\ t.size - k <= g /\ Hid (∀ c ∈ t.data.toList.take k, c ≠ 47))
   case atStart => exact ⟨0, Nat.zero_le _, rfl, rfl, rfl, rfl, Nat.sub_le _ _, fun c hc => by simp at hc⟩
   case round =>
    obtain ⟨k, hk, rfl, rfl, rfl, rfl, hg, HK⟩ := hrel
    by_cases hkn : k < t.size
    ·have hc8 : t[k].toNat < 256 := t[k].toNat_lt
     have hsp := split_atS t k hkn
     by_cases h47 : t[k] = 47
     ·have hb47 : ((t[k].toNat : Int) == 47) = true := by rw [h47]; rfl
      have hw1 : IntKind.i64.wrap ((k : Int) + 1) = (k : Int) + 1 := IntWalk.i64_in _ (by omega)
      have hw2 : (0 : Int) <= (k : Int) + 1 := by omega
      have hw3 : ((k : Int) + 1).toNat = k + 1 := by omega
      have hw4 : k + 1 <= t.size := hkn
      have hn1 : (t.extract 0 k).size <= 1000000 := by rw [ByteArray.size_extract]; omega
      have hn2 : (t.extract (k + 1) t.size).size <= 1000000 := by rw [ByteArray.size_extract]; omega
      have HC : Hid (comb false (readDec (t.extract 0 k).data.toList) (readDec (t.extract (k + 1) t.size).data.toList) = r) := by
       show _ = _
       rw [ext_zero, Lib.extract_to_end, <- parseT_hit false _ _ HK.out]
       rw [h47] at hsp
       rw [<- hsp]
       exact HP.out
      clear hsp h47
      go_wp2_with fail
      go_region
      all_goals
       go_wp2_with fail
       go_meet
       case rel => exact ⟨_, _, rfl, rfl, hn1, hn2, hbA.drew, hrr.drewN 1, HC⟩
     ·have hb47 : ((t[k].toNat : Int) == 47) = false := by
       rw [beq_eq_false_iff_ne]
       intro e
       exact h47 (by apply UInt8.toNat.inj; show _ = 47; omega)
      have HK2 : Hid (∀ c ∈ t.data.toList.take (k + 1), c ≠ 47) := by
       show ∀ _, _
       intro c hc
       rw [List.take_succ_eq_append_getElem (by simpa using hkn)] at hc
       rcases List.mem_append.1 hc with hc | hc
       ·exact HK.out c hc
       ·have : c = t[k] := List.mem_singleton.1 hc
        rw [this]; exact h47
      clear hsp h47
      go_wp2_with fail
      go_roundg (t.size - (k + 1))
      case rel => exact ⟨k + 1, hkn, by go_num, rfl, rfl, rfl, Nat.le_refl _, HK2⟩
      case measure => omega
    ·have HC : Hid (comb false (readDec t.data.toList) (readDec (⟨#[49]⟩ : ByteArray).data.toList) = r) := by
      show _ = _
      have h1 := HK.out
      rw [List.take_of_length_le (by rw [HLN.out]; omega)] at h1
      show comb false (readDec t.data.toList) (readDec [49]) = r
      rw [<- parseT_miss false _ h1]
      exact HP.out
     go_wp2_with fail
     go_meet
     case rel => exact ⟨t, ⟨#[49]⟩, rfl, rfl, hts, by decide, hbA, hrr, HC⟩
  case rest =>
   obtain ⟨n, d, rfl, rfl, hn, hd, hbb, hrc, HC⟩ := hcut
   clear hrr hbA HP HLN
   go_wp2_with fail
   obtain ⟨ra, hra⟩ : ∃ ra, readDec n.data.toList = ra := ⟨_, rfl⟩
   obtain ⟨rb, hrb⟩ : ∃ rb, readDec d.data.toList = rb := ⟨_, rfl⟩
   have hC := HC.out
   rw [hra, hrb] at hC
   have HRA := Lib.hid hra
   have HRB := Lib.hid hrb
   have HC2 := Lib.hid hC
   clear hra hrb hC HC
   refine (r_read n _ ra HRA hn).mono ?_
   rintro e w2 ⟨A, k1, c1, rfl, h1, hk1, hb1⟩
   go_wp2_with fail
   refine (r_read d _ rb HRB hd).mono ?_
   rintro e w3 ⟨A', k2, c2, rfl, h2, hk2, hb2⟩
   have h1' := h1.below hb2
   have hb13 := hb1.trans (hb2.mono hb1.size)
   have hrc3 := hrc.below hb13 hrc.lt
   have hb03 := hbb.trans (hb13.mono hbb.size)
   clear h1 hb1 hb2 hb13 hrc hbb HRA HRB
   obtain ⟨k0', k1', k2'⟩ := hrc3.cells
   obtain ⟨f0, f1, f2⟩ := hrc3.frozen
   cases ra with
   | none =>
     have HE : Hid (r = none) := by show _ = _; rw [<- HC2.out]; rfl
     clear HC2
     go_wp2_with fail
     refine ret_rc_tmp Tryz.results145 rfl rfl (hrc3.set _ _ _) rfl ?_
     rw [HE.out]
     exact ⟨_, rfl, ratq_zero _, below_set3 hb03 (Nat.le_refl _) _ _ _⟩
   | some a =>
     cases rb with
     | none =>
       have HE : Hid (r = none) := by show _ = _; rw [<- HC2.out]; rfl
       clear HC2
       go_wp2_with fail
       refine ret_rc_tmp Tryz.results145 rfl rfl (hrc3.set _ _ _) rfl ?_
       rw [HE.out]
       exact ⟨_, rfl, ratq_zero _, below_set3 hb03 (Nat.le_refl _) _ _ _⟩
     | some b =>
       have h1b : Num w3 (limbs a) A k1 c1 := h1'
       have h2b : Num w3 (limbs b) A' k2 c2 := h2
       have hz : k2 = 0 ↔ b = 0 := by rw [h2b.len]; exact limbs_length_zero
       clear h1' h2
       by_cases hk0 : k2 = 0
       ·have HE : Hid (r = none) := by show _ = _; rw [<- HC2.out]; unfold comb; simp only; rw [if_pos (hz.1 hk0)]
        subst hk0
        clear HC2 hz
        go_wp2_with fail
        refine ret_rc_tmp Tryz.results145 rfl rfl (hrc3.set _ _ _) rfl ?_
        rw [HE.out]
        exact ⟨_, rfl, ratq_zero _, below_set3 hb03 (Nat.le_refl _) _ _ _⟩
       ·have hb0 : b ≠ 0 := fun h => hk0 (hz.2 h)
        have HE : Hid (r = some (qv false a b)) := by show _ = _; rw [<- HC2.out]; unfold comb; simp only; rw [if_neg hb0]
        have hne : ((k2 : Int) == 0) = false := by rw [beq_eq_false_iff_ne]; omega
        obtain ⟨j1, j2, j3⟩ := qv_reduce false (a := a) hb0
        have HJ := Lib.hid (And.intro j1 (And.intro j2 j3))
        have HB0 := Lib.hid hb0
        clear HC2 hz hb0 hk0 j1 j2 j3
        go_wp2_with fail
        refine (r_over false _ _ _ _ _ _ a b _ h1b h2b (by omega) (by omega) HB0.out).mono ?_
        rintro e w6 hr
        obtain ⟨v6, rfl, h6, hb6⟩ := RetFrac.rat HJ.out.2.1 HJ.out.2.2 HJ.out.1 hr
        have hrc6 := hrc3.below hb6 hrc3.lt
        obtain ⟨nb, A6, n6, c6, B6, m6, e6, rfl⟩ := h6.agg
        clear k0' k1' k2' f0 f1 f2
        obtain ⟨k0', k1', k2'⟩ := hrc6.cells
        obtain ⟨f0, f1, f2⟩ := hrc6.frozen
        go_wp2_with fail
        refine ret_rc_tmp Tryz.results145 rfl rfl (hrc6.set _ _ _) rfl ?_
        rw [HE.out]
        exact ⟨_, rfl, h6.set3 hrc6 _ _ _, below_set3 (hb03.trans (hb6.mono hb03.size)) (Nat.le_refl _) _ _ _⟩
 ·have HP := Lib.hid hP
  have hd0 : ¬ 0 < s.size := by omega
  have hts := hs
  clear hP
  go_enter Tryz.func145, Tryz.ntmps145
  go_upto_block 0 with (fail)
  clear hd0 h0
  generalize s = t at *
  generalize w.alloc R0 = W at *
  have hlen : t.data.toList.length = t.size := by rw [Array.length_toList]; rfl
  have HLN := Lib.hid hlen
  clear hlen
  go_cut [5, 6] from 24 to 40 (fun sn sd wx => ∃ n d : ByteArray, sn = .string n /\ sd = .string d /\ n.size <= 1000000 /\ d.size <= 1000000 /\ Below w.heap.size w wx /\ Rc wx w.heap.size (.bool false) (.slice none 0 0) (.slice none 0 0) /\ Hid (comb false (readDec n.data.toList) (readDec d.data.toList) = r))
  case first =>
   go_wp2_with fail
   go_loopg [5, 6, 7] t.size (fun g s5 s6 si wr => ∃ k : Nat, k <= t.size /\ si = .int .i64 k /\ s5 = .string t /\ s6 = .string ⟨#[49]⟩ /\ W = wr /\ t.size - k <= g /\ Hid (∀ c ∈ t.data.toList.take k, c ≠ 47))
   case atStart => exact ⟨0, Nat.zero_le _, rfl, rfl, rfl, rfl, Nat.sub_le _ _, fun c hc => by simp at hc⟩
   case round =>
    obtain ⟨k, hk, rfl, rfl, rfl, rfl, hg, HK⟩ := hrel
    by_cases hkn : k < t.size
    ·have hc8 : t[k].toNat < 256 := t[k].toNat_lt
     have hsp := split_atS t k hkn
     by_cases h47 : t[k] = 47
     ·have hb47 : ((t[k].toNat : Int) == 47) = true := by rw [h47]; rfl
      have hw1 : IntKind.i64.wrap ((k : Int) + 1) = (k : Int) + 1 := IntWalk.i64_in _ (by omega)
      have hw2 : (0 : Int) <= (k : Int) + 1 := by omega
      have hw3 : ((k : Int) + 1).toNat = k + 1 := by omega
      have hw4 : k + 1 <= t.size := hkn
      have hn1 : (t.extract 0 k).size <= 1000000 := by rw [ByteArray.size_extract]; omega
      have hn2 : (t.extract (k + 1) t.size).size <= 1000000 := by rw [ByteArray.size_extract]; omega
      have HC : Hid (comb false (readDec (t.extract 0 k).data.toList) (readDec (t.extract (k + 1) t.size).data.toList) = r) := by
       show _ = _
       rw [ext_zero, Lib.extract_to_end, <- parseT_hit false _ _ HK.out]
       rw [h47] at hsp
       rw [<- hsp]
       exact HP.out
      clear hsp h47
      go_wp2_with fail
      go_region
      all_goals
       go_wp2_with fail
       go_meet
       case rel => exact ⟨_, _, rfl, rfl, hn1, hn2, hbA.drew, hrr.drewN 1, HC⟩
     ·have hb47 : ((t[k].toNat : Int) == 47) = false := by
       rw [beq_eq_false_iff_ne]
       intro e
       exact h47 (by apply UInt8.toNat.inj; show _ = 47; omega)
      have HK2 : Hid (∀ c ∈ t.data.toList.take (k + 1), c ≠ 47) := by
       show ∀ _, _
       intro c hc
       rw [List.take_succ_eq_append_getElem (by simpa using hkn)] at hc
       rcases List.mem_append.1 hc with hc | hc
       ·exact HK.out c hc
       ·have : c = t[k] := List.mem_singleton.1 hc
        rw [this]; exact h47
      clear hsp h47
      go_wp2_with fail
      go_roundg (t.size - (k + 1))
      case rel => exact ⟨k + 1, hkn, by go_num, rfl, rfl, rfl, Nat.le_refl _, HK2⟩
      case measure => omega
    ·have HC : Hid (comb false (readDec t.data.toList) (readDec (⟨#[49]⟩ : ByteArray).data.toList) = r) := by
      show _ = _
      have h1 := HK.out
      rw [List.take_of_length_le (by rw [HLN.out]; omega)] at h1
      show comb false (readDec t.data.toList) (readDec [49]) = r
      rw [<- parseT_miss false _ h1]
      exact HP.out
     go_wp2_with fail
     go_meet
     case rel => exact ⟨t, ⟨#[49]⟩, rfl, rfl, hts, by decide, hbA, hrr, HC⟩
  case rest =>
   obtain ⟨n, d, rfl, rfl, hn, hd, hbb, hrc, HC⟩ := hcut
   clear hrr hbA HP HLN
   go_wp2_with fail
   obtain ⟨ra, hra⟩ : ∃ ra, readDec n.data.toList = ra := ⟨_, rfl⟩
   obtain ⟨rb, hrb⟩ : ∃ rb, readDec d.data.toList = rb := ⟨_, rfl⟩
   have hC := HC.out
   rw [hra, hrb] at hC
   have HRA := Lib.hid hra
   have HRB := Lib.hid hrb
   have HC2 := Lib.hid hC
   clear hra hrb hC HC
   refine (r_read n _ ra HRA hn).mono ?_
   rintro e w2 ⟨A, k1, c1, rfl, h1, hk1, hb1⟩
   go_wp2_with fail
   refine (r_read d _ rb HRB hd).mono ?_
   rintro e w3 ⟨A', k2, c2, rfl, h2, hk2, hb2⟩
   have h1' := h1.below hb2
   have hb13 := hb1.trans (hb2.mono hb1.size)
   have hrc3 := hrc.below hb13 hrc.lt
   have hb03 := hbb.trans (hb13.mono hbb.size)
   clear h1 hb1 hb2 hb13 hrc hbb HRA HRB
   obtain ⟨k0', k1', k2'⟩ := hrc3.cells
   obtain ⟨f0, f1, f2⟩ := hrc3.frozen
   cases ra with
   | none =>
     have HE : Hid (r = none) := by show _ = _; rw [<- HC2.out]; rfl
     clear HC2
     go_wp2_with fail
     refine ret_rc_tmp Tryz.results145 rfl rfl (hrc3.set _ _ _) rfl ?_
     rw [HE.out]
     exact ⟨_, rfl, ratq_zero _, below_set3 hb03 (Nat.le_refl _) _ _ _⟩
   | some a =>
     cases rb with
     | none =>
       have HE : Hid (r = none) := by show _ = _; rw [<- HC2.out]; rfl
       clear HC2
       go_wp2_with fail
       refine ret_rc_tmp Tryz.results145 rfl rfl (hrc3.set _ _ _) rfl ?_
       rw [HE.out]
       exact ⟨_, rfl, ratq_zero _, below_set3 hb03 (Nat.le_refl _) _ _ _⟩
     | some b =>
       have h1b : Num w3 (limbs a) A k1 c1 := h1'
       have h2b : Num w3 (limbs b) A' k2 c2 := h2
       have hz : k2 = 0 ↔ b = 0 := by rw [h2b.len]; exact limbs_length_zero
       clear h1' h2
       by_cases hk0 : k2 = 0
       ·have HE : Hid (r = none) := by show _ = _; rw [<- HC2.out]; unfold comb; simp only; rw [if_pos (hz.1 hk0)]
        subst hk0
        clear HC2 hz
        go_wp2_with fail
        refine ret_rc_tmp Tryz.results145 rfl rfl (hrc3.set _ _ _) rfl ?_
        rw [HE.out]
        exact ⟨_, rfl, ratq_zero _, below_set3 hb03 (Nat.le_refl _) _ _ _⟩
       ·have hb0 : b ≠ 0 := fun h => hk0 (hz.2 h)
        have HE : Hid (r = some (qv false a b)) := by show _ = _; rw [<- HC2.out]; unfold comb; simp only; rw [if_neg hb0]
        have hne : ((k2 : Int) == 0) = false := by rw [beq_eq_false_iff_ne]; omega
        obtain ⟨j1, j2, j3⟩ := qv_reduce false (a := a) hb0
        have HJ := Lib.hid (And.intro j1 (And.intro j2 j3))
        have HB0 := Lib.hid hb0
        clear HC2 hz hb0 hk0 j1 j2 j3
        go_wp2_with fail
        refine (r_over false _ _ _ _ _ _ a b _ h1b h2b (by omega) (by omega) HB0.out).mono ?_
        rintro e w6 hr
        obtain ⟨v6, rfl, h6, hb6⟩ := RetFrac.rat HJ.out.2.1 HJ.out.2.2 HJ.out.1 hr
        have hrc6 := hrc3.below hb6 hrc3.lt
        obtain ⟨nb, A6, n6, c6, B6, m6, e6, rfl⟩ := h6.agg
        clear k0' k1' k2' f0 f1 f2
        obtain ⟨k0', k1', k2'⟩ := hrc6.cells
        obtain ⟨f0, f1, f2⟩ := hrc6.frozen
        go_wp2_with fail
        refine ret_rc_tmp Tryz.results145 rfl rfl (hrc6.set _ _ _) rfl ?_
        rw [HE.out]
        exact ⟨_, rfl, h6.set3 hrc6 _ _ _, below_set3 (hb03.trans (hb6.mono hb03.size)) (Nat.le_refl _) _ _ _⟩
end Go.Proofs.YtifeekomegoijaaGreatDoor
