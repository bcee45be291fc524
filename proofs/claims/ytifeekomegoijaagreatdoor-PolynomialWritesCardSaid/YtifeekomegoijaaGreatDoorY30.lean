import Derived.Test.YtifeekomegoijaaGreatDoorY19
import Derived.Test.YtifeekomegoijaaGreatDoorY12
set_option linter.unusedVariables false
set_option linter.unusedSimpArgs false
set_option maxRecDepth 20000
set_option maxHeartbeats 1000000
namespace Go.Proofs.YtifeekomegoijaaGreatDoor
open Go.RowKit
def parseQ (l : List UInt8) : Option Rat :=
 let neg := Lib.hasPrefix l [45]
 let c := Lib.cut (Lib.trimPrefix l [45]) [47]
 match readDec c.1 with
 | none => none
 | some n => if c.2.2 then (match readDec c.2.1 with | none => none | some d => if d = 0 then none else some (qv neg n d)) else some (qv neg n 1)
def RetParse (w0 : World) (r : Option Rat) (e : Ending) (w' : World) : Prop :=
 ∃ v, e = .returned (.tuple #[v, .bool r.isSome]) /\ RatQ w' v (r.getD 0) /\ Below w0.heap.size w0 w'
theorem readDec_length {l : List UInt8} {n : Nat} (h : readDec l = some n) : (limbs n).length <= 2000 := by
 unfold readDec at h
 split at h
 ·cases h
 ·next hc =>
  exact limbs_length_le (Nat.lt_of_lt_of_le (decVal_lt h) (pow_ten_P (by omega)))
theorem cutPrefix_v (s s1 : ByteArray) (neg : Bool) (w : World) (H : Hid ((⟨(Lib.trimPrefix s.data.toList [45]).toArray⟩ : ByteArray) = s1 /\ Lib.hasPrefix s.data.toList [45] = neg)) :
 Calls Tryz.prog 109 #[.string s, .string ⟨#[45]⟩] w fun e w' => e = .returned (.tuple #[.string s1, .bool neg]) /\ w = w' := by
 refine (Lx.Tryz.strings_CutPrefix s ⟨#[45]⟩ w).mono ?_
 rintro e w' ⟨rfl, rfl⟩
 rw [<- H.out.1, <- H.out.2]
 exact ⟨rfl, rfl⟩
theorem cut_v (s a b : ByteArray) (sl : Bool) (w : World) (hT : Txt w) (hs : s.size < 4294967281) (H : Hid ((⟨(Lib.cut s.data.toList [47]).1.toArray⟩ : ByteArray) = a /\ (⟨(Lib.cut s.data.toList [47]).2.1.toArray⟩ : ByteArray) = b /\ (Lib.cut s.data.toList [47]).2.2 = sl)) :
 Calls Tryz.prog 172 #[.string s, .string ⟨#[47]⟩] w (RetQ w (.tuple #[.string a, .string b, .bool sl])) := by
 obtain ⟨m, hm⟩ := hT.max
 refine (Lx.Tryz.strings_Cut s ⟨#[47]⟩ m w hs hm).mono ?_
 rintro e w' ⟨rfl, q, rfl⟩
 rw [<- H.out.1, <- H.out.2.1, <- H.out.2.2]
 exact ⟨rfl, q, rfl⟩
theorem Txt.drewN {w : World} (h : Txt w) (n : Nat) : Txt (w.drewN n) := ⟨h.tab.drewN n, h.pow, h.syn, h.max⟩
theorem Parse_any (s : ByteArray) (w : World) (hT : Txt w) (hs : s.size < 4294967281) (r : Option Rat) (hr : parseQ s.data.toList = r) :
 Calls Tryz.prog 143 #[.string s] w (RetParse w r) := by
 have HR := Lib.hid hr
 clear hr
 have hbA : Below w.heap.size w (w.alloc R0) := (Below.refl _ _).alloc (Nat.le_refl _) _
 have hrr := Rc.new w (.bool false) (.slice none 0 0) (.slice none 0 0)
 go_enter Tryz.func143, Tryz.ntmps143
 go_wp2_with fail
 obtain ⟨s1, hs1⟩ : ∃ s1 : ByteArray, (⟨(Lib.trimPrefix s.data.toList [45]).toArray⟩ : ByteArray) = s1 := ⟨_, rfl⟩
 obtain ⟨neg, hneg⟩ : ∃ neg, Lib.hasPrefix s.data.toList [45] = neg := ⟨_, rfl⟩
 obtain ⟨a, ha⟩ : ∃ a : ByteArray, (⟨(Lib.cut s1.data.toList [47]).1.toArray⟩ : ByteArray) = a := ⟨_, rfl⟩
 obtain ⟨b, hb⟩ : ∃ b : ByteArray, (⟨(Lib.cut s1.data.toList [47]).2.1.toArray⟩ : ByteArray) = b := ⟨_, rfl⟩
 obtain ⟨sl, hsl⟩ : ∃ sl, (Lib.cut s1.data.toList [47]).2.2 = sl := ⟨_, rfl⟩
 have hs1l : s1.size < 4294967281 := by
  rw [<- hs1]
  show (Lib.trimPrefix s.data.toList [45]).length < _
  have : s.data.toList.length = s.size := by rw [Array.length_toList]; rfl
  unfold Lib.trimPrefix
  split
  ·rw [List.length_drop]; omega
  ·omega
 have hq : (match readDec a.data.toList with
  | none => none
  | some n => if sl then (match readDec b.data.toList with | none => none | some d => if d = 0 then none else some (qv neg n d)) else some (qv neg n 1)) = r := by
  rw [<- HR.out]
  unfold parseQ
  rw [<- ha, <- hb, <- hsl, <- hneg, <- hs1]
 have H1 := Lib.hid (And.intro hs1 hneg)
 have H2 := Lib.hid (And.intro ha (And.intro hb hsl))
 have HQ := Lib.hid hq
 clear hs1 hneg ha hb hsl hq HR
 refine (cutPrefix_v s s1 neg _ H1).mono ?_
 rintro e w' ⟨rfl, rfl⟩
 go_wp2_with fail
 refine (cut_v s1 a b sl _ (hT.below hbA) hs1l H2).mono ?_
 rintro e w' ⟨rfl, q, rfl⟩
 have hbq : Below w.heap.size w ((w.alloc R0).drewN q) := below_drewN hbA q
 replace hrr : Rc ((w.alloc R0).drewN q) _ _ _ _ := hrr.drewN q
 obtain ⟨ra, hra⟩ : ∃ ra, readDec a.data.toList = ra := ⟨_, rfl⟩
 rw [hra] at HQ
 go_wp2_with fail
 generalize (w.alloc R0).drewN q = W at *
 refine (decimal_any a _ (hT.below hbq) ra hra).mono ?_
 cases ra with
 | none =>
   rintro e w1 ⟨rfl, hb1⟩
   have hr0 : r = none := HQ.out.symm
   subst hr0
   have hrr1 := hrr.below hb1 hrr.lt
   obtain ⟨r0, r1, r2⟩ := hrr1.cells
   obtain ⟨f0, f1, f2⟩ := hrr1.frozen
   go_wp2_with fail
   refine ret_rc_tmp Tryz.results143 rfl rfl (hrr1.set _ _ _) rfl ?_
   exact ⟨_, rfl, ratq_zero _, below_set3 (hbq.trans (hb1.mono hbq.size)) (Nat.le_refl _) _ _ _⟩
 | some n =>
   rintro e w1 ⟨A1, n1, c1, rfl, h1, hb1⟩
   have hb01 := hbq.trans (hb1.mono hbq.size)
   have hl1 : n1 <= 2000 := by rw [h1.len]; exact readDec_length hra
   simp only at HQ
   cases sl with
   | false =>
     have hr1 : r = some (qv neg n 1) := HQ.out.symm
     subst hr1
     clear HQ
     go_wp2_with fail
     refine (fraction_any neg _ _ _ _ _ _ n 1 [] _ h1.num (Num.nil _ _ _) (by omega) (by omega) (.inr ⟨rfl, rfl⟩)).mono ?_
     rintro e w2 hr
     obtain ⟨v, rfl, h3, hb2⟩ := RetFrac.rat (by decide) (Nat.gcd_one_right _) rfl hr
     have hb12 := hb1.trans (hb2.mono hb1.size)
     have hrr3 := hrr.below hb12 hrr.lt
     obtain ⟨nb, A, k, c, B, m, e, rfl⟩ := h3.agg
     obtain ⟨r0, r1, r2⟩ := hrr3.cells
     obtain ⟨f0, f1, f2⟩ := hrr3.frozen
     go_wp2_with fail
     refine ret_rc_tmp Tryz.results143 rfl rfl (hrr3.set _ _ _) rfl ?_
     exact ⟨_, rfl, h3.set3 hrr3 _ _ _, below_set3 (hbq.trans (hb12.mono hbq.size)) (Nat.le_refl _) _ _ _⟩
   | true =>
     obtain ⟨rb, hrb⟩ : ∃ rb, readDec b.data.toList = rb := ⟨_, rfl⟩
     rw [hrb] at HQ
     go_wp2_with fail
     refine (decimal_any b _ ((hT.below hbq).below hb1) rb hrb).mono ?_
     cases rb with
     | none =>
       rintro e w2 ⟨rfl, hb2⟩
       have hr0 : r = none := HQ.out.symm
       subst hr0
       have hb12 := hb1.trans (hb2.mono hb1.size)
       have hrr1 := hrr.below hb12 hrr.lt
       obtain ⟨r0, r1, r2⟩ := hrr1.cells
       obtain ⟨f0, f1, f2⟩ := hrr1.frozen
       go_wp2_with fail
       refine ret_rc_tmp Tryz.results143 rfl rfl (hrr1.set _ _ _) rfl ?_
       exact ⟨_, rfl, ratq_zero _, below_set3 (hbq.trans (hb12.mono hbq.size)) (Nat.le_refl _) _ _ _⟩
     | some d =>
       rintro e w2 ⟨A2, n2, c2, rfl, h2, hb2⟩
       have hb12 := hb1.trans (hb2.mono hb1.size)
       have hl2 : n2 <= 2000 := by rw [h2.len]; exact readDec_length hrb
       have hn2 : n2 = 0 ↔ d = 0 := by rw [h2.len]; exact limbs_length_zero
       by_cases hd : d = 0
       ·have hr0 : r = none := by rw [<- HQ.out]; simp [hd]
        subst hr0
        obtain rfl := hn2.2 hd
        have hrr1 := hrr.below hb12 hrr.lt
        obtain ⟨r0, r1, r2⟩ := hrr1.cells
        obtain ⟨f0, f1, f2⟩ := hrr1.frozen
        clear hn2 hd HQ
        go_wp2_with fail
        refine ret_rc_tmp Tryz.results143 rfl rfl (hrr1.set _ _ _) rfl ?_
        exact ⟨_, rfl, ratq_zero _, below_set3 (hbq.trans (hb12.mono hbq.size)) (Nat.le_refl _) _ _ _⟩
       ·obtain ⟨q1, hq1⟩ : ∃ q1, qv neg n d = q1 := ⟨_, rfl⟩
        have hr1 : r = some q1 := by rw [<- HQ.out, <- hq1]; simp [hd]
        subst hr1
        have hne : ((n2 : Int) == 0) = false := by
         rw [beq_eq_false_iff_ne]; exact fun h => hd (hn2.1 (by omega))
        have HD := Lib.hid hd
        have HQ1 := Lib.hid hq1
        clear hn2 hd HQ hq1
        go_wp2_with fail
        refine (reduced_any neg _ _ _ _ _ _ n d _ ((hT.below hbq).below hb12).tab (h1.num.below hb2) h2.num (by omega) (by omega) HD.out).mono ?_
        rintro e w3 hr
        obtain ⟨j1, j2, j3⟩ := qv_reduce neg (a := n) HD.out
        obtain ⟨v, rfl, h3, hb3⟩ := RetFrac.rat j2 j3 (j1.trans HQ1.out) hr
        have hb13 := hb12.trans (hb3.mono hb12.size)
        have hrr3 := hrr.below hb13 hrr.lt
        clear j1 j2 j3
        obtain ⟨nb, A, k, c, B, m, e, rfl⟩ := h3.agg
        obtain ⟨r0, r1, r2⟩ := hrr3.cells
        obtain ⟨f0, f1, f2⟩ := hrr3.frozen
        go_wp2_with fail
        refine ret_rc_tmp Tryz.results143 rfl rfl (hrr3.set _ _ _) rfl ?_
        exact ⟨_, rfl, h3.set3 hrr3 _ _ _, below_set3 (hbq.trans (hb13.mono hbq.size)) (Nat.le_refl _) _ _ _⟩
end Go.Proofs.YtifeekomegoijaaGreatDoor
