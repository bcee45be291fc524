/- texts -/
import Derived.Test.YtifeekomegoijaaGreatDoorU44
import Derived.Test.YtifeekomegoijaaGreatDoorU45
import Derived.Shelf.Strconv.ErrVarAll
import Derived.BigQuiet
set_option linter.unusedVariables false
set_option linter.unusedSimpArgs false
namespace Go.Proofs.YtifeekomegoijaaGreatDoor
open Go.RowKit

structure TxG (w : World) : Prop where
 txt : Txt w
 rng : ∃ tp p, w.var? Tryz.prog "strconv.ErrRange" = some #[.iface tp p]
theorem TxG.below {w w' : World} (h : TxG w) (hb : Below w.heap.size w w') : TxG w' := by
 obtain ⟨tp, p, hs⟩ := h.rng
 exact ⟨h.txt.below hb, ⟨tp, p, var_keep hs hb.block⟩⟩
def RetPar (w0 : World) (r : Option (Nat × Int)) (e : Ending) (w' : World) : Prop := ∃ a p : Int, e = .returned (.tuple #[.int .i64 a, .int .i64 p, .bool r.isSome]) ∧ (∀ x, r = some x → a = (x.1 : Int) ∧ p = x.2) ∧ Below w0.heap.size w0 w'
theorem cutG (s : ByteArray) (w : World) (hT : TxG w) (hs : s.size ≤ 100000) (a b : ByteArray) (sl : Bool) (H : Hid ((⟨(Lib.cut s.data.toList [94]).1.toArray⟩ : ByteArray) = a ∧ (⟨(Lib.cut s.data.toList [94]).2.1.toArray⟩ : ByteArray) = b ∧ (Lib.cut s.data.toList [94]).2.2 = sl)) :
  Calls Tryz.prog 172 #[.string s, .string ⟨#[94]⟩] w (RetV w (.tuple #[.string a, .string b, .bool sl])) := by
 obtain ⟨m, hm⟩ := hT.txt.max
 obtain ⟨rfl, rfl, rfl⟩ := H.out
 refine (Lx.Tryz.strings_Cut s ⟨#[94]⟩ m w (by omega) hm).mono ?_
 rintro e w' ⟨rfl, n, rfl⟩
 exact ⟨rfl, below_drewN (Below.refl _ _) n⟩
theorem indexG (s : ByteArray) (w : World) (hT : TxG w) (i : Int) (H : Hid (Lib.index [97, 98, 99] s.data.toList = i)) :
  Calls Tryz.prog 171 #[.string ⟨#[97, 98, 99]⟩, .string s] w (RetV w (.int .i64 i)) := by
 obtain ⟨m, hm⟩ := hT.txt.max
 have h := H.out
 subst h
 refine (Lx.Tryz.strings_Index ⟨#[97, 98, 99]⟩ s m w (by decide) hm).mono ?_
 rintro e w' ⟨rfl, rfl⟩
 exact ⟨rfl, Below.refl _ _⟩
def atoiV (l : List UInt8) : Option Int := match Lib.atoiAll l with
 | .ok v => some v
 | _ => none
def RetAtoi (w0 : World) (r : Option Int) (e : Ending) (w' : World) : Prop := (∃ v, r = some v ∧ e = .returned (.tuple #[.int .i64 v, .nilIface]) ∧ Below w0.heap.size w0 w') ∨ (r = none ∧ ∃ v t p, e = .returned (.tuple #[.int .i64 v, .iface t p]) ∧ Below w0.heap.size w0 w')
theorem atoiG (s : ByteArray) (w : World) (hT : TxG w) (hs : s.size ≤ 100000) (r : Option Int) (H : Hid (atoiV s.data.toList = r)) : Calls Tryz.prog 175 #[.string s] w (RetAtoi w r) := by
 have h := H.out
 subst h
 unfold atoiV
 rcases hh : Lib.atoiAll s.data.toList with v | _ | _
 ·refine (Ly.Tryz.strconv_Atoi_ok s (by omega) v hh w).mono fun e w' h => .inl ⟨v, rfl, h.1, ?_⟩
  rcases h.2 with rfl | ⟨t, rfl⟩
  ·exact Below.refl _ _
  ·exact Lib.bytesWorld_below _ _ _
 ·obtain ⟨tp, p, hv⟩ := hT.txt.syn
  refine (Any.strconv_Atoi_syntax_var Ly.Tryz.laysC172 s (by omega) hh tp p w hv).mono fun e w' ⟨N, h1, _, _, h4⟩ => .inr ⟨rfl, _, _, _, h1, h4⟩
 ·obtain ⟨tp, p, hv⟩ := hT.rng
  refine (Any.strconv_Atoi_range_var Ly.Tryz.laysC172 s (by omega) hh tp p w hv).mono fun e w' ⟨N, h1, _, _, h4⟩ => .inr ⟨rfl, _, _, _, h1, h4⟩
theorem parP_eq (l : List UInt8) : parP l = if (Lib.cut l [94]).1.length ≠ 1 ∨ Lib.index [97, 98, 99] (Lib.cut l [94]).1 < 0 then none
 else if (Lib.cut l [94]).2.2 = false then some ((Lib.index [97, 98, 99] (Lib.cut l [94]).1).toNat, 1)
 else (atoiV (Lib.cut l [94]).2.1).map (fun v => ((Lib.index [97, 98, 99] (Lib.cut l [94]).1).toNat, v)) := by
 unfold parP atoiV
 split
 ·rfl
 ·split
  ·rfl
  ·cases Lib.atoiAll (Lib.cut l [94]).2.1 <;> rfl
set_option maxRecDepth 40000 in
set_option maxHeartbeats 4000000 in
theorem parameter_any (s : ByteArray) (w : World) (hT : TxG w) (hs : s.size ≤ 100000) (r : Option (Nat × Int)) (H : Hid (parP s.data.toList = r)) : Calls Tryz.prog 144 #[.string s] w (RetPar w r) := by
 have HT := Lib.hid hT
 have HR := H.out
 rw [parP_eq] at HR
 obtain ⟨c1, hc1⟩ : ∃ x, (Lib.cut s.data.toList [94]).1 = x := ⟨_, rfl⟩
 obtain ⟨c2, hc2⟩ : ∃ x, (Lib.cut s.data.toList [94]).2.1 = x := ⟨_, rfl⟩
 obtain ⟨c3, hc3⟩ : ∃ x, (Lib.cut s.data.toList [94]).2.2 = x := ⟨_, rfl⟩
 have HC : Hid ((⟨(Lib.cut s.data.toList [94]).1.toArray⟩ : ByteArray) = ⟨c1.toArray⟩ ∧ (⟨(Lib.cut s.data.toList [94]).2.1.toArray⟩ : ByteArray) = ⟨c2.toArray⟩ ∧ (Lib.cut s.data.toList [94]).2.2 = c3) := Lib.hid (by rw [hc1, hc2, hc3]; exact ⟨rfl, rfl, rfl⟩)
 have hz2 : c2.length ≤ 100000 := by
  have h1 : (Lib.cut s.data.toList [94]).2.1.length ≤ s.data.toList.length := by
   unfold Lib.cut
   split
   ·simp
   ·simp
  have h2 : s.data.toList.length = s.size := by rw [Array.length_toList]; rfl
  rw [hc2] at h1
  omega
 rw [hc1, hc2, hc3] at HR
 obtain ⟨i, hi⟩ : ∃ i, Lib.index [97, 98, 99] c1 = i := ⟨_, rfl⟩
 have HI : Hid (Lib.index [97, 98, 99] (⟨c1.toArray⟩ : ByteArray).data.toList = i) := Lib.hid hi
 have hge : -1 ≤ i := by rw [← hi]; exact Lib.index_ge _ _
 rw [hi] at HR
 have HRR := Lib.hid HR
 have HA : Hid (atoiV (⟨c2.toArray⟩ : ByteArray).data.toList = atoiV c2) := Lib.hid rfl
 have HZ2 : Hid ((⟨c2.toArray⟩ : ByteArray).size ≤ 100000) := Lib.hid (by show c2.toArray.size ≤ _; rw [List.size_toArray]; exact hz2)
 obtain ⟨b1, hb1⟩ : ∃ b : ByteArray, (⟨c1.toArray⟩ : ByteArray) = b := ⟨_, rfl⟩
 obtain ⟨b2, hb2⟩ : ∃ b : ByteArray, (⟨c2.toArray⟩ : ByteArray) = b := ⟨_, rfl⟩
 have HS1 : Hid (b1.size = c1.length) := Lib.hid (by rw [← hb1]; show c1.toArray.size = _; rw [List.size_toArray])
 rw [hb1] at HC HI
 rw [hb2] at HC HA HZ2
 have HCUT := Lib.hid (cutG s w hT hs b1 b2 c3 HC)
 clear hT H HR hc1 hc2 hc3 hi hz2 hb1 hb2 hs HC
 go_enter Tryz.func144, Tryz.ntmps144
 go_wp2_with fail
 refine HCUT.out.mono ?_
 rintro e1 w1 ⟨rfl, hb1⟩
 have HB1 := Lib.hid hb1
 clear HCUT hb1
 go_wp2_with fail
 refine (indexG b1 w1 (HT.out.below HB1.out) i HI).mono ?_
 rintro e2 w2 ⟨rfl, hb2⟩
 have HB2 := Lib.hid (HB1.out.trans (hb2.mono HB1.out.size))
 clear hb2
 by_cases h1 : c1.length = 1
 ·by_cases h0 : i < 0
  ·have hr : Hid (r = none) := Lib.hid (by rw [← HRR.out, if_pos (.inr h0)])
   have hbn : ((b1.size : Int) != 1) = false := by rw [HS1.out, h1]; rfl
   go_wp2_with fail
   refine bodyPost_ret (results_tmp3 rfl _ _ _) rfl ?_
   refine ⟨0, 0, by rw [hr.out]; rfl, fun x hx => (by rw [hr.out] at hx; cases hx), HB2.out⟩
  ·have hbn : ((b1.size : Int) != 1) = false := by rw [HS1.out, h1]; rfl
   have HI0 : Hid (i = (i.toNat : Int)) := Lib.hid (by omega)
   have HRN : Hid ((if c3 = false then some (i.toNat, (1 : Int)) else (atoiV c2).map (fun v => (i.toNat, v))) = r) := Lib.hid (by rw [← HRR.out, if_neg (show ¬ (c1.length ≠ 1 ∨ i < 0) by omega)])
   clear HRR
   cases c3
   ·have hr : Hid (r = some (i.toNat, 1)) := Lib.hid (by rw [← HRN.out, if_pos rfl])
    go_wp2_with fail
    refine bodyPost_ret (results_tmp3 rfl _ _ _) rfl ?_
    refine ⟨i, 1, by rw [hr.out]; rfl, fun x hx => by rw [hr.out] at hx; cases hx; exact ⟨HI0.out, rfl⟩, HB2.out⟩
   ·have hr : Hid (r = (atoiV c2).map (fun v => (i.toNat, v))) := Lib.hid (by rw [← HRN.out, if_neg (by decide)])
    go_wp2_with fail
    refine (atoiG b2 w2 (HT.out.below HB2.out) HZ2.out (atoiV c2) HA).mono ?_
    rintro e3 w3 (⟨v, hv, rfl, hb3⟩ | ⟨hv, v, t, p, rfl, hb3⟩)
    ·have HB3 := Lib.hid (HB2.out.trans (hb3.mono HB2.out.size))
     have hr2 : Hid (r = some (i.toNat, v)) := Lib.hid (by rw [hr.out, hv]; rfl)
     clear hb3 hv
     go_upto_region 8 with (fail)
     go_quiet (fail)
     go_wp2_with fail
     refine bodyPost_ret (results_tmp3 rfl _ _ _) rfl ?_
     refine ⟨i, v, by rw [hr2.out]; rfl, fun x hx => by rw [hr2.out] at hx; cases hx; exact ⟨HI0.out, rfl⟩, below_drewN HB3.out _⟩
    ·have HB3 := Lib.hid (HB2.out.trans (hb3.mono HB2.out.size))
     have hr2 : Hid (r = none) := Lib.hid (by rw [hr.out, hv]; rfl)
     clear hb3 hv
     go_upto_region 8 with (fail)
     go_quiet (fail)
     go_wp2_with fail
     refine bodyPost_ret (results_tmp3 rfl _ _ _) rfl ?_
     refine ⟨i, v, by rw [hr2.out]; rfl, fun x hx => (by rw [hr2.out] at hx; cases hx), below_drewN HB3.out _⟩
 ·have hr : Hid (r = none) := Lib.hid (by rw [← HRR.out, if_pos (.inl h1)])
  have hbn : ((b1.size : Int) != 1) = true := by rw [HS1.out, bne_iff_ne]; omega
  go_wp2_with fail
  refine bodyPost_ret (results_tmp3 rfl _ _ _) rfl ?_
  refine ⟨0, 0, by rw [hr.out]; rfl, fun x hx => (by rw [hr.out] at hx; cases hx), HB2.out⟩
end Go.Proofs.YtifeekomegoijaaGreatDoor
