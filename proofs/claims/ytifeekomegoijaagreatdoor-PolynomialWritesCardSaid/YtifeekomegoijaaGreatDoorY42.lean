import Derived.Test.YtifeekomegoijaaGreatDoorY40
import Derived.Test.YtifeekomegoijaaGreatDoorY41
set_option linter.unusedVariables false
set_option linter.unusedSimpArgs false
set_option maxRecDepth 40000
set_option maxHeartbeats 8000000
namespace Go.Proofs.YtifeekomegoijaaGreatDoor
open Go.RowKit
structure TxG (w : World) : Prop where
 txt : Txt w
 rng : ∃ tp p, w.var? Tryz.prog "strconv.ErrRange" = some #[.iface tp p]
theorem TxG.below {w w' : World} (h : TxG w) (hb : Below w.heap.size w w') : TxG w' := by
 obtain ⟨tp, p, hs⟩ := h.rng
 exact ⟨h.txt.below hb, ⟨tp, p, var_keep hs hb.block⟩⟩
def RetPar (w0 : World) (r : Option (Nat × Int)) (e : Ending) (w' : World) : Prop := ∃ a p : Int, e = .returned (.tuple #[.int .i64 a, .int .i64 p, .bool r.isSome]) /\ (∀ x, r = some x -> a = (x.1 : Int) /\ p = x.2) /\ Below w0.heap.size w0 w'
theorem cutG (s : ByteArray) (w : World) (hT : TxG w) (hs : s.size <= 100000) (a b : ByteArray) (sl : Bool) (H : Hid ((⟨(Lib.cut s.data.toList [94]).1.toArray⟩ : ByteArray) = a /\ (⟨(Lib.cut s.data.toList [94]).2.1.toArray⟩ : ByteArray) = b /\ (Lib.cut s.data.toList [94]).2.2 = sl)) :
 Calls Tryz.prog 172 #[.string s, .string ⟨#[94]⟩] w (RetV w (.tuple #[.string a, .string b, .bool sl])) := by
 obtain ⟨m, hm⟩ := hT.txt.max
 obtain ⟨rfl, rfl, rfl⟩ := H.out
 refine (Lx.Tryz.strings_Cut s ⟨#[94]⟩ m w (by omega) hm).mono ?_
 rintro e w' ⟨rfl, n, rfl⟩
 exact ⟨rfl, below_drewN (Below.refl _ _) n⟩
theorem indexG (s : ByteArray) (w : World) (hT : TxG w) (i : Int) (H : Hid (Lib.index [97, 98, 99] s.data.toList = i)) :
 Calls Tryz.prog 171 #[.string ⟨#[97, 98, 99]⟩, .string s] w (RetV w (.int .i64 i)) := by
 obtain ⟨m, hm⟩ := hT.txt.max
 have h := H.out
 subst h
 refine (Lx.Tryz.strings_Index ⟨#[97, 98, 99]⟩ s m w (by decide) hm).mono ?_
 rintro e w' ⟨rfl, rfl⟩
 exact ⟨rfl, Below.refl _ _⟩
def atoiV (l : List UInt8) : Option Int := match Lib.atoiAll l with
 | .ok v => some v
 | _ => none
def RetAtoi (w0 : World) (r : Option Int) (e : Ending) (w' : World) : Prop := (∃ v, r = some v /\ e = .returned (.tuple #[.int .i64 v, .nilIface]) /\ Below w0.heap.size w0 w') \/ (r = none /\ ∃ v t p, e = .returned (.tuple #[.int .i64 v, .iface t p]) /\ Below w0.heap.size w0 w')
theorem atoiG (s : ByteArray) (w : World) (hT : TxG w) (hs : s.size <= 100000) (r : Option Int) (H : Hid (atoiV s.data.toList = r)) : Calls Tryz.prog 175 #[.string s] w (RetAtoi w r) := by
 have h := H.out
 subst h
 unfold atoiV
 rcases hh : Lib.atoiAll s.data.toList with v | _ | _
 ·refine (Ly.Tryz.strconv_Atoi_ok s (by omega) v hh w).mono fun e w' h => .inl ⟨v, rfl, h.1, ?_⟩
  rcases h.2 with rfl | ⟨t, rfl⟩
  ·exact Below.refl _ _
  ·exact Lib.bytesWorld_below _ _ _
 ·obtain ⟨tp, p, hv⟩ := hT.txt.syn
  refine (Any.strconv_Atoi_syntax_var Ly.Tryz.laysC172 s (by omega) hh tp p w hv).mono fun e w' ⟨N, h1, _, _, h4⟩ => .inr ⟨rfl, _, _, _, h1, h4⟩
 ·obtain ⟨tp, p, hv⟩ := hT.rng
  refine (Any.strconv_Atoi_range_var Ly.Tryz.laysC172 s (by omega) hh tp p w hv).mono fun e w' ⟨N, h1, _, _, h4⟩ => .inr ⟨rfl, _, _, _, h1, h4⟩
theorem parP_eq (l : List UInt8) : parP l = if (Lib.cut l [94]).1.length ≠ 1 \/ Lib.index [97, 98, 99] (Lib.cut l [94]).1 < 0 then none
 else if (Lib.cut l [94]).2.2 = false then some ((Lib.index [97, 98, 99] (Lib.cut l [94]).1).toNat, 1)
 else (atoiV (Lib.cut l [94]).2.1).map (fun v => ((Lib.index [97, 98, 99] (Lib.cut l [94]).1).toNat, v)) := by
 unfold parP atoiV
 split
 ·rfl
 ·split
  ·rfl
  ·cases Lib.atoiAll (Lib.cut l [94]).2.1 <;> rfl
theorem parameter_any (s : ByteArray) (w : World) (hT : TxG w) (hs : s.size <= 100000) (r : Option (Nat × Int)) (H : Hid (parP s.data.toList = r)) : Calls Tryz.prog 144 #[.string s] w (RetPar w r) := by
 have HT := Lib.hid hT
 have HR := H.out
 rw [parP_eq] at HR
 obtain ⟨c1, hc1⟩ : ∃ x, (Lib.cut s.data.toList [94]).1 = x := ⟨_, rfl⟩
 obtain ⟨c2, hc2⟩ : ∃ x, (Lib.cut s.data.toList [94]).2.1 = x := ⟨_, rfl⟩
 obtain ⟨c3, hc3⟩ : ∃ x, (Lib.cut s.data.toList [94]).2.2 = x := ⟨_, rfl⟩
 have HC : Hid ((⟨(Lib.cut s.data.toList [94]).1.toArray⟩ : ByteArray) = ⟨c1.toArray⟩ /\ (⟨(Lib.cut s.data.toList [94]).2.1.toArray⟩ : ByteArray) = ⟨c2.toArray⟩ /\ (Lib.cut s.data.toList [94]).2.2 = c3) := Lib.hid (by rw [hc1, hc2, hc3]; exact ⟨rfl, rfl, rfl⟩)
 have hz2 : c2.length <= 100000 := by
  have h1 : (Lib.cut s.data.toList [94]).2.1.length <= s.data.toList.length := by
   unfold Lib.cut
   split
   ·simp
   ·simp
  have h2 : s.data.toList.length = s.size := by rw [Array.length_toList]; rfl
  rw [hc2] at h1
  omega
 rw [hc1, hc2, hc3] at HR
 obtain ⟨i, hi⟩ : ∃ i, Lib.index [97, 98, 99] c1 = i := ⟨_, rfl⟩
 have HI : Hid (Lib.index [97, 98, 99] (⟨c1.toArray⟩ : ByteArray).data.toList = i) := Lib.hid hi
 have hge : -1 <= i := by rw [<- hi]; exact Lib.index_ge _ _
 rw [hi] at HR
 have HRR := Lib.hid HR
 have HA : Hid (atoiV (⟨c2.toArray⟩ : ByteArray).data.toList = atoiV c2) := Lib.hid rfl
 have HZ2 : Hid ((⟨c2.toArray⟩ : ByteArray).size <= 100000) := Lib.hid (by show c2.toArray.size <= _; rw [List.size_toArray]; exact hz2)
 obtain ⟨b1, hb1⟩ : ∃ b : ByteArray, (⟨c1.toArray⟩ : ByteArray) = b := ⟨_, rfl⟩
 obtain ⟨b2, hb2⟩ : ∃ b : ByteArray, (⟨c2.toArray⟩ : ByteArray) = b := ⟨_, rfl⟩
 have HS1 : Hid (b1.size = c1.length) := Lib.hid (by rw [<- hb1]; show c1.toArray.size = _; rw [List.size_toArray])
 rw [hb1] at HC HI
 rw [hb2] at HC HA HZ2
 have HCUT := Lib.hid (cutG s w hT hs b1 b2 c3 HC)
 clear hT H HR hc1 hc2 hc3 hi hz2 hb1 hb2 hs HC
 go_enter Tryz.func144, Tryz.ntmps144
 go_wp2_with fail
 refine HCUT.out.mono ?_
 rintro e1 w1 ⟨rfl, hb1⟩
 have HB1 := Lib.hid hb1
 clear HCUT hb1
 go_wp2_with fail
 refine (indexG b1 w1 (HT.out.below HB1.out) i HI).mono ?_
 rintro e2 w2 ⟨rfl, hb2⟩
 have HB2 := Lib.hid (HB1.out.trans (hb2.mono HB1.out.size))
 clear hb2
 by_cases h1 : c1.length = 1
 ·by_cases h0 : i < 0
  ·have hr : Hid (r = none) := Lib.hid (by rw [<- HRR.out, if_pos (.inr h0)])
   have hbn : ((b1.size : Int) != 1) = false := by rw [HS1.out, h1]; rfl
   go_wp2_with fail
   refine bodyPost_ret (results_tmp3 rfl _ _ _) rfl ?_
   refine ⟨0, 0, by rw [hr.out]; rfl, fun x hx => (by rw [hr.out] at hx; cases hx), HB2.out⟩
  ·have hbn : ((b1.size : Int) != 1) = false := by rw [HS1.out, h1]; rfl
   have HI0 : Hid (i = (i.toNat : Int)) := Lib.hid (by omega)
   have HRN : Hid ((if c3 = false then some (i.toNat, (1 : Int)) else (atoiV c2).map (fun v => (i.toNat, v))) = r) := Lib.hid (by rw [<- HRR.out, if_neg (show ¬ (c1.length ≠ 1 \/ i < 0) by omega)])
   clear HRR
   cases c3
   ·have hr : Hid (r = some (i.toNat, 1)) := Lib.hid (by rw [<- HRN.out, if_pos rfl])
    go_wp2_with fail
    refine bodyPost_ret (results_tmp3 rfl _ _ _) rfl ?_
    refine ⟨i, 1, by rw [hr.out]; rfl, fun x hx => by rw [hr.out] at hx; cases hx; exact ⟨HI0.out, rfl⟩, HB2.out⟩
   ·have hr : Hid (r = (atoiV c2).map (fun v => (i.toNat, v))) := Lib.hid (by rw [<- HRN.out, if_neg (by decide)])
    go_wp2_with fail
    refine (atoiG b2 w2 (HT.out.below HB2.out) HZ2.out (atoiV c2) HA).mono ?_
    rintro e3 w3 (⟨v, hv, rfl, hb3⟩ | ⟨hv, v, t, p, rfl, hb3⟩)
    ·have HB3 := Lib.hid (HB2.out.trans (hb3.mono HB2.out.size))
     have hr2 : Hid (r = some (i.toNat, v)) := Lib.hid (by rw [hr.out, hv]; rfl)
     clear hb3 hv
     go_upto_region 8 with (fail)
     go_quiet (fail)
     go_wp2_with fail
     refine bodyPost_ret (results_tmp3 rfl _ _ _) rfl ?_
     refine ⟨i, v, by rw [hr2.out]; rfl, fun x hx => by rw [hr2.out] at hx; cases hx; exact ⟨HI0.out, rfl⟩, below_drewN HB3.out _⟩
    ·have HB3 := Lib.hid (HB2.out.trans (hb3.mono HB2.out.size))
     have hr2 : Hid (r = none) := Lib.hid (by rw [hr.out, hv]; rfl)
     clear hb3 hv
     go_upto_region 8 with (fail)
     go_quiet (fail)
     go_wp2_with fail
     refine bodyPost_ret (results_tmp3 rfl _ _ _) rfl ?_
     refine ⟨i, v, by rw [hr2.out]; rfl, fun x hx => (by rw [hr2.out] at hx; cases hx), below_drewN HB3.out _⟩
 ·have hr : Hid (r = none) := Lib.hid (by rw [<- HRR.out, if_pos (.inl h1)])
  have hbn : ((b1.size : Int) != 1) = true := by rw [HS1.out, bne_iff_ne]; omega
  go_wp2_with fail
  refine bodyPost_ret (results_tmp3 rfl _ _ _) rfl ?_
  refine ⟨0, 0, by rw [hr.out]; rfl, fun x hx => (by rw [hr.out] at hx; cases hx), HB2.out⟩
def bsL (l : List (List UInt8)) : List ByteArray := l.map fun x => ⟨x.toArray⟩
theorem RowS.app {w : World} {B : Nat} {v : Value} {l : List ByteArray} (h : RowS w B v l) (x : ByteArray) (hn : l.length <= 1000000) (hB : B <= w.heap.size) :
 ∃ v' w', (Builtin.append_ #[96, 96] 96 #[v, .slice (some ⟨w.heap.size, 0, none⟩) 1 1]).run Tryz.prog (w.alloc (.cells #[.string x] 9)) = .ok v' w' /\ RowS w' B v' (l ++ [x]) /\ ∀ w0, Below B w0 w -> Below B w0 w' := by
 obtain ⟨hb8, d8⟩ := blk1 w [.string x] 9
 have h1 := h.below hb8
 have h2 : (w.alloc (.cells #[.string x] 9)).ownsRow B ST 1 v l.length (l.map Value.string) := h1
 obtain ⟨v', w', hrun, hrow, hg⟩ := appX_run _ B v l.length _ h2 w.heap.size x d8 hn (Nat.le_trans hB hb8.size)
 refine ⟨v', w', hrun, RowS.snoc rfl hrow, fun w0 hb => ?_⟩
 exact (hb.trans (hb8.mono hB)).grown hg (Nat.le_trans hB hb8.size) (fun j e => (h2.lt j e).1)
theorem RowS.nil (w : World) (B : Nat) : RowS w B (.slice none 0 0) [] := by
 exact World.ownsRow_nil ..
theorem ext_data (s : ByteArray) (a b : Nat) : (s.extract a b).data.toList = (s.data.toList.drop a).take (b - a) := by
 rw [ByteArray.data_extract, Array.toList_extract, List.extract_eq_take_drop]
theorem pcR_first {cur : List UInt8} {x : UInt8} {l : List UInt8} (h2 : 2 <= l.length) : pcR true cur (x :: l) = pcR false (cur ++ [x]) l := by
 rw [pcR, if_neg (by omega), if_neg (by simp)]
theorem pcR_other {cur : List UInt8} {x : UInt8} {l : List UInt8} (h2 : 2 <= l.length) (h1 : (x :: l).take 3 ≠ [32, 43, 32]) (h3 : (x :: l).take 3 ≠ [32, 45, 32]) : pcR false cur (x :: l) = pcR false (cur ++ [x]) l := by
 rw [pcR, if_neg (by omega), if_neg]
 rintro ⟨_, h | h⟩
 ·exact h1 h
 ·exact h3 h
theorem pcR_hit {cur : List UInt8} {x : UInt8} {l : List UInt8} (h2 : 2 <= l.length) {sg : UInt8} (hs : sg = 43 \/ sg = 45) (h : (x :: l).take 3 = [32, sg, 32]) : pcR false cur (x :: l) = cur :: pcR false (if sg = 45 then [45] else []) (l.drop 2) := by
 match l, h2 with
 | y :: z :: r, _ =>
   have : x = 32 /\ y = sg /\ z = 32 := by simpa using h
   obtain ⟨rfl, rfl, rfl⟩ := this
   rw [pcR_sign hs]
   rfl
theorem pcR_stop {first : Bool} {cur s : List UInt8} (h : s.length < 3) : pcR first cur s = [cur ++ s] := by
 cases s with
 | nil => rw [pcR_nil, List.append_nil]
 | cons x l => exact pcR_short (by simp at h; omega)
structure PcI (S : List UInt8) (outs : List (List UInt8)) (neg : List UInt8) (fr i : Nat) : Prop where
 le : fr <= i
 nl : neg.length <= 1
 out : outs.length <= i
 eq : outs ++ pcR (decide (i = 0)) (neg ++ (S.drop fr).take (i - fr)) (S.drop i) = pcR true [] S
theorem PcI.zero (S : List UInt8) : PcI S [] [] 0 0 := ⟨Nat.le_refl _, Nat.zero_le _, Nat.le_refl _, by simp⟩
theorem drop_cons {S : List UInt8} {i : Nat} (h : i < S.length) : S.drop i = S[i] :: S.drop (i + 1) := List.drop_eq_getElem_cons h
theorem take_snoc3 {S : List UInt8} {fr i : Nat} (hf : fr <= i) (h : i < S.length) : (S.drop fr).take (i - fr) ++ [S[i]] = (S.drop fr).take (i + 1 - fr) := by
 have e : i + 1 - fr = (i - fr) + 1 := by omega
 rw [e, List.take_succ_eq_append_getElem (by rw [List.length_drop]; omega)]
 congr 2
 rw [List.getElem_drop]
 congr 1
 omega
theorem PcI.next {S : List UInt8} {outs : List (List UInt8)} {neg : List UInt8} {fr i : Nat} (h : PcI S outs neg fr i) (hi : i + 3 <= S.length) (hn : i = 0 \/ (S.drop i).take 3 ≠ [32, 43, 32] /\ (S.drop i).take 3 ≠ [32, 45, 32]) : PcI S outs neg fr (i + 1) := by
 have hc := drop_cons (S := S) (i := i) (by omega)
 have hl : 2 <= (S.drop (i + 1)).length := by rw [List.length_drop]; omega
 refine ⟨Nat.le_succ_of_le h.le, h.nl, Nat.le_succ_of_le h.out, ?_⟩
 rw [<- h.eq, hc, decide_eq_false (Nat.succ_ne_zero i), <- take_snoc3 h.le (by omega), <- List.append_assoc]
 congr 1
 by_cases h0 : i = 0
 ·rw [decide_eq_true h0, pcR_first hl]
 ·obtain ⟨h1, h3⟩ := hn.resolve_left h0
  rw [hc] at h1 h3
  rw [decide_eq_false h0, pcR_other hl h1 h3]
theorem PcI.hit {S : List UInt8} {outs : List (List UInt8)} {neg : List UInt8} {fr i : Nat} (h : PcI S outs neg fr i) (hi : i + 3 <= S.length) (h0 : i ≠ 0) {sg : UInt8} (hs : sg = 43 \/ sg = 45) (ht : (S.drop i).take 3 = [32, sg, 32]) :
 PcI S (outs ++ [neg ++ (S.drop fr).take (i - fr)]) (if sg = 45 then [45] else []) (i + 3) (i + 3) := by
 have hc := drop_cons (S := S) (i := i) (by omega)
 have hl : 2 <= (S.drop (i + 1)).length := by rw [List.length_drop]; omega
 refine ⟨Nat.le_refl _, by split <;> simp, by rw [List.length_append]; have := h.out; simp; omega, ?_⟩
 rw [hc] at ht
 rw [<- h.eq, hc, decide_eq_false h0, pcR_hit hl hs ht, decide_eq_false (by omega), Nat.sub_self, List.take_zero, List.append_nil, List.append_assoc, List.drop_drop]
 rfl
theorem PcI.done {S : List UInt8} {outs : List (List UInt8)} {neg : List UInt8} {fr i : Nat} (h : PcI S outs neg fr i) (hi : S.length < i + 3) : outs ++ [neg ++ S.drop fr] = pcR true [] S := by
 rw [<- h.eq, pcR_stop (by rw [List.length_drop]; omega)]
 congr 2
 rw [List.append_assoc]
 congr 1
 have h1 : S.drop i = (S.drop fr).drop (i - fr) := by
  rw [List.drop_drop]
  congr 1
  have := h.le
  omega
 rw [h1, List.take_append_drop]
theorem r2_pieces (s : ByteArray) (w : World) (hs : s.size <= 100000) : Calls Tryz.prog 114 #[.string s, .string ⟨#[32, 43, 32]⟩, .string ⟨#[32, 45, 32]⟩] w (RetRowS w (bsL (pcR true [] s.data.toList))) := by
 obtain ⟨S, hS⟩ : ∃ S, s.data.toList = S := ⟨_, rfl⟩
 have hSl : S.length = s.size := by rw [<- hS, Array.length_toList]; rfl
 have HS := Lib.hid hS
 have HSL := Lib.hid hSl
 rw [hS]
 clear hS hSl
 go_enter Tryz.func114, Tryz.ntmps114
 go_wp2_with fail
 go_loopw [7, 8, 9, 10] (fun ov fv nv iv wr => ∃ (fr i : Nat) (neg : ByteArray) (outs : List (List UInt8)), i <= s.size /\ fv = .int .i64 (fr : Int) /\ iv = .int .i64 (i : Int) /\ nv = .string neg /\ Hid (RowS wr w.heap.size ov (bsL outs)) /\ Hid (PcI S outs neg.data.toList fr i) /\ Hid (Below w.heap.size w wr)) (fun _ _ _ iv _ => (s.size - intOf iv).toNat)
 case atStart => exact ⟨0, 0, ⟨#[]⟩, [], Nat.zero_le _, rfl, rfl, rfl, Lib.hid (RowS.nil _ _), Lib.hid (PcI.zero S), Lib.hid (Below.refl _ _)⟩
 case round =>
  obtain ⟨fr, i, neg, outs, hi, rfl, rfl, rfl, HROW, HI, HB⟩ := hrel
  have hfr := HI.out.le
  have hw3 : IntKind.i64.wrap ((i : Int) + 3) = (i : Int) + 3 := IntWalk.i64_in _ (by omega)
  by_cases h3 : (i : Int) + 3 <= (s.size : Int)
  ·by_cases h0 : i = 0
   ·have hz : ((i : Int) == 0) = true := by rw [h0]; rfl
    have hw1 : IntKind.i64.wrap ((i : Int) + 1) = (i : Int) + 1 := IntWalk.i64_in _ (by omega)
    have HN := Lib.hid (HI.out.next (by have := HSL.out; omega) (.inl h0))
    clear h0
    go_wp2_with fail
    go_roundw
    case rel => exact ⟨fr, i + 1, neg, outs, by omega, rfl, congrArg (Value.int _) (by omega), rfl, HROW, HN, HB⟩
    case measure => simp [intOf]; omega
   ·have hz : ((i : Int) == 0) = false := by rw [beq_eq_false_iff_ne]; omega
    have hext := Lib.extract_toList s i (i + 3)
    rw [HS.out, show i + 3 - i = 3 by omega] at hext
    have hnz : neg.size <= 1 := by
     have h9 := HI.out.nl
     rwa [Array.length_toList] at h9
    by_cases hT1 : (S.drop i).take 3 = [32, 43, 32]
    ·have hs1 : ((s.extract i (i + 3)).toList == [32, 43, 32]) = true := by rw [hext, hT1]; rfl
     have hs2 : ((s.extract i (i + 3)).toList == [32, 45, 32]) = false := by rw [hext, hT1]; rfl
     have HN := Lib.hid (HI.out.hit (by have := HSL.out; omega) h0 (sg := 43) (by simp) hT1)
     clear hext hT1
     obtain ⟨P, hP⟩ : ∃ P : ByteArray, neg ++ s.extract fr i = P := ⟨_, rfl⟩
     have HPD : Hid (P.data.toList = neg.data.toList ++ (S.drop fr).take (i - fr)) := Lib.hid (by rw [<- hP, ByteArray.data_append, Array.toList_append, <- HS.out, ext_data])
     obtain ⟨v', w5, hrun, hrow5, hbb⟩ := HROW.out.app P (by unfold bsL; rw [List.length_map]; have := HI.out.out; omega) HB.out.size
     have HRUN := Lib.hid hrun
     have HROW5 : Hid (RowS w5 w.heap.size v' (bsL (outs ++ [neg.data.toList ++ (S.drop fr).take (i - fr)]))) := Lib.hid (by
      have e : bsL (outs ++ [neg.data.toList ++ (S.drop fr).take (i - fr)]) = bsL outs ++ [P] := by
       unfold bsL
       rw [List.map_append, <- HPD.out]
       rfl
      rw [e]; exact hrow5)
     have HB5 := Lib.hid (hbb _ HB.out)
     have hw4 : IntKind.i64.wrap ((i : Int) + 3 - 1) = (i : Int) + 2 := by rw [IntWalk.i64_in _ (by omega)]; omega
     have hw5 : IntKind.i64.wrap ((i : Int) + 2 + 1) = (i : Int) + 3 := by rw [IntWalk.i64_in _ (by omega)]; omega
     clear hrun hrow5 hbb
     go_wp2_with (at_builtin; refine wpList_appX rfl (.tmp 42) (.tmp 49) rfl rfl _ _ _ _ rfl rfl HRUN ?_)
     go_wp2_with fail
     go_roundw
     case rel => exact ⟨i + 3, i + 3, ⟨#[]⟩, _, by omega, congrArg (Value.int _) (by omega), congrArg (Value.int _) (by omega), rfl, HROW5, HN, HB5⟩
     case measure => simp [intOf]; omega
    by_cases hT2 : (S.drop i).take 3 = [32, 45, 32]
    ·have hs1 : ((s.extract i (i + 3)).toList == [32, 43, 32]) = false := by rw [hext, hT2]; rfl
     have hs2 : ((s.extract i (i + 3)).toList == [32, 45, 32]) = true := by rw [hext, hT2]; rfl
     have HN := Lib.hid (HI.out.hit (by have := HSL.out; omega) h0 (sg := 45) (by simp) hT2)
     clear hext hT2
     obtain ⟨P, hP⟩ : ∃ P : ByteArray, neg ++ s.extract fr i = P := ⟨_, rfl⟩
     have HPD : Hid (P.data.toList = neg.data.toList ++ (S.drop fr).take (i - fr)) := Lib.hid (by rw [<- hP, ByteArray.data_append, Array.toList_append, <- HS.out, ext_data])
     obtain ⟨v', w5, hrun, hrow5, hbb⟩ := HROW.out.app P (by unfold bsL; rw [List.length_map]; have := HI.out.out; omega) HB.out.size
     have HRUN := Lib.hid hrun
     have HROW5 : Hid (RowS w5 w.heap.size v' (bsL (outs ++ [neg.data.toList ++ (S.drop fr).take (i - fr)]))) := Lib.hid (by
      have e : bsL (outs ++ [neg.data.toList ++ (S.drop fr).take (i - fr)]) = bsL outs ++ [P] := by
       unfold bsL
       rw [List.map_append, <- HPD.out]
       rfl
      rw [e]; exact hrow5)
     have HB5 := Lib.hid (hbb _ HB.out)
     have hw4 : IntKind.i64.wrap ((i : Int) + 3 - 1) = (i : Int) + 2 := by rw [IntWalk.i64_in _ (by omega)]; omega
     have hw5 : IntKind.i64.wrap ((i : Int) + 2 + 1) = (i : Int) + 3 := by rw [IntWalk.i64_in _ (by omega)]; omega
     clear hrun hrow5 hbb
     go_wp2_with (at_builtin; refine wpList_appX rfl (.tmp 42) (.tmp 49) rfl rfl _ _ _ _ rfl rfl HRUN ?_)
     go_wp2_with fail
     go_roundw
     case rel => exact ⟨i + 3, i + 3, ⟨#[45]⟩, _, by omega, congrArg (Value.int _) (by omega), congrArg (Value.int _) (by omega), rfl, HROW5, HN, HB5⟩
     case measure => simp [intOf]; omega
    have hs1 : ((s.extract i (i + 3)).toList == [32, 43, 32]) = false := by rw [hext, beq_eq_false_iff_ne]; exact hT1
    have hs2 : ((s.extract i (i + 3)).toList == [32, 45, 32]) = false := by rw [hext, beq_eq_false_iff_ne]; exact hT2
    have HN := Lib.hid (HI.out.next (by have := HSL.out; omega) (.inr ⟨hT1, hT2⟩))
    have hw1 : IntKind.i64.wrap ((i : Int) + 1) = (i : Int) + 1 := IntWalk.i64_in _ (by omega)
    clear hext hT1 hT2
    go_wp2_with fail
    go_roundw
    case rel => exact ⟨fr, i + 1, neg, outs, by omega, rfl, congrArg (Value.int _) (by omega), rfl, HROW, HN, HB⟩
    case measure => simp [intOf]; omega
  ·have hnz : neg.size <= 1 := by
    have h9 := HI.out.nl
    rwa [Array.length_toList] at h9
   have HD := Lib.hid (HI.out.done (by have := HSL.out; omega))
   have hfs : fr <= s.size := by omega
   obtain ⟨P, hP⟩ : ∃ P : ByteArray, neg ++ s.extract fr s.size = P := ⟨_, rfl⟩
   have HPD : Hid (P.data.toList = neg.data.toList ++ S.drop fr) := Lib.hid (by rw [<- hP, ByteArray.data_append, Array.toList_append, <- HS.out, Lib.extract_to_end])
   obtain ⟨v', w5, hrun, hrow5, hbb⟩ := HROW.out.app P (by unfold bsL; rw [List.length_map]; have := HI.out.out; omega) HB.out.size
   have HRUN := Lib.hid hrun
   have HROW5 : Hid (RowS w5 w.heap.size v' (bsL (pcR true [] S))) := Lib.hid (by
    have e : bsL (pcR true [] S) = bsL outs ++ [P] := by
     rw [<- HD.out]
     unfold bsL
     rw [List.map_append, <- HPD.out]
     rfl
    rw [e]; exact hrow5)
   have HB5 := Lib.hid (hbb _ HB.out)
   clear hrun hrow5 hbb
   go_wp2_with (at_builtin; refine wpList_appX rfl (.tmp 66) (.tmp 72) rfl rfl _ _ _ _ rfl rfl HRUN ?_)
   go_wp2_with fail
   go_ret
   exact ⟨v', rfl, HROW5.out, HB5.out⟩
end Go.Proofs.YtifeekomegoijaaGreatDoor
