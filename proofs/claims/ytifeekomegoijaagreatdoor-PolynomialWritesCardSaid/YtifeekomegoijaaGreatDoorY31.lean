import Derived.Test.YtifeekomegoijaaGreatDoorY14
import Derived.Test.YtifeekomegoijaaGreatDoorY30
import Derived.Test.YtifeekomegoijaaGreatDoorY22
set_option linter.unusedVariables false
set_option linter.unusedSimpArgs false
set_option maxRecDepth 20000
set_option maxHeartbeats 4000000
namespace Go.Proofs.YtifeekomegoijaaGreatDoor
open Go.RowKit
theorem dec_dig {n : Nat} (h : n < 10) : Lib.decDigits n = [UInt8.ofNat (48 + n)] := by rw [Lib.decDigits, dif_pos h]
theorem dig_ok {d : Nat} (h : d < 10) : isDig (UInt8.ofNat (48 + d)) = true /\ (UInt8.ofNat (48 + d)).toNat - 48 = d := by
 have e : (UInt8.ofNat (48 + d)).toNat = 48 + d := by rw [UInt8.toNat_ofNat']; omega
 unfold isDig
 rw [e]
 exact ⟨decide_eq_true (by omega), by omega⟩
theorem dec_all (n : Nat) : ∀ c ∈ Lib.decDigits n, isDig c = true := by
 induction n using Nat.strongRecOn with
 | _ n ih =>
   by_cases h : n < 10
   ·rw [Lib.decDigits, dif_pos h]
    intro c hc
    have : c = UInt8.ofNat (48 + n) := by simpa using hc
    rw [this]; exact (dig_ok h).1
   ·rw [decDigits_big h]
    intro c hc
    rcases List.mem_append.1 hc with hc | hc
    ·exact ih (n / 10) (by omega) c hc
    ·have : c = UInt8.ofNat (48 + n % 10) := by simpa using hc
     rw [this]; exact (dig_ok (Nat.mod_lt _ (by decide))).1
theorem dec_val (n : Nat) : decVal 0 (Lib.decDigits n) = some n := by
 induction n using Nat.strongRecOn with
 | _ n ih =>
   by_cases h : n < 10
   ·rw [Lib.decDigits, dif_pos h]
    simp only [decVal, (dig_ok h).1, (dig_ok h).2, if_true]
    congr 1; omega
   ·rw [decDigits_big h, decVal_append, ih (n / 10) (by omega)]
    have hm := Nat.mod_lt n (show 0 < 10 by decide)
    simp only [Option.bind_some, decVal, (dig_ok hm).1, (dig_ok hm).2, if_true]
    congr 1; omega
theorem dec_head (n : Nat) (h0 : 1 <= n) : (Lib.decDigits n).getD 0 0 ≠ 48 := by
 induction n using Nat.strongRecOn with
 | _ n ih =>
   by_cases h : n < 10
   ·rw [Lib.decDigits, dif_pos h]
    have e : (UInt8.ofNat (48 + n)).toNat = 48 + n := by rw [UInt8.toNat_ofNat']; omega
    intro hh
    have h1 : (UInt8.ofNat (48 + n)) = 48 := by simpa using hh
    rw [h1] at e
    have : (48 : UInt8).toNat = 48 := rfl
    omega
   ·rw [decDigits_big h]
    have h1 := ih (n / 10) (by omega) (by omega)
    have h2 := decDigits_pos (n / 10)
    rw [List.getD_eq_getElem?_getD, List.getElem?_append_left (by omega), <- List.getD_eq_getElem?_getD]
    exact h1
theorem read_dec {n k : Nat} (h : (limbs n).length <= k) (hk : k <= 100) : readDec (Lib.decDigits n) = some n := by
 unfold readDec
 rw [if_neg, dec_val]
 intro hh
 have h1 := decDigits_pos n
 have h2 := decDigits_le h
 rcases hh with hh | hh | ⟨hh, h3⟩
 ·omega
 ·omega
 ·rcases Nat.eq_zero_or_pos n with h0 | h0
  ·subst h0
   rw [dec_zero] at hh
   simp at hh
  ·exact dec_head n h0 h3
theorem no_dig {c : UInt8} (h : isDig c = true) : c ≠ 47 /\ c ≠ 45 := by
 unfold isDig at h
 have h1 := of_decide_eq_true h
 refine ⟨fun e => ?_, fun e => ?_⟩ <;> (rw [e] at h1; revert h1; decide)
theorem index_hit47 (l r : List UInt8) (h : ∀ c ∈ l, c ≠ 47) : Lib.index (l ++ 47 :: r) [47] = l.length := by
 induction l with
 | nil => simp [Lib.index, List.isPrefixOf]
 | cons b l ih =>
   have hb := h b List.mem_cons_self
   have h1 := ih (fun c hc => h c (List.mem_cons_of_mem _ hc))
   have hne : (47 == b) = false := beq_eq_false_iff_ne.2 (fun e => hb e.symm)
   simp only [List.cons_append, Lib.index, List.isPrefixOf, hne, Bool.false_and, Bool.false_eq_true, if_false, h1]
   rw [if_neg (by simp)]
   simp
theorem index_miss47 (l : List UInt8) (h : ∀ c ∈ l, c ≠ 47) : Lib.index l [47] = -1 := by
 induction l with
 | nil => rfl
 | cons b l ih =>
   have hb := h b List.mem_cons_self
   have h1 := ih (fun c hc => h c (List.mem_cons_of_mem _ hc))
   have hne : (47 == b) = false := beq_eq_false_iff_ne.2 (fun e => hb e.symm)
   simp only [Lib.index, List.isPrefixOf, hne, Bool.false_and, Bool.false_eq_true, if_false, h1]
   rfl
theorem cut_hit47 (l r : List UInt8) (h : ∀ c ∈ l, c ≠ 47) : Lib.cut (l ++ 47 :: r) [47] = (l, r, true) := by
 unfold Lib.cut
 rw [index_hit47 l r h, if_pos (by omega)]
 simp
theorem cut_miss47 (l : List UInt8) (h : ∀ c ∈ l, c ≠ 47) : Lib.cut l [47] = (l, [], false) := by
 unfold Lib.cut
 rw [index_miss47 l h, if_neg (by omega)]
theorem prefix_no {l : List UInt8} (h : ∀ c ∈ l, c ≠ 45) : Lib.hasPrefix l [45] = false := by
 cases l with
 | nil => rfl
 | cons b l =>
   have hb := h b List.mem_cons_self
   have hne : (45 == b) = false := beq_eq_false_iff_ne.2 (fun e => hb e.symm)
   simp [Lib.hasPrefix, List.isPrefixOf, hne]
theorem prefix_yes (l : List UInt8) : Lib.hasPrefix (45 :: l) [45] = true := by simp [Lib.hasPrefix, List.isPrefixOf]
def tailQ (q : Rat) : List UInt8 := Lib.decDigits q.num.natAbs ++ (if q.den = 1 then [] else 47 :: Lib.decDigits q.den)
theorem parse_tail {q : Rat} {k : Nat} (hS : Sz q k) (hk : k <= 100) (neg : Bool) (hn : decide (q.num < 0) = neg) :
 (match readDec (Lib.cut (tailQ q) [47]).1 with
 | none => none
 | some n => if (Lib.cut (tailQ q) [47]).2.2 then (match readDec (Lib.cut (tailQ q) [47]).2.1 with | none => none | some d => if d = 0 then none else some (qv neg n d)) else some (qv neg n 1)) = some q := by
 have h1 : ∀ c ∈ Lib.decDigits q.num.natAbs, c ≠ 47 := fun c hc => (no_dig (dec_all _ c hc)).1
 unfold tailQ
 by_cases hd : q.den = 1
 ·rw [if_pos hd, List.append_nil, cut_miss47 _ h1]
  simp only [read_dec hS.1 hk, Bool.false_eq_true, if_false]
  rw [<- hn]
  have := qv_self q
  rw [hd] at this
  rw [this]
 ·rw [if_neg hd, cut_hit47 _ _ h1]
  simp only [read_dec hS.1 hk, read_dec hS.2 hk, if_true, q.den_nz, if_false]
  rw [<- hn, qv_self]
theorem parse_fmt {q : Rat} {k : Nat} (hS : Sz q k) (hk : k <= 100) : parseQ (fmtQ q) = some q := by
 have ht : ∀ c ∈ tailQ q, c ≠ 45 := by
  intro c hc
  unfold tailQ at hc
  rcases List.mem_append.1 hc with hc | hc
  ·exact (no_dig (dec_all _ c hc)).2
  ·split at hc
   ·simp at hc
   ·rcases List.mem_cons.1 hc with hc | hc
    ·rw [hc]; decide
    ·exact (no_dig (dec_all _ c hc)).2
 by_cases h : q.num < 0
 ·have e : fmtQ q = 45 :: tailQ q := by unfold fmtQ tailQ; rw [if_pos h]; simp
  rw [e]
  unfold parseQ Lib.trimPrefix
  rw [prefix_yes]
  simp only [if_true, List.length_cons, List.length_nil, Nat.zero_add, List.drop_succ_cons, List.drop_zero]
  exact parse_tail hS hk true (decide_eq_true h)
 ·have e : fmtQ q = tailQ q := by unfold fmtQ tailQ; rw [if_neg h]; simp
  rw [e]
  unfold parseQ Lib.trimPrefix
  rw [prefix_no ht]
  simp only [Bool.false_eq_true, if_false]
  exact parse_tail hS hk false (decide_eq_false h)
theorem conv1 (w : World) (d : Nat) (hd : d < 10) : (convert 87 9 (.slice (some ⟨w.heap.size, 0, none⟩) 1 1)).run Tryz.prog (w.alloc (.cells #[.int .u8 (48 + (d : Int))] 5)) = .ok (.string ⟨#[UInt8.ofNat (48 + d)]⟩) (w.alloc (.cells #[.int .u8 (48 + (d : Int))] 5)) := by
 refine run_convert_bytes_back (P := Tryz.prog) _ 87 9 5 ⟨w.heap.size, 0, none⟩ 1 [UInt8.ofNat (48 + d)] Tryz.underlying87 (by kernel_rfl) (by kernel_rfl) (fun j hj => ?_)
 obtain rfl : j = 0 := by simpa using hj
 have e : (⟨w.heap.size, 0, none⟩ : Addr).add 0 = ⟨w.heap.size, 0, none⟩ := by simp [Addr.add]
 have h := (Boxed.new w 5 (.int .u8 (48 + (d : Int)))).cell
 rw [e, h]
 have e2 : (UInt8.ofNat (48 + d)).toNat = 48 + d := by rw [UInt8.toNat_ofNat']; omega
 simp [e2]
 omega
theorem limbs_dig {d : Nat} (h : 0 < d) (h1 : d < 4294967296) : limbs d = [d] := by
 rw [limbs_pos (by omega), show d / 4294967296 = 0 by omega, limbs_zero, show d % 4294967296 = d by omega]
theorem dig_get {d : Nat} (h1 : d < 4294967296) : (limbs d).getD (0 : Int).toNat 0 = d := by
 rcases Nat.eq_zero_or_pos d with h | h
 ·rw [h, limbs_zero]; rfl
 ·rw [limbs_dig h h1]; rfl
theorem r_digits (A : Option Addr) (n c X : Nat) (w : World) (hx : Num w (limbs X) A n c) (hn : n <= 100000) :
 Calls Tryz.prog 182 #[.slice A n c] w (RetV w (.string ⟨(Lib.decDigits X).toArray⟩)) := by
 have hDL := decDigits_le (X := X) (k := n) (by rw [hx.len]; exact Nat.le_refl _)
 go_enter Tryz.func182, Tryz.ntmps182
 go_wp2
 go_loopg [0, 3] X (fun g sa ss wr => ∃ (A1 : Option Addr) (n1 c1 Y : Nat) (s : ByteArray), sa = .slice A1 n1 c1 /\ ss = .string s /\ Num wr (limbs Y) A1 n1 c1 /\ n1 <= 100000 /\ Below w.heap.size w wr /\ Y <= g /\ s.size <= 1000001 /\ Hid (Lib.decDigits X = Lib.decDigits Y ++ s.data.toList))
 case atStart => exact ⟨A, n, c, X, _, rfl, rfl, hx, hn, Below.refl _ _, Nat.le_refl _, Nat.zero_le _, by show _ = _; exact (List.append_nil _).symm⟩
 case round =>
  obtain ⟨A1, n1, c1, Y, s, rfl, rfl, h1, hn1, hb, hg, hs, HD⟩ := hrel
  have hbo : Below wr.heap.size wr (wr.alloc (.cells #[.int .u32 10] 78)) := (Below.refl _ _).alloc (Nat.le_refl _) _
  have hten : Num (wr.alloc (.cells #[.int .u32 10] 78)) (limbs 10) (some ⟨wr.heap.size, 0, none⟩) 1 1 := by
   rw [limbs_dig (by decide) (by decide)]
   exact (show Row _ _ [10] from heap_alloc_new wr _).num (Lim.cons (by decide) Lim.nil) rfl (Nat.le_refl _)
  have H10 : Hid (10 ≠ 0) := show (10 : Nat) ≠ 0 by decide
  go_wp2_with fail
  refine (r_divide _ _ _ _ _ _ Y 10 _ (h1.below hbo) hten (by omega) (by omega) H10).mono ?_
  rintro e w2 ⟨Aq, nq, cq, Ar, nr, cr, rfl, hq, hr, hb2⟩
  have hd10 : Y % 10 < 10 := Nat.mod_lt _ (by decide)
  have hnr : nr <= 1 := by
   rw [hr.len]
   exact small_len (by omega)
  have HG := Lib.hid (dig_get (d := Y % 10) (by omega))
  have hb02 := hb.trans ((hbo.trans (hb2.mono hbo.size)).mono hb.size)
  have hqn := hq.num
  have hrn := hr.num
  have HQ0 : Hid (nq = 0 ↔ Y / 10 = 0) := by show _ ↔ _; rw [hq.len]; exact limbs_length_zero
  have hnq : nq <= 100000 := by
   have := hq.len
   have := length_mono (Nat.div_le_self Y 10)
   have := h1.len
   omega
  have HDD : Hid (Lib.decDigits Y = (if Y / 10 = 0 then [] else Lib.decDigits (Y / 10)) ++ [UInt8.ofNat (48 + Y % 10)]) := by
   show _ = _
   by_cases h : Y < 10
   ·rw [if_pos (by omega), dec_dig h, show Y % 10 = Y by omega]; rfl
   ·rw [if_neg (by omega), decDigits_big h]
  have HLE : Hid (Y / 10 ≠ 0 -> Y / 10 < Y) := by show _ -> _; intro h; omega
  generalize Y / 10 = q at *
  generalize Y % 10 = d at *
  have hcv := conv1 w2 d hd10
  clear hq hr hten hbo h1 hb2
  go_wp2_with fail
  refine (r_limb _ _ _ 0 _ _ d hrn (by decide) (by omega) HG).mono ?_
  rintro e' w' ⟨rfl, rfl⟩
  go_upto_region 4 with (fail)
  have hbo3 : Below w2.heap.size w2 (w2.alloc (.cells #[.int .u8 (48 + (d : Int))] 5)) := (Below.refl _ _).alloc (Nat.le_refl _) _
  have hqn3 := hqn.below hbo3
  have hb03 := hb02.trans (hbo3.mono hb02.size)
  have HL : Hid ((({ data := #[48 + UInt8.ofNat d] } ++ s : ByteArray)).data.toList = UInt8.ofNat (48 + d) :: s.data.toList) := by
   show _ = _
   have e : (48 + UInt8.ofNat d) = UInt8.ofNat (48 + d) := by simp
   rw [e]
   rw [ByteArray.data_append, Array.toList_append]
   rfl
  generalize ({ data := #[48 + UInt8.ofNat d] } ++ s : ByteArray) = s' at *
  generalize (w2.alloc (.cells #[.int .u8 (48 + (d : Int))] 5)) = w3 at *
  clear hcv hqn hrn hb02 hbo3
  have HS : Hid (Lib.decDigits X = (if q = 0 then [] else Lib.decDigits q) ++ s'.data.toList) := by
   show _ = _
   rw [HD.out, HDD.out, HL.out, List.append_assoc]; rfl
  have hs' : s'.size <= 1000001 := by
   have h1 := congrArg List.length HS.out
   rw [List.length_append] at h1
   have h2 : s'.data.toList.length = s'.size := by rw [Array.length_toList]; rfl
   omega
  clear HD HDD HL hs
  by_cases h0 : nq = 0
  ·have HE : Hid (⟨(Lib.decDigits X).toArray⟩ = s') := by
    show _ = _
    rw [HS.out, if_pos (HQ0.out.1 h0)]
    rfl
   subst h0
   go_wp2_with fail
   go_ret
   rw [HE.out]
   exact ⟨rfl, hb03⟩
  ·have hp : 0 < nq := Nat.pos_of_ne_zero h0
   have hq0 : q ≠ 0 := fun h => h0 (HQ0.out.2 h)
   have HS2 : Hid (Lib.decDigits X = Lib.decDigits q ++ s'.data.toList) := by
    show _ = _
    have := HS.out
    rwa [if_neg hq0] at this
   have HLT := Lib.hid (HLE.out hq0)
   have hne : ((nq : Int) == 0) = false := by rw [beq_eq_false_iff_ne]; omega
   clear HS HQ0 hq0 h0
   go_wp2_with fail
   go_roundg q
   case rel => exact ⟨_, _, _, q, s', rfl, rfl, hqn3, hnq, hb03, Nat.le_refl _, hs', HS2⟩
   case measure => exact Nat.lt_of_lt_of_le HLT.out hg
theorem r_Format (v : Value) (q : Rat) (w : World) (h : Inr w v q) (hS : Sz q 10000) : Calls Tryz.prog 150 #[v] w (RetV w (.string ⟨(fmtQ q).toArray⟩)) := by
 obtain ⟨z0, Z, zn, zc, Z', zm, ze, rfl⟩ := h.agg
 have hbA : Below w.heap.size w (w.alloc (R1 (.bool z0) (.slice Z zn zc) (.slice Z' zm ze))) := (Below.refl _ _).alloc (Nat.le_refl _) _
 have hrx := Rc.new w (.bool z0) (.slice Z zn zc) (.slice Z' zm ze)
 go_enter Tryz.func150, Tryz.ntmps150
 go_wp2_with fail
 refine (r_Take _ q _ (h.below hbA)).mono ?_
 rintro e w1 ⟨v1, rfl, h1, hb1⟩
 have hrx1 := hrx.below hb1 hrx.lt
 obtain ⟨nb, A, n, c, A', m, c', rfl⟩ := h1.agg
 obtain ⟨k0, k1, k2⟩ := hrx1.cells
 obtain ⟨f0, f1, f2⟩ := hrx1.frozen
 obtain ⟨hnb, hN, hD⟩ := h1.parts
 have hb01 := hbA.trans (hb1.mono hbA.size)
 have hrx2 := hrx1.set (.bool nb) (.slice A n c) (.slice A' m c')
 have hN2 := hN.set3 (hN.ne_rc hrx1) (.bool nb) (.slice A n c) (.slice A' m c')
 have hD2 := hD.set3 (hD.ne_rc hrx1) (.bool nb) (.slice A n c) (.slice A' m c')
 have hb02 := below_set3 hb01 (Nat.le_refl _) (.bool nb) (.slice A n c) (.slice A' m c')
 have hnl : n <= 10000 := by rw [hN.len]; exact hS.1
 have hml : m <= 10000 := by rw [hD.len]; exact Nat.le_trans (dl_length _) hS.2
 have HNB := Lib.hid hnb
 clear hnb h1
 go_wp2_with fail
 generalize (((w1.setCell ⟨w.heap.size, 0, none⟩ (.bool nb)).setCell ⟨w.heap.size, 1, none⟩ (.slice A n c)).setCell ⟨w.heap.size, 2, none⟩ (.slice A' m c')) = W2 at *
 refine (r_digits A n c q.num.natAbs _ hN2 (by omega)).mono ?_
 rintro e2 w3 ⟨rfl, hb3⟩
 obtain ⟨t1, ht1⟩ : ∃ t : ByteArray, ⟨(Lib.decDigits q.num.natAbs).toArray⟩ = t := ⟨_, rfl⟩
 have hl1 : t1.size <= 100001 := by
  rw [<- ht1]
  show (Lib.decDigits q.num.natAbs).length <= _
  have := decDigits_le (X := q.num.natAbs) (k := 10000) hS.1
  omega
 obtain ⟨t2, ht2⟩ : ∃ t : ByteArray, ⟨(Lib.decDigits q.den).toArray⟩ = t := ⟨_, rfl⟩
 have hl2 : t2.size <= 100001 := by
  rw [<- ht2]
  show (Lib.decDigits q.den).length <= _
  have := decDigits_le (X := q.den) (k := 10000) hS.2
  omega
 rw [ht1]
 have HT1 : Hid (t1.data.toList = Lib.decDigits q.num.natAbs) := by show _ = _; rw [<- ht1]
 have HT2 := Lib.hid ht2
 have HT2L : Hid (t2.data.toList = Lib.decDigits q.den) := by show _ = _; rw [<- ht2]
 clear ht1 ht2
 have hrx3 := hrx2.below hb3 hrx2.lt
 have hD3 := hD2.below hb3
 have hb03 := hb02.trans (hb3.mono hb02.size)
 have HZ : Hid (m = 0 ↔ q.den = 1) := dl_zero hD q.den_nz
 have HF : Hid (∀ (x y : ByteArray), x.data.toList = (if q.num < 0 then [45] else []) ++ t1.data.toList -> y.data.toList = x.data.toList ++ (if q.den = 1 then [] else 47 :: t2.data.toList) -> (⟨(fmtQ q).toArray⟩ : ByteArray) = y) := by
  show ∀ _, _
  intro x y h1 h2
  rw [h1, HT1.out, HT2L.out] at h2
  have e : fmtQ q = y.data.toList := h2.symm
  rw [e]
 clear k0 k1 k2 f0 f1 f2 hrx hrx1 hrx2 hN hN2 hD hD2 hb01 hb02 hbA hb1 hb3
 obtain ⟨k0, k1, k2⟩ := hrx3.cells
 have HH : ∀ (a b : ByteArray), (a ++ b).data.toList = a.data.toList ++ b.data.toList := fun a b => by rw [ByteArray.data_append, Array.toList_append]
 have HAP := Lib.hid HH
 clear HH
 by_cases h0 : m = 0
 ·have hd1 := HZ.out.1 h0
  subst h0
  cases nb
  ·have HE : Hid ((⟨(fmtQ q).toArray⟩ : ByteArray) = t1) := by
    refine HF.out t1 t1 ?_ ?_
    ·rw [if_neg (of_decide_eq_false HNB.out.symm)]; rfl
    ·rw [if_pos hd1, List.append_nil]
   clear hd1
   go_wp2_with fail
   go_ret
   rw [HE.out]
   exact ⟨rfl, hb03⟩
  ·have HE : Hid ((⟨(fmtQ q).toArray⟩ : ByteArray) = ⟨#[45]⟩ ++ t1) := by
    refine HF.out (⟨#[45]⟩ ++ t1) (⟨#[45]⟩ ++ t1) ?_ ?_
    ·rw [if_pos (of_decide_eq_true HNB.out.symm), HAP.out]
    ·rw [if_pos hd1, List.append_nil]
   clear hd1
   go_wp2_with fail
   go_ret
   rw [HE.out]
   exact ⟨rfl, hb03⟩
 ·have hd1 : ¬ q.den = 1 := fun h => h0 (HZ.out.2 h)
  have hD4 : Num w3 (limbs q.den) A' m c' := by rw [<- dl_ne hd1]; exact hD3
  have hp : 0 < m := Nat.pos_of_ne_zero h0
  have hdp : decide ((0 : Int) < (m : Int)) = true := decide_eq_true (by omega)
  have HD1 := Lib.hid hd1
  clear hd1 h0
  cases nb
  ·have HE : Hid ((⟨(fmtQ q).toArray⟩ : ByteArray) = t1 ++ (⟨#[47]⟩ ++ t2)) := by
    refine HF.out t1 (t1 ++ (⟨#[47]⟩ ++ t2)) ?_ ?_
    ·rw [if_neg (of_decide_eq_false HNB.out.symm)]; rfl
    ·rw [if_neg HD1.out, HAP.out, HAP.out]; rfl
   go_wp2_with fail
   refine (r_digits A' m c' q.den _ hD4 (by omega)).mono ?_
   rintro e2 w4 ⟨rfl, hb4⟩
   rw [HT2.out]
   go_wp2_with fail
   go_ret
   rw [HE.out]
   exact ⟨rfl, hb03.trans (hb4.mono hb03.size)⟩
  ·have HE : Hid ((⟨(fmtQ q).toArray⟩ : ByteArray) = (⟨#[45]⟩ ++ t1) ++ (⟨#[47]⟩ ++ t2)) := by
    refine HF.out (⟨#[45]⟩ ++ t1) ((⟨#[45]⟩ ++ t1) ++ (⟨#[47]⟩ ++ t2)) ?_ ?_
    ·rw [if_pos (of_decide_eq_true HNB.out.symm), HAP.out]
    ·rw [if_neg HD1.out, HAP.out, HAP.out, HAP.out]; rfl
   have hl3 : ((⟨#[45]⟩ ++ t1 : ByteArray)).size <= 100002 := by
    rw [ByteArray.size_append]
    have : (⟨#[45]⟩ : ByteArray).size = 1 := rfl
    omega
   go_wp2_with fail
   refine (r_digits A' m c' q.den _ hD4 (by omega)).mono ?_
   rintro e2 w4 ⟨rfl, hb4⟩
   rw [HT2.out]
   go_wp2_with fail
   go_ret
   rw [HE.out]
   exact ⟨rfl, hb03.trans (hb4.mono hb03.size)⟩
def RetRead (w0 : World) (r : Option Nat) (e : Ending) (w' : World) : Prop :=
 ∃ A n c, e = .returned (.tuple #[.slice A n c, .bool r.isSome]) /\ Num w' (limbs (r.getD 0)) A n c /\ n <= 2001 /\ Below w0.heap.size w0 w'
theorem at_data (s : ByteArray) (k : Nat) (h : k < s.size) : s.data.toList[k]? = some s[k] := by
 rw [List.getElem?_eq_getElem (by rw [Array.length_toList]; exact h)]; rfl
theorem dec_take (s : ByteArray) (k : Nat) (h : k < s.size) (v : Nat) (hv : decVal 0 (s.data.toList.take k) = some v) : decVal 0 (s.data.toList.take (k + 1)) = if isDig s[k] then some (v * 10 + (s[k].toNat - 48)) else none := by
 rw [List.take_succ_eq_append_getElem (by simpa using h), decVal_append, hv]
 show decVal v [s[k]] = _
 simp only [decVal]
theorem dec_take_none (s : ByteArray) (k : Nat) (hv : decVal 0 (s.data.toList.take k) = none) : decVal 0 s.data.toList = none := by
 conv => lhs; rw [<- List.take_append_drop k s.data.toList]
 rw [decVal_append, hv]; rfl
theorem r_read (s : ByteArray) (w : World) (r : Option Nat) (hr : Hid (readDec s.data.toList = r)) (hsz : s.size <= 1000000) :
 Calls Tryz.prog 176 #[.string s] w (RetRead w r) := by
 have hlen : s.data.toList.length = s.size := by rw [Array.length_toList]; rfl
 have HN : Hid (r = none -> ∀ W', Below w.heap.size w W' -> RetRead w r (.returned (.tuple #[.slice none 0 0, .bool false])) W') := by
  show _ -> ∀ _, _
  intro h W' hb; subst h
  exact ⟨none, 0, 0, rfl, by rw [show (none : Option Nat).getD 0 = 0 from rfl, limbs_zero]; exact Num.nil _ _ _, by decide, hb⟩
 have HL := Lib.hid hlen
 clear hlen
 by_cases h0 : s.size = 0
 ·have hl : s.data.toList = [] := List.eq_nil_of_length_eq_zero (by rw [HL.out, h0])
  have ht : s.toList = [] := by rw [Lib.toList_data]; exact hl
  have ht' : s.toList.isEmpty = true := by rw [ht]; rfl
  have HF := Lib.hid (HN.out (by rw [<- hr.out]; unfold readDec; rw [if_pos (.inl (by rw [HL.out, h0]))]))
  clear hl h0
  go_enter Tryz.func176, Tryz.ntmps176
  go_wp2_with fail
  go_ret2
  exact HF.out _ (Below.refl _ _)
 have hne : ¬ s.toList = [] := by
  rw [Lib.toList_data]; intro h; apply h0; rw [<- HL.out, h]; rfl
 have hne' : s.toList.isEmpty = false := by
  cases h : s.toList with
  | nil => exact absurd h hne
  | cons => rfl
 by_cases h2 : 2000 < s.size
 ·have HF := Lib.hid (HN.out (by rw [<- hr.out]; unfold readDec; rw [if_pos (.inr (.inl (by rw [HL.out]; exact h2)))]))
  have hd : decide ((2000 : Int) < (s.size : Int)) = true := decide_eq_true (by omega)
  go_enter Tryz.func176, Tryz.ntmps176
  go_wp2_with fail
  go_ret2
  exact HF.out _ (Below.refl _ _)
 have hd : decide ((2000 : Int) < (s.size : Int)) = false := decide_eq_false (by omega)
 have hp0 : 0 < s.size := Nat.pos_of_ne_zero h0
 by_cases h1 : 1 < s.size /\ s[0] = 48
 ·obtain ⟨h1, h48⟩ := h1
  have HF := Lib.hid (HN.out (by
   rw [<- hr.out]; unfold readDec
   rw [if_pos (.inr (.inr ⟨by rw [HL.out]; exact h1, by rw [List.getD_eq_getElem?_getD, at_data s 0 hp0]; exact h48⟩))]))
  have hb : ((s[0].toNat : Int) == 48) = true := by rw [h48]; rfl
  have hd1 : decide ((1 : Int) < (s.size : Int)) = true := decide_eq_true (by omega)
  clear h48
  go_enter Tryz.func176, Tryz.ntmps176
  go_wp2_with fail
  go_ret2
  exact HF.out _ (Below.refl _ _)
 have HR : Hid (decVal 0 s.data.toList = r) := by
  show _ = _
  rw [<- hr.out]
  unfold readDec
  rw [if_neg]
  rintro (h | h | ⟨h, h3⟩)
  ·rw [HL.out] at h; exact h0 h
  ·rw [HL.out] at h; exact h2 h
  ·rw [HL.out] at h
   rw [List.getD_eq_getElem?_getD, at_data s 0 hp0] at h3
   exact h1 ⟨h, h3⟩
 have hw : (1 < s.size /\ ((s[0].toNat : Int) == 48) = false /\ decide ((1 : Int) < (s.size : Int)) = true) \/ (s.size <= 1 /\ decide ((1 : Int) < (s.size : Int)) = false) := by
  by_cases h : 1 < s.size
  ·refine .inl ⟨h, ?_, decide_eq_true (by omega)⟩
   rw [beq_eq_false_iff_ne]
   intro e
   exact h1 ⟨h, by apply UInt8.toNat.inj; show _ = 48; omega⟩
  ·exact .inr ⟨by omega, decide_eq_false (by omega)⟩
 clear h1 h0 h2
 rcases hw with ⟨hk1, hk2, hk3⟩ | ⟨hk1, hk3⟩
 all_goals
  go_enter Tryz.func176, Tryz.ntmps176
  go_wp2_with fail
  go_loopw [4, 5] (fun so si wr => ∃ (k v : Nat) (A : Option Addr) (n c : Nat), k <= s.size /\ so = .slice A n c /\ si = .int .i64 k /\ Num wr (limbs v) A n c /\ n <= 2001 /\ Below w.heap.size w wr /\ Hid (decVal 0 (s.data.toList.take k) = some v))
   (fun _ si _ => s.size - (intOf si).toNat)
  case atStart => exact ⟨0, 0, none, 0, 0, Nat.zero_le _, rfl, rfl, by rw [limbs_zero]; exact Num.nil _ _ _, by decide, Below.refl _ _, rfl⟩
  case round =>
   obtain ⟨k, v, A, n, c, hk, rfl, rfl, hv, hn, hb, HD⟩ := hrel
   by_cases hkn : k < s.size
   ·have hc8 : s[k].toNat < 256 := s[k].toNat_lt
    have HT := Lib.hid (dec_take s k hkn v HD.out)
    by_cases hdg : isDig s[k] = true
    ·obtain ⟨d, hd⟩ : ∃ d, s[k].toNat = 48 + d := ⟨s[k].toNat - 48, by have := of_decide_eq_true (show decide (48 <= s[k].toNat /\ s[k].toNat <= 57) = true from hdg); omega⟩
     have hd9 : d <= 9 := by have := of_decide_eq_true (show decide (48 <= s[k].toNat /\ s[k].toNat <= 57) = true from hdg); omega
     have hlo : decide ((s[k].toNat : Int) < 48) = false := decide_eq_false (by omega)
     have hhi : decide ((57 : Int) < (s[k].toNat : Int)) = false := decide_eq_false (by omega)
     have hsub : IntKind.u8.wrap ((s[k].toNat : Int) - 48) = (d : Int) := by rw [IntKind.wrap_u8]; omega
     have hw64 : IntKind.u64.wrap (d : Int) = (d : Int) := by rw [IntKind.wrap_u64]; omega
     have HD2 : Hid (decVal 0 (s.data.toList.take (k + 1)) = some (v * 10 + d)) := by
      show _ = _
      rw [HT.out, if_pos hdg, hd]; congr 2; omega
     clear hd hdg HT
     have hbo : Below wr.heap.size wr (wr.alloc (.cells #[.int .u32 10] 78)).drew := (show Below wr.heap.size wr (wr.alloc (.cells #[.int .u32 10] 78)) from (Below.refl _ _).alloc (Nat.le_refl _) _).drew
     have hten : Num (wr.alloc (.cells #[.int .u32 10] 78)).drew (limbs 10) (some ⟨wr.heap.size, 0, none⟩) 1 1 := by
      rw [limbs_dig (by decide) (by decide)]
      exact ((show Row _ _ [10] from heap_alloc_new wr _).num (Lim.cons (by decide) Lim.nil) rfl (Nat.le_refl _)).drew
     have hvD := hv.below hbo
     have hk2000 : s.size <= 2000 := by have := of_decide_eq_false hd; omega
     clear hv
     go_wp2_with fail
     go_region_with (first
      | (have _g := hb2; go_at_call 89; refine (r_plus _ _ _ _ _ _ (v * 10) d _ (h1.num.below hb2) h2.num ?_ ?_).mono ?_; (have := h1.len; have := HTL.out; omega); (have := h2.len; have := HDL.out; omega); rintro e' w3 ⟨A3, n3, c3, rfl, h3, hb3⟩)
      | (have _g := hb1; go_at_call 121; refine (r_natural d _ ?_).mono ?_; omega; rintro e' w2 ⟨A2, n2, c2, rfl, h2, hb2⟩; have HDL := Lib.hid (small_len (n := d) (by omega)))
      | (go_at_call 86; refine (r_times _ _ _ _ _ _ v 10 _ hvD hten ?_ ?_).mono ?_; omega; omega; rintro e' w1 ⟨A1, n1, c1, rfl, h1, hb1⟩; have HTL := Lib.hid (len_prod (a := v) (b := 10) (p := 2001) (q := 1) (by rw [<- hvD.len]; omega) (small_len (by decide)))))
     all_goals
      clear hw64 hsub
      go_wp2_with fail
      have h4 := decVal_lt HD2.out
      have h5 : (s.data.toList.take (k + 1)).length <= 2000 := by rw [List.length_take, HL.out]; omega
      have h6 := limbs_length_le (Nat.lt_of_lt_of_le h4 (pow_ten_P h5))
      have hb03 := hb.trans ((hbo.trans ((hb1.trans (hb2.mono hb1.size)).trans (hb3.mono (by have := hb1.size; have := hb2.size; omega)) |>.mono hbo.size)).mono hb.size)
      have hn3 : n3 <= 2001 := by rw [h3.len]; omega
      exact ⟨⟨k + 1, v * 10 + d, _, _, _, by omega, rfl, by go_num, h3.num, hn3, hb03, HD2⟩, by simp [intOf]; omega⟩
    ·have HF := Lib.hid (HN.out (by
      have h1 := HT.out
      rw [if_neg hdg] at h1
      rw [<- HR.out]; exact dec_take_none s (k + 1) h1))
     have hnd : ¬ (48 <= s[k].toNat /\ s[k].toNat <= 57) := fun h => hdg (decide_eq_true h)
     have hw2 : (decide ((s[k].toNat : Int) < 48) = true) \/ (decide ((s[k].toNat : Int) < 48) = false /\ decide ((57 : Int) < (s[k].toNat : Int)) = true) := by
      by_cases h : s[k].toNat < 48
      ·exact .inl (decide_eq_true (by omega))
      ·exact .inr ⟨decide_eq_false (by omega), decide_eq_true (by omega)⟩
     clear hdg hnd
     rcases hw2 with hw2 | ⟨hw2, hw3⟩
     all_goals
      go_wp2_with fail
      go_ret2
      exact HF.out _ hb
   ·have HE : Hid (r = some v) := by
     have h1 := HD.out
     rw [List.take_of_length_le (by rw [HL.out]; omega)] at h1
     show _ = _
     rw [<- HR.out, h1]
    go_wp2_with fail
    go_ret2
    rw [HE.out]
    exact ⟨_, _, _, rfl, hv, hn, hb⟩
end Go.Proofs.YtifeekomegoijaaGreatDoor
