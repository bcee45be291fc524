import Derived.Test.YtifeekomegoijaaGreatDoorY37
import Derived.Test.YtifeekomegoijaaGreatDoorY39
set_option linter.unusedVariables false
set_option linter.unusedSimpArgs false
set_option maxRecDepth 40000
set_option maxHeartbeats 8000000
namespace Go.Proofs.YtifeekomegoijaaGreatDoor
open Go.RowKit
theorem convB (w : World) (x : Nat) (z : Int) (hz : z = (x : Int)) (hx : x < 256) : (convert 87 9 (.slice (some ⟨w.heap.size, 0, none⟩) 1 1)).run Tryz.prog (w.alloc (.cells #[.int .u8 z] 5)) = .ok (.string ⟨#[UInt8.ofNat x]⟩) (w.alloc (.cells #[.int .u8 z] 5)) := by
 subst hz
 refine run_convert_bytes_back (P := Tryz.prog) _ 87 9 5 ⟨w.heap.size, 0, none⟩ 1 [UInt8.ofNat x] Tryz.underlying87 (by kernel_rfl) (by kernel_rfl) (fun j hj => ?_)
 obtain rfl : j = 0 := by simpa using hj
 have e : (⟨w.heap.size, 0, none⟩ : Addr).add 0 = ⟨w.heap.size, 0, none⟩ := by simp [Addr.add]
 have h := (Boxed.new w 5 (.int .u8 (x : Int))).cell
 rw [e, h]
 have e2 : (UInt8.ofNat x).toNat = x := by rw [UInt8.toNat_ofNat']; omega
 simp [e2]
theorem str_nil (s : ByteArray) : s.toList.isEmpty = true ↔ s.data.toList = [] := by
 rw [List.isEmpty_iff, toList_nil_iff]
 have h2 : s.data.toList.length = s.size := by rw [Array.length_toList]; rfl
 constructor
 ·intro h; exact List.eq_nil_of_length_eq_zero (by omega)
 ·intro h; rw [h] at h2; exact h2.symm
theorem sign_one (a : Rat) : ((a - 1).num.sign != 0) = decide (a ≠ 1) := by
 have h := sign_zero (a - 1)
 have h2 : (a - 1 = 0) ↔ a = 1 := by grind
 rw [bne, h, decide_not]
 congr 1
 exact decide_eq_decide.2 h2
theorem wrap8_in {x : Int} (h1 : 0 <= x) (h2 : x < 256) : IntKind.u8.wrap x = x := by
 simp [IntKind.wrap, IntKind.signed, IntKind.bits]
 omega
def txE (e : Ex) (j : Nat) : List UInt8 := Lib.join ((List.range j).flatMap fun i => pk i (comp e i)) [42]
theorem join_snoc' (y : List UInt8) : ∀ xs : List (List UInt8), Lib.join (xs ++ [y]) [42] = if xs = [] then y else Lib.join xs [42] ++ [42] ++ y
 | [] => by rw [if_pos rfl, List.nil_append, Lib.join_one]
 | x :: r => by
   rw [if_neg (by simp), List.cons_append, Lib.join_cons, Lib.join_cons]
   unfold Lib.joinTail
   simp
theorem join_ne {xs : List (List UInt8)} (h : xs ≠ []) (hx : ∀ x ∈ xs, x ≠ []) : Lib.join xs [42] ≠ [] := by
 cases xs with
 | nil => exact absurd rfl h
 | cons x r =>
   rw [Lib.join_cons]
   intro hh
   exact hx x (by simp) (List.append_eq_nil_iff.1 hh).1
theorem txE_idle {e : Ex} {j : Nat} (h : comp e j = 0) : txE e (j + 1) = txE e j := by
 unfold txE
 rw [List.range_succ, List.flatMap_append]
 simp [pk, h]
theorem txE_step {e : Ex} {j : Nat} (hj : j < 3) (he : ∀ i, comp e i <= 5) (h : comp e j ≠ 0) : txE e (j + 1) = (if txE e j = [] then [] else txE e j ++ [42]) ++ partB j (comp e j) := by
 have h1 : (List.range (j + 1)).flatMap (fun i => pk i (comp e i)) = (List.range j).flatMap (fun i => pk i (comp e i)) ++ [partB j (comp e j)] := by
  rw [List.range_succ, List.flatMap_append]
  simp [pk, h]
 unfold txE
 rw [h1, join_snoc']
 by_cases h0 : (List.range j).flatMap (fun i => pk i (comp e i)) = []
 ·rw [if_pos h0, h0]
  rfl
 ·have h2 := join_ne h0 (fun x hx => by
   obtain ⟨i, hi, hx⟩ := List.mem_flatMap.1 hx
   exact (pk_mem (by have := List.mem_range.1 hi; omega) (he i) hx).2.2.1)
  rw [if_neg h0, if_neg h2]
theorem txE_three (e : Ex) : txE e 3 = Lib.join (pk 0 e.1 ++ (pk 1 e.2.1 ++ pk 2 e.2.2)) [42] := by
 unfold txE
 simp [List.range_succ, comp]
theorem tx_num {m : Mon} (h : m.1 = (0, 0, 0)) : tx m = fmtQ (absq m.2) := by
 unfold tx pcs
 rw [if_pos (.inl h), h]
 exact Lib.join_one _ _
theorem tx_one {m : Mon} (h : m.1 ≠ (0, 0, 0)) (h1 : absq m.2 = 1) : tx m = txE m.1 3 := by
 unfold tx pcs
 rw [if_neg (fun hh => hh.elim h (fun h2 => h2 h1)), txE_three]
 rfl
theorem pks_ne {e : Ex} (h : e ≠ (0, 0, 0)) : pk 0 e.1 ++ (pk 1 e.2.1 ++ pk 2 e.2.2) ≠ [] := by
 intro hh
 simp only [List.append_eq_nil_iff] at hh
 have z : ∀ k n, pk k n = [] -> n = 0 := fun k n e => by
  unfold pk at e
  split at e
  ·assumption
  ·cases e
 exact h (Prod.ext (z _ _ hh.1) (Prod.ext (z _ _ hh.2.1) (z _ _ hh.2.2)))
theorem tx_both {m : Mon} (h : m.1 ≠ (0, 0, 0)) (h1 : absq m.2 ≠ 1) : tx m = fmtQ (absq m.2) ++ [42] ++ txE m.1 3 := by
 unfold tx pcs
 rw [if_pos (.inr h1), txE_three, List.singleton_append, Lib.join_cons]
 have h2 := pks_ne h
 cases hp : pk 0 m.1.1 ++ (pk 1 m.1.2.1 ++ pk 2 m.1.2.2) with
 | nil => exact absurd hp h2
 | cons x r =>
   rw [Lib.join_cons]
   unfold Lib.joinTail
   simp
theorem txE_nil {e : Ex} (he : ∀ i, comp e i <= 5) : txE e 3 = [] ↔ e = (0, 0, 0) := by
 rw [txE_three]
 constructor
 ·intro h
  refine Decidable.byContradiction (fun hn => ?_)
  refine join_ne (pks_ne hn) (fun x hx => ?_) h
  rcases List.mem_append.1 hx with hx | hx
  ·exact (pk_mem (by omega) (he 0) hx).2.2.1
  ·rcases List.mem_append.1 hx with hx | hx
   ·exact (pk_mem (by omega) (he 1) hx).2.2.1
   ·exact (pk_mem (by omega) (he 2) hx).2.2.1
 ·rintro rfl
  rfl
theorem r2_monomial (e : Ex) (nb : Bool) (A B : Option Addr) (n c m k : Nat) (q a : Rat) (w : World) (he : deg e <= 5) (hq : RatQ w (.agg #[.bool nb, .slice A n c, .slice B m k]) q) (hS : Sz q 5000) (ha : Hid (absq q = a)) :
 Calls Tryz.prog 120 #[.agg #[.int .i64 (e.1 : Int), .int .i64 (e.2.1 : Int), .int .i64 (e.2.2 : Int), .bool nb, .slice A n c, .slice B m k]] w (RetV w (.string ⟨(tx (e, q)).toArray⟩)) := by
 have hcp : ∀ i, comp e i <= 5 := fun i => comp_le he i
 have HEQ := Lib.hid (fun j (hj : j < 3) => txE_step hj hcp)
 have HEI := Lib.hid (fun j => txE_idle (e := e) (j := j))
 obtain ⟨ea, eb, ec⟩ := e
 have hca := hcp 0
 have hcb := hcp 1
 have hcc := hcp 2
 simp only [comp] at hca hcb hcc
 obtain ⟨hbM, cM⟩ := blk1 w [.int .i64 (ea : Int), .int .i64 (eb : Int), .int .i64 (ec : Int), .bool nb, .slice A n c, .slice B m k] MT
 have HC0 := Lib.hid cM
 have HB0 := Lib.hid hbM
 have HQ0 := Lib.hid (hq.below hbM)
 have HS := Lib.hid hS
 have HCP := Lib.hid hcp
 obtain ⟨x0, x1, x2, x3, x4, x5⟩ := cM.c6
 clear hbM cM hq hS hcp he
 go_enter Tryz.func120, Tryz.ntmps120
 go_wp2_with fail
 obtain ⟨W0, hW0⟩ : ∃ W0, w.alloc (.cells #[.int .i64 (ea : Int), .int .i64 (eb : Int), .int .i64 (ec : Int), .bool nb, .slice A n c, .slice B m k] MT) = W0 := ⟨_, rfl⟩
 rw [hW0] at HC0 HB0 HQ0 x0 x1 x2 x3 x4 x5 ⊢
 clear hW0 x0 x1 x2 x3 x4 x5
 refine (r_Abs _ _ W0 (HQ0.out.inr (HS.out) (by omega))).mono ?_
 rintro e1 w1 ⟨v1, rfl, hq1, hb1⟩
 have hqa : q.abs = a := (absq_abs q).symm.trans ha.out
 rw [hqa] at hq1
 obtain ⟨cb, cA, cn, cc, cB, cm, cd, rfl⟩ := hq1.agg
 obtain ⟨hbR, cR⟩ := blk1 w1 [.bool cb, .slice cA cn cc, .slice cB cm cd] 25
 have HR := Lib.hid cR
 have HQ := Lib.hid (hq1.below hbR)
 have HC := Lib.hid ((HC0.out.below hb1 HC0.out.lt).below hbR (HC0.out.below hb1 HC0.out.lt).lt)
 have HB := Lib.hid (HB0.out.trans ((hb1.trans (hbR.mono hb1.size)).mono HB0.out.size))
 have HSA : Hid (Sz a 5000) := Lib.hid (by rw [<- ha.out]; exact sz_abs HS.out rfl)
 clear hq1 hb1 hbR cR HC0 HB0 HQ0
 go_wp2_with fail
 obtain ⟨W1, hW1⟩ : ∃ W1, w1.alloc (.cells #[.bool cb, .slice cA cn cc, .slice cB cm cd] 25) = W1 := ⟨_, rfl⟩
 rw [hW1] at HR HQ HC HB ⊢
 clear hW1
 go_loopw [3, 5] (fun sv iv wr => ∃ (j : Nat) (s : ByteArray), j <= 3 /\ iv = .int .i64 (j : Int) /\ sv = .string s /\ s.size <= 4 * j /\ Hid (s.data.toList = txE (ea, eb, ec) j) /\ Below W1.heap.size W1 wr) (fun _ iv _ => (3 - intOf iv).toNat)
 case atStart => exact ⟨0, ⟨#[]⟩, by omega, rfl, rfl, Nat.le_refl _, Lib.hid rfl, Below.refl _ _⟩
 case round =>
  obtain ⟨j, s, hj, rfl, rfl, hsz, HE, hb⟩ := hrel
  obtain rfl | rfl | rfl | rfl : j = 0 \/ j = 1 \/ j = 2 \/ j = 3 := by omega
  ·have hst := HEQ.out 0 (by omega)
   have hid := HEI.out 0
   simp only [comp] at hst hid
   obtain ⟨y0, y1, y2, _, _, _⟩ := (HC.out.below hb HC.out.lt).c6
   by_cases h0 : ea = 0
   ·have hz : ((ea : Int) == 0) = true := by rw [h0]; rfl
    have HI := Lib.hid (hid h0)
    clear hst hid
    go_wp2_with fail
    go_roundw
    case rel => exact ⟨0 + 1, s, by omega, rfl, rfl, by omega, Lib.hid (by rw [HI.out]; exact HE.out), hb⟩
    case measure => simp [intOf]
   ·have hz : ((ea : Int) == 0) = false := by rw [beq_eq_false_iff_ne]; omega
    have HST := Lib.hid (hst h0)
    have HNZ := Lib.hid h0
    clear hst hid
    have hcv := convB wr 97 97 rfl (by decide)
    have hbo := (Below.refl wr.heap.size wr).alloc (Nat.le_refl _) (.cells #[.int .u8 97] 5)
    have HB1 := Lib.hid (hb.trans (hbo.mono hb.size))
    have HSI := Lib.hid (str_nil s)
    obtain ⟨E, hE⟩ : ∃ E, s.toList.isEmpty = E := ⟨_, rfl⟩
    have HE2 := Lib.hid hE
    clear hb hbo
    cases E
    ·have HT1 : Hid ((s ++ (⟨#[42]⟩ : ByteArray) ++ (⟨#[97]⟩ : ByteArray)).data.toList = (if txE (ea, eb, ec) 0 = [] then [] else txE (ea, eb, ec) 0 ++ [42]) ++ [UInt8.ofNat (97 + 0)]) := Lib.hid (by
      rw [if_neg (by rw [<- HE.out]; exact fun h => absurd (HSI.out.2 h) (by rw [hE]; decide)), <- HE.out]
      simp)
     have HZ1 : Hid ((s ++ (⟨#[42]⟩ : ByteArray) ++ (⟨#[97]⟩ : ByteArray)).size <= 4 * 0 + 2) := Lib.hid (by rw [ByteArray.size_append, ByteArray.size_append]; show s.size + 1 + 1 <= _; omega)
     go_upto_region 9 with (fail)
     have hex : ∃ s', s ++ (⟨#[42]⟩ : ByteArray) ++ (⟨#[97]⟩ : ByteArray) = s' := ⟨_, rfl⟩
     obtain ⟨s', hs'⟩ := hex
     rw [hs'] at HT1 HZ1 ⊢
     clear hs'
     obtain ⟨W5, hW5⟩ : ∃ W5, wr.alloc (.cells #[.int .u8 97] 5) = W5 := ⟨_, rfl⟩
     rw [hW5] at HB1 ⊢
     clear hW5 hcv y0 y1 y2 hE
     obtain ⟨y0, y1, y2, _, _, _⟩ := (HC.out.below HB1.out HC.out.lt).c6
     by_cases h1 : ea = 1
     ·have hlt : ¬ (1 : Int) < (ea : Int) := by omega
      have HF : Hid (s'.data.toList = txE (ea, eb, ec) (0 + 1)) := Lib.hid (by rw [HT1.out, HST.out]; unfold partB; rw [if_pos h1])
      have HZ := HZ1.out
      go_wp2_with fail
      go_roundw
      case rel => exact ⟨0 + 1, s', by omega, rfl, rfl, by omega, HF, HB1.out⟩
      case measure => simp [intOf]
     ·have hlt : (1 : Int) < (ea : Int) := by have := HNZ.out; omega
      have hz := HZ1.out
      have hwi : IntKind.i64.wrap (48 + (ea : Int)) = 48 + (ea : Int) := IntWalk.i64_in _ (by omega)
      have hwu : IntKind.u8.wrap (48 + (ea : Int)) = 48 + (ea : Int) := wrap8_in (by omega) (by omega)
      have hcv2 := convB W5 (48 + ea) (48 + (ea : Int)) (by omega) (by omega)
      have hbo := (Below.refl W5.heap.size W5).alloc (Nat.le_refl _) (.cells #[.int .u8 (48 + (ea : Int))] 5)
      have HB2 := Lib.hid (HB1.out.trans (hbo.mono HB1.out.size))
      clear hbo
      have hz2 : (s' ++ ((⟨#[94]⟩ : ByteArray) ++ (⟨#[48 + UInt8.ofNat ea]⟩ : ByteArray))).size <= 4 * (0 + 1) := by
       rw [ByteArray.size_append, ByteArray.size_append]
       show s'.size + (1 + 1) <= _
       omega
      have HF : Hid ((s' ++ ((⟨#[94]⟩ : ByteArray) ++ (⟨#[48 + UInt8.ofNat ea]⟩ : ByteArray))).data.toList = txE (ea, eb, ec) (0 + 1)) := Lib.hid (by
       have e1 : (48 + UInt8.ofNat ea) = UInt8.ofNat (48 + ea) := by simp
       rw [e1, ByteArray.data_append, Array.toList_append, HT1.out, HST.out]
       unfold partB
       rw [if_neg h1]
       simp)
      go_wp2_with fail
      exact ⟨⟨0 + 1, _, by omega, rfl, rfl, hz2, HF, HB2.out⟩, by simp [intOf]⟩
    ·have HT1 : Hid ((s ++ (⟨#[97]⟩ : ByteArray)).data.toList = (if txE (ea, eb, ec) 0 = [] then [] else txE (ea, eb, ec) 0 ++ [42]) ++ [UInt8.ofNat (97 + 0)]) := Lib.hid (by
      rw [if_pos (by rw [<- HE.out]; exact HSI.out.1 hE)]
      have h0 := HSI.out.1 hE
      rw [ByteArray.data_append, Array.toList_append, h0]
      rfl)
     have HZ1 : Hid ((s ++ (⟨#[97]⟩ : ByteArray)).size <= 4 * 0 + 2) := Lib.hid (by rw [ByteArray.size_append]; show s.size + 1 <= _; omega)
     go_upto_region 9 with (fail)
     have hex : ∃ s', s ++ (⟨#[97]⟩ : ByteArray) = s' := ⟨_, rfl⟩
     obtain ⟨s', hs'⟩ := hex
     rw [hs'] at HT1 HZ1 ⊢
     clear hs'
     obtain ⟨W5, hW5⟩ : ∃ W5, wr.alloc (.cells #[.int .u8 97] 5) = W5 := ⟨_, rfl⟩
     rw [hW5] at HB1 ⊢
     clear hW5 hcv y0 y1 y2 hE
     obtain ⟨y0, y1, y2, _, _, _⟩ := (HC.out.below HB1.out HC.out.lt).c6
     by_cases h1 : ea = 1
     ·have hlt : ¬ (1 : Int) < (ea : Int) := by omega
      have HF : Hid (s'.data.toList = txE (ea, eb, ec) (0 + 1)) := Lib.hid (by rw [HT1.out, HST.out]; unfold partB; rw [if_pos h1])
      have HZ := HZ1.out
      go_wp2_with fail
      go_roundw
      case rel => exact ⟨0 + 1, s', by omega, rfl, rfl, by omega, HF, HB1.out⟩
      case measure => simp [intOf]
     ·have hlt : (1 : Int) < (ea : Int) := by have := HNZ.out; omega
      have hz := HZ1.out
      have hwi : IntKind.i64.wrap (48 + (ea : Int)) = 48 + (ea : Int) := IntWalk.i64_in _ (by omega)
      have hwu : IntKind.u8.wrap (48 + (ea : Int)) = 48 + (ea : Int) := wrap8_in (by omega) (by omega)
      have hcv2 := convB W5 (48 + ea) (48 + (ea : Int)) (by omega) (by omega)
      have hbo := (Below.refl W5.heap.size W5).alloc (Nat.le_refl _) (.cells #[.int .u8 (48 + (ea : Int))] 5)
      have HB2 := Lib.hid (HB1.out.trans (hbo.mono HB1.out.size))
      clear hbo
      have hz2 : (s' ++ ((⟨#[94]⟩ : ByteArray) ++ (⟨#[48 + UInt8.ofNat ea]⟩ : ByteArray))).size <= 4 * (0 + 1) := by
       rw [ByteArray.size_append, ByteArray.size_append]
       show s'.size + (1 + 1) <= _
       omega
      have HF : Hid ((s' ++ ((⟨#[94]⟩ : ByteArray) ++ (⟨#[48 + UInt8.ofNat ea]⟩ : ByteArray))).data.toList = txE (ea, eb, ec) (0 + 1)) := Lib.hid (by
       have e1 : (48 + UInt8.ofNat ea) = UInt8.ofNat (48 + ea) := by simp
       rw [e1, ByteArray.data_append, Array.toList_append, HT1.out, HST.out]
       unfold partB
       rw [if_neg h1]
       simp)
      go_wp2_with fail
      exact ⟨⟨0 + 1, _, by omega, rfl, rfl, hz2, HF, HB2.out⟩, by simp [intOf]⟩
  ·have hst := HEQ.out 1 (by omega)
   have hid := HEI.out 1
   simp only [comp] at hst hid
   obtain ⟨y0, y1, y2, _, _, _⟩ := (HC.out.below hb HC.out.lt).c6
   by_cases h0 : eb = 0
   ·have hz : ((eb : Int) == 0) = true := by rw [h0]; rfl
    have HI := Lib.hid (hid h0)
    clear hst hid
    go_wp2_with fail
    go_roundw
    case rel => exact ⟨1 + 1, s, by omega, rfl, rfl, by omega, Lib.hid (by rw [HI.out]; exact HE.out), hb⟩
    case measure => simp [intOf]
   ·have hz : ((eb : Int) == 0) = false := by rw [beq_eq_false_iff_ne]; omega
    have HST := Lib.hid (hst h0)
    have HNZ := Lib.hid h0
    clear hst hid
    have hcv := convB wr 98 98 rfl (by decide)
    have hbo := (Below.refl wr.heap.size wr).alloc (Nat.le_refl _) (.cells #[.int .u8 98] 5)
    have HB1 := Lib.hid (hb.trans (hbo.mono hb.size))
    have HSI := Lib.hid (str_nil s)
    obtain ⟨E, hE⟩ : ∃ E, s.toList.isEmpty = E := ⟨_, rfl⟩
    have HE2 := Lib.hid hE
    clear hb hbo
    cases E
    ·have HT1 : Hid ((s ++ (⟨#[42]⟩ : ByteArray) ++ (⟨#[98]⟩ : ByteArray)).data.toList = (if txE (ea, eb, ec) 1 = [] then [] else txE (ea, eb, ec) 1 ++ [42]) ++ [UInt8.ofNat (97 + 1)]) := Lib.hid (by
      rw [if_neg (by rw [<- HE.out]; exact fun h => absurd (HSI.out.2 h) (by rw [hE]; decide)), <- HE.out]
      simp)
     have HZ1 : Hid ((s ++ (⟨#[42]⟩ : ByteArray) ++ (⟨#[98]⟩ : ByteArray)).size <= 4 * 1 + 2) := Lib.hid (by rw [ByteArray.size_append, ByteArray.size_append]; show s.size + 1 + 1 <= _; omega)
     go_upto_region 9 with (fail)
     have hex : ∃ s', s ++ (⟨#[42]⟩ : ByteArray) ++ (⟨#[98]⟩ : ByteArray) = s' := ⟨_, rfl⟩
     obtain ⟨s', hs'⟩ := hex
     rw [hs'] at HT1 HZ1 ⊢
     clear hs'
     obtain ⟨W5, hW5⟩ : ∃ W5, wr.alloc (.cells #[.int .u8 98] 5) = W5 := ⟨_, rfl⟩
     rw [hW5] at HB1 ⊢
     clear hW5 hcv y0 y1 y2 hE
     obtain ⟨y0, y1, y2, _, _, _⟩ := (HC.out.below HB1.out HC.out.lt).c6
     by_cases h1 : eb = 1
     ·have hlt : ¬ (1 : Int) < (eb : Int) := by omega
      have HF : Hid (s'.data.toList = txE (ea, eb, ec) (1 + 1)) := Lib.hid (by rw [HT1.out, HST.out]; unfold partB; rw [if_pos h1])
      have HZ := HZ1.out
      go_wp2_with fail
      go_roundw
      case rel => exact ⟨1 + 1, s', by omega, rfl, rfl, by omega, HF, HB1.out⟩
      case measure => simp [intOf]
     ·have hlt : (1 : Int) < (eb : Int) := by have := HNZ.out; omega
      have hz := HZ1.out
      have hwi : IntKind.i64.wrap (48 + (eb : Int)) = 48 + (eb : Int) := IntWalk.i64_in _ (by omega)
      have hwu : IntKind.u8.wrap (48 + (eb : Int)) = 48 + (eb : Int) := wrap8_in (by omega) (by omega)
      have hcv2 := convB W5 (48 + eb) (48 + (eb : Int)) (by omega) (by omega)
      have hbo := (Below.refl W5.heap.size W5).alloc (Nat.le_refl _) (.cells #[.int .u8 (48 + (eb : Int))] 5)
      have HB2 := Lib.hid (HB1.out.trans (hbo.mono HB1.out.size))
      clear hbo
      have hz2 : (s' ++ ((⟨#[94]⟩ : ByteArray) ++ (⟨#[48 + UInt8.ofNat eb]⟩ : ByteArray))).size <= 4 * (1 + 1) := by
       rw [ByteArray.size_append, ByteArray.size_append]
       show s'.size + (1 + 1) <= _
       omega
      have HF : Hid ((s' ++ ((⟨#[94]⟩ : ByteArray) ++ (⟨#[48 + UInt8.ofNat eb]⟩ : ByteArray))).data.toList = txE (ea, eb, ec) (1 + 1)) := Lib.hid (by
       have e1 : (48 + UInt8.ofNat eb) = UInt8.ofNat (48 + eb) := by simp
       rw [e1, ByteArray.data_append, Array.toList_append, HT1.out, HST.out]
       unfold partB
       rw [if_neg h1]
       simp)
      go_wp2_with fail
      exact ⟨⟨1 + 1, _, by omega, rfl, rfl, hz2, HF, HB2.out⟩, by simp [intOf]⟩
    ·have HT1 : Hid ((s ++ (⟨#[98]⟩ : ByteArray)).data.toList = (if txE (ea, eb, ec) 1 = [] then [] else txE (ea, eb, ec) 1 ++ [42]) ++ [UInt8.ofNat (97 + 1)]) := Lib.hid (by
      rw [if_pos (by rw [<- HE.out]; exact HSI.out.1 hE)]
      have h0 := HSI.out.1 hE
      rw [ByteArray.data_append, Array.toList_append, h0]
      rfl)
     have HZ1 : Hid ((s ++ (⟨#[98]⟩ : ByteArray)).size <= 4 * 1 + 2) := Lib.hid (by rw [ByteArray.size_append]; show s.size + 1 <= _; omega)
     go_upto_region 9 with (fail)
     have hex : ∃ s', s ++ (⟨#[98]⟩ : ByteArray) = s' := ⟨_, rfl⟩
     obtain ⟨s', hs'⟩ := hex
     rw [hs'] at HT1 HZ1 ⊢
     clear hs'
     obtain ⟨W5, hW5⟩ : ∃ W5, wr.alloc (.cells #[.int .u8 98] 5) = W5 := ⟨_, rfl⟩
     rw [hW5] at HB1 ⊢
     clear hW5 hcv y0 y1 y2 hE
     obtain ⟨y0, y1, y2, _, _, _⟩ := (HC.out.below HB1.out HC.out.lt).c6
     by_cases h1 : eb = 1
     ·have hlt : ¬ (1 : Int) < (eb : Int) := by omega
      have HF : Hid (s'.data.toList = txE (ea, eb, ec) (1 + 1)) := Lib.hid (by rw [HT1.out, HST.out]; unfold partB; rw [if_pos h1])
      have HZ := HZ1.out
      go_wp2_with fail
      go_roundw
      case rel => exact ⟨1 + 1, s', by omega, rfl, rfl, by omega, HF, HB1.out⟩
      case measure => simp [intOf]
     ·have hlt : (1 : Int) < (eb : Int) := by have := HNZ.out; omega
      have hz := HZ1.out
      have hwi : IntKind.i64.wrap (48 + (eb : Int)) = 48 + (eb : Int) := IntWalk.i64_in _ (by omega)
      have hwu : IntKind.u8.wrap (48 + (eb : Int)) = 48 + (eb : Int) := wrap8_in (by omega) (by omega)
      have hcv2 := convB W5 (48 + eb) (48 + (eb : Int)) (by omega) (by omega)
      have hbo := (Below.refl W5.heap.size W5).alloc (Nat.le_refl _) (.cells #[.int .u8 (48 + (eb : Int))] 5)
      have HB2 := Lib.hid (HB1.out.trans (hbo.mono HB1.out.size))
      clear hbo
      have hz2 : (s' ++ ((⟨#[94]⟩ : ByteArray) ++ (⟨#[48 + UInt8.ofNat eb]⟩ : ByteArray))).size <= 4 * (1 + 1) := by
       rw [ByteArray.size_append, ByteArray.size_append]
       show s'.size + (1 + 1) <= _
       omega
      have HF : Hid ((s' ++ ((⟨#[94]⟩ : ByteArray) ++ (⟨#[48 + UInt8.ofNat eb]⟩ : ByteArray))).data.toList = txE (ea, eb, ec) (1 + 1)) := Lib.hid (by
       have e1 : (48 + UInt8.ofNat eb) = UInt8.ofNat (48 + eb) := by simp
       rw [e1, ByteArray.data_append, Array.toList_append, HT1.out, HST.out]
       unfold partB
       rw [if_neg h1]
       simp)
      go_wp2_with fail
      exact ⟨⟨1 + 1, _, by omega, rfl, rfl, hz2, HF, HB2.out⟩, by simp [intOf]⟩
  ·have hst := HEQ.out 2 (by omega)
   have hid := HEI.out 2
   simp only [comp] at hst hid
   obtain ⟨y0, y1, y2, _, _, _⟩ := (HC.out.below hb HC.out.lt).c6
   by_cases h0 : ec = 0
   ·have hz : ((ec : Int) == 0) = true := by rw [h0]; rfl
    have HI := Lib.hid (hid h0)
    clear hst hid
    go_wp2_with fail
    go_roundw
    case rel => exact ⟨2 + 1, s, by omega, rfl, rfl, by omega, Lib.hid (by rw [HI.out]; exact HE.out), hb⟩
    case measure => simp [intOf]
   ·have hz : ((ec : Int) == 0) = false := by rw [beq_eq_false_iff_ne]; omega
    have HST := Lib.hid (hst h0)
    have HNZ := Lib.hid h0
    clear hst hid
    have hcv := convB wr 99 99 rfl (by decide)
    have hbo := (Below.refl wr.heap.size wr).alloc (Nat.le_refl _) (.cells #[.int .u8 99] 5)
    have HB1 := Lib.hid (hb.trans (hbo.mono hb.size))
    have HSI := Lib.hid (str_nil s)
    obtain ⟨E, hE⟩ : ∃ E, s.toList.isEmpty = E := ⟨_, rfl⟩
    have HE2 := Lib.hid hE
    clear hb hbo
    cases E
    ·have HT1 : Hid ((s ++ (⟨#[42]⟩ : ByteArray) ++ (⟨#[99]⟩ : ByteArray)).data.toList = (if txE (ea, eb, ec) 2 = [] then [] else txE (ea, eb, ec) 2 ++ [42]) ++ [UInt8.ofNat (97 + 2)]) := Lib.hid (by
      rw [if_neg (by rw [<- HE.out]; exact fun h => absurd (HSI.out.2 h) (by rw [hE]; decide)), <- HE.out]
      simp)
     have HZ1 : Hid ((s ++ (⟨#[42]⟩ : ByteArray) ++ (⟨#[99]⟩ : ByteArray)).size <= 4 * 2 + 2) := Lib.hid (by rw [ByteArray.size_append, ByteArray.size_append]; show s.size + 1 + 1 <= _; omega)
     go_upto_region 9 with (fail)
     have hex : ∃ s', s ++ (⟨#[42]⟩ : ByteArray) ++ (⟨#[99]⟩ : ByteArray) = s' := ⟨_, rfl⟩
     obtain ⟨s', hs'⟩ := hex
     rw [hs'] at HT1 HZ1 ⊢
     clear hs'
     obtain ⟨W5, hW5⟩ : ∃ W5, wr.alloc (.cells #[.int .u8 99] 5) = W5 := ⟨_, rfl⟩
     rw [hW5] at HB1 ⊢
     clear hW5 hcv y0 y1 y2 hE
     obtain ⟨y0, y1, y2, _, _, _⟩ := (HC.out.below HB1.out HC.out.lt).c6
     by_cases h1 : ec = 1
     ·have hlt : ¬ (1 : Int) < (ec : Int) := by omega
      have HF : Hid (s'.data.toList = txE (ea, eb, ec) (2 + 1)) := Lib.hid (by rw [HT1.out, HST.out]; unfold partB; rw [if_pos h1])
      have HZ := HZ1.out
      go_wp2_with fail
      go_roundw
      case rel => exact ⟨2 + 1, s', by omega, rfl, rfl, by omega, HF, HB1.out⟩
      case measure => simp [intOf]
     ·have hlt : (1 : Int) < (ec : Int) := by have := HNZ.out; omega
      have hz := HZ1.out
      have hwi : IntKind.i64.wrap (48 + (ec : Int)) = 48 + (ec : Int) := IntWalk.i64_in _ (by omega)
      have hwu : IntKind.u8.wrap (48 + (ec : Int)) = 48 + (ec : Int) := wrap8_in (by omega) (by omega)
      have hcv2 := convB W5 (48 + ec) (48 + (ec : Int)) (by omega) (by omega)
      have hbo := (Below.refl W5.heap.size W5).alloc (Nat.le_refl _) (.cells #[.int .u8 (48 + (ec : Int))] 5)
      have HB2 := Lib.hid (HB1.out.trans (hbo.mono HB1.out.size))
      clear hbo
      have hz2 : (s' ++ ((⟨#[94]⟩ : ByteArray) ++ (⟨#[48 + UInt8.ofNat ec]⟩ : ByteArray))).size <= 4 * (2 + 1) := by
       rw [ByteArray.size_append, ByteArray.size_append]
       show s'.size + (1 + 1) <= _
       omega
      have HF : Hid ((s' ++ ((⟨#[94]⟩ : ByteArray) ++ (⟨#[48 + UInt8.ofNat ec]⟩ : ByteArray))).data.toList = txE (ea, eb, ec) (2 + 1)) := Lib.hid (by
       have e1 : (48 + UInt8.ofNat ec) = UInt8.ofNat (48 + ec) := by simp
       rw [e1, ByteArray.data_append, Array.toList_append, HT1.out, HST.out]
       unfold partB
       rw [if_neg h1]
       simp)
      go_wp2_with fail
      exact ⟨⟨2 + 1, _, by omega, rfl, rfl, hz2, HF, HB2.out⟩, by simp [intOf]⟩
    ·have HT1 : Hid ((s ++ (⟨#[99]⟩ : ByteArray)).data.toList = (if txE (ea, eb, ec) 2 = [] then [] else txE (ea, eb, ec) 2 ++ [42]) ++ [UInt8.ofNat (97 + 2)]) := Lib.hid (by
      rw [if_pos (by rw [<- HE.out]; exact HSI.out.1 hE)]
      have h0 := HSI.out.1 hE
      rw [ByteArray.data_append, Array.toList_append, h0]
      rfl)
     have HZ1 : Hid ((s ++ (⟨#[99]⟩ : ByteArray)).size <= 4 * 2 + 2) := Lib.hid (by rw [ByteArray.size_append]; show s.size + 1 <= _; omega)
     go_upto_region 9 with (fail)
     have hex : ∃ s', s ++ (⟨#[99]⟩ : ByteArray) = s' := ⟨_, rfl⟩
     obtain ⟨s', hs'⟩ := hex
     rw [hs'] at HT1 HZ1 ⊢
     clear hs'
     obtain ⟨W5, hW5⟩ : ∃ W5, wr.alloc (.cells #[.int .u8 99] 5) = W5 := ⟨_, rfl⟩
     rw [hW5] at HB1 ⊢
     clear hW5 hcv y0 y1 y2 hE
     obtain ⟨y0, y1, y2, _, _, _⟩ := (HC.out.below HB1.out HC.out.lt).c6
     by_cases h1 : ec = 1
     ·have hlt : ¬ (1 : Int) < (ec : Int) := by omega
      have HF : Hid (s'.data.toList = txE (ea, eb, ec) (2 + 1)) := Lib.hid (by rw [HT1.out, HST.out]; unfold partB; rw [if_pos h1])
      have HZ := HZ1.out
      go_wp2_with fail
      go_roundw
      case rel => exact ⟨2 + 1, s', by omega, rfl, rfl, by omega, HF, HB1.out⟩
      case measure => simp [intOf]
     ·have hlt : (1 : Int) < (ec : Int) := by have := HNZ.out; omega
      have hz := HZ1.out
      have hwi : IntKind.i64.wrap (48 + (ec : Int)) = 48 + (ec : Int) := IntWalk.i64_in _ (by omega)
      have hwu : IntKind.u8.wrap (48 + (ec : Int)) = 48 + (ec : Int) := wrap8_in (by omega) (by omega)
      have hcv2 := convB W5 (48 + ec) (48 + (ec : Int)) (by omega) (by omega)
      have hbo := (Below.refl W5.heap.size W5).alloc (Nat.le_refl _) (.cells #[.int .u8 (48 + (ec : Int))] 5)
      have HB2 := Lib.hid (HB1.out.trans (hbo.mono HB1.out.size))
      clear hbo
      have hz2 : (s' ++ ((⟨#[94]⟩ : ByteArray) ++ (⟨#[48 + UInt8.ofNat ec]⟩ : ByteArray))).size <= 4 * (2 + 1) := by
       rw [ByteArray.size_append, ByteArray.size_append]
       show s'.size + (1 + 1) <= _
       omega
      have HF : Hid ((s' ++ ((⟨#[94]⟩ : ByteArray) ++ (⟨#[48 + UInt8.ofNat ec]⟩ : ByteArray))).data.toList = txE (ea, eb, ec) (2 + 1)) := Lib.hid (by
       have e1 : (48 + UInt8.ofNat ec) = UInt8.ofNat (48 + ec) := by simp
       rw [e1, ByteArray.data_append, Array.toList_append, HT1.out, HST.out]
       unfold partB
       rw [if_neg h1]
       simp)
      go_wp2_with fail
      exact ⟨⟨2 + 1, _, by omega, rfl, rfl, hz2, HF, HB2.out⟩, by simp [intOf]⟩
  ·have HSI := Lib.hid (str_nil s)
   have HW := Lib.hid (HB.out.trans (hb.mono HB.out.size))
   have HRW := Lib.hid (HR.out.below hb HR.out.lt)
   have HQW := Lib.hid (HQ.out.below hb)
   clear hb HR HQ HB HC
   by_cases he : (ea, eb, ec) = (0, 0, 0)
   ·have hE : s.toList.isEmpty = true := HSI.out.2 (by rw [HE.out]; exact (txE_nil HCP.out).2 he)
    obtain ⟨x0, x1, x2⟩ := HRW.out.c3
    have HTX : Hid (tx ((ea, eb, ec), q) = fmtQ a) := Lib.hid (by rw [tx_num he, ha.out])
    clear he
    go_wp2_with fail
    refine (r_Format _ a wr (HQW.out.inr HSA.out (by omega)) (HSA.out.mono (by omega))).mono ?_
    rintro e2 w2 ⟨rfl, hb2⟩
    have HEND := Lib.hid (HW.out.trans (hb2.mono HW.out.size))
    clear hb2
    rw [<- HTX.out]
    go_wp2_with fail
    go_ret
    exact ⟨rfl, HEND.out⟩
   ·have hE : s.toList.isEmpty = false := by
     rw [Bool.eq_false_iff]
     intro hh
     have := HSI.out.1 hh
     rw [HE.out] at this
     exact he ((txE_nil HCP.out).1 this)
    have HD := Lib.hid HRW.out.drew
    have HDL := Lib.hid HD.out.lt
    have HQD := Lib.hid (HQW.out.below (Below.refl _ _).drew)
    have HB := Lib.hid HW.out.drew
    obtain ⟨V, hV⟩ : ∃ V, decide (a ≠ 1) = V := ⟨_, rfl⟩
    have HV : Hid (((a - 1).num.sign != 0) = V) := Lib.hid (by rw [sign_one, hV])
    have HVV := Lib.hid hV
    have HNE := Lib.hid he
    clear hV he
    go_upto_region 13 with (fail)
    refine wp_region6 4 (51 :: 52 :: 53 :: 54 :: []) (Sq.val (.agg #[.bool cb, .slice cA cn cc, .slice cB cm cd]) :: Sq.st (fun w a => RatQ w a 1) :: Sq.val (.int .i64 (a - 1).num.sign) :: Sq.val (.bool V) :: []) (by kernel_rfl) (by kernel_rfl) (by kernel_rfl) (by kernel_rfl) ?stepm 1 (by kernel_rfl) _ rfl ?finm
    case stepm =>
     intro i hi oi ho f wx hB hdep K hK
     simp only [frontAct, zf1, zf2, zf3, zf4, zf5] at hK ⊢
     obtain ⟨x0, x1, x2⟩ := (HD.out.below hB HDL.out).c3
     rcases Nat.lt_or_eq_of_le (Nat.le_of_lt_succ hi) with hi | rfl
     rcases Nat.lt_or_eq_of_le (Nat.le_of_lt_succ hi) with hi | rfl
     rcases Nat.lt_or_eq_of_le (Nat.le_of_lt_succ hi) with hi | rfl
     rcases Nat.lt_or_eq_of_le (Nat.le_of_lt_succ hi) with hi | rfl
     exact absurd hi (Nat.not_lt_zero _)
     all_goals
      obtain rfl := Option.some.inj ho
      clear ho
      simp only [Act.put, zf3, zf4, zf5] at hK
     rotate_left
     ·go_simp
      refine (r_Of 1 1 wx (by decide) 1 (by decide +kernel) (by decide) (by decide) (by decide) (by decide)).mono ?_
      rintro e0 w' ⟨val, rfl, hr, hb⟩
      exact hK val w' (gs6 rfl (fun w2 h2 => hr.below h2)) hb (hB.trans (hb.mono hB.size)) (nb6 rfl rfl)
     ·have e51 := dv6 (hdep ⟨0, .data⟩ (by simp) rfl) rfl
      have e52 := ds6 (hdep ⟨1, .data⟩ (by simp) rfl) rfl
      simp only [zf6, zf7] at e51 e52
      generalize f 51 = f51 at *; subst e51
      replace e52 := (show RatQ wx (f 52) 1 from e52)
      generalize f 52 = f52 at *
      go_simp
      refine (r_Compare _ _ a 1 wx ((HQD.out.below hB).inr HSA.out (by omega)) (e52.inr (sz_one' 1 (Nat.le_refl _)) (by omega)) (HSA.out.mono (by omega)) (sz_one' _ (by omega))).mono ?_
      rintro e0 w' ⟨rfl, hb⟩
      exact hK (.int .i64 (a - 1).num.sign) w' (gv6 rfl) hb (hB.trans (hb.mono hB.size)) (nb6 rfl rfl)
     have e53 := dv6 (hdep ⟨2, .data⟩ (by simp) rfl) rfl
     simp only [zf6, zf7] at e53
     generalize f 53 = f53 at *; subst e53
     have hvv := HV.out
     rotate_left
     all_goals go_simp
     all_goals exact hK _ wx (gv6 rfl) (Below.refl _ _) hB (nb6 rfl rfl)
    case finm =>
     intro f wx hB hG hne
     have e54 := dv6 (a := f 54) (hG 3 (by decide)) rfl
     clear hG hne
     simp only [frontAct, zf1, zf2, zf3, zf4, zf5]
     generalize f 54 = f54 at *; subst e54
     have HB3 := Lib.hid (HB.out.trans (hB.mono HB.out.size))
     have HR3 := Lib.hid (HD.out.below hB HDL.out)
     have HQ3 := Lib.hid (HQD.out.below hB)
     clear hB
     refine wpAny_ready (rs := [4]) (by kernel_rfl) (by simp) ?_
     refine AllReady.cons rfl (fun K hK => ?_) AllReady.nil
     have HQ := Lib.hid hK
     clear hK
     go_simp
     refine HQ.out _ _ ?_
     clear HQ K
     refine wpAny_done (by kernel_rfl) ?_ _
     obtain ⟨x0, x1, x2⟩ := HR3.out.c3
     have hsz12 := hsz
     cases V
     ·have HTX : Hid (tx ((ea, eb, ec), q) = s.data.toList) := Lib.hid (by
       have h1 : a = 1 := Decidable.byContradiction (fun h => by have := HVV.out; rw [decide_eq_true h] at this; cases this)
       rw [tx_one HNE.out (ha.out.trans h1), HE.out])
      go_wp2_with fail
      go_ret
      rw [HTX.out]
      exact ⟨rfl, HB3.out⟩
     ·have HTX : Hid (tx ((ea, eb, ec), q) = fmtQ a ++ [42] ++ s.data.toList) := Lib.hid (by
       have h1 : a ≠ 1 := of_decide_eq_true HVV.out
       rw [<- ha.out] at h1
       rw [tx_both HNE.out h1, ha.out, HE.out])
      have hfl := fmtQ_le HSA.out (by omega)
      go_wp2_with fail
      refine (r_Format _ a _ (HQ3.out.inr HSA.out (by omega)) (HSA.out.mono (by omega))).mono ?_
      rintro e4 w4 ⟨rfl, hb4⟩
      have HB4 := Lib.hid (HB3.out.trans (hb4.mono HB3.out.size))
      clear hb4
      have hfz : (⟨(fmtQ a).toArray⟩ : ByteArray).size <= 300000 := by show (fmtQ a).toArray.size <= _; rw [List.size_toArray]; exact hfl
      have HJ : Hid (((⟨(fmtQ a).toArray⟩ : ByteArray) ++ (⟨#[42]⟩ : ByteArray) ++ s) = ⟨(tx ((ea, eb, ec), q)).toArray⟩) := Lib.hid (by
       rw [HTX.out]
       apply ByteArray.ext
       simp)
      obtain ⟨F, hF⟩ : ∃ F : ByteArray, (⟨(fmtQ a).toArray⟩ : ByteArray) = F := ⟨_, rfl⟩
      rw [hF] at HJ hfz ⊢
      clear hF hfl
      go_wp2_with fail
      go_ret
      rw [HJ.out]
      exact ⟨rfl, HB4.out⟩
theorem r2_write (v : Value) (l : List Mon) (w : World) (h : Pol w v l) (hv : VP l) (hs : SzL l 5000) : Calls Tryz.prog 81 #[v, .string ⟨#[32, 43, 32]⟩, .string ⟨#[32, 45, 32]⟩] w (RetV w (.string ⟨(fmtP l).toArray⟩)) := by
 obtain ⟨A, c, rfl⟩ := h.slice
 have hlen := vp_length hv
 have HP := Lib.hid h
 have HS := Lib.hid hs
 have HV := Lib.hid hv
 clear h hs hv
 go_enter Tryz.func81, Tryz.ntmps81
 by_cases h0 : l.length = 0
 ·obtain rfl := List.eq_nil_of_length_eq_zero h0
  have hz : (((([] : List Mon).length : Nat) : Int) == 0) = true := rfl
  go_wp2_with fail
  go_ret
  exact ⟨rfl, Below.refl _ _⟩
 have hz : ((l.length : Int) == 0) = false := by rw [beq_eq_false_iff_ne]; omega
 have H0 : Hid (l ≠ []) := Lib.hid (fun e => h0 (by rw [e]; rfl))
 clear h0
 go_wp2_with fail
 go_loopw [7, 8] (fun sv iv wr => ∃ (k : Nat) (s : ByteArray), k <= l.length /\ iv = .int .i64 (k : Int) /\ sv = .string s /\ s.size <= k * 2000003 /\ Hid (s.data.toList = fmtTo l k) /\ Below w.heap.size w wr) (fun _ iv _ => (l.length - intOf iv).toNat)
 case atStart => exact ⟨0, ⟨#[]⟩, Nat.zero_le _, rfl, rfl, Nat.zero_le _, Lib.hid rfl, Below.refl _ _⟩
 case round =>
  obtain ⟨k, s, hk, rfl, rfl, hsz, HE, hb⟩ := hrel
  have HB := Lib.hid hb
  by_cases hkn : k < l.length
  ·obtain ⟨m, hm⟩ : ∃ m, l[k]? = some m := ⟨l[k], List.getElem?_eq_getElem hkn⟩
   have hmm := List.mem_of_getElem? hm
   obtain ⟨b, o, z0, z1, z2, rfl, hbq, hat, hcf⟩ := HP.out.at hm
   obtain ⟨nb, Ay, ny, cy, By, my, ey, heq⟩ := hcf.agg
   simp only [Value.agg.injEq, Array.mk.injEq, List.cons.injEq, and_true] at heq
   obtain ⟨rfl, rfl, rfl⟩ := heq
   obtain ⟨x0, x1, x2, x3, x4, x5⟩ := hat.below hb hbq
   have hlt : (k : Int) < (l.length : Int) := by omega
   have hw1 : IntKind.i64.wrap ((k : Int) + 1) = (k : Int) + 1 := IntWalk.i64_in _ (by omega)
   have HM := Lib.hid hm
   have HSM : Hid (Sz m.2 5000) := Lib.hid (HS.out m hmm)
   have HDG : Hid (deg m.1 <= 5) := Lib.hid (HV.out.1 m hmm).1
   have HOK : Hid (okM m) := Lib.hid (okM_of HDG.out)
   have HTL : Hid ((tx m).length <= 2000000) := Lib.hid (by
    have := textOf_le HDG.out HSM.out (by omega)
    rw [textOf_eq HOK.out] at this
    exact this)
   have HK := Lib.hid hkn
   have HNZ : Hid (m.2.num ≠ 0) := Lib.hid (fun e => (HV.out.1 m hmm).2 (Rat.num_eq_zero.1 e))
   clear hm hmm hkn
   rcases Nat.eq_zero_or_pos k with hk00 | hk00
   ·by_cases hsg : m.2.num < 0
    ·have hn : Hid (m.2.num.sign = -1) := Lib.hid (Int.sign_eq_neg_one_of_neg hsg)
     have hk0 : k = 0 := by omega
     have hk1 : ¬ (0 : Int) < (k : Int) := by omega
     have hbeq : ((k : Int) == 0) = true := by rw [hk0]; rfl
     have HSZ2 : Hid (((⟨#[45]⟩ : ByteArray)).size <= k * 2000003 + 3) := Lib.hid (by show 1 <= _; omega)
     have HTT : Hid (((⟨#[45]⟩ : ByteArray)).data.toList ++ tx m = fmtTo l (k + 1)) := Lib.hid (by
      rw [fmtTo_succ HM.out]
      unfold monText
      rw [textOf_eq HOK.out, decide_eq_true hk0, decide_eq_true hsg]
      rw [hk0]; rfl)
     clear hsg hk0 hk00
     go_wp2_with fail
     refine (r_SignV _ m.2 (-1) wr ((hcf.below hb).inr HSM.out (by omega)) hn).mono ?_
     rintro e1 w1 ⟨rfl, hb1⟩
     have HB1 := Lib.hid (HB.out.trans (hb1.mono HB.out.size))
     have hat1 := hat.below HB1.out hbq
     have hcf1 := hcf.below HB1.out
     clear hb1 x0 x1 x2 x3 x4 x5 hb
     obtain ⟨x0, x1, x2, x3, x4, x5⟩ := hat1
     go_wp2_with fail
     refine (r2_monomial m.1 nb Ay By ny cy my ey m.2 (absq m.2) w1 HDG.out hcf1 HSM.out (Lib.hid rfl)).mono ?_
     rintro e2 w2 ⟨rfl, hb2⟩
     have HB2 := Lib.hid (HB1.out.trans (hb2.mono HB1.out.size))
     have hTz : (⟨(tx (m.1, m.2)).toArray⟩ : ByteArray).size <= 2000000 := by show (tx m).toArray.size <= _; rw [List.size_toArray]; exact HTL.out
     have HTA : Hid ((⟨(tx (m.1, m.2)).toArray⟩ : ByteArray).data.toList = tx m) := Lib.hid rfl
     obtain ⟨F, hF⟩ : ∃ F : ByteArray, (⟨(tx (m.1, m.2)).toArray⟩ : ByteArray) = F := ⟨_, rfl⟩
     rw [hF] at hTz HTA ⊢
     have hPz := HSZ2.out
     clear hF hb2 hat hcf
     go_wp2_with fail
     go_roundw
     case rel =>
      refine ⟨k + 1, _, HK.out, congrArg (Value.int _) (by omega), rfl, ?_, Lib.hid ?_, HB2.out⟩
      ·rw [ByteArray.size_append]
       have h1 := Nat.succ_mul k 2000003
       have h2 := HSZ2.out
       exact Nat.le_trans (Nat.add_le_add h2 hTz) (by omega)
      ·rw [ByteArray.data_append, Array.toList_append, HTA.out]
       exact HTT.out
     case measure => simp [intOf]; have := HK.out; omega
    ·have hn : Hid (m.2.num.sign = 1) := Lib.hid (Int.sign_eq_one_of_pos (by have h9 := HNZ.out; omega))
     have hk0 : k = 0 := by omega
     have hk1 : ¬ (0 : Int) < (k : Int) := by omega
     have hbeq : ((k : Int) == 0) = true := by rw [hk0]; rfl
     have HSZ2 : Hid ((s).size <= k * 2000003 + 3) := Lib.hid (by exact Nat.le_trans hsz (Nat.le_add_right _ _))
     have HTT : Hid ((s).data.toList ++ tx m = fmtTo l (k + 1)) := Lib.hid (by
      rw [fmtTo_succ HM.out]
      unfold monText
      rw [textOf_eq HOK.out, decide_eq_true hk0, decide_eq_false hsg]
      have hse : s.data.toList = fmtTo l 0 := by rw [<- hk0]; exact HE.out
      rw [hk0, hse]; rfl)
     clear hsg hk0 hk00
     go_wp2_with fail
     refine (r_SignV _ m.2 1 wr ((hcf.below hb).inr HSM.out (by omega)) hn).mono ?_
     rintro e1 w1 ⟨rfl, hb1⟩
     have HB1 := Lib.hid (HB.out.trans (hb1.mono HB.out.size))
     have hat1 := hat.below HB1.out hbq
     have hcf1 := hcf.below HB1.out
     clear hb1 x0 x1 x2 x3 x4 x5 hb
     obtain ⟨x0, x1, x2, x3, x4, x5⟩ := hat1
     go_wp2_with fail
     refine (r2_monomial m.1 nb Ay By ny cy my ey m.2 (absq m.2) w1 HDG.out hcf1 HSM.out (Lib.hid rfl)).mono ?_
     rintro e2 w2 ⟨rfl, hb2⟩
     have HB2 := Lib.hid (HB1.out.trans (hb2.mono HB1.out.size))
     have hTz : (⟨(tx (m.1, m.2)).toArray⟩ : ByteArray).size <= 2000000 := by show (tx m).toArray.size <= _; rw [List.size_toArray]; exact HTL.out
     have HTA : Hid ((⟨(tx (m.1, m.2)).toArray⟩ : ByteArray).data.toList = tx m) := Lib.hid rfl
     obtain ⟨F, hF⟩ : ∃ F : ByteArray, (⟨(tx (m.1, m.2)).toArray⟩ : ByteArray) = F := ⟨_, rfl⟩
     rw [hF] at hTz HTA ⊢
     have hPz := HSZ2.out
     clear hF hb2 hat hcf
     go_wp2_with fail
     go_roundw
     case rel =>
      refine ⟨k + 1, _, HK.out, congrArg (Value.int _) (by omega), rfl, ?_, Lib.hid ?_, HB2.out⟩
      ·rw [ByteArray.size_append]
       have h1 := Nat.succ_mul k 2000003
       have h2 := HSZ2.out
       exact Nat.le_trans (Nat.add_le_add h2 hTz) (by omega)
      ·rw [ByteArray.data_append, Array.toList_append, HTA.out]
       exact HTT.out
     case measure => simp [intOf]; have := HK.out; omega
   ·by_cases hsg : m.2.num < 0
    ·have hn : Hid (m.2.num.sign = -1) := Lib.hid (Int.sign_eq_neg_one_of_neg hsg)
     have hk0 : ¬ k = 0 := by omega
     have hk1 : (0 : Int) < (k : Int) := by omega
     have hbeq : ((k : Int) == 0) = false := by rw [beq_eq_false_iff_ne]; omega
     have HSZ2 : Hid ((s ++ (⟨#[32, 45, 32]⟩ : ByteArray)).size <= k * 2000003 + 3) := Lib.hid (by rw [ByteArray.size_append]; exact Nat.add_le_add_right hsz 3)
     have HTT : Hid ((s ++ (⟨#[32, 45, 32]⟩ : ByteArray)).data.toList ++ tx m = fmtTo l (k + 1)) := Lib.hid (by
      rw [fmtTo_succ HM.out]
      unfold monText
      rw [textOf_eq HOK.out, decide_eq_false hk0, decide_eq_true hsg]
      rw [ByteArray.data_append, Array.toList_append, HE.out, List.append_assoc]; rfl)
     clear hsg hk0 hk00
     go_wp2_with fail
     refine (r_SignV _ m.2 (-1) wr ((hcf.below hb).inr HSM.out (by omega)) hn).mono ?_
     rintro e1 w1 ⟨rfl, hb1⟩
     have HB1 := Lib.hid (HB.out.trans (hb1.mono HB.out.size))
     have hat1 := hat.below HB1.out hbq
     have hcf1 := hcf.below HB1.out
     clear hb1 x0 x1 x2 x3 x4 x5 hb
     obtain ⟨x0, x1, x2, x3, x4, x5⟩ := hat1
     go_wp2_with fail
     refine (r2_monomial m.1 nb Ay By ny cy my ey m.2 (absq m.2) w1 HDG.out hcf1 HSM.out (Lib.hid rfl)).mono ?_
     rintro e2 w2 ⟨rfl, hb2⟩
     have HB2 := Lib.hid (HB1.out.trans (hb2.mono HB1.out.size))
     have hTz : (⟨(tx (m.1, m.2)).toArray⟩ : ByteArray).size <= 2000000 := by show (tx m).toArray.size <= _; rw [List.size_toArray]; exact HTL.out
     have HTA : Hid ((⟨(tx (m.1, m.2)).toArray⟩ : ByteArray).data.toList = tx m) := Lib.hid rfl
     obtain ⟨F, hF⟩ : ∃ F : ByteArray, (⟨(tx (m.1, m.2)).toArray⟩ : ByteArray) = F := ⟨_, rfl⟩
     rw [hF] at hTz HTA ⊢
     have hPz := HSZ2.out
     clear hF hb2 hat hcf
     go_wp2_with fail
     go_roundw
     case rel =>
      refine ⟨k + 1, _, HK.out, congrArg (Value.int _) (by omega), rfl, ?_, Lib.hid ?_, HB2.out⟩
      ·rw [ByteArray.size_append]
       have h1 := Nat.succ_mul k 2000003
       have h2 := HSZ2.out
       exact Nat.le_trans (Nat.add_le_add h2 hTz) (by omega)
      ·rw [ByteArray.data_append, Array.toList_append, HTA.out]
       exact HTT.out
     case measure => simp [intOf]; have := HK.out; omega
    ·have hn : Hid (m.2.num.sign = 1) := Lib.hid (Int.sign_eq_one_of_pos (by have h9 := HNZ.out; omega))
     have hk0 : ¬ k = 0 := by omega
     have hk1 : (0 : Int) < (k : Int) := by omega
     have hbeq : ((k : Int) == 0) = false := by rw [beq_eq_false_iff_ne]; omega
     have HSZ2 : Hid ((s ++ (⟨#[32, 43, 32]⟩ : ByteArray)).size <= k * 2000003 + 3) := Lib.hid (by rw [ByteArray.size_append]; exact Nat.add_le_add_right hsz 3)
     have HTT : Hid ((s ++ (⟨#[32, 43, 32]⟩ : ByteArray)).data.toList ++ tx m = fmtTo l (k + 1)) := Lib.hid (by
      rw [fmtTo_succ HM.out]
      unfold monText
      rw [textOf_eq HOK.out, decide_eq_false hk0, decide_eq_false hsg]
      rw [ByteArray.data_append, Array.toList_append, HE.out, List.append_assoc]; rfl)
     clear hsg hk0 hk00
     go_wp2_with fail
     refine (r_SignV _ m.2 1 wr ((hcf.below hb).inr HSM.out (by omega)) hn).mono ?_
     rintro e1 w1 ⟨rfl, hb1⟩
     have HB1 := Lib.hid (HB.out.trans (hb1.mono HB.out.size))
     have hat1 := hat.below HB1.out hbq
     have hcf1 := hcf.below HB1.out
     clear hb1 x0 x1 x2 x3 x4 x5 hb
     obtain ⟨x0, x1, x2, x3, x4, x5⟩ := hat1
     go_wp2_with fail
     refine (r2_monomial m.1 nb Ay By ny cy my ey m.2 (absq m.2) w1 HDG.out hcf1 HSM.out (Lib.hid rfl)).mono ?_
     rintro e2 w2 ⟨rfl, hb2⟩
     have HB2 := Lib.hid (HB1.out.trans (hb2.mono HB1.out.size))
     have hTz : (⟨(tx (m.1, m.2)).toArray⟩ : ByteArray).size <= 2000000 := by show (tx m).toArray.size <= _; rw [List.size_toArray]; exact HTL.out
     have HTA : Hid ((⟨(tx (m.1, m.2)).toArray⟩ : ByteArray).data.toList = tx m) := Lib.hid rfl
     obtain ⟨F, hF⟩ : ∃ F : ByteArray, (⟨(tx (m.1, m.2)).toArray⟩ : ByteArray) = F := ⟨_, rfl⟩
     rw [hF] at hTz HTA ⊢
     have hPz := HSZ2.out
     clear hF hb2 hat hcf
     go_wp2_with fail
     go_roundw
     case rel =>
      refine ⟨k + 1, _, HK.out, congrArg (Value.int _) (by omega), rfl, ?_, Lib.hid ?_, HB2.out⟩
      ·rw [ByteArray.size_append]
       have h1 := Nat.succ_mul k 2000003
       have h2 := HSZ2.out
       exact Nat.le_trans (Nat.add_le_add h2 hTz) (by omega)
      ·rw [ByteArray.data_append, Array.toList_append, HTA.out]
       exact HTT.out
     case measure => simp [intOf]; have := HK.out; omega
  ·obtain rfl : k = l.length := by omega
   have HF : Hid ((⟨(fmtP l).toArray⟩ : ByteArray) = s) := Lib.hid (by
    apply ByteArray.ext
    apply Array.ext'
    show (fmtP l) = _
    rw [HE.out]
    unfold fmtP
    rw [if_neg H0.out])
   go_wp2_with fail
   go_ret
   rw [HF.out]
   exact ⟨rfl, HB.out⟩
theorem r2_Format (v : Value) (p : List Mon) (L : Nat) (w : World) (h : PIr w v p L) (hL : L <= 5000) : Calls Tryz.prog 37 #[v] w (RetV w (.string ⟨(fmtP p).toArray⟩)) := by
 have HV := Lib.hid h.vp
 have HS := Lib.hid (h.szl.mono hL)
 have HP := Lib.hid h
 clear h
 go_enter Tryz.func37, Tryz.ntmps37
 go_wp2_with fail
 refine (r2_Take_p v p L w HP.out).mono ?_
 rintro e1 w1 ⟨v1, rfl, ho, hb1⟩
 have HO := Lib.hid ho.pol
 have HB := Lib.hid hb1
 clear ho hb1
 go_wp2_with fail
 refine (r2_write v1 p w1 HO.out HV.out HS.out).mono ?_
 rintro e2 w2 ⟨rfl, hb2⟩
 have HB2 := Lib.hid (HB.out.trans (hb2.mono HB.out.size))
 clear hb2
 go_wp2_with fail
 go_ret
 exact ⟨rfl, HB2.out⟩
theorem dig_small {n : Nat} (h : (Lib.decDigits n).length <= 200) : (limbs n).length <= 23 := by
 have h1 := decVal_lt (dec_val n)
 have h2 : (10 : Nat) ^ (Lib.decDigits n).length <= 10 ^ 200 := Nat.pow_le_pow_right (by omega) h
 have h3 : (10 : Nat) ^ 200 <= P 23 := by decide +kernel
 exact limbs_length_le (by omega)
theorem fmtQ_small {q : Rat} (h : (fmtQ q).length <= 200) : Sz q 23 := by
 unfold fmtQ at h
 rw [List.length_append, List.length_append] at h
 refine ⟨dig_small (by omega), ?_⟩
 by_cases hd : q.den = 1
 ·rw [hd, limbs_one]; decide
 ·rw [if_neg hd] at h
  simp only [List.length_cons] at h
  exact dig_small (by omega)
theorem tx_len {m : Mon} (h : absq m.2 ≠ 1) : (fmtQ (absq m.2)).length <= (tx m).length := by
 unfold tx pcs
 rw [if_pos (.inr h), List.singleton_append, Lib.join_cons, List.length_append]
 omega
theorem tx_le_rest {m : Mon} {l : List Mon} (h : m ∈ l) : (tx m).length <= (restT l).length := by
 induction l with
 | nil => cases h
 | cons x r ih =>
   unfold restT
   rw [List.flatMap_cons, List.length_append]
   rcases List.mem_cons.1 h with rfl | h
   ·simp only [List.length_cons]; omega
   ·have := ih h
    unfold restT at this
    omega
theorem tx_le_fmt {m : Mon} {l : List Mon} (hk : ∀ x ∈ l, okM x) (h : m ∈ l) : (tx m).length <= (fmtP l).length := by
 cases l with
 | nil => cases h
 | cons x r =>
   rw [fmtP_cons hk, List.length_append, List.length_append]
   rcases List.mem_cons.1 h with rfl | h
   ·omega
   ·have := tx_le_rest h
    omega
theorem sz_of_absq {q : Rat} {L : Nat} (h : Sz (absq q) L) : Sz q L := by
 have e := absq_abs q
 have h2 : Sz q.abs L := by rw [<- e]; exact h
 unfold Sz at h2 ⊢
 rw [abs_num, abs_den] at h2
 simpa using h2
theorem small_text {l : List Mon} (hv : VP l) (h : (fmtP l).length <= 200) : SzL l 100 := by
 intro m hm
 have hk : ∀ x ∈ l, okM x := fun x hx => okM_of (hv.1 x hx).1
 have h1 := tx_le_fmt hk hm
 refine sz_of_absq ?_
 by_cases h0 : absq m.2 = 1
 ·rw [h0]; exact sz_one' 100 (by omega)
 ·exact (fmtQ_small (Nat.le_trans (tx_len h0) (by omega))).mono (by omega)
theorem sz_qv' {neg : Bool} {a d L : Nat} (hd : d ≠ 0) (ha : (limbs a).length <= L) (hdl : (limbs d).length <= L) : Sz (qv neg a d) L := by
 unfold qv
 exact sz_le hd (by rw [sgn_abs]; exact ha) hdl
theorem parseQ_sz {l : List UInt8} {q : Rat} (h : parseQ l = some q) : Sz q 2000 := by
 unfold parseQ at h
 simp only at h
 split at h
 ·cases h
 ·rename_i n hn
  have h1 := readDec_length hn
  split at h
  ·split at h
   ·cases h
   ·rename_i d hd
    have h2 := readDec_length hd
    split at h
    ·cases h
    ·rename_i hd0
     obtain rfl := Option.some.inj h
     exact sz_qv' hd0 h1 h2
  ·obtain rfl := Option.some.inj h
   exact sz_qv' (by omega) h1 (by rw [limbs_one]; decide)
end Go.Proofs.YtifeekomegoijaaGreatDoor
