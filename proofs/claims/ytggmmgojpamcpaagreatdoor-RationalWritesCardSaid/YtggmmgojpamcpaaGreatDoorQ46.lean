/- The specification's digits, Format. -/
import Derived.Test.YtggmmgojpamcpaaGreatDoorQ37
import Derived.Test.YtggmmgojpamcpaaGreatDoorQ27
import Derived.Laws.IdiomStrings
set_option linter.unusedVariables false
set_option linter.unusedSimpArgs false
namespace Go.Proofs.YtggmmgojpamcpaaGreatDoor
open Go.RowKit

theorem conv1 (w : World) (d : Nat) (hd : d < 10) : (convert 72 9 (.slice (some ⟨w.heap.size, 0, none⟩) 1 1)).run Tryz.prog (w.alloc (.cells #[.int .u8 (48 + (d : Int))] 5)) = .ok (.string ⟨#[UInt8.ofNat (48 + d)]⟩) (w.alloc (.cells #[.int .u8 (48 + (d : Int))] 5)) := by
  refine run_convert_bytes_back (P := Tryz.prog) _ 72 9 5 ⟨w.heap.size, 0, none⟩ 1 [UInt8.ofNat (48 + d)] Tryz.underlying72 (by kernel_rfl) (by kernel_rfl) (fun j hj => ?_)
  obtain rfl : j = 0 := by simpa using hj
  have e : (⟨w.heap.size, 0, none⟩ : Addr).add 0 = ⟨w.heap.size, 0, none⟩ := by simp [Addr.add]
  have h := (Boxed.new w 5 (.int .u8 (48 + (d : Int)))).cell
  rw [e, h]
  have e2 : (UInt8.ofNat (48 + d)).toNat = 48 + d := by rw [UInt8.toNat_ofNat']; omega
  simp [e2]
  omega

theorem limbs_dig {d : Nat} (h : 0 < d) (h1 : d < 4294967296) : limbs d = [d] := by
  rw [limbs_pos (by omega), show d / 4294967296 = 0 by omega, limbs_zero, show d % 4294967296 = d by omega]
theorem dig_get {d : Nat} (h1 : d < 4294967296) : (limbs d).getD (0 : Int).toNat 0 = d := by
  rcases Nat.eq_zero_or_pos d with h | h
  · rw [h, limbs_zero]; rfl
  · rw [limbs_dig h h1]; rfl
set_option maxRecDepth 20000 in
set_option maxHeartbeats 2000000 in
theorem r_digits (A : Option Addr) (n c X : Nat) (w : World) (hx : Num w (limbs X) A n c) (hn : n ≤ 100000) :
    Calls Tryz.prog 87 #[.slice A n c] w (RetV w (.string ⟨(Lib.decDigits X).toArray⟩)) := by
  have hDL := decDigits_le (X := X) (k := n) (by rw [hx.len]; exact Nat.le_refl _)
  go_enter Tryz.func87, Tryz.ntmps87
  go_wp2
  go_loopg [0, 3] X (fun g sa ss wr => ∃ (A1 : Option Addr) (n1 c1 Y : Nat) (s : ByteArray), sa = .slice A1 n1 c1 ∧ ss = .string s ∧ Num wr (limbs Y) A1 n1 c1 ∧ n1 ≤ 100000 ∧ Below w.heap.size w wr ∧ Y ≤ g ∧ s.size ≤ 1000001 ∧ Hid (Lib.decDigits X = Lib.decDigits Y ++ s.data.toList))
  case atStart => exact ⟨A, n, c, X, _, rfl, rfl, hx, hn, Below.refl _ _, Nat.le_refl _, Nat.zero_le _, by show _ = _; exact (List.append_nil _).symm⟩
  case round =>
    obtain ⟨A1, n1, c1, Y, s, rfl, rfl, h1, hn1, hb, hg, hs, HD⟩ := hrel
    have hbo : Below wr.heap.size wr (wr.alloc (.cells #[.int .u32 10] 58)) := (Below.refl _ _).alloc (Nat.le_refl _) _
    have hten : Num (wr.alloc (.cells #[.int .u32 10] 58)) (limbs 10) (some ⟨wr.heap.size, 0, none⟩) 1 1 := by
      rw [limbs_dig (by decide) (by decide)]
      exact (show Row _ _ [10] from heap_alloc_new wr _).num (Lim.cons (by decide) Lim.nil) rfl (Nat.le_refl _)
    have H10 : Hid (10 ≠ 0) := show (10 : Nat) ≠ 0 by decide
    go_wp2_with fail
    refine (r_divide _ _ _ _ _ _ Y 10 _ (h1.below hbo) hten (by omega) (by omega) H10).mono ?_
    rintro e w2 ⟨Aq, nq, cq, Ar, nr, cr, rfl, hq, hr, hb2⟩
    have hd10 : Y % 10 < 10 := Nat.mod_lt _ (by decide)
    have hnr : nr ≤ 1 := by
      rw [hr.len]
      exact small_len (by omega)
    have HG := Lib.hid (dig_get (d := Y % 10) (by omega))
    have hb02 := hb.trans ((hbo.trans (hb2.mono hbo.size)).mono hb.size)
    have hqn := hq.num
    have hrn := hr.num
    have HQ0 : Hid (nq = 0 ↔ Y / 10 = 0) := by show _ ↔ _; rw [hq.len]; exact limbs_length_zero
    have hnq : nq ≤ 100000 := by
      have := hq.len
      have := length_mono (Nat.div_le_self Y 10)
      have := h1.len
      omega
    have HDD : Hid (Lib.decDigits Y = (if Y / 10 = 0 then [] else Lib.decDigits (Y / 10)) ++ [UInt8.ofNat (48 + Y % 10)]) := by
      show _ = _
      by_cases h : Y < 10
      · rw [if_pos (by omega), dec_dig h, show Y % 10 = Y by omega]; rfl
      · rw [if_neg (by omega), decDigits_big h]
    have HLE : Hid (Y / 10 ≠ 0 → Y / 10 < Y) := by show _ → _; intro h; omega
    generalize Y / 10 = q at *
    generalize Y % 10 = d at *
    have hcv := conv1 w2 d hd10
    clear hq hr hten hbo h1 hb2
    go_wp2_with fail
    refine (r_limb _ _ _ 0 _ _ d hrn (by decide) (by omega) HG).mono ?_
    rintro e' w' ⟨rfl, rfl⟩
    go_upto_region 4 with (fail)
    have hbo3 : Below w2.heap.size w2 (w2.alloc (.cells #[.int .u8 (48 + (d : Int))] 5)) := (Below.refl _ _).alloc (Nat.le_refl _) _
    have hqn3 := hqn.below hbo3
    have hb03 := hb02.trans (hbo3.mono hb02.size)
    have HL : Hid ((({ data := #[48 + UInt8.ofNat d] } ++ s : ByteArray)).data.toList = UInt8.ofNat (48 + d) :: s.data.toList) := by
      show _ = _
      have e : (48 + UInt8.ofNat d) = UInt8.ofNat (48 + d) := by simp
      rw [e]
      rw [ByteArray.data_append, Array.toList_append]
      rfl
    generalize ({ data := #[48 + UInt8.ofNat d] } ++ s : ByteArray) = s' at *
    generalize (w2.alloc (.cells #[.int .u8 (48 + (d : Int))] 5)) = w3 at *
    clear hcv hqn hrn hb02 hbo3
    have HS : Hid (Lib.decDigits X = (if q = 0 then [] else Lib.decDigits q) ++ s'.data.toList) := by
      show _ = _
      rw [HD.out, HDD.out, HL.out, List.append_assoc]; rfl
    have hs' : s'.size ≤ 1000001 := by
      have h1 := congrArg List.length HS.out
      rw [List.length_append] at h1
      have h2 : s'.data.toList.length = s'.size := by rw [Array.length_toList]; rfl
      omega
    clear HD HDD HL hs
    by_cases h0 : nq = 0
    · have HE : Hid (⟨(Lib.decDigits X).toArray⟩ = s') := by
        show _ = _
        rw [HS.out, if_pos (HQ0.out.1 h0)]
        rfl
      subst h0
      go_wp2_with fail
      go_ret
      rw [HE.out]
      exact ⟨rfl, hb03⟩
    · have hp : 0 < nq := Nat.pos_of_ne_zero h0
      have hq0 : q ≠ 0 := fun h => h0 (HQ0.out.2 h)
      have HS2 : Hid (Lib.decDigits X = Lib.decDigits q ++ s'.data.toList) := by
        show _ = _
        have := HS.out
        rwa [if_neg hq0] at this
      have HLT := Lib.hid (HLE.out hq0)
      have hne : ((nq : Int) == 0) = false := by rw [beq_eq_false_iff_ne]; omega
      clear HS HQ0 hq0 h0
      go_wp2_with fail
      go_roundg q
      case rel => exact ⟨_, _, _, q, s', rfl, rfl, hqn3, hnq, hb03, Nat.le_refl _, hs', HS2⟩
      case measure => exact Nat.lt_of_lt_of_le HLT.out hg

set_option maxRecDepth 20000 in
set_option maxHeartbeats 2000000 in
theorem r_Format (v : Value) (q : Rat) (w : World) (h : Inr w v q) (hS : Sz q 10000) : Calls Tryz.prog 43 #[v] w (RetV w (.string ⟨(fmtQ q).toArray⟩)) := by
  obtain ⟨z0, Z, zn, zc, Z', zm, ze, rfl⟩ := h.agg
  have hbA : Below w.heap.size w (w.alloc (R1 (.bool z0) (.slice Z zn zc) (.slice Z' zm ze))) := (Below.refl _ _).alloc (Nat.le_refl _) _
  have hrx := Rc.new w (.bool z0) (.slice Z zn zc) (.slice Z' zm ze)
  go_enter Tryz.func43, Tryz.ntmps43
  go_wp2_with fail
  refine (r_Take _ q _ (h.below hbA)).mono ?_
  rintro e w1 ⟨v1, rfl, h1, hb1⟩
  have hrx1 := hrx.below hb1 hrx.lt
  obtain ⟨nb, A, n, c, A', m, c', rfl⟩ := h1.agg
  obtain ⟨k0, k1, k2⟩ := hrx1.cells
  obtain ⟨f0, f1, f2⟩ := hrx1.frozen
  obtain ⟨hnb, hN, hD⟩ := h1.parts
  have hb01 := hbA.trans (hb1.mono hbA.size)
  have hrx2 := hrx1.set (.bool nb) (.slice A n c) (.slice A' m c')
  have hN2 := hN.set3 (hN.ne_rc hrx1) (.bool nb) (.slice A n c) (.slice A' m c')
  have hD2 := hD.set3 (hD.ne_rc hrx1) (.bool nb) (.slice A n c) (.slice A' m c')
  have hb02 := below_set3 hb01 (Nat.le_refl _) (.bool nb) (.slice A n c) (.slice A' m c')
  have hnl : n ≤ 10000 := by rw [hN.len]; exact hS.1
  have hml : m ≤ 10000 := by rw [hD.len]; exact Nat.le_trans (dl_length _) hS.2
  have HNB := Lib.hid hnb
  clear hnb h1
  go_wp2_with fail
  generalize (((w1.setCell ⟨w.heap.size, 0, none⟩ (.bool nb)).setCell ⟨w.heap.size, 1, none⟩ (.slice A n c)).setCell ⟨w.heap.size, 2, none⟩ (.slice A' m c')) = W2 at *
  refine (r_digits A n c q.num.natAbs _ hN2 (by omega)).mono ?_
  rintro e2 w3 ⟨rfl, hb3⟩
  obtain ⟨t1, ht1⟩ : ∃ t : ByteArray, ⟨(Lib.decDigits q.num.natAbs).toArray⟩ = t := ⟨_, rfl⟩
  have hl1 : t1.size ≤ 100001 := by
    rw [← ht1]
    show (Lib.decDigits q.num.natAbs).length ≤ _
    have := decDigits_le (X := q.num.natAbs) (k := 10000) hS.1
    omega
  obtain ⟨t2, ht2⟩ : ∃ t : ByteArray, ⟨(Lib.decDigits q.den).toArray⟩ = t := ⟨_, rfl⟩
  have hl2 : t2.size ≤ 100001 := by
    rw [← ht2]
    show (Lib.decDigits q.den).length ≤ _
    have := decDigits_le (X := q.den) (k := 10000) hS.2
    omega
  rw [ht1]
  have HT1 : Hid (t1.data.toList = Lib.decDigits q.num.natAbs) := by show _ = _; rw [← ht1]
  have HT2 := Lib.hid ht2
  have HT2L : Hid (t2.data.toList = Lib.decDigits q.den) := by show _ = _; rw [← ht2]
  clear ht1 ht2
  have hrx3 := hrx2.below hb3 hrx2.lt
  have hD3 := hD2.below hb3
  have hb03 := hb02.trans (hb3.mono hb02.size)
  have HZ : Hid (m = 0 ↔ q.den = 1) := dl_zero hD q.den_nz
  have HF : Hid (∀ (x y : ByteArray), x.data.toList = (if q.num < 0 then [45] else []) ++ t1.data.toList → y.data.toList = x.data.toList ++ (if q.den = 1 then [] else 47 :: t2.data.toList) → (⟨(fmtQ q).toArray⟩ : ByteArray) = y) := by
    show ∀ _, _
    intro x y h1 h2
    rw [h1, HT1.out, HT2L.out] at h2
    have e : fmtQ q = y.data.toList := h2.symm
    rw [e]
  clear k0 k1 k2 f0 f1 f2 hrx hrx1 hrx2 hN hN2 hD hD2 hb01 hb02 hbA hb1 hb3
  obtain ⟨k0, k1, k2⟩ := hrx3.cells
  have HH : ∀ (a b : ByteArray), (a ++ b).data.toList = a.data.toList ++ b.data.toList := fun a b => by rw [ByteArray.data_append, Array.toList_append]
  have HAP := Lib.hid HH
  clear HH
  by_cases h0 : m = 0
  · have hd1 := HZ.out.1 h0
    subst h0
    cases nb
    · have HE : Hid ((⟨(fmtQ q).toArray⟩ : ByteArray) = t1) := by
        refine HF.out t1 t1 ?_ ?_
        · rw [if_neg (of_decide_eq_false HNB.out.symm)]; rfl
        · rw [if_pos hd1, List.append_nil]
      clear hd1
      go_wp2_with fail
      go_ret
      rw [HE.out]
      exact ⟨rfl, hb03⟩
    · have HE : Hid ((⟨(fmtQ q).toArray⟩ : ByteArray) = ⟨#[45]⟩ ++ t1) := by
        refine HF.out (⟨#[45]⟩ ++ t1) (⟨#[45]⟩ ++ t1) ?_ ?_
        · rw [if_pos (of_decide_eq_true HNB.out.symm), HAP.out]
        · rw [if_pos hd1, List.append_nil]
      clear hd1
      go_wp2_with fail
      go_ret
      rw [HE.out]
      exact ⟨rfl, hb03⟩
  · have hd1 : ¬ q.den = 1 := fun h => h0 (HZ.out.2 h)
    have hD4 : Num w3 (limbs q.den) A' m c' := by rw [← dl_ne hd1]; exact hD3
    have hp : 0 < m := Nat.pos_of_ne_zero h0
    have hdp : decide ((0 : Int) < (m : Int)) = true := decide_eq_true (by omega)
    have HD1 := Lib.hid hd1
    clear hd1 h0
    cases nb
    · have HE : Hid ((⟨(fmtQ q).toArray⟩ : ByteArray) = t1 ++ (⟨#[47]⟩ ++ t2)) := by
        refine HF.out t1 (t1 ++ (⟨#[47]⟩ ++ t2)) ?_ ?_
        · rw [if_neg (of_decide_eq_false HNB.out.symm)]; rfl
        · rw [if_neg HD1.out, HAP.out, HAP.out]; rfl
      go_wp2_with fail
      refine (r_digits A' m c' q.den _ hD4 (by omega)).mono ?_
      rintro e2 w4 ⟨rfl, hb4⟩
      rw [HT2.out]
      go_wp2_with fail
      go_ret
      rw [HE.out]
      exact ⟨rfl, hb03.trans (hb4.mono hb03.size)⟩
    · have HE : Hid ((⟨(fmtQ q).toArray⟩ : ByteArray) = (⟨#[45]⟩ ++ t1) ++ (⟨#[47]⟩ ++ t2)) := by
        refine HF.out (⟨#[45]⟩ ++ t1) ((⟨#[45]⟩ ++ t1) ++ (⟨#[47]⟩ ++ t2)) ?_ ?_
        · rw [if_pos (of_decide_eq_true HNB.out.symm), HAP.out]
        · rw [if_neg HD1.out, HAP.out, HAP.out, HAP.out]; rfl
      have hl3 : ((⟨#[45]⟩ ++ t1 : ByteArray)).size ≤ 100002 := by
        rw [ByteArray.size_append]
        have : (⟨#[45]⟩ : ByteArray).size = 1 := rfl
        omega
      go_wp2_with fail
      refine (r_digits A' m c' q.den _ hD4 (by omega)).mono ?_
      rintro e2 w4 ⟨rfl, hb4⟩
      rw [HT2.out]
      go_wp2_with fail
      go_ret
      rw [HE.out]
      exact ⟨rfl, hb03.trans (hb4.mono hb03.size)⟩
end Go.Proofs.YtggmmgojpamcpaaGreatDoor
