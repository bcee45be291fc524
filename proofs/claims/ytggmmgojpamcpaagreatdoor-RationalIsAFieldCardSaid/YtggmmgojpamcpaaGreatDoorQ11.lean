/- Format. -/
import Derived.Test.YtggmmgojpamcpaaGreatDoorQ10
import Derived.Test.YtggmmgojpamcpaaGreatDoorQ06
import Derived.Laws.IdiomStrings
import Derived.Test.YtggmmgojpamcpaaGreatDoorQ07
import Derived.Test.YtggmmgojpamcpaaGreatDoorQ08
import Derived.Test.YtggmmgojpamcpaaGreatDoorQ01
import Derived.Deep.RegionHeld3
namespace Go.Proofs.YtggmmgojpamcpaaGreatDoor
open Go.RowKit

/-- The text of a number. -/
def fmtQ (q : Rat) : List UInt8 := (if q.num < 0 then [45] else []) ++ Lib.decDigits q.num.natAbs ++ (if q.den = 1 then [] else 47 :: Lib.decDigits q.den)
theorem dec_zero : Lib.decDigits 0 = [48] := by rw [Lib.decDigits, dif_pos (by decide)]; rfl
theorem appendDecimal_any (B X n c : Nat) (A : Option Addr) (v : Value) (l : List UInt8) (w : World) (HT : Hid (∀ W, Below B w W → Txt W)) (hown : OwnB w B v l) (hB : B ≤ w.heap.size) (hl : l.length ≤ 1000000) (hx : Num w (limbs X) A n c) (hn : n ≤ 1000000) :
    Calls Tryz.prog 86 #[v, .slice A n c] w (RetTx w B (l ++ Lib.decDigits X)) := by
  by_cases h0 : X = 0
  · subst h0
    have hn0 : n = 0 := by rw [hx.len, limbs_zero]; rfl
    subst hn0
    rw [dec_zero]
    exact appendDecimal_zero B c A v l w hown hB hl
  · exact appendDecimal_pos B X n c A v l w HT hown hB (by omega) hx hn h0
theorem decDigits_lt (k : Nat) : ∀ X, X < 10 ^ k → (Lib.decDigits X).length ≤ k + 1 := by
  induction k with
  | zero => intro X h; have : X = 0 := by simpa using h
            rw [this, dec_zero]; simp
  | succ k ih =>
    intro X h
    by_cases h10 : X < 10
    · rw [Lib.decDigits, dif_pos h10]; simp
    · rw [decDigits_big h10, List.length_append]
      have := ih (X / 10) (by rw [Nat.pow_succ] at h; omega)
      have h1 : ([UInt8.ofNat (48 + X % 10)] : List UInt8).length = 1 := rfl
      omega
theorem decDigits_le {X k : Nat} (h : (limbs X).length ≤ k) : (Lib.decDigits X).length ≤ 10 * k + 1 := by
  refine decDigits_lt _ _ (Nat.lt_of_lt_of_le (lt_P_length X) (Nat.le_trans (P_le h) ?_))
  unfold P
  rw [Nat.pow_mul]
  exact Nat.pow_le_pow_left (by decide) k
theorem ownB_text {w : World} {B : Nat} {v : Value} {l : List UInt8} (h : OwnB w B v l) (hl : l ≠ []) : ∃ g cap, v = .slice (some ⟨g, 0, none⟩) l.length cap ∧
    (convert 72 9 (.slice (some ⟨g, 0, none⟩) l.length cap)).run Tryz.prog w = .ok (.string ⟨l.toArray⟩) w := by
  rcases h.2 with ⟨rfl, hn⟩ | ⟨g, cap, cur, rfl, _, h3, _, _, _, h7⟩
  · exact absurd (List.eq_nil_of_length_eq_zero hn) hl
  · refine ⟨g, cap, rfl, ?_⟩
    refine run_convert_bytes_back (P := Tryz.prog) w 72 9 5 ⟨g, 0, none⟩ cap l Tryz.underlying72 (by kernel_rfl) (by kernel_rfl) (fun j hj => ?_)
    have e : (⟨g, 0, none⟩ : Addr).add j = ⟨g, j, none⟩ := by simp [Addr.add]; omega
    rw [e, cell_of_row w g j _ _ _ h3]
    have h8 : (cur.toList.take (l.length * 1))[j]? = (Lib.byteCells l)[j]? := by rw [h7]
    rw [List.getElem?_take_of_lt (by omega)] at h8
    simp only [Array.getElem?_toList] at h8
    rw [h8]
    simp [Lib.byteCells, hj]

theorem below_size {B : Nat} {w w' : World} (h : Below B w w') (e : w.heap.size = B) : B ≤ w'.heap.size := by have := h.size; omega
set_option maxRecDepth 20000 in
set_option maxHeartbeats 2000000 in
theorem Format_any (v : Value) (q : Rat) (L : Nat) (w : World) (hT : Txt w) (h : Inp w v q L) (hS : Sz q 10000) : Calls Tryz.prog 42 #[v] w (RetV w (.string ⟨(fmtQ q).toArray⟩)) := by
  obtain ⟨z0, Z, zn, zc, Z', zm, ze, rfl⟩ := h.agg
  have hbA : Below w.heap.size w (w.alloc (R1 (.bool z0) (.slice Z zn zc) (.slice Z' zm ze))) := (Below.refl _ _).alloc (Nat.le_refl _) _
  have hrx := Rc.new w (.bool z0) (.slice Z zn zc) (.slice Z' zm ze)
  go_enter Tryz.func42, Tryz.ntmps42
  go_wp2_with fail
  refine (clean_i _ q L _ (hT.tab.below hbA) (h.below hbA)).mono ?_
  rintro e w1 ⟨v1, rfl, h1, hb1⟩
  have hrx1 := hrx.below hb1 hrx.lt
  obtain ⟨nb, A, n, c, A', m, c', rfl⟩ := h1.agg
  obtain ⟨k0, k1, k2⟩ := hrx1.cells
  obtain ⟨f0, f1, f2⟩ := hrx1.frozen
  obtain ⟨hnb, hN, hD⟩ := h1.parts
  have hb01 := hbA.trans (hb1.mono hbA.size)
  have hrx2 := hrx1.set (.bool nb) (.slice A n c) (.slice A' m c')
  have hN2 := hN.set3 (hN.ne_rc hrx1) (.bool nb) (.slice A n c) (.slice A' m c')
  have hD2 := hD.set3 (hD.ne_rc hrx1) (.bool nb) (.slice A n c) (.slice A' m c')
  have hb02 := below_set3 hb01 (Nat.le_refl _) (.bool nb) (.slice A n c) (.slice A' m c')
  have hT2 := hT.below hb02
  have hnl : n ≤ 10000 := by rw [hN.len]; exact hS.1
  have hml : m ≤ 10000 := by rw [hD.len]; exact Nat.le_trans (dl_length _) hS.2
  have HNB := Lib.hid hnb
  clear hnb h1
  have hBs : (((w1.setCell ⟨w.heap.size, 0, none⟩ (.bool nb)).setCell ⟨w.heap.size, 1, none⟩ (.slice A n c)).setCell ⟨w.heap.size, 2, none⟩ (.slice A' m c')).heap.size = w1.heap.size := size_set3 _ _ _ _ _
  have HBS := Lib.hid hBs
  clear hBs
  cases nb
  case' false =>
    obtain ⟨l0, hl0⟩ : ∃ l0, (if q.num < 0 then [45] else ([] : List UInt8)) = l0 := ⟨_, rfl⟩
    have hl01 : l0 = [] := by
      have : ¬ q.num < 0 := of_decide_eq_false HNB.out.symm
      rw [← hl0, if_neg this]
    have HL0 := Lib.hid hl0
    clear hl0
    go_wp2_with fail
    have hown3 : OwnB (((w1.setCell ⟨w.heap.size, 0, none⟩ (.bool false)).setCell ⟨w.heap.size, 1, none⟩ (.slice A n c)).setCell ⟨w.heap.size, 2, none⟩ (.slice A' m c')) w1.heap.size (.slice none 0 0) l0 := by rw [hl01]; exact OwnB.nil _ _
    have HT3 : Hid (∀ W, Below w1.heap.size (((w1.setCell ⟨w.heap.size, 0, none⟩ (.bool false)).setCell ⟨w.heap.size, 1, none⟩ (.slice A n c)).setCell ⟨w.heap.size, 2, none⟩ (.slice A' m c')) W → Txt W) := fun W h => hT2.below (h.mono (Nat.le_of_eq HBS.out))
    have hsz3 : w1.heap.size ≤ (((w1.setCell ⟨w.heap.size, 0, none⟩ (.bool false)).setCell ⟨w.heap.size, 1, none⟩ (.slice A n c)).setCell ⟨w.heap.size, 2, none⟩ (.slice A' m c')).heap.size := Nat.le_of_eq HBS.out.symm
    have hrx3 := hrx2
    have hN3 := hN2
    have HD3 : Hid (∀ W, Below w1.heap.size (((w1.setCell ⟨w.heap.size, 0, none⟩ (.bool false)).setCell ⟨w.heap.size, 1, none⟩ (.slice A n c)).setCell ⟨w.heap.size, 2, none⟩ (.slice A' m c')) W → Num W (dl q.den) A' m c') := fun W h => hD2.below (h.mono (Nat.le_of_eq HBS.out))
    have hb03 := hb02
    clear HBS
    generalize (((w1.setCell ⟨w.heap.size, 0, none⟩ (.bool false)).setCell ⟨w.heap.size, 1, none⟩ (.slice A n c)).setCell ⟨w.heap.size, 2, none⟩ (.slice A' m c')) = W3 at *
  case' true =>
    obtain ⟨l0, hl0⟩ : ∃ l0, (if q.num < 0 then [45] else ([] : List UInt8)) = l0 := ⟨_, rfl⟩
    have hl01 : l0 = [45] := by
      have : q.num < 0 := of_decide_eq_true HNB.out.symm
      rw [← hl0, if_pos this]
    have HL0 := Lib.hid hl0
    clear hl0
    have hlit : ((((w1.setCell ⟨w.heap.size, 0, none⟩ (.bool true)).setCell ⟨w.heap.size, 1, none⟩ (.slice A n c)).setCell ⟨w.heap.size, 2, none⟩ (.slice A' m c')).alloc (.cells #[.int .u8 45] 5)).cell? ⟨w1.heap.size, 0, none⟩ = some (.int .u8 ((45 : UInt8).toNat : Int)) := by
      have := Boxed.new (((w1.setCell ⟨w.heap.size, 0, none⟩ (.bool true)).setCell ⟨w.heap.size, 1, none⟩ (.slice A n c)).setCell ⟨w.heap.size, 2, none⟩ (.slice A' m c')) 5 (.int .u8 45)
      rw [HBS.out] at this
      exact this.cell
    have hb3a : Below w1.heap.size (((w1.setCell ⟨w.heap.size, 0, none⟩ (.bool true)).setCell ⟨w.heap.size, 1, none⟩ (.slice A n c)).setCell ⟨w.heap.size, 2, none⟩ (.slice A' m c')) ((((w1.setCell ⟨w.heap.size, 0, none⟩ (.bool true)).setCell ⟨w.heap.size, 1, none⟩ (.slice A n c)).setCell ⟨w.heap.size, 2, none⟩ (.slice A' m c')).alloc (.cells #[.int .u8 45] 5)) := (Below.refl _ _).alloc (Nat.le_of_eq HBS.out.symm) _
    go_wp2_with (at_builtin; refine wpList_appB rfl (.tmp 8) (.tmp 9) rfl rfl w1.heap.size _ [] 45 rfl (OwnB.nil _ _) w1.heap.size rfl hlit (by simp) (below_size hb3a HBS.out) ?_)
    intro v3 W3 hown3 hg3
    have hb3 := hb3a.grown hg3 (below_size hb3a HBS.out) (fun k hk => by cases hk)
    have hb3' : Below (((w1.setCell ⟨w.heap.size, 0, none⟩ (.bool true)).setCell ⟨w.heap.size, 1, none⟩ (.slice A n c)).setCell ⟨w.heap.size, 2, none⟩ (.slice A' m c')).heap.size (((w1.setCell ⟨w.heap.size, 0, none⟩ (.bool true)).setCell ⟨w.heap.size, 1, none⟩ (.slice A n c)).setCell ⟨w.heap.size, 2, none⟩ (.slice A' m c')) W3 := hb3.mono (Nat.le_of_eq HBS.out)
    have HT3 : Hid (∀ W, Below w1.heap.size W3 W → Txt W) := fun W h => hT2.below (hb3'.trans (h.mono (Nat.le_of_eq HBS.out)))
    have hsz3 : w1.heap.size ≤ W3.heap.size := Nat.le_trans (Nat.le_of_eq HBS.out.symm) hb3.size
    have hrx3 := hrx2.below hb3 hrx1.lt
    have hN3 := hN2.below hb3'
    have HD3 : Hid (∀ W, Below w1.heap.size W3 W → Num W (dl q.den) A' m c') := fun W h => hD2.below (hb3'.trans (h.mono (Nat.le_of_eq HBS.out)))
    have hb03 := hb02.trans (hb3.mono (by have := hrx1.lt; omega))
    rw [← hl01] at hown3
    obtain ⟨k0, k1, k2⟩ := hrx3.cells
    clear hb3 hb3' hb3a hlit hg3 HBS
    go_wp2_with fail
  all_goals
    have hlt := hrx1.lt
    clear hl01 hrx hrx1 hrx2 hN hN2 hD2 hb02 hT2 hb01 hb1 hbA
    refine (appendDecimal_any w1.heap.size q.num.natAbs n c A _ l0 _ HT3 hown3 hsz3 (by have := HL0.out; rw [← this]; split <;> simp) hN3 (by omega)).mono ?_
    rintro e w4 ⟨v4, rfl, ho4, hb4, hk4⟩
    have hrx4 := hrx3.below hb4 hlt
    have hD4 := HD3.out _ hb4
    have HD4 : Hid (∀ W, Below w1.heap.size w4 W → Num W (dl q.den) A' m c') := fun W h => HD3.out _ (hb4.trans h)
    have HT4 : Hid (∀ W, Below w1.heap.size w4 W → Txt W) := fun W h => HT3.out _ (hb4.trans h)
    have hsz4 : w1.heap.size ≤ w4.heap.size := Nat.le_trans hsz3 hb4.size
    have hb04 := hb03.trans (hb4.mono (Nat.le_of_lt hlt))
    obtain ⟨k0, k1, k2⟩ := hrx4.cells
    have hl1 : (l0 ++ Lib.decDigits q.num.natAbs) ≠ [] := by
      intro e
      have h1 := congrArg List.length e
      rw [List.length_append] at h1
      have h2 := decDigits_pos q.num.natAbs
      have h0 : ([] : List UInt8).length = 0 := rfl
      omega
    have hl1l : (l0 ++ Lib.decDigits q.num.natAbs).length ≤ 999999 := by
      rw [List.length_append]
      have h1 : l0.length ≤ 1 := by have := HL0.out; rw [← this]; split <;> simp
      have h2 := decDigits_le (X := q.num.natAbs) (k := 10000) hS.1
      omega
    obtain ⟨l1, hl1e⟩ : ∃ l1, l0 ++ Lib.decDigits q.num.natAbs = l1 := ⟨_, rfl⟩
    rw [hl1e] at ho4 hl1 hl1l
    have HL1 := Lib.hid hl1e
    clear hl1e HT3 HD3 hrx3 hN3 hb03 hsz3 hk4 hb4 hown3
    by_cases hd1 : q.den = 1
    · have hm0 : m = 0 := by rw [hD4.len, hd1]; rfl
      subst hm0
      have HD1 := Lib.hid hd1
      clear hd1 hD4
      obtain ⟨g, cap, rfl, hconv⟩ := ownB_text ho4 hl1
      go_wp2_with fail
      have ef : l1 = fmtQ q := by
        unfold fmtQ
        rw [if_pos HD1.out, List.append_nil, HL0.out, HL1.out]
      rw [← ef]
      go_ret
      exact ⟨rfl, hb04⟩
    · have hm0 : 0 < m := by
        rw [hD4.len, dl_ne hd1]
        exact List.length_pos_iff.2 (fun e => q.den_nz (limbs_nil.1 e))
      have hdec : decide ((0 : Int) < (m : Int)) = true := decide_eq_true (by omega)
      have HD1 := Lib.hid hd1
      clear hd1
      have hml4 : m ≤ 1000000 := by omega
      have ho4a := ho4.alloc (.cells #[.int .u8 47] 5)
      have hlit4 := (Boxed.new w4 5 (.int .u8 47)).cell
      have hb4a : Below w1.heap.size w4 (w4.alloc (.cells #[.int .u8 47] 5)) := (Below.refl _ _).alloc hsz4 _
      go_wp2_with (at_builtin; refine wpList_appB rfl (.tmp 19) (.tmp 20) rfl rfl w1.heap.size v4 l1 47 rfl ho4a w4.heap.size rfl hlit4 (by omega) (Nat.le_trans hsz4 hb4a.size) ?_)
      intro v5 w5 ho5 hg5
      have hb5 := hb4a.grown hg5 (Nat.le_trans hsz4 hb4a.size) (fun k hk => (ho4a.lt k hk).1)
      have hrx5 := hrx4.below hb5 hlt
      obtain ⟨k0, k1, k2⟩ := hrx5.cells
      have hD5 := HD4.out _ hb5
      have hb05 := hb04.trans (hb5.mono (Nat.le_of_lt hlt))
      have HT5 : Hid (∀ W, Below w1.heap.size w5 W → Txt W) := fun W h => HT4.out _ (hb5.trans h)
      obtain ⟨l2, hl2⟩ : ∃ l2, l1 ++ [47] = l2 := ⟨_, rfl⟩
      have hl2l : l2.length ≤ 1000000 := by rw [← hl2, List.length_append]; have : ([47] : List UInt8).length = 1 := rfl; omega
      rw [hl2] at ho5
      have HL2 := Lib.hid hl2
      clear hl2 hlit4 hb4a hg5 ho4a hD4
      go_wp2_with fail
      rw [dl_ne HD1.out] at hD5
      refine (appendDecimal_any w1.heap.size q.den m c' A' _ l2 _ HT5 ho5 (Nat.le_trans hsz4 hb5.size) hl2l hD5 hml4).mono ?_
      rintro e w6 ⟨v6, rfl, ho6, hb6, hk6⟩
      obtain ⟨l3, hl3⟩ : ∃ l3, l2 ++ Lib.decDigits q.den = l3 := ⟨_, rfl⟩
      rw [hl3] at ho6
      have hl3n : l3 ≠ [] := by
        intro e
        have h1 := congrArg List.length e
        rw [← hl3, List.length_append] at h1
        have h2 := decDigits_pos q.den
        have h0 : ([] : List UInt8).length = 0 := rfl
        omega
      have HL3 := Lib.hid hl3
      clear hl3
      obtain ⟨g, cap, rfl, hconv⟩ := ownB_text ho6 hl3n
      go_wp2_with fail
      have ef : l3 = fmtQ q := by
        unfold fmtQ
        rw [if_neg HD1.out, ← HL3.out, ← HL2.out, ← HL1.out, HL0.out]
        simp
      rw [← ef]
      go_ret
      exact ⟨rfl, hb05.trans (hb6.mono (Nat.le_of_lt hlt))⟩
end Go.Proofs.YtggmmgojpamcpaaGreatDoor

namespace Go.Proofs.YtggmmgojpamcpaaGreatDoor
open Go.RowKit

theorem fmt_of {neg : Bool} {a d : Nat} (hd : d ≠ 0) (hg : Nat.gcd a d = 1) : fmtQ (qv neg a d) = (if (neg && decide (a ≠ 0)) = true then [45] else []) ++ Lib.decDigits a ++ (if d = 1 then [] else 47 :: Lib.decDigits d) := by
  unfold fmtQ
  rw [(qv_low hd hg).1, (qv_low hd hg).2, sgn_abs, ← sgn_neg]
  simp
theorem sz_qv {neg : Bool} {a d L : Nat} (hd : d ≠ 0) (hg : Nat.gcd a d = 1) (ha : (limbs a).length ≤ L) (hdl : (limbs d).length ≤ L) : Sz (qv neg a d) L := by
  unfold Sz
  rw [(qv_low hd hg).1, (qv_low hd hg).2, sgn_abs]
  exact ⟨ha, hdl⟩
theorem dec_dig {n : Nat} (h : n < 10) : Lib.decDigits n = [UInt8.ofNat (48 + n)] := by rw [Lib.decDigits, dif_pos h]
theorem small_len {n : Nat} (h : n < 4294967296) : (limbs n).length ≤ 1 := limbs_length_le (by unfold P; omega)

set_option maxRecDepth 20000 in
set_option maxHeartbeats 2000000 in
theorem awake_any (w : World) (hT : Txt w) : Calls Tryz.prog 12 #[] w (RetV w (.bool true)) := by
  have q1 : qv (decide ((6 : Int) < 0) != decide ((-4 : Int) < 0)) (6 : Int).natAbs (-4 : Int).natAbs = qv true 3 2 := qv_scale true (a := 3) (d := 2) (k := 2) (by decide)
  have p1 : parseQ (⟨#[52, 47, 54]⟩ : ByteArray).data.toList = some (qv false 2 3) := by
    have e : qv false 4 6 = qv false 2 3 := qv_scale false (a := 2) (d := 3) (k := 2) (by decide)
    rw [← e]
    have h0 : Lib.hasPrefix [52, 47, 54] [45] = false := by decide
    have h1 : Lib.cut [52, 47, 54] [47] = ([52], [54], true) := by decide
    have h2 : readDec [52] = some 4 := by decide
    have h3 : readDec [54] = some 6 := by decide
    show parseQ [52, 47, 54] = _
    unfold parseQ Lib.trimPrefix
    rw [h0]
    simp only [Bool.false_eq_true, if_false, h1, h2, h3, if_true]
    rfl
  have q2 : qv (decide ((5 : Int) < 0) != decide ((3 : Int) < 0)) (5 : Int).natAbs (3 : Int).natAbs = qv false 5 3 := rfl
  have d1 : down (qv false 5 3) 1 = qv false 3 2 := by
    rw [← qv_down (by decide) (by decide)]; rfl
  have u1 : up (qv false 5 3) 1 = qv false 2 1 := by
    rw [← qv_up (by decide) (by decide)]
    exact qv_scale false (a := 2) (d := 1) (k := 2) (by decide)
  have f1 : fmtQ (qv true 3 2) = [45, 51, 47, 50] := by rw [fmt_of (by decide) (by decide), dec_dig (by decide), dec_dig (by decide)]; rfl
  have f2 : fmtQ (qv false 2 3) = [50, 47, 51] := by rw [fmt_of (by decide) (by decide), dec_dig (by decide), dec_dig (by decide)]; rfl
  have f3 : fmtQ (qv false 3 2) = [51, 47, 50] := by rw [fmt_of (by decide) (by decide), dec_dig (by decide), dec_dig (by decide)]; rfl
  have f4 : fmtQ (qv false 2 1) = [50] := by rw [fmt_of (by decide) (by decide), dec_dig (by decide)]; rfl
  have F1 := Lib.hid f1
  have F2 := Lib.hid f2
  have F3 := Lib.hid f3
  have F4 := Lib.hid f4
  have Q1 := Lib.hid q1
  have P1 := Lib.hid p1
  have Q2 := Lib.hid q2
  have D1 := Lib.hid d1
  have U1 := Lib.hid u1
  have s1 : Sz (qv true 3 2) 1 := sz_qv (by decide) (by decide) (small_len (by decide)) (small_len (by decide))
  have s2 : Sz (qv false 2 3) 1 := sz_qv (by decide) (by decide) (small_len (by decide)) (small_len (by decide))
  have s3 : Sz (qv false 5 3) 1 := sz_qv (by decide) (by decide) (small_len (by decide)) (small_len (by decide))
  have s4 : Sz (qv false 3 2) 1 := sz_qv (by decide) (by decide) (small_len (by decide)) (small_len (by decide))
  have s5 : Sz (qv false 2 1) 1 := sz_qv (by decide) (by decide) (small_len (by decide)) (small_len (by decide))
  clear f1 f2 f3 f4 q1 p1 q2 d1 u1
  go_enter Tryz.func12, Tryz.ntmps12
  go_wp2_with fail
  refine (Make_any 6 (-4) w hT.tab (by decide) _ Q1.out (by decide) (by decide) (by decide) (by decide)).mono ?_
  rintro e w1 ⟨v1, rfl, h1, hb1⟩
  obtain ⟨nx, A, n, c, A', m, c', rfl⟩ := h1.agg
  have hbx : Below w1.heap.size w1 (w1.alloc (R1 (.bool nx) (.slice A n c) (.slice A' m c'))) := (Below.refl _ _).alloc (Nat.le_refl _) _
  have hrx := Rc.new w1 (.bool nx) (.slice A n c) (.slice A' m c')
  have hx1 := h1.below hbx
  have hb01 := hb1.trans (hbx.mono hb1.size)
  go_wp2_with fail
  refine (Parse_any _ _ (hT.below hb01) (by decide) _ P1.out).mono ?_
  rintro e w2 ⟨v2, rfl, h2, hb2⟩
  obtain ⟨ny, D, k, d, D', l, d', rfl⟩ := h2.agg
  have hbz : Below w2.heap.size w2 (w2.alloc (R1 (.bool ny) (.slice D k d) (.slice D' l d'))) := (Below.refl _ _).alloc (Nat.le_refl _) _
  have hry := Rc.new w2 (.bool ny) (.slice D k d) (.slice D' l d')
  have hrx3 := (hrx.below hb2 hrx.lt).alloc (R1 (.bool ny) (.slice D k d) (.slice D' l d'))
  have hb03 := (hb01.trans (hb2.mono hb01.size)).trans (hbz.mono (by have := hb01.size; have := hb2.size; omega))
  have hx3 := (hx1.below hb2).below hbz
  have hy3 : RatQ _ _ (qv false 2 3) := h2.below hbz
  obtain ⟨x0, x1, x2⟩ := hrx3.cells
  obtain ⟨y0, y1, y2⟩ := hry.cells
  go_wp2_with fail
  generalize w2.alloc (R1 (.bool ny) (.slice D k d) (.slice D' l d')) = W3 at *
  refine (Format_any _ _ 1 _ (hT.below hb03) (hx3.inp s1 (by decide)) (s1.mono (by decide))).mono ?_
  rw [F1.out]
  rintro e w4 ⟨rfl, hb4⟩
  have hy4 := hy3.below (hb4.mono (by omega))
  have hry4 := hry.below hb4 hry.lt
  obtain ⟨y0, y1, y2⟩ := hry4.cells
  have hb04 := hb03.trans (hb4.mono hb03.size)
  go_wp2_with fail
  refine (Format_any _ _ 1 _ (hT.below hb04) (hy4.inp s2 (by decide)) (s2.mono (by decide))).mono ?_
  rw [F2.out]
  rintro e w5 ⟨rfl, hb5⟩
  have hb05 := hb04.trans (hb5.mono hb04.size)
  go_wp2_with fail
  refine (r_Of 5 3 _ (by decide) _ Q2.out (by decide) (by decide) (by decide) (by decide)).mono ?_
  rintro e w6 ⟨v6, rfl, h6, hb6⟩
  have hb06 := hb05.trans (hb6.mono hb05.size)
  obtain ⟨n6, A6, m6, c6, B6, k6, d6, rfl⟩ := h6.agg
  go_wp2_with fail
  refine (Down_in _ _ _ 1 1 _ (hT.tab.below hb06) (h6.inp s3 (by decide)) (s3.mono (by decide)) (by decide) D1.out).mono ?_
  rintro e w7 ⟨v7, rfl, h7, hb7⟩
  have hb07 := hb06.trans (hb7.mono hb06.size)
  obtain ⟨n7, A7, m7, c7, B7, k7, d7, rfl⟩ := h7.agg
  go_wp2_with fail
  refine (Format_any _ _ 1 _ (hT.below hb07) (h7.inp s4 (by decide)) (s4.mono (by decide))).mono ?_
  rw [F3.out]
  rintro e w8 ⟨rfl, hb8⟩
  have hb08 := hb07.trans (hb8.mono hb07.size)
  go_wp2_with fail
  refine (r_Of 5 3 _ (by decide) _ Q2.out (by decide) (by decide) (by decide) (by decide)).mono ?_
  rintro e w9 ⟨v9, rfl, h9, hb9⟩
  have hb09 := hb08.trans (hb9.mono hb08.size)
  obtain ⟨n9, A9, m9, c9, B9, k9, d9, rfl⟩ := h9.agg
  go_wp2_with fail
  refine (Up_in _ _ _ 1 1 _ (hT.tab.below hb09) (h9.inp s3 (by decide)) (s3.mono (by decide)) (by decide) U1.out).mono ?_
  rintro e w10 ⟨v10, rfl, h10, hb10⟩
  have hb010 := hb09.trans (hb10.mono hb09.size)
  obtain ⟨n10, A10, m10, c10, B10, k10, d10, rfl⟩ := h10.agg
  go_wp2_with fail
  refine (Format_any _ _ 1 _ (hT.below hb010) (h10.inp s5 (by decide)) (s5.mono (by decide))).mono ?_
  rw [F4.out]
  rintro e w11 ⟨rfl, hb11⟩
  go_wp2_with fail
  go_ret
  exact ⟨rfl, hb010.trans (hb11.mono hb010.size)⟩

set_option maxRecDepth 20000 in
set_option maxHeartbeats 1000000 in
theorem light_any (neg : Bool) (A A' : Option Addr) (n c m c' : Nat) (w : World) (V : Bool) (H : Hid ((decide (n ≤ 6) && decide (m ≤ 6)) = V)) :
    Calls Tryz.prog 11 #[.agg #[.bool neg, .slice A n c, .slice A' m c']] w (RetV w (.bool V)) := by
  have hbA : Below w.heap.size w (w.alloc (R1 (.bool neg) (.slice A n c) (.slice A' m c'))) := (Below.refl _ _).alloc (Nat.le_refl _) _
  go_enter Tryz.func11, Tryz.ntmps11
  go_wp2_with fail
  refine (r_Light neg A A' n c m c' 6 _ V H).mono ?_
  rintro e w1 ⟨rfl, hb1⟩
  go_wp2_with fail
  go_ret
  exact ⟨rfl, hbA.trans (hb1.mono hbA.size)⟩
/-- What a law is given: three fields. -/
structure Fld (w : World) (v : Value) (neg : Bool) (ln ld : List Nat) : Prop where
  out : ∃ A n c A' m c', v = .agg #[.bool neg, .slice A n c, .slice A' m c'] ∧ Num w ln A n c ∧ Num w ld A' m c'
theorem Fld.below {w w' : World} {v : Value} {neg : Bool} {ln ld : List Nat} (h : Fld w v neg ln ld) (hb : Below w.heap.size w w') : Fld w' v neg ln ld := by
  obtain ⟨A, n, c, A', m, c', e, h1, h2⟩ := h.out
  exact ⟨A, n, c, A', m, c', e, h1.below hb, h2.below hb⟩
def lgt (ln ld : List Nat) : Bool := decide (ln.length ≤ 6) && decide (ld.length ≤ 6)
theorem light_f (v : Value) (neg : Bool) (ln ld : List Nat) (w : World) (V : Bool) (h : Fld w v neg ln ld) (H : Hid (lgt ln ld = V)) : Calls Tryz.prog 11 #[v] w (RetV w (.bool V)) := by
  obtain ⟨A, n, c, A', m, c', rfl, h1, h2⟩ := h.out
  refine light_any neg A A' n c m c' w V ?_
  show _ = _
  rw [← H.out, h1.len, h2.len]
  rfl
theorem valid_f (v : Value) (neg : Bool) (ln ld : List Nat) (w : World) (V : Bool) (h : Fld w v neg ln ld) (hl : lgt ln ld = true) (H : Hid (vld neg ln ld = V)) : Calls Tryz.prog 18 #[v] w (RetV w (.bool V)) := by
  obtain ⟨A, n, c, A', m, c', rfl, h1, h2⟩ := h.out
  unfold lgt at hl
  simp only [Bool.and_eq_true, decide_eq_true_eq] at hl
  exact r_Valid neg A A' n c m c' ln ld w V h1 h2 (by rw [h1.len]; omega) (by rw [h2.len]; omega) H
theorem Fld.agg {w : World} {v : Value} {neg : Bool} {ln ld : List Nat} (h : Fld w v neg ln ld) : ∃ A n c A' m c', v = .agg #[.bool neg, .slice A n c, .slice A' m c'] := by
  obtain ⟨A, n, c, A', m, c', e, _⟩ := h.out
  exact ⟨A, n, c, A', m, c', e⟩
end Go.Proofs.YtggmmgojpamcpaaGreatDoor

namespace Go.Proofs.YtggmmgojpamcpaaGreatDoor
open Go.RowKit

def wholeOk (q : Rat) : Bool := decide (q.den = 1 ∧ -9223372036854775808 ≤ q.num ∧ q.num < 9223372036854775808)
def wholeOf (q : Rat) : Int := if wholeOk q then q.num else 0

theorem P_two : P 2 = 18446744073709551616 := by unfold P; rfl
theorem whole_plain (q : Rat) (nb : Bool) (n m : Nat) (p1 : nb = decide (q.num < 0)) (hm : m = 0 ↔ q.den = 1) (hn : n = (limbs q.num.natAbs).length) :
    (¬ 2 < n → q.num.natAbs < 18446744073709551616) ∧
    ((m ≠ 0 ∨ 2 < n ∨ (nb = false ∧ 9223372036854775808 ≤ q.num.natAbs) ∨ (nb = true ∧ 9223372036854775808 < q.num.natAbs)) → wholeOf q = 0 ∧ wholeOk q = false) ∧
    (m = 0 → ((nb = false ∧ q.num.natAbs < 9223372036854775808) ∨ (nb = true ∧ q.num.natAbs ≤ 9223372036854775808)) → wholeOf q = sgn nb q.num.natAbs ∧ wholeOk q = true) ∧
    (nb = true → 0 < q.num.natAbs) := by
  have hnn2 : 2 < n → 18446744073709551616 ≤ q.num.natAbs := fun hc => by
    refine Classical.byContradiction fun hlt => ?_
    have := limbs_length_le (n := q.num.natAbs) (k := 2) (by rw [P_two]; omega)
    omega
  refine ⟨fun hc => ?_, fun hc => ?_, fun h0 hc => ?_, fun hc => ?_⟩
  · have := lt_P_length q.num.natAbs
    rw [← hn] at this
    have h2 := P_le (show n ≤ 2 by omega)
    rw [P_two] at h2
    exact Nat.lt_of_lt_of_le this h2
  · have hk : wholeOk q = false := by
      unfold wholeOk
      refine decide_eq_false fun hall => ?_
      obtain ⟨h1, h2, h3⟩ := hall
      rcases hc with hc | hc | ⟨hc, hc'⟩ | ⟨hc, hc'⟩
      · exact hc (hm.2 h1)
      · have := hnn2 hc; omega
      · rw [p1] at hc; have := of_decide_eq_false hc; omega
      · omega
    unfold wholeOf; rw [hk]; simp
  · have hk : wholeOk q = true := by
      unfold wholeOk
      refine decide_eq_true ⟨hm.1 h0, ?_⟩
      rcases hc with ⟨hc, hc'⟩ | ⟨hc, hc'⟩
      · rw [p1] at hc; have := of_decide_eq_false hc; omega
      · rw [p1] at hc; have := of_decide_eq_true hc; omega
    unfold wholeOf; rw [hk, p1, sgn_self]; simp
  · rw [p1] at hc; have := of_decide_eq_true hc; omega

set_option maxRecDepth 20000 in
set_option maxHeartbeats 1000000 in
theorem Whole_any (v : Value) (q : Rat) (L : Nat) (V : Int) (O : Bool) (w : World) (hT : Tab w) (h : Inp w v q L) (HV : Hid (wholeOf q = V ∧ wholeOk q = O)) :
    Calls Tryz.prog 15 #[v] w (RetV w (.tuple #[.int .i64 V, .bool O])) := by
  obtain ⟨z0, Z, zn, zc, Z', zm, ze, rfl⟩ := h.agg
  have hbA : Below w.heap.size w (w.alloc (R1 (.bool z0) (.slice Z zn zc) (.slice Z' zm ze))) := (Below.refl _ _).alloc (Nat.le_refl _) _
  have hrx := Rc.new w (.bool z0) (.slice Z zn zc) (.slice Z' zm ze)
  go_enter Tryz.func15, Tryz.ntmps15
  go_wp2_with fail
  refine (clean_i _ q L _ (hT.below hbA) (h.below hbA)).mono ?_
  rintro e w1 ⟨v1, rfl, h1, hb1⟩
  have hrx1 := hrx.below hb1 hrx.lt
  obtain ⟨nb, A, n, c, B, m, e, rfl⟩ := h1.agg
  obtain ⟨k0, k1, k2⟩ := hrx1.cells
  obtain ⟨f0, f1, f2⟩ := hrx1.frozen
  have hb01 := hbA.trans (hb1.mono hbA.size)
  have hrx2 := hrx1.set (.bool nb) (.slice A n c) (.slice B m e)
  obtain ⟨p1, p2, p3⟩ := (h1.set3 hrx1 (.bool nb) (.slice A n c) (.slice B m e)).parts
  have hb02 := below_set3 hb01 (Nat.le_refl _) (.bool nb) (.slice A n c) (.slice B m e)
  obtain ⟨hnn, hfail, hgood, hpos⟩ := whole_plain q nb n m p1 (dl_zero p3 q.den_nz) p2.len
  rw [HV.out.1, HV.out.2] at hfail hgood
  have HF := Lib.hid hfail
  have HG := Lib.hid hgood
  have HN := Lib.hid hnn
  have HP := Lib.hid hpos
  clear hfail hgood hnn hpos p1 p3
  by_cases h0 : m = 0
  · subst h0
    have HG1 := Lib.hid (HG.out rfl)
    by_cases h2 : 2 < n
    · have HF1 := Lib.hid (HF.out (.inr (.inl h2)))
      go_wp2_with fail
      go_ret2
      rw [HF1.out.1, HF1.out.2]
      exact ⟨rfl, hb02⟩
    · have hlt := HN.out h2
      have hcl : q.num.natAbs = val (limbs q.num.natAbs) := (val_limbs _).symm
      generalize hsz : q.num.natAbs = a at *
      have HA := Lib.hid hlt
      clear hlt hsz hcl
      go_wp2_with fail
      refine (low_any _ _ _ a _ p2 (by omega)).mono ?_
      rintro e w' ⟨rfl, rfl⟩
      cases nb
      · by_cases hc : 9223372036854775807 < a
        · have HF1 := Lib.hid (HF.out (.inr (.inr (.inl ⟨rfl, by omega⟩))))
          have hd : decide ((9223372036854775807 : Int) < (a : Int)) = true := by simp; omega
          go_wp2_with fail
          go_ret2
          rw [HF1.out.1, HF1.out.2]
          exact ⟨rfl, hb02⟩
        · have HG2 := Lib.hid (HG1.out (.inl ⟨rfl, by omega⟩))
          have hd : decide ((9223372036854775807 : Int) < (a : Int)) = false := by simp; omega
          have hw : IntKind.i64.wrap (a : Int) = (a : Int) := IntWalk.i64_in _ (by omega)
          clear hc
          go_wp2_with fail
          go_ret2
          rw [HG2.out.1, HG2.out.2]
          exact ⟨rfl, hb02⟩
      · have hp := HP.out rfl
        obtain ⟨b, hb⟩ : ∃ b, a - 1 = b := ⟨_, rfl⟩
        have hw0 : IntKind.u64.wrap ((a : Int) - 1) = (b : Int) := by rw [IntKind.wrap_u64]; have := HA.out; omega
        by_cases hc : 9223372036854775807 < b
        · have HF1 := Lib.hid (HF.out (.inr (.inr (.inr ⟨rfl, by omega⟩))))
          have hd : decide ((9223372036854775807 : Int) < (b : Int)) = true := by simp; omega
          clear hb hp
          go_wp2_with fail
          go_ret2
          rw [HF1.out.1, HF1.out.2]
          exact ⟨rfl, hb02⟩
        · have HG2 := Lib.hid (HG1.out (.inr ⟨rfl, by omega⟩))
          have hd : decide ((9223372036854775807 : Int) < (b : Int)) = false := by simp; omega
          have hw : IntKind.i64.wrap (b : Int) = (b : Int) := IntWalk.i64_in _ (by omega)
          have hw1 : IntKind.i64.wrap (-(b : Int)) = -(b : Int) := IntWalk.i64_in _ (by omega)
          have hw2 : IntKind.i64.wrap (-(b : Int) - 1) = -(a : Int) := by rw [IntWalk.i64_in _ (by omega)]; omega
          clear hb hc hp
          go_wp2_with fail
          go_ret2
          rw [HG2.out.1, HG2.out.2]
          exact ⟨rfl, hb02⟩
  · have HF1 := Lib.hid (HF.out (.inl h0))
    have hm0 : 0 < m := Nat.pos_of_ne_zero h0
    go_wp2_with fail
    go_ret2
    rw [HF1.out.1, HF1.out.2]
    exact ⟨rfl, hb02⟩
end Go.Proofs.YtggmmgojpamcpaaGreatDoor

namespace Go.Proofs.YtggmmgojpamcpaaGreatDoor
open Go.RowKit

set_option maxHeartbeats 1000000 in
theorem equal_any (A A' : Option Addr) (n c m c' : Nat) (l r : List Nat) (w : World) (V : Bool) (hx : Num w l A n c) (hy : Num w r A' m c') (hn : n ≤ 1073741824) (hm : m ≤ 1073741824) (H : Hid (decide (l = r) = V)) :
    Calls Tryz.prog 66 #[.slice A n c, .slice A' m c'] w (RetQ w (.bool V)) := by
  by_cases hnm : n = m
  · subst hnm
    have h1 : ((n : Int) != n) = false := by simp
    go_enter Tryz.func66, Tryz.ntmps66
    go_wp2
    go_loopw [13] (fun i wr => ∃ k q : Nat, k ≤ n ∧ i = .int .i64 (k : Int) ∧ wr = w.drewN q ∧ Hid (∀ j, j < k → l.getD j 0 = r.getD j 0)) (fun i _ => (n - intOf i).toNat)
    case atStart => exact ⟨0, 0, Nat.zero_le _, rfl, rfl, show Hid _ from fun j h1 => by omega⟩
    case round =>
      obtain ⟨k, q, hk, rfl, rfl, HE⟩ := hrel
      rcases Nat.lt_or_ge k n with hkn | hkn
      · obtain ⟨b, o, x, rfl, _, hx', _, hcx⟩ := hx.at_ hkn
        obtain ⟨b', o', y, rfl, _, hy', _, hcy⟩ := hy.at_ hkn
        have hkn2 : (k : Int) < (n : Int) := by omega
        have HX := Lib.hid hx'; have HY := Lib.hid hy'
        have LX := Lib.hid hx; have LY := Lib.hid hy
        clear hx' hy' hx hy
        by_cases hxy : x = y
        · have hne : ((x : Int) != y) = false := by simp; omega
          have hne2 : ((y : Int) != y) = false := by simp
          subst hxy
          go_wp2_with fail
          go_quiet (fail)
          go_wp2_with fail
          go_roundw
          case rel => exact ⟨k + 1, _, by omega, congrArg (Value.int _) (by omega), rfl, show Hid _ from fun i hi1 => by
            rcases Nat.lt_or_eq_of_le (Nat.le_of_lt_succ hi1) with hi | hi
            · exact HE.out i hi
            · subst hi; rw [HX.out, HY.out]⟩
          case measure => simp [intOf]; omega
        · have hne : ((x : Int) != y) = true := by simp; omega
          go_wp2_with fail
          go_quiet (fail)
          go_wp2_with fail
          go_ret
          refine ⟨ret_bool ?_, draws2 ..⟩
          rw [← H.out]
          exact (decide_eq_false (fun h => hxy (by rw [← HX.out, ← HY.out, h]))).symm
      · have hlt : ¬ (k : Int) < (n : Int) := by omega
        go_wp2_with fail
        go_ret
        refine ⟨ret_bool ?_, q, rfl⟩
        rw [← H.out]
        exact (decide_eq_true (eq_of_getD (hx.len.symm.trans hy.len) (fun j hj => HE.out j (by have := hx.len; omega)))).symm
  · have h1 : ((n : Int) != m) = true := by simp; omega
    go_enter Tryz.func66, Tryz.ntmps66
    go_wp2
    go_ret
    refine ⟨ret_bool ?_, 0, rfl⟩
    rw [← H.out]
    exact (decide_eq_false (fun h => hnm (by rw [hx.len, hy.len, h]))).symm
end Go.Proofs.YtggmmgojpamcpaaGreatDoor

namespace Go.Proofs.YtggmmgojpamcpaaGreatDoor
open Go.RowKit

def cmpQ (x y : Rat) : Int := if x < y then -1 else if y < x then 1 else 0
theorem cmpQ_I (x y : Rat) : cmpQ x y = cmpI (x.num * (y.den : Int)) (y.num * (x.den : Int)) := by
  unfold cmpQ cmpI
  simp only [Rat.lt_iff]
theorem cmpI_neg (a b : Int) : cmpI (-a) (-b) = cmpI b a := by
  unfold cmpI; split <;> split <;> (try split) <;> omega
theorem cmpI_scale (a b : Int) {d : Nat} (hd : d ≠ 0) : cmpI (a * (d : Int)) (b * (d : Int)) = cmpI a b := by
  have hp : (0 : Int) < (d : Int) := by omega
  have e1 : a * (d : Int) < b * (d : Int) ↔ a < b := Int.mul_lt_mul_right hp
  have e2 : b * (d : Int) < a * (d : Int) ↔ b < a := Int.mul_lt_mul_right hp
  unfold cmpI
  simp only [e1, e2]
theorem sign_scale (a : Int) {d : Nat} (hd : d ≠ 0) : (a * (d : Int)).sign = a.sign := by
  rw [Int.sign_mul, Int.sign_eq_one_of_pos (a := (d : Int)) (by omega), Int.mul_one]
theorem cmpI_sign {a b : Int} (h : a.sign ≠ b.sign) : cmpI a b = cmpI a.sign b.sign := by
  rcases Int.lt_trichotomy a 0 with ha | ha | ha <;> rcases Int.lt_trichotomy b 0 with hb | hb | hb <;>
    simp_all [Int.sign_eq_neg_one_of_neg, Int.sign_eq_one_of_pos, cmpI] <;> omega
/-- Numbers of different signs. -/
theorem cmpQ_sign {x y : Rat} (h : x.num.sign ≠ y.num.sign) : cmpQ x y = cmpI x.num.sign y.num.sign := by
  rw [cmpQ_I, cmpI_sign (by rw [sign_scale _ y.den_nz, sign_scale _ x.den_nz]; exact h), sign_scale _ y.den_nz, sign_scale _ x.den_nz]
/-- Numbers of the same sign: the greater first if both are below 0. -/
theorem cmpQ_pos {x y : Rat} (hx : ¬ x.num < 0) (hy : ¬ y.num < 0) : cmpQ x y = cmpI ((x.num.natAbs * y.den : Nat) : Int) ((y.num.natAbs * x.den : Nat) : Int) := by
  rw [cmpQ_I]
  push_cast
  rw [Int.natAbs_of_nonneg (by omega), Int.natAbs_of_nonneg (by omega)]
theorem cmpQ_neg {x y : Rat} (hx : x.num < 0) (hy : y.num < 0) : cmpQ x y = cmpI ((y.num.natAbs * x.den : Nat) : Int) ((x.num.natAbs * y.den : Nat) : Int) := by
  rw [cmpQ_I, ← cmpI_neg]
  push_cast
  rw [Int.ofNat_natAbs_of_nonpos (by omega), Int.ofNat_natAbs_of_nonpos (by omega), Int.neg_mul, Int.neg_mul, cmpI_neg]

theorem dl_inj {a b : Nat} (ha : a ≠ 0) (hb : b ≠ 0) (h : dl a = dl b) : a = b := by
  unfold dl at h
  split at h
  · next h1 =>
    split at h
    · next h2 => rw [h1, h2]
    · exact absurd (limbs_nil.1 h.symm) hb
  · split at h
    · exact absurd (limbs_nil.1 h) ha
    · exact limbs_inj h
theorem sign_v (v : Value) (x : Rat) (s : Int) (w : World) (hx : RatQ w v x) (H : Hid (x.num.sign = s)) : Calls Tryz.prog 64 #[v] w (RetV w (.int .i64 s)) := by
  rw [← H.out]; exact sign_q v x w hx

set_option maxRecDepth 20000 in
set_option maxHeartbeats 2000000 in
theorem Compare_any (v v' : Value) (x y : Rat) (L : Nat) (V : Int) (w : World) (hT : Tab w) (h : Inp w v x L) (h' : Inp w v' y L) (sx : Sz x 1000000) (sy : Sz y 1000000) (HV : Hid (cmpQ x y = V)) : Calls Tryz.prog 20 #[v, v'] w (RetV w (.int .i64 V)) := by
  obtain ⟨z0, Z, zn, zc, Z', zm, ze, rfl⟩ := h.agg
  obtain ⟨y0, Y, yn, yc, Y', ym, ye, rfl⟩ := h'.agg
  obtain ⟨hbA, hrx, hry⟩ := blocks2 w (.bool z0) (.slice Z zn zc) (.slice Z' zm ze) (.bool y0) (.slice Y yn yc) (.slice Y' ym ye)
  go_enter Tryz.func20, Tryz.ntmps20
  have hI := h.below hbA
  have hI' := h'.below hbA
  have hTW := hT.below hbA
  go_wp2_with fail
  generalize ((w.alloc (R1 (.bool z0) (.slice Z zn zc) (.slice Z' zm ze))).alloc (R1 (.bool y0) (.slice Y yn yc) (.slice Y' ym ye))) = W at *
  have hgx : w.heap.size < W.drew.heap.size := hrx.lt
  have hgy : w.heap.size + 1 < W.drew.heap.size := hry.lt
  replace hrx := hrx.drew
  replace hry := hry.drew
  replace hTW := hTW.drew
  replace hI : Inp W.drew _ x L := hI.below (Below.refl _ _).drew
  replace hI' : Inp W.drew _ y L := hI'.below (Below.refl _ _).drew
  replace hbA := hbA.drew
  obtain ⟨k0, k1, k2⟩ := hrx.cells
  obtain ⟨l0, l1, l2⟩ := hry.cells
  go_cut [] from 5 to 8 (fun wx => Clean2 w x y wx)
  case first =>
    go_region_with (first
      | (have _g := hb1; go_at_call 54; refine (clean_i _ y L _ (hTW.below hb1) (hI'.below hb1)).mono ?_; rintro e w2 ⟨v2, rfl, h2, hb2⟩; have hb12 := hb1.trans (hb2.mono hb1.size); obtain ⟨k0, k1, k2⟩ := (hrx.below hb12 hgx).cells; obtain ⟨l0, l1, l2⟩ := (hry.below hb12 hgy).cells; obtain ⟨f0, f1, f2⟩ := (hrx.below hb12 hgx).frozen; obtain ⟨g0, g1, g2⟩ := (hry.below hb12 hgy).frozen; obtain ⟨nb2, A2, n2, c2, B2, m2, e2, rfl⟩ := h2.agg)
      | (go_at_call 54; refine (clean_i _ x L _ hTW hI).mono ?_; rintro e w1 ⟨v1, rfl, h1, hb1⟩; obtain ⟨k0, k1, k2⟩ := (hrx.below hb1 hgx).cells; obtain ⟨l0, l1, l2⟩ := (hry.below hb1 hgy).cells; obtain ⟨nb1, A1, n1, c1, B1, m1, e1, rfl⟩ := h1.agg))
    all_goals
      go_wp2_with fail
      go_meet
      exact Clean2.of (h1.below hb2) h2 (hrx.below hb12 hgx) (hry.below hb12 hgy) (hbA.trans (hb12.mono hbA.size))
  case rest =>
  obtain ⟨nb1, A1, n1, c1, B1, m1, e1, nb2, A2, n2, c2, B2, m2, e2, h1, h2, hrx1, hry1, hb1⟩ := hcut
  clear hrx hry hgx hgy hTW hI hI' hbA k0 k1 k2 l0 l1 l2
  have hTw := hT.below hb1
  obtain ⟨s, hs⟩ : ∃ s, x.num.sign = s := ⟨_, rfl⟩
  obtain ⟨t, ht⟩ : ∃ t, y.num.sign = t := ⟨_, rfl⟩
  have HS := Lib.hid hs
  have HTs := Lib.hid ht
  clear hs ht
  go_wp2_with fail
  replace hTw := hTw.drew
  replace hrx1 := hrx1.drew
  replace hry1 := hry1.drew
  replace h1 : RatQ wc.drew _ x := h1.below (Below.refl _ _).drew
  replace h2 : RatQ wc.drew _ y := h2.below (Below.refl _ _).drew
  replace hb1 := hb1.drew
  have hgx := hrx1.lt
  have hgy := hry1.lt
  have hsx := hrx1.cells
  have hsy := hry1.cells
  go_region_held3 (fun w' => (w'.cell? ⟨w.heap.size, 0, none⟩ = some (.bool nb1) ∧ w'.cell? ⟨w.heap.size, 1, none⟩ = some (.slice A1 n1 c1) ∧ w'.cell? ⟨w.heap.size, 2, none⟩ = some (.slice B1 m1 e1)) ∧ (w'.cell? ⟨w.heap.size + 1, 0, none⟩ = some (.bool nb2) ∧ w'.cell? ⟨w.heap.size + 1, 1, none⟩ = some (.slice A2 n2 c2) ∧ w'.cell? ⟨w.heap.size + 1, 2, none⟩ = some (.slice B2 m2 e2)))
    (exact ⟨hsx, hsy⟩)
    (first
      | (have _g := hb2; go_at_call 64; refine (sign_v _ y t _ (h2.below hb2) HTs).mono ?_; rintro e w3 ⟨rfl, hb3⟩; have hb23 := hb2.trans (hb3.mono hb2.size); have hsx := (hrx1.below hb23 hgx).cells; have hsy := (hry1.below hb23 hgy).cells)
      | (go_at_call 64; refine (sign_v _ x s _ h1 HS).mono ?_; rintro e w2 ⟨rfl, hb2⟩; have hsx := (hrx1.below hb2 hgx).cells; have hsy := (hry1.below hb2 hgy).cells))
  have hb3' := hb1.trans (hb23.mono hb1.size)
  replace hrx1 := hrx1.below hb23 hgx
  replace hry1 := hry1.below hb23 hgy
  replace h1 := h1.below hb23
  replace h2 := h2.below hb23
  have hT3 := hT.below hb3'
  clear hTw hb1 hb2 hb3 hb23 hgx hgy hsx hsy hT h h'
  by_cases hst : s = t
  · have hd : (s != t) = false := by simp [hst]
    obtain ⟨k0, k1, k2⟩ := hrx1.cells
    obtain ⟨l0, l1, l2⟩ := hry1.cells
    obtain ⟨f0, f1, f2⟩ := hrx1.frozen
    obtain ⟨g0, g1, g2⟩ := hry1.frozen
    have HST := Lib.hid hst; clear hst
    obtain ⟨p1, p2, p3⟩ := h1.parts
    obtain ⟨q1, q2, q3⟩ := h2.parts
    have hsg : x.num.sign = y.num.sign := by rw [HS.out, HTs.out, HST.out]
    have hq1 : nb2 = nb1 := by
      rw [p1, q1]
      refine decide_eq_decide.2 ?_
      rcases Int.lt_trichotomy x.num 0 with ha | ha | ha <;> rcases Int.lt_trichotomy y.num 0 with hb | hb | hb <;>
        simp_all [Int.sign_eq_neg_one_of_neg, Int.sign_eq_one_of_pos] <;> omega
    subst hq1
    have hV1 : nb2 = false → cmpI ((x.num.natAbs * y.den : Nat) : Int) ((y.num.natAbs * x.den : Nat) : Int) = V := fun h => by
      rw [← HV.out, cmpQ_pos (of_decide_eq_false (by rw [← p1]; exact h)) (of_decide_eq_false (by rw [← q1]; exact h))]
    have hV2 : nb2 = true → cmpI ((y.num.natAbs * x.den : Nat) : Int) ((x.num.natAbs * y.den : Nat) : Int) = V := fun h => by
      rw [← HV.out, cmpQ_neg (of_decide_eq_true (by rw [← p1]; exact h)) (of_decide_eq_true (by rw [← q1]; exact h))]
    clear p1 q1 hsg
    have hl1 : n1 ≤ 1000000 := by rw [p2.len]; exact sx.1
    have hl2 : m1 ≤ 1000000 := by rw [p3.len]; exact Nat.le_trans (dl_length _) sx.2
    have hl3 : n2 ≤ 1000000 := by rw [q2.len]; exact sy.1
    have hl4 : m2 ≤ 1000000 := by rw [q3.len]; exact Nat.le_trans (dl_length _) sy.2
    have hz1 := sx.2
    have hz2 := sy.2
    clear h1 h2
    cases nb2
    · have HC := Lib.hid (hV1 rfl)
      clear hV1 hV2
      go_wp2_with fail
      have R1x := hrx1
      have R1y := hry1
      have U2 := p2
      have U3 := p3
      have V2 := q2
      have V3 := q3
      have HB := hb3'
      clear hrx1 hry1 p2 p3 q2 q3 hb3' hT3 k0 k1 k2 l0 l1 l2 f0 f1 f2 g0 g1 g2
      obtain ⟨E, hE⟩ : ∃ E, decide (dl x.den = dl y.den) = E := ⟨_, rfl⟩
      have HE := Lib.hid hE; clear hE
      obtain ⟨k0, k1, k2⟩ := R1x.cells
      obtain ⟨l0, l1, l2⟩ := R1y.cells
      refine (equal_any _ _ _ _ _ _ (dl x.den) (dl y.den) _ E U3 V3 (by omega) (by omega) HE).mono ?_
      rintro e w' ⟨rfl, q, rfl⟩
      replace R1x : Rc (w3.drewN q) _ _ _ _ := R1x.drewN q
      replace R1y : Rc (w3.drewN q) _ _ _ _ := R1y.drewN q
      replace U2 := U2.drewN q
      replace U3 := U3.drewN q
      replace V2 := V2.drewN q
      replace V3 := V3.drewN q
      replace HB := below_drewN HB q
      clear k0 k1 k2 l0 l1 l2
      have hsx := R1x.cells
      have hsy := R1y.cells
      cases E
      · generalize w3.drewN q = Wq at *
        replace R1x := R1x.drew
        replace R1y := R1y.drew
        replace U2 := U2.drew
        replace U3 := U3.drew
        replace V2 := V2.drew
        replace V3 := V3.drew
        replace HB := HB.drew
        have hgx := R1x.lt
        have hgy := R1y.lt
        go_wp2_with fail
        go_region_held3 (fun w' => (w'.cell? ⟨w.heap.size, 0, none⟩ = some (.bool false) ∧ w'.cell? ⟨w.heap.size, 1, none⟩ = some (.slice A1 n1 c1) ∧ w'.cell? ⟨w.heap.size, 2, none⟩ = some (.slice B1 m1 e1)) ∧ (w'.cell? ⟨w.heap.size + 1, 0, none⟩ = some (.bool false) ∧ w'.cell? ⟨w.heap.size + 1, 1, none⟩ = some (.slice A2 n2 c2) ∧ w'.cell? ⟨w.heap.size + 1, 2, none⟩ = some (.slice B2 m2 e2)))
          (exact ⟨hsx, hsy⟩)
          (first
            | (have _g := hp2; go_at_call 67; refine (order_v _ _ _ _ _ _ (x.num.natAbs * y.den) (y.num.natAbs * x.den) _ V (d2.num.below hq4) d4.num ?_ ?_ HC).mono ?_; (have := d2.len; have := length_mul x.num.natAbs y.den; have := U2.len; omega); (have := d4.len; have := length_mul y.num.natAbs x.den; have := V2.len; omega); rintro e w' ⟨rfl, q5, rfl⟩; have hsx := (R1x.below hp4 hgx).cells; have hsy := (R1y.below hp4 hgy).cells)
            | (have _g := d3; go_at_call 68; refine (product_any _ _ _ _ _ _ y.num.natAbs x.den _ (V2.below hp3) d3 ?_ ?_).mono ?_; omega; (have := d3.len; omega); rintro e w4 ⟨A4, n4, c4, rfl, d4, hb4⟩; have hp2 := trivial; have hp4 := hp3.trans (hb4.mono hp3.size); have hq4 := hb3.trans (hb4.mono hb3.size); have hsx := (R1x.below hp4 hgx).cells; have hsy := (R1y.below hp4 hgy).cells)
            | (have _g := d2; go_at_call 69; refine (denominator_any _ _ _ _ _ _ _ x.den _ (U3.below hp2') x.den_nz).mono ?_; rintro e w3' ⟨A3, n3, c3, rfl, d3, hb3⟩; have hp3 := hp2'.trans (hb3.mono hp2'.size); have hsx := (R1x.below hp3 hgx).cells; have hsy := (R1y.below hp3 hgy).cells)
            | (have _g := d1; go_at_call 68; refine (product_any _ _ _ _ _ _ x.num.natAbs y.den _ (U2.below hb1') d1 ?_ ?_).mono ?_; omega; (have := d1.len; omega); rintro e w2' ⟨A2', n2', c2', rfl, d2, hb2'⟩; have hp2' := hb1'.trans (hb2'.mono hb1'.size); have hsx := (R1x.below hp2' hgx).cells; have hsy := (R1y.below hp2' hgy).cells)
            | (go_at_call 69; refine (denominator_any _ _ _ _ _ _ _ y.den _ V3 y.den_nz).mono ?_; rintro e w1' ⟨A1', n1', c1', rfl, d1, hb1'⟩; have hsx := (R1x.below hb1' hgx).cells; have hsy := (R1y.below hb1' hgy).cells))
        go_wp2_with fail
        go_ret
        exact ⟨rfl, below_drewN (HB.trans (hp4.mono HB.size)) _⟩
      · have HC2 : Hid (cmpI (x.num.natAbs : Int) (y.num.natAbs : Int) = V) := by
          show _ = _
          have hd := dl_inj x.den_nz y.den_nz (of_decide_eq_true HE.out)
          rw [← HC.out, hd]
          push_cast
          rw [cmpI_scale _ _ y.den_nz]
        clear HC
        obtain ⟨k0, k1, k2⟩ := hsx
        obtain ⟨l0, l1, l2⟩ := hsy
        go_wp2_with fail
        refine (order_v _ _ _ _ _ _ x.num.natAbs y.num.natAbs _ V U2 V2 (by omega) (by omega) HC2).mono ?_
        rintro e w' ⟨rfl, q5, rfl⟩
        go_wp2_with fail
        go_ret
        exact ⟨rfl, by rw [← World.drewN_drewN]; exact below_drewN HB _⟩
    · have HC := Lib.hid (hV2 rfl)
      clear hV1 hV2
      go_wp2_with fail
      have R0y := hry1.far3 (g' := w.heap.size) (by omega) (.bool true) (.slice A2 n2 c2) (.slice B2 m2 e2)
      have R1x := (hrx1.set (.bool true) (.slice A2 n2 c2) (.slice B2 m2 e2)).far3 (g' := w.heap.size + 1) (by omega) (.bool true) (.slice A1 n1 c1) (.slice B1 m1 e1)
      have R1y := R0y.set (.bool true) (.slice A1 n1 c1) (.slice B1 m1 e1)
      have V2 := (p2.set3 (p2.ne_rc hrx1) (.bool true) (.slice A2 n2 c2) (.slice B2 m2 e2))
      have V3 := (p3.set3 (p3.ne_rc hrx1) (.bool true) (.slice A2 n2 c2) (.slice B2 m2 e2))
      have U2 := (q2.set3 (q2.ne_rc hrx1) (.bool true) (.slice A2 n2 c2) (.slice B2 m2 e2))
      have U3 := (q3.set3 (q3.ne_rc hrx1) (.bool true) (.slice A2 n2 c2) (.slice B2 m2 e2))
      replace V2 := V2.set3 (V2.ne_rc R0y) (.bool true) (.slice A1 n1 c1) (.slice B1 m1 e1)
      replace V3 := V3.set3 (V3.ne_rc R0y) (.bool true) (.slice A1 n1 c1) (.slice B1 m1 e1)
      replace U2 := U2.set3 (U2.ne_rc R0y) (.bool true) (.slice A1 n1 c1) (.slice B1 m1 e1)
      replace U3 := U3.set3 (U3.ne_rc R0y) (.bool true) (.slice A1 n1 c1) (.slice B1 m1 e1)
      have HB := below_set3 (below_set3 hb3' (Nat.le_refl _) (.bool true) (.slice A2 n2 c2) (.slice B2 m2 e2)) (Nat.le_succ _) (.bool true) (.slice A1 n1 c1) (.slice B1 m1 e1)
      clear R0y hrx1 hry1 p2 p3 q2 q3 hb3' hT3 k0 k1 k2 l0 l1 l2 f0 f1 f2 g0 g1 g2
      generalize ((((((w3.setCell ⟨w.heap.size, 0, none⟩ (.bool true)).setCell ⟨w.heap.size, 1, none⟩ (.slice A2 n2 c2)).setCell ⟨w.heap.size, 2, none⟩ (.slice B2 m2 e2)).setCell ⟨w.heap.size + 1, 0, none⟩ (.bool true)).setCell ⟨w.heap.size + 1, 1, none⟩ (.slice A1 n1 c1)).setCell ⟨w.heap.size + 1, 2, none⟩ (.slice B1 m1 e1)) = W3 at *
      obtain ⟨E, hE⟩ : ∃ E, decide (dl y.den = dl x.den) = E := ⟨_, rfl⟩
      have HE := Lib.hid hE; clear hE
      obtain ⟨k0, k1, k2⟩ := R1x.cells
      obtain ⟨l0, l1, l2⟩ := R1y.cells
      refine (equal_any _ _ _ _ _ _ (dl y.den) (dl x.den) _ E U3 V3 (by omega) (by omega) HE).mono ?_
      rintro e w' ⟨rfl, q, rfl⟩
      replace R1x : Rc (W3.drewN q) _ _ _ _ := R1x.drewN q
      replace R1y : Rc (W3.drewN q) _ _ _ _ := R1y.drewN q
      replace U2 := U2.drewN q
      replace U3 := U3.drewN q
      replace V2 := V2.drewN q
      replace V3 := V3.drewN q
      replace HB := below_drewN HB q
      clear k0 k1 k2 l0 l1 l2
      have hsx := R1x.cells
      have hsy := R1y.cells
      cases E
      · generalize W3.drewN q = Wq at *
        replace R1x := R1x.drew
        replace R1y := R1y.drew
        replace U2 := U2.drew
        replace U3 := U3.drew
        replace V2 := V2.drew
        replace V3 := V3.drew
        replace HB := HB.drew
        have hgx := R1x.lt
        have hgy := R1y.lt
        go_wp2_with fail
        go_region_held3 (fun w' => (w'.cell? ⟨w.heap.size, 0, none⟩ = some (.bool true) ∧ w'.cell? ⟨w.heap.size, 1, none⟩ = some (.slice A2 n2 c2) ∧ w'.cell? ⟨w.heap.size, 2, none⟩ = some (.slice B2 m2 e2)) ∧ (w'.cell? ⟨w.heap.size + 1, 0, none⟩ = some (.bool true) ∧ w'.cell? ⟨w.heap.size + 1, 1, none⟩ = some (.slice A1 n1 c1) ∧ w'.cell? ⟨w.heap.size + 1, 2, none⟩ = some (.slice B1 m1 e1)))
          (exact ⟨hsx, hsy⟩)
          (first
            | (have _g := hp2; go_at_call 67; refine (order_v _ _ _ _ _ _ (y.num.natAbs * x.den) (x.num.natAbs * y.den) _ V (d2.num.below hq4) d4.num ?_ ?_ HC).mono ?_; (have := d2.len; have := length_mul y.num.natAbs x.den; have := U2.len; omega); (have := d4.len; have := length_mul x.num.natAbs y.den; have := V2.len; omega); rintro e w' ⟨rfl, q5, rfl⟩; have hsx := (R1x.below hp4 hgx).cells; have hsy := (R1y.below hp4 hgy).cells)
            | (have _g := d3; go_at_call 68; refine (product_any _ _ _ _ _ _ x.num.natAbs y.den _ (V2.below hp3) d3 ?_ ?_).mono ?_; omega; (have := d3.len; omega); rintro e w4 ⟨A4, n4, c4, rfl, d4, hb4⟩; have hp2 := trivial; have hp4 := hp3.trans (hb4.mono hp3.size); have hq4 := hb3.trans (hb4.mono hb3.size); have hsx := (R1x.below hp4 hgx).cells; have hsy := (R1y.below hp4 hgy).cells)
            | (have _g := d2; go_at_call 69; refine (denominator_any _ _ _ _ _ _ _ y.den _ (U3.below hp2') y.den_nz).mono ?_; rintro e w3' ⟨A3, n3, c3, rfl, d3, hb3⟩; have hp3 := hp2'.trans (hb3.mono hp2'.size); have hsx := (R1x.below hp3 hgx).cells; have hsy := (R1y.below hp3 hgy).cells)
            | (have _g := d1; go_at_call 68; refine (product_any _ _ _ _ _ _ y.num.natAbs x.den _ (U2.below hb1') d1 ?_ ?_).mono ?_; omega; (have := d1.len; omega); rintro e w2' ⟨A2', n2', c2', rfl, d2, hb2'⟩; have hp2' := hb1'.trans (hb2'.mono hb1'.size); have hsx := (R1x.below hp2' hgx).cells; have hsy := (R1y.below hp2' hgy).cells)
            | (go_at_call 69; refine (denominator_any _ _ _ _ _ _ _ x.den _ V3 x.den_nz).mono ?_; rintro e w1' ⟨A1', n1', c1', rfl, d1, hb1'⟩; have hsx := (R1x.below hb1' hgx).cells; have hsy := (R1y.below hb1' hgy).cells))
        go_wp2_with fail
        go_ret
        exact ⟨rfl, below_drewN (HB.trans (hp4.mono HB.size)) _⟩
      · have HC2 : Hid (cmpI (y.num.natAbs : Int) (x.num.natAbs : Int) = V) := by
          show _ = _
          have hd := dl_inj y.den_nz x.den_nz (of_decide_eq_true HE.out)
          rw [← HC.out, hd]
          push_cast
          rw [cmpI_scale _ _ x.den_nz]
        clear HC
        obtain ⟨k0, k1, k2⟩ := hsx
        obtain ⟨l0, l1, l2⟩ := hsy
        go_wp2_with fail
        refine (order_v _ _ _ _ _ _ y.num.natAbs x.num.natAbs _ V U2 V2 (by omega) (by omega) HC2).mono ?_
        rintro e w' ⟨rfl, q5, rfl⟩
        go_wp2_with fail
        go_ret
        exact ⟨rfl, by rw [← World.drewN_drewN]; exact below_drewN HB _⟩
  · have hd : (s != t) = true := by simp [hst]
    have HC : Hid (cmpI s t = V) := by
      show _ = _
      rw [← HV.out, cmpQ_sign (by rw [HS.out, HTs.out]; exact hst), HS.out, HTs.out]
    clear hst
    go_wp2_with fail
    refine (cmp_int s t _).mono ?_
    rintro e w' ⟨rfl, rfl⟩
    go_wp2_with fail
    go_ret
    rw [HC.out]
    exact ⟨rfl, hb3'⟩
end Go.Proofs.YtggmmgojpamcpaaGreatDoor

namespace Go.Proofs.YtggmmgojpamcpaaGreatDoor
open Go.RowKit

def frr (x y z : Bool × List Nat × List Nat) : Bool := lgt x.2.1 x.2.2 && lgt y.2.1 y.2.2 && lgt z.2.1 z.2.2 && vld x.1 x.2.1 x.2.2 && vld y.1 y.2.1 y.2.2 && vld z.1 z.2.1 z.2.2
set_option maxRecDepth 20000 in
set_option maxHeartbeats 2000000 in
theorem fair_any (v1 v2 v3 : Value) (nx ny nz : Bool) (a1 d1 a2 d2 a3 d3 : List Nat) (w : World) (V : Bool) (h1 : Fld w v1 nx a1 d1) (h2 : Fld w v2 ny a2 d2) (h3 : Fld w v3 nz a3 d3) (H : Hid (frr (nx, a1, d1) (ny, a2, d2) (nz, a3, d3) = V)) :
    Calls Tryz.prog 44 #[v1, v2, v3] w (RetV w (.bool V)) := by
  obtain ⟨X1, x1, y1, Z1, z1, t1, rfl⟩ := h1.agg
  obtain ⟨X2, x2, y2, Z2, z2, t2, rfl⟩ := h2.agg
  obtain ⟨X3, x3, y3, Z3, z3, t3, rfl⟩ := h3.agg
  obtain ⟨hb0, r1, r2, r3⟩ := blocks3 w (.bool nx) (.slice X1 x1 y1) (.slice Z1 z1 t1) (.bool ny) (.slice X2 x2 y2) (.slice Z2 z2 t2) (.bool nz) (.slice X3 x3 y3) (.slice Z3 z3 t3)
  have g1 := h1.below hb0
  have g2 := h2.below hb0
  have g3 := h3.below hb0
  have hV := H.out
  unfold frr at hV
  obtain ⟨V1, e1⟩ : ∃ b, lgt a1 d1 = b := ⟨_, rfl⟩
  obtain ⟨V2, e2⟩ : ∃ b, lgt a2 d2 = b := ⟨_, rfl⟩
  obtain ⟨V3, e3⟩ : ∃ b, lgt a3 d3 = b := ⟨_, rfl⟩
  obtain ⟨V4, e4⟩ : ∃ b, vld nx a1 d1 = b := ⟨_, rfl⟩
  obtain ⟨V5, e5⟩ : ∃ b, vld ny a2 d2 = b := ⟨_, rfl⟩
  obtain ⟨V6, e6⟩ : ∃ b, vld nz a3 d3 = b := ⟨_, rfl⟩
  simp only [e1, e2, e3, e4, e5, e6] at hV
  have HV := Lib.hid hV
  have E1 := Lib.hid e1
  have E2 := Lib.hid e2
  have E3 := Lib.hid e3
  have E4 := Lib.hid e4
  have E5 := Lib.hid e5
  have E6 := Lib.hid e6
  clear H hV e1 e2 e3 e4 e5 e6
  go_enter Tryz.func44, Tryz.ntmps44
  go_wp2_with fail
  generalize (((w.alloc (R1 (.bool nx) (.slice X1 x1 y1) (.slice Z1 z1 t1))).alloc (R1 (.bool ny) (.slice X2 x2 y2) (.slice Z2 z2 t2))).alloc (R1 (.bool nz) (.slice X3 x3 y3) (.slice Z3 z3 t3))) = W0 at *
  refine (light_f _ _ _ _ _ V1 g1 E1).mono ?_
  rintro e w1 ⟨rfl, hb1⟩
  have hb0 := hb0.trans (hb1.mono hb0.size)
  replace g1 := g1.below hb1
  replace r1 := r1.below hb1 r1.lt
  replace g2 := g2.below hb1
  replace r2 := r2.below hb1 r2.lt
  replace g3 := g3.below hb1
  replace r3 := r3.below hb1 r3.lt
  obtain ⟨p0, p1, p2⟩ := r1.cells
  obtain ⟨q0, q1, q2⟩ := r2.cells
  obtain ⟨s0, s1, s2⟩ := r3.cells
  cases V1
  · have HW : Hid (V = false) := by show _ = _; rw [← HV.out]; simp
    go_wp2_with fail
    go_ret
    rw [HW.out]
    exact ⟨rfl, hb0⟩
  · go_wp2_with fail
    clear p0 p1 p2 q0 q1 q2 s0 s1 s2
    refine (light_f _ _ _ _ _ V2 g2 E2).mono ?_
    rintro e w1 ⟨rfl, hb2⟩
    have hb0 := hb0.trans (hb2.mono hb0.size)
    replace g1 := g1.below hb2
    replace r1 := r1.below hb2 r1.lt
    replace g2 := g2.below hb2
    replace r2 := r2.below hb2 r2.lt
    replace g3 := g3.below hb2
    replace r3 := r3.below hb2 r3.lt
    obtain ⟨p0, p1, p2⟩ := r1.cells
    obtain ⟨q0, q1, q2⟩ := r2.cells
    obtain ⟨s0, s1, s2⟩ := r3.cells
    cases V2
    · have HW : Hid (V = false) := by show _ = _; rw [← HV.out]; simp
      go_wp2_with fail
      go_ret
      rw [HW.out]
      exact ⟨rfl, hb0⟩
    · go_wp2_with fail
      clear p0 p1 p2 q0 q1 q2 s0 s1 s2
      refine (light_f _ _ _ _ _ V3 g3 E3).mono ?_
      rintro e w1 ⟨rfl, hb3⟩
      have hb0 := hb0.trans (hb3.mono hb0.size)
      replace g1 := g1.below hb3
      replace r1 := r1.below hb3 r1.lt
      replace g2 := g2.below hb3
      replace r2 := r2.below hb3 r2.lt
      replace g3 := g3.below hb3
      replace r3 := r3.below hb3 r3.lt
      obtain ⟨p0, p1, p2⟩ := r1.cells
      obtain ⟨q0, q1, q2⟩ := r2.cells
      obtain ⟨s0, s1, s2⟩ := r3.cells
      cases V3
      · have HW : Hid (V = false) := by show _ = _; rw [← HV.out]; simp
        go_wp2_with fail
        go_ret
        rw [HW.out]
        exact ⟨rfl, hb0⟩
      · go_wp2_with fail
        clear p0 p1 p2 q0 q1 q2 s0 s1 s2
        refine (valid_f _ _ _ _ _ V4 g1 E1.out E4).mono ?_
        rintro e w1 ⟨rfl, hb4⟩
        have hb0 := hb0.trans (hb4.mono hb0.size)
        replace g1 := g1.below hb4
        replace r1 := r1.below hb4 r1.lt
        replace g2 := g2.below hb4
        replace r2 := r2.below hb4 r2.lt
        replace g3 := g3.below hb4
        replace r3 := r3.below hb4 r3.lt
        obtain ⟨p0, p1, p2⟩ := r1.cells
        obtain ⟨q0, q1, q2⟩ := r2.cells
        obtain ⟨s0, s1, s2⟩ := r3.cells
        cases V4
        · have HW : Hid (V = false) := by show _ = _; rw [← HV.out]; simp
          go_wp2_with fail
          go_ret
          rw [HW.out]
          exact ⟨rfl, hb0⟩
        · go_wp2_with fail
          clear p0 p1 p2 q0 q1 q2 s0 s1 s2
          refine (valid_f _ _ _ _ _ V5 g2 E2.out E5).mono ?_
          rintro e w1 ⟨rfl, hb5⟩
          have hb0 := hb0.trans (hb5.mono hb0.size)
          replace g1 := g1.below hb5
          replace r1 := r1.below hb5 r1.lt
          replace g2 := g2.below hb5
          replace r2 := r2.below hb5 r2.lt
          replace g3 := g3.below hb5
          replace r3 := r3.below hb5 r3.lt
          obtain ⟨p0, p1, p2⟩ := r1.cells
          obtain ⟨q0, q1, q2⟩ := r2.cells
          obtain ⟨s0, s1, s2⟩ := r3.cells
          cases V5
          · have HW : Hid (V = false) := by show _ = _; rw [← HV.out]; simp
            go_wp2_with fail
            go_ret
            rw [HW.out]
            exact ⟨rfl, hb0⟩
          · go_wp2_with fail
            clear p0 p1 p2 q0 q1 q2 s0 s1 s2
            refine (valid_f _ _ _ _ _ V6 g3 E3.out E6).mono ?_
            rintro e w1 ⟨rfl, hb6⟩
            have hb0 := hb0.trans (hb6.mono hb0.size)
            replace g1 := g1.below hb6
            replace r1 := r1.below hb6 r1.lt
            replace g2 := g2.below hb6
            replace r2 := r2.below hb6 r2.lt
            replace g3 := g3.below hb6
            replace r3 := r3.below hb6 r3.lt
            obtain ⟨p0, p1, p2⟩ := r1.cells
            obtain ⟨q0, q1, q2⟩ := r2.cells
            obtain ⟨s0, s1, s2⟩ := r3.cells
            cases V6
            · have HW : Hid (V = false) := by show _ = _; rw [← HV.out]; simp
              go_wp2_with fail
              go_ret
              rw [HW.out]
              exact ⟨rfl, hb0⟩
            · have HW : Hid (V = true) := by show _ = _; rw [← HV.out]; rfl
              go_wp2_with fail
              go_ret
              rw [HW.out]
              exact ⟨rfl, hb0⟩
end Go.Proofs.YtggmmgojpamcpaaGreatDoor
