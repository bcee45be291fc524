/- Operations of Rational; what Star and Format of Tropical come to at 0. -/
import Derived.Test.YtafoplnpnoedfaaGreatDoorQ19
import Derived.Test.YtafoplnpnoedfaaGreatDoorQ15
import Derived.Test.YtafoplnpnoedfaaGreatDoorQ24
import Derived.Deep.RegionHeld3
import Derived.Deep.CutRange
set_option linter.unusedVariables false
set_option linter.unusedSimpArgs false
namespace Go.Proofs.YtafoplnpnoedfaaGreatDoor
open Go.RowKit

/-- A weight that is the number q. -/
def NW (w : World) (v : Value) (q : Rat) : Prop := ∃ nb A n c B m e, v = aw (.bool nb) (.slice A n c) (.slice B m e) 0 false ∧ RatQ w (.agg #[.bool nb, .slice A n c, .slice B m e]) q
theorem NW.below {w w' : World} {v : Value} {q : Rat} (h : NW w v q) (hb : Below w.heap.size w w') : NW w' v q := by
  obtain ⟨nb, A, n, c, B, m, e, rfl, h1⟩ := h
  exact ⟨nb, A, n, c, B, m, e, rfl, h1.below hb⟩
theorem num_one : Rat.num 1 = 1 := rfl
theorem ratq_one {w : World} {g c : Nat} (h : Row w g [1]) (hc : 1 ≤ c) : RatQ w (.agg #[.bool false, .slice (some ⟨g, 0, none⟩) 1 c, .slice none 0 0]) 1 := by
  refine ⟨_, _, _, _, _, _, rfl, ?_, ?_⟩
  · show Num w (limbs 1) _ _ _
    rw [limbs_one]
    exact h.num (by intro x hx; simp at hx; subst hx; decide) rfl hc
  · show Num w (dl 1) _ _ _
    unfold dl; rw [if_pos rfl]; exact Num.nil _ _ _
set_option maxRecDepth 20000 in
set_option maxHeartbeats 2000000 in
theorem semone_any (w : World) : Calls Tryz.prog 88 #[] w (RetRat w 1) := by
  go_enter Tryz.func88, Tryz.ntmps88
  have x0 := blk2 w [.bool false, .slice (some ⟨w.heap.size + 1, 0, none⟩) 1 1, .slice none 0 0] [.int .u32 1] 27 97
  go_wp2_with fail
  refine ret_rc Tryz.results88 rfl (show Rc _ _ _ _ _ from x0.2.1) rfl ?_
  exact ⟨_, rfl, ratq_one (show Row _ _ _ from x0.2.2) (Nat.le_refl _), x0.1⟩

set_option maxRecDepth 20000 in
set_option maxHeartbeats 2000000 in
theorem onlyNumber_ok (q0 q1 q2 : Value) (w : World) (hq0 : ∃ b, q0 = .bool b) (hq1 : ∃ a n c, q1 = .slice a n c) (hq2 : ∃ a n c, q2 = .slice a n c) : Calls Tryz.prog 118 #[aw q0 q1 q2 0 false] w (RetV w (.bool true)) := by
  obtain ⟨nb, rfl⟩ := hq0
  obtain ⟨A, n, c, rfl⟩ := hq1
  obtain ⟨B, m, e, rfl⟩ := hq2
  obtain ⟨h0, _⟩ := blk1 w [.bool false, .slice none 0 0, .slice none 0 0, .int .i64 0, .bool false, .int .u64 0, .slice none 0 0, .slice none 0 0] 32
  go_enter Tryz.func118, Tryz.ntmps118
  go_wp2_with fail
  refine (blank_zero _).mono ?_
  rintro e w1 ⟨rfl, hb1⟩
  go_wp2_with fail
  go_ret
  exact ⟨rfl, h0.trans (hb1.mono h0.size)⟩

theorem dec_dig0 : Lib.decDigits 0 = [48] := by rw [Lib.decDigits]; rfl
theorem itoa0 (w : World) : Calls Tryz.prog 134 #[.int .i64 0] w (fun e w' => e = .returned (.string ⟨#[48]⟩) ∧ w' = w) := by
  have h := Lx.Tryz.strconv_Itoa_small 0 (by decide) w
  rw [show Lib.decDigits 0 = [48] from dec_dig0] at h
  exact h
theorem Valid_q (v : Value) (q : Rat) (w : World) (hT : Tab w) (h : RatQ w v q) (hS : Sz q 100000) : Calls Tryz.prog 119 #[v] w (RetV w (.bool true)) := by
  obtain ⟨A, n, c, A', m, c', rfl, h1, h2⟩ := h
  have l1 := h1.len
  have l2 := h2.len
  have hd : (dl q.den).length ≤ (limbs q.den).length := by
    unfold dl; split
    · simp
    · exact Nat.le_refl _
  exact valid_any _ A A' n c m c' _ _ w true hT h1 h2 (by have := hS.1; omega) (by have := hS.2; omega) vld_canon
set_option maxRecDepth 20000 in
set_option maxHeartbeats 2000000 in
theorem costs2_any (c : Int) (i : Bool) (w : World) : Calls Tryz.prog 83 #[tw c i] w (RetV w (.tuple #[tw 0 false, .bool true])) := by
  have x0 := blk2 w [.bool false, .slice none 0 0, .slice none 0 0, .int .i64 c, .bool i, .int .u64 0, .slice none 0 0, .slice none 0 0] [.bool false, .slice none 0 0, .slice none 0 0, .int .i64 0, .bool false, .int .u64 0, .slice none 0 0, .slice none 0 0] 32 32
  go_enter Tryz.func83, Tryz.ntmps83
  go_wp2_with fail
  refine ret_cs_tmp (l := [.bool false, .slice none 0 0, .slice none 0 0, .int .i64 0, .bool false, .int .u64 0, .slice none 0 0, .slice none 0 0]) Tryz.results83 Tryz.underlying32 (by kernel_rfl) rfl rfl x0.2.2 rfl ?_
  exact ⟨rfl, x0.1⟩

set_option maxRecDepth 20000 in
set_option maxHeartbeats 2000000 in
theorem formatCost_zero (w : World) : Calls Tryz.prog 85 #[tw 0 false] w (RetV w (.string ⟨#[48]⟩)) := by
  have x0 := blk1 w [.bool false, .slice none 0 0, .slice none 0 0, .int .i64 0, .bool false, .int .u64 0, .slice none 0 0, .slice none 0 0] 32
  go_enter Tryz.func85, Tryz.ntmps85
  go_wp2_with fail
  refine (itoa0 _).mono ?_
  rintro e w1 ⟨rfl, rfl⟩
  go_wp2_with fail
  go_ret
  exact ⟨rfl, x0.1⟩

/-- The operations of Rational. -/
abbrev nopsL (b1 b2 : Nat) : List Value := [fv 117, cln b1 b2, fv 80, fv 120, fv 121, fv 91, fv 123, fv 64, fv 124, fv 125]
abbrev nops (b1 b2 : Nat) : Value := .agg #[fv 117, cln b1 b2, fv 80, fv 120, fv 121, fv 91, fv 123, fv 64, fv 124, fv 125]
def NCl (w : World) (b1 b2 : Nat) : Prop := Cl w b1 b2 (fv 118) (fv 80)
set_option maxRecDepth 20000 in
set_option maxHeartbeats 2000000 in
theorem numbers_any (w : World) : Calls Tryz.prog 49 #[] w (fun e w' => ∃ b1 b2, e = .returned (nops b1 b2) ∧ NCl w' b1 b2 ∧ Below w.heap.size w w') := by
  obtain ⟨hb0, c1⟩ := blk1 w [.nilFunc, .nilFunc, .nilFunc, .nilFunc, .nilFunc, .nilFunc, .nilFunc, .nilFunc, .nilFunc, .nilFunc] 55
  go_enter Tryz.func49, Tryz.ntmps49
  go_wp2_with fail
  refine (cleaner_any _ _ _ _ _).mono ?_
  rintro e w1 ⟨b1, b2, rfl, hC, hb1⟩
  replace hb0 := hb0.trans (hb1.mono hb0.size)
  replace c1 := c1.below hb1 c1.lt
  clear hb1
  obtain ⟨a0, a1, a2, a3, a4, a5, a6, a7, a8, a9⟩ := c1.c10
  obtain ⟨f0, f1, f2, f3, f4, f5, f6, f7⟩ := c1.f8
  have f8 := c1.frozen 8
  have f9 := c1.frozen 9
  go_wp2_with fail
  refine ret_cs (l := nopsL b1 b2) Tryz.results49 Tryz.underlying55 (by kernel_rfl) rfl (cs_own10 c1 rfl _ _ _ _ _ _ _ _ _ _) rfl ?_
  exact ⟨b1, b2, rfl, hC.s10 c1 (by decide) _ _ _ _ _ _ _ _ _ _, below_s10 hb0 (Nat.le_refl _) _ _ _ _ _ _ _ _ _ _⟩

set_option maxRecDepth 20000 in
set_option maxHeartbeats 2000000 in
theorem ofKind_num (w : World) : Calls Tryz.prog 31 #[.int .i64 1] w (fun e w' => ∃ b1 b2, e = .returned (nops b1 b2) ∧ NCl w' b1 b2 ∧ Below w.heap.size w w') := by
  obtain ⟨hb0, c1⟩ := blk1 w [.nilFunc, .nilFunc, .nilFunc, .nilFunc, .nilFunc, .nilFunc, .nilFunc, .nilFunc, .nilFunc, .nilFunc] 55
  go_enter Tryz.func31, Tryz.ntmps31
  go_wp2_with fail
  refine (numbers_any _).mono ?_
  rintro e w1 ⟨b1, b2, rfl, hC, hb1⟩
  replace hb0 := hb0.trans (hb1.mono hb0.size)
  replace c1 := c1.below hb1 c1.lt
  clear hb1
  obtain ⟨a0, a1, a2, a3, a4, a5, a6, a7, a8, a9⟩ := c1.c10
  obtain ⟨f0, f1, f2, f3, f4, f5, f6, f7⟩ := c1.f8
  have f8 := c1.frozen 8
  have f9 := c1.frozen 9
  go_wp2_with fail
  refine ret_cs (l := nopsL b1 b2) Tryz.results31 Tryz.underlying55 (by kernel_rfl) rfl (cs_own10 c1 rfl _ _ _ _ _ _ _ _ _ _) rfl ?_
  exact ⟨b1, b2, rfl, hC.s10 c1 (by decide) _ _ _ _ _ _ _ _ _ _, below_s10 hb0 (Nat.le_refl _) _ _ _ _ _ _ _ _ _ _⟩

set_option maxRecDepth 20000 in
set_option maxHeartbeats 2000000 in
theorem numbers1_ok (nb : Bool) (A B : Option Addr) (n c m e : Nat) (q : Rat) (w : World) (hT : Tab w) (h : RatQ w (.agg #[.bool nb, .slice A n c, .slice B m e]) q) (hS : Sz q 100000) : Calls Tryz.prog 117 #[aw (.bool nb) (.slice A n c) (.slice B m e) 0 false] w (RetV w (.bool true)) := by
  obtain ⟨hb0, c1⟩ := blk1 w [.bool nb, .slice A n c, .slice B m e, .int .i64 0, .bool false, .int .u64 0, .slice none 0 0, .slice none 0 0] 32
  have h1 := h.below hb0
  have hT1 := hT.below hb0
  go_enter Tryz.func117, Tryz.ntmps117
  go_wp2_with fail
  generalize (w.alloc (W8q (.bool nb) (.slice A n c) (.slice B m e) 0 false)) = W0 at *
  refine (onlyNumber_ok _ _ _ _ ⟨_, rfl⟩ ⟨_, _, _, rfl⟩ ⟨_, _, _, rfl⟩).mono ?_
  rintro e w1 ⟨rfl, hb1⟩
  replace h1 := h1.below hb1
  replace hT1 := hT1.below hb1
  replace hb0 := hb0.trans (hb1.mono hb0.size)
  replace c1 := c1.below hb1 c1.lt
  clear hb1
  obtain ⟨a0, a1, a2, a3, a4, a5, a6, a7⟩ := c1.c8
  go_wp2_with fail
  refine (Valid_q _ q _ hT1 h1 hS).mono ?_
  rintro e w1 ⟨rfl, hb1⟩
  replace hb0 := hb0.trans (hb1.mono hb0.size)
  go_wp2_with fail
  go_ret
  exact ⟨rfl, hb0⟩

set_option maxRecDepth 20000 in
set_option maxHeartbeats 2000000 in
theorem numbers4_any (nb : Bool) (A B : Option Addr) (n c m e : Nat) (q : Rat) (S : ByteArray) (w : World) (hT : Txt w) (h : RatQ w (.agg #[.bool nb, .slice A n c, .slice B m e]) q) (hS : Sz q 10000) (HS : Hid ((⟨(fmtQ q).toArray⟩ : ByteArray) = S)) : Calls Tryz.prog 124 #[aw (.bool nb) (.slice A n c) (.slice B m e) 0 false] w (RetV w (.string S)) := by
  obtain ⟨hb0, c1⟩ := blk1 w [.bool nb, .slice A n c, .slice B m e, .int .i64 0, .bool false, .int .u64 0, .slice none 0 0, .slice none 0 0] 32
  have h1 := h.below hb0
  have hT1 := hT.below hb0
  go_enter Tryz.func124, Tryz.ntmps124
  go_wp2_with fail
  refine (Format_any _ q 10000 _ hT1 (h1.inp hS (by decide)) hS).mono ?_
  rw [HS.out]
  rintro e w1 ⟨rfl, hb1⟩
  go_wp2_with fail
  go_ret
  exact ⟨rfl, hb0.trans (hb1.mono hb0.size)⟩

end Go.Proofs.YtafoplnpnoedfaaGreatDoor

namespace Go.Proofs.YtafoplnpnoedfaaGreatDoor
open Go.RowKit

theorem sz_one (L : Nat) (h : 1 ≤ L) : Sz 1 L := ⟨by show (limbs 1).length ≤ L; rw [limbs_one]; exact h, by show (limbs 1).length ≤ L; rw [limbs_one]; exact h⟩
theorem cell_alc {w : World} {a : Addr} {v : Value} (o : Obj) (h : w.cell? a = some v) : (w.alloc o).cell? a = some v := (World.cell?_alloc_some w a o (by rw [h]; rfl)).trans h
theorem cell_alc_d {w : World} {a : Addr} {v : Value} (o : Obj) (h : w.drew.cell? a = some v) : (w.alloc o).drew.cell? a = some v := cell_alc (w := w) o h
theorem cell_st {w : World} {b g k k' : Nat} {v u : Value} (hne : b ≠ g) (h : w.cell? ⟨b, k, none⟩ = some v) : (w.setCell ⟨g, k', none⟩ u).cell? ⟨b, k, none⟩ = some v := by
  rw [World.cell?_setCell_other _ _ _ _ (fun e => hne (by injection e with e1; first | exact e1 | exact e1.symm))]; exact h
theorem RatQ.s8 {w : World} {v : Value} {q : Rat} (h : RatQ w v q) {g : Nat} {l : List Value} {t : TypeId} (hr : Cs w g l t) (hl : ∀ v ∈ l, ∀ x : Nat, v ≠ .int .u32 (x : Int)) (u0 u1 u2 u3 u4 u5 u6 u7 : Value) : RatQ ((((((((w.setCell ⟨g, 0, none⟩ u0).setCell ⟨g, 1, none⟩ u1).setCell ⟨g, 2, none⟩ u2).setCell ⟨g, 3, none⟩ u3).setCell ⟨g, 4, none⟩ u4).setCell ⟨g, 5, none⟩ u5).setCell ⟨g, 6, none⟩ u6).setCell ⟨g, 7, none⟩ u7) v q := by
  obtain ⟨A, n, c, A', m, c', e, h1, h2⟩ := h
  exact ⟨A, n, c, A', m, c', e, num_s8 h1 (h1.ne_cs hr hl) _ _ _ _ _ _ _ _, num_s8 h2 (h2.ne_cs hr hl) _ _ _ _ _ _ _ _⟩
/-- What the quotient has left behind. -/
def QRel (w0 : World) (r : Rat) (p : Value) (wx : World) : Prop :=
  ∃ g nb A n c B m e, p = .pointer (some ⟨g, 0, none⟩) ∧ Cs wx g [.bool nb, .slice A n c, .slice B m e] 27 ∧ w0.heap.size ≤ g ∧ RatQ wx (.agg #[.bool nb, .slice A n c, .slice B m e]) r ∧ Below w0.heap.size w0 wx
theorem qrel1 {w0 W : World} {r : Rat} {nb : Bool} {A B : Option Addr} {n c m e : Nat} (hb : Below w0.heap.size w0 W) (h : RatQ W (.agg #[.bool nb, .slice A n c, .slice B m e]) r) : QRel w0 r (.pointer (some ⟨W.heap.size, 0, none⟩)) (W.alloc (R1 (.bool nb) (.slice A n c) (.slice B m e))) := by
  have hx := blk1 W [.bool nb, .slice A n c, .slice B m e] 27
  exact ⟨_, _, _, _, _, _, _, _, rfl, hx.2, hb.size, h.below hx.1, hb.trans (hx.1.mono hb.size)⟩
theorem qrel2 {w0 W : World} {r : Rat} {nb : Bool} {A B : Option Addr} {n c m e g : Nat} (hb : Below w0.heap.size w0 W) (hg : w0.heap.size ≤ g) (hA : Cs W g [.bool false, .slice none 0 0, .slice none 0 0] 27) (h : RatQ W (.agg #[.bool nb, .slice A n c, .slice B m e]) r) : QRel w0 r (.pointer (some ⟨g, 0, none⟩)) (((W.setCell ⟨g, 0, none⟩ (.bool nb)).setCell ⟨g, 1, none⟩ (.slice A n c)).setCell ⟨g, 2, none⟩ (.slice B m e)) :=
  ⟨_, _, _, _, _, _, _, _, rfl, cs_own3 hA rfl _ _ _, hg, h.set3 (show Rc _ _ _ _ _ from hA) _ _ _, below_s3 hb hg _ _ _⟩
set_option maxRecDepth 20000 in
set_option maxHeartbeats 8000000 in
theorem starOfNumber_in (nb : Bool) (A B : Option Addr) (n c m e : Nat) (q a s r : Rat) (w : World) (hT : Tab w) (h : RatQ w (.agg #[.bool nb, .slice A n c, .slice B m e]) q) (hS : Sz q 100000) (ha : Hid (qv false q.num.natAbs q.den = a)) (hSa : Sz a 100000) (HC : Hid (cmpQ a 1 = -1)) (HS : Hid (1 - q = s)) (hSs : Sz s 100000) (HS0 : Hid (s ≠ 0)) (HR : Hid (1 / s = r)) :
    Calls Tryz.prog 123 #[aw (.bool nb) (.slice A n c) (.slice B m e) 0 false] w (fun e w' => ∃ v, e = .returned (.tuple #[v, .bool true]) ∧ NW w' v r ∧ Below w.heap.size w w') := by
  obtain ⟨hb0, c1, c2⟩ := blk2 w [.bool nb, .slice A n c, .slice B m e, .int .i64 0, .bool false, .int .u64 0, .slice none 0 0, .slice none 0 0] [.bool false, .slice none 0 0, .slice none 0 0, .int .i64 0, .bool false, .int .u64 0, .slice none 0 0, .slice none 0 0] 32 32
  have hq := h.below hb0
  have hT1 := hT.below hb0
  have hS1 : Sz 1 100000 := sz_one _ (by decide)
  clear h hT
  go_enter Tryz.func123, Tryz.ntmps123
  go_wp2_with fail
  generalize ((w.alloc (W8q (.bool nb) (.slice A n c) (.slice B m e) 0 false)).alloc (W8t 0 false)) = W at *
  refine (Abs_any _ q a 100000 _ hT1 (hq.inp hS (by decide)) (hS.mono (by decide)) ha.out).mono ?_
  rintro e w1 ⟨v1, rfl, h1, hb1⟩
  replace hq := hq.below hb1
  replace hT1 := hT1.below hb1
  replace hb0 := hb0.trans (hb1.mono hb0.size)
  replace c1 := c1.below hb1 c1.lt
  replace c2 := c2.below hb1 c2.lt
  clear hb1
  obtain ⟨a0, a1, a2, a3, a4, a5, a6, a7⟩ := c1.c8
  go_wp2_with fail
  refine (semone_any _).mono ?_
  rintro e w2 ⟨v2, rfl, h2, hb1⟩
  replace hq := hq.below hb1
  replace hT1 := hT1.below hb1
  replace h1 := h1.below hb1
  clear a0 a1 a2 a3 a4 a5 a6 a7
  replace hb0 := hb0.trans (hb1.mono hb0.size)
  replace c1 := c1.below hb1 c1.lt
  replace c2 := c2.below hb1 c2.lt
  clear hb1
  obtain ⟨a0, a1, a2, a3, a4, a5, a6, a7⟩ := c1.c8
  go_wp2_with fail
  refine (Compare_any _ _ a 1 100000 (-1) _ hT1 (h1.inp hSa (by decide)) (h2.inp hS1 (by decide)) (hSa.mono (by decide)) (hS1.mono (by decide)) HC).mono ?_
  rintro e W0 ⟨rfl, hb1⟩
  replace hq := hq.below hb1
  replace hT1 := hT1.below hb1
  clear a0 a1 a2 a3 a4 a5 a6 a7 h1 h2
  replace hb0 := hb0.trans (hb1.mono hb0.size)
  replace c1 := c1.below hb1 c1.lt
  replace c2 := c2.below hb1 c2.lt
  clear hb1
  have hrl : (W0.drew.cell? ⟨w.heap.size, 0, none⟩ = some (.bool nb) ∧ W0.drew.cell? ⟨w.heap.size, 1, none⟩ = some (.slice A n c) ∧ W0.drew.cell? ⟨w.heap.size, 2, none⟩ = some (.slice B m e)) := ⟨c1.cell rfl, c1.cell rfl, c1.cell rfl⟩
  go_wp2_with fail
  replace hq : RatQ W0.drew _ q := hq.below (Below.refl _ _).drew
  replace hT1 : Tab W0.drew := hT1.drew
  replace c1 := c1.drew
  replace c2 := c2.drew
  have hb9 := hb0.drew
  replace hb0 : Below W0.drew.heap.size W0.drew W0.drew := Below.refl _ _
  have hz0 := hb9.size
  have hdz1 : W0.drew.heap.size ≤ W0.heap.size := Nat.le_refl _
  have hdz2 : W0.heap.size ≤ W0.drew.heap.size := Nat.le_refl _
  have l0 := c1.lt
  go_cut [4] from 13 to 21 (fun p wx => QRel W0.drew r p wx)
  case first =>
    go_region_held3 (fun w' => (w'.cell? ⟨w.heap.size, 0, none⟩ = some (.bool nb) ∧ w'.cell? ⟨w.heap.size, 1, none⟩ = some (.slice A n c) ∧ w'.cell? ⟨w.heap.size, 2, none⟩ = some (.slice B m e)))
        (first | with_reducible exact hrl | ((with_reducible refine ⟨?_, ?_, ?_⟩) <;> (repeat' (first | (with_reducible exact hrl.1) | (with_reducible exact hrl.2.1) | (with_reducible exact hrl.2.2) | (with_reducible refine cell_alc _ ?_) | (with_reducible refine cell_alc_d _ ?_) | (with_reducible refine cell_st ?_ ?_) | omega))) | fail)
        (first
          | (have _g := m3; (with_reducible change Calls _ _ _ (x3) _); go_at_call 153; refine (Div_any _ _ 1 s r 100000 0 _ hT1 (h1.inp hS1 (by decide)) (h3.inp hSs (by decide)) (hS1.mono (by decide)) (hSs.mono (by decide)) (.inr ⟨HS0.out, HR.out, rfl⟩)).mono ?_; rintro e x4 ⟨y4, rfl, h4, hbk⟩; replace hb0 := hb0.trans (hbk.mono hb0.size); replace c1 := c1.below hbk c1.lt; replace hq := hq.below hbk; replace hT1 := hT1.below hbk; replace c2 := c2.below hbk c2.lt; replace h1 := h1.below hbk; replace h2 := h2.below hbk; replace h3 := h3.below hbk; (try replace rA := rA.below hbk rA.lt); have m4 := Lib.hid (rfl : 1 = 1); have hz4 := hb0.size; have l4c1 := c1.lt; have hrl : (x4.cell? ⟨w.heap.size, 0, none⟩ = some (.bool nb) ∧ x4.cell? ⟨w.heap.size, 1, none⟩ = some (.slice A n c) ∧ x4.cell? ⟨w.heap.size, 2, none⟩ = some (.slice B m e)) := ⟨c1.cell rfl, c1.cell rfl, c1.cell rfl⟩; obtain ⟨nr, Ar, nr1, cr, Br, mr, er, rfl⟩ := h4.agg; (try (have e0 := rA.at 0 (by decide); have q0 := rA.frozen 0; have e1 := rA.at 1 (by decide); have q1 := rA.frozen 1; have e2 := rA.at 2 (by decide); have q2 := rA.frozen 2; have lA := rA.lt)))
          | (have _g := m3; (with_reducible change Calls _ _ _ ((x3.alloc (.cells #[.bool false, .slice none 0 0, .slice none 0 0] 27))) _); go_at_call 153; have hal : Below (x3).heap.size (x3) ((x3.alloc (.cells #[.bool false, .slice none 0 0, .slice none 0 0] 27))) := (Below.refl _ _).alloc (Nat.le_refl _) _; have rA : Cs ((x3.alloc (.cells #[.bool false, .slice none 0 0, .slice none 0 0] 27))) x3.heap.size [.bool false, .slice none 0 0, .slice none 0 0] 27 := Cs.new x3 _ _; replace hb0 := hb0.trans (hal.mono hb0.size); replace c1 := c1.below hal c1.lt; replace hq := hq.below hal; replace hT1 := hT1.below hal; replace c2 := c2.below hal c2.lt; replace h1 := h1.below hal; replace h2 := h2.below hal; replace h3 := h3.below hal; refine (Div_any _ _ 1 s r 100000 0 _ hT1 (h1.inp hS1 (by decide)) (h3.inp hSs (by decide)) (hS1.mono (by decide)) (hSs.mono (by decide)) (.inr ⟨HS0.out, HR.out, rfl⟩)).mono ?_; rintro e x4 ⟨y4, rfl, h4, hbk⟩; replace hb0 := hb0.trans (hbk.mono hb0.size); replace c1 := c1.below hbk c1.lt; replace hq := hq.below hbk; replace hT1 := hT1.below hbk; replace c2 := c2.below hbk c2.lt; replace h1 := h1.below hbk; replace h2 := h2.below hbk; replace h3 := h3.below hbk; replace rA := rA.below hbk rA.lt; have m4 := Lib.hid (rfl : 1 = 1); have hz4 := hb0.size; have l4c1 := c1.lt; have hrl : (x4.cell? ⟨w.heap.size, 0, none⟩ = some (.bool nb) ∧ x4.cell? ⟨w.heap.size, 1, none⟩ = some (.slice A n c) ∧ x4.cell? ⟨w.heap.size, 2, none⟩ = some (.slice B m e)) := ⟨c1.cell rfl, c1.cell rfl, c1.cell rfl⟩; obtain ⟨nr, Ar, nr1, cr, Br, mr, er, rfl⟩ := h4.agg; (try (have e0 := rA.at 0 (by decide); have q0 := rA.frozen 0; have e1 := rA.at 1 (by decide); have q1 := rA.frozen 1; have e2 := rA.at 2 (by decide); have q2 := rA.frozen 2; have lA := rA.lt)))
          | (have _g := m2; (with_reducible change Calls _ _ _ (x2) _); go_at_call 154; refine (Sub_any _ _ 1 q s 100000 _ hT1 (h2.inp hS1 (by decide)) (hq.inp hS (by decide)) (hS1.mono (by decide)) (hS.mono (by decide)) HS.out).mono ?_; rintro e x3 ⟨y3, rfl, h3, hbk⟩; replace hb0 := hb0.trans (hbk.mono hb0.size); replace c1 := c1.below hbk c1.lt; replace hq := hq.below hbk; replace hT1 := hT1.below hbk; replace c2 := c2.below hbk c2.lt; replace h1 := h1.below hbk; replace h2 := h2.below hbk; (try replace rA := rA.below hbk rA.lt); have m3 := Lib.hid (rfl : 1 = 1); have hz3 := hb0.size; have l3c1 := c1.lt; have hrl : (x3.cell? ⟨w.heap.size, 0, none⟩ = some (.bool nb) ∧ x3.cell? ⟨w.heap.size, 1, none⟩ = some (.slice A n c) ∧ x3.cell? ⟨w.heap.size, 2, none⟩ = some (.slice B m e)) := ⟨c1.cell rfl, c1.cell rfl, c1.cell rfl⟩)
          | (have _g := m2; (with_reducible change Calls _ _ _ ((x2.alloc (.cells #[.bool false, .slice none 0 0, .slice none 0 0] 27))) _); go_at_call 154; have hal : Below (x2).heap.size (x2) ((x2.alloc (.cells #[.bool false, .slice none 0 0, .slice none 0 0] 27))) := (Below.refl _ _).alloc (Nat.le_refl _) _; have rA : Cs ((x2.alloc (.cells #[.bool false, .slice none 0 0, .slice none 0 0] 27))) x2.heap.size [.bool false, .slice none 0 0, .slice none 0 0] 27 := Cs.new x2 _ _; replace hb0 := hb0.trans (hal.mono hb0.size); replace c1 := c1.below hal c1.lt; replace hq := hq.below hal; replace hT1 := hT1.below hal; replace c2 := c2.below hal c2.lt; replace h1 := h1.below hal; replace h2 := h2.below hal; refine (Sub_any _ _ 1 q s 100000 _ hT1 (h2.inp hS1 (by decide)) (hq.inp hS (by decide)) (hS1.mono (by decide)) (hS.mono (by decide)) HS.out).mono ?_; rintro e x3 ⟨y3, rfl, h3, hbk⟩; replace hb0 := hb0.trans (hbk.mono hb0.size); replace c1 := c1.below hbk c1.lt; replace hq := hq.below hbk; replace hT1 := hT1.below hbk; replace c2 := c2.below hbk c2.lt; replace h1 := h1.below hbk; replace h2 := h2.below hbk; replace rA := rA.below hbk rA.lt; have m3 := Lib.hid (rfl : 1 = 1); have hz3 := hb0.size; have l3c1 := c1.lt; have hrl : (x3.cell? ⟨w.heap.size, 0, none⟩ = some (.bool nb) ∧ x3.cell? ⟨w.heap.size, 1, none⟩ = some (.slice A n c) ∧ x3.cell? ⟨w.heap.size, 2, none⟩ = some (.slice B m e)) := ⟨c1.cell rfl, c1.cell rfl, c1.cell rfl⟩)
          | (have _g := m1; (with_reducible change Calls _ _ _ (x1) _); go_at_call 88; refine (semone_any _).mono ?_; rintro e x2 ⟨y2, rfl, h2, hbk⟩; replace hb0 := hb0.trans (hbk.mono hb0.size); replace c1 := c1.below hbk c1.lt; replace hq := hq.below hbk; replace hT1 := hT1.below hbk; replace c2 := c2.below hbk c2.lt; replace h1 := h1.below hbk; (try replace rA := rA.below hbk rA.lt); have m2 := Lib.hid (rfl : 1 = 1); have hz2 := hb0.size; have l2c1 := c1.lt; have hrl : (x2.cell? ⟨w.heap.size, 0, none⟩ = some (.bool nb) ∧ x2.cell? ⟨w.heap.size, 1, none⟩ = some (.slice A n c) ∧ x2.cell? ⟨w.heap.size, 2, none⟩ = some (.slice B m e)) := ⟨c1.cell rfl, c1.cell rfl, c1.cell rfl⟩)
          | (have _g := m1; (with_reducible change Calls _ _ _ ((x1.alloc (.cells #[.bool false, .slice none 0 0, .slice none 0 0] 27))) _); go_at_call 88; have hal : Below (x1).heap.size (x1) ((x1.alloc (.cells #[.bool false, .slice none 0 0, .slice none 0 0] 27))) := (Below.refl _ _).alloc (Nat.le_refl _) _; have rA : Cs ((x1.alloc (.cells #[.bool false, .slice none 0 0, .slice none 0 0] 27))) x1.heap.size [.bool false, .slice none 0 0, .slice none 0 0] 27 := Cs.new x1 _ _; replace hb0 := hb0.trans (hal.mono hb0.size); replace c1 := c1.below hal c1.lt; replace hq := hq.below hal; replace hT1 := hT1.below hal; replace c2 := c2.below hal c2.lt; replace h1 := h1.below hal; refine (semone_any _).mono ?_; rintro e x2 ⟨y2, rfl, h2, hbk⟩; replace hb0 := hb0.trans (hbk.mono hb0.size); replace c1 := c1.below hbk c1.lt; replace hq := hq.below hbk; replace hT1 := hT1.below hbk; replace c2 := c2.below hbk c2.lt; replace h1 := h1.below hbk; replace rA := rA.below hbk rA.lt; have m2 := Lib.hid (rfl : 1 = 1); have hz2 := hb0.size; have l2c1 := c1.lt; have hrl : (x2.cell? ⟨w.heap.size, 0, none⟩ = some (.bool nb) ∧ x2.cell? ⟨w.heap.size, 1, none⟩ = some (.slice A n c) ∧ x2.cell? ⟨w.heap.size, 2, none⟩ = some (.slice B m e)) := ⟨c1.cell rfl, c1.cell rfl, c1.cell rfl⟩)
          | ((with_reducible change Calls _ _ _ (W0.drew) _); go_at_call 88; refine (semone_any _).mono ?_; rintro e x1 ⟨y1, rfl, h1, hbk⟩; replace hb0 := hb0.trans (hbk.mono hb0.size); replace c1 := c1.below hbk c1.lt; replace hq := hq.below hbk; replace hT1 := hT1.below hbk; replace c2 := c2.below hbk c2.lt; (try replace rA := rA.below hbk rA.lt); have m1 := Lib.hid (rfl : 1 = 1); have hz1 := hb0.size; have l1c1 := c1.lt; have hrl : (x1.cell? ⟨w.heap.size, 0, none⟩ = some (.bool nb) ∧ x1.cell? ⟨w.heap.size, 1, none⟩ = some (.slice A n c) ∧ x1.cell? ⟨w.heap.size, 2, none⟩ = some (.slice B m e)) := ⟨c1.cell rfl, c1.cell rfl, c1.cell rfl⟩)
          | ((with_reducible change Calls _ _ _ ((W0.alloc (.cells #[.bool false, .slice none 0 0, .slice none 0 0] 27)).drew) _); go_at_call 88; have hal : Below (W0.drew).heap.size (W0.drew) ((W0.alloc (.cells #[.bool false, .slice none 0 0, .slice none 0 0] 27)).drew) := (Below.refl _ _).alloc (Nat.le_refl _) _; have rA : Cs ((W0.alloc (.cells #[.bool false, .slice none 0 0, .slice none 0 0] 27)).drew) W0.heap.size [.bool false, .slice none 0 0, .slice none 0 0] 27 := Cs.new W0 _ _; replace hb0 := hb0.trans (hal.mono hb0.size); replace c1 := c1.below hal c1.lt; replace hq := hq.below hal; replace hT1 := hT1.below hal; replace c2 := c2.below hal c2.lt; refine (semone_any _).mono ?_; rintro e x1 ⟨y1, rfl, h1, hbk⟩; replace hb0 := hb0.trans (hbk.mono hb0.size); replace c1 := c1.below hbk c1.lt; replace hq := hq.below hbk; replace hT1 := hT1.below hbk; replace c2 := c2.below hbk c2.lt; replace rA := rA.below hbk rA.lt; have m1 := Lib.hid (rfl : 1 = 1); have hz1 := hb0.size; have l1c1 := c1.lt; have hrl : (x1.cell? ⟨w.heap.size, 0, none⟩ = some (.bool nb) ∧ x1.cell? ⟨w.heap.size, 1, none⟩ = some (.slice A n c) ∧ x1.cell? ⟨w.heap.size, 2, none⟩ = some (.slice B m e)) := ⟨c1.cell rfl, c1.cell rfl, c1.cell rfl⟩))
    all_goals
      (try clear e0 e1 e2 q0 q1 q2)
      go_wp2_with fail
      go_meet
      case rel => first | with_reducible exact qrel1 hb0 h4 | with_reducible exact qrel2 hb0 (by omega) rA h4 | fail
  case rest =>
    obtain ⟨g, nr, Ar, nr1, cr, Br, mr, er, rfl, rA, hg, hr, hbq⟩ := hcut
    have d2 := c2.below hbq c2.lt
    have lr := c2.lt
    have e0 := rA.cell (k := 0) rfl
    have e1 := rA.cell (k := 1) rfl
    have e2 := rA.cell (k := 2) rfl
    obtain ⟨k0, k1, k2, k3, k4, k5, k6, k7⟩ := d2.c8
    obtain ⟨f0, f1, f2, f3, f4, f5, f6, f7⟩ := d2.f8
    go_wp2_with fail
    refine ret_cs_tmp (l := [.bool nr, .slice Ar nr1 cr, .slice Br mr er, .int .i64 0, .bool false, .int .u64 0, .slice none 0 0, .slice none 0 0]) Tryz.results123 Tryz.underlying32 (by kernel_rfl) rfl rfl (cs_own8 d2 rfl _ _ _ _ _ _ _ _) rfl ?_
    refine ⟨_, rfl, ⟨nr, Ar, nr1, cr, Br, mr, er, rfl, ?_⟩, below_s8 (hb9.trans (hbq.mono hz0)) (by omega) _ _ _ _ _ _ _ _⟩
    exact hr.s8 d2 (by simp) _ _ _ _ _ _ _ _
end Go.Proofs.YtafoplnpnoedfaaGreatDoor

namespace Go.Proofs.YtafoplnpnoedfaaGreatDoor
open Go.RowKit

set_option maxRecDepth 20000 in
set_option maxHeartbeats 2000000 in
theorem likelier_any (nb nb1 : Bool) (A B A1 B1 : Option Addr) (n c m e n1 c1 m1 e1 : Nat) (x y : Rat) (V : Int) (w : World) (hT : Tab w) (hx : RatQ w (.agg #[.bool nb, .slice A n c, .slice B m e]) x) (hy : RatQ w (.agg #[.bool nb1, .slice A1 n1 c1, .slice B1 m1 e1]) y) (sx : Sz x 100000) (sy : Sz y 100000) (HV : Hid (cmpQ x y = V)) : Calls Tryz.prog 93 #[aw (.bool nb) (.slice A n c) (.slice B m e) 0 false, aw (.bool nb1) (.slice A1 n1 c1) (.slice B1 m1 e1) 0 false] w (RetV w (.bool (decide (0 < V)))) := by
  obtain ⟨hb0, k1, k2⟩ := blk2 w [.bool nb, .slice A n c, .slice B m e, .int .i64 0, .bool false, .int .u64 0, .slice none 0 0, .slice none 0 0] [.bool nb1, .slice A1 n1 c1, .slice B1 m1 e1, .int .i64 0, .bool false, .int .u64 0, .slice none 0 0, .slice none 0 0] 32 32
  replace hx := hx.below hb0
  replace hy := hy.below hb0
  replace hT := hT.below hb0
  go_enter Tryz.func93, Tryz.ntmps93
  go_wp2_with fail
  refine (Compare_any _ _ x y 100000 V _ hT (hx.inp sx (by decide)) (hy.inp sy (by decide)) (sx.mono (by decide)) (sy.mono (by decide)) HV).mono ?_
  rintro e0 w1 ⟨rfl, hb1⟩
  go_wp2_with fail
  go_ret
  exact ⟨rfl, hb0.trans (hb1.mono hb0.size)⟩

set_option maxRecDepth 20000 in
set_option maxHeartbeats 2000000 in
theorem timesNumbers_any (nb nb1 : Bool) (A B A1 B1 : Option Addr) (n c m e n1 c1 m1 e1 : Nat) (x y : Rat) (r : Rat) (w : World) (hT : Tab w) (hx : RatQ w (.agg #[.bool nb, .slice A n c, .slice B m e]) x) (hy : RatQ w (.agg #[.bool nb1, .slice A1 n1 c1, .slice B1 m1 e1]) y) (sx : Sz x 100000) (sy : Sz y 100000) (hr : x * y = r) : Calls Tryz.prog 91 #[aw (.bool nb) (.slice A n c) (.slice B m e) 0 false, aw (.bool nb1) (.slice A1 n1 c1) (.slice B1 m1 e1) 0 false] w (fun e0 w' => ∃ v, e0 = .returned v ∧ NW w' v r ∧ Below w.heap.size w w') := by
  have HR := Lib.hid hr
  clear hr
  obtain ⟨hb0, k1, k2, k3⟩ := blk3 w [.bool nb, .slice A n c, .slice B m e, .int .i64 0, .bool false, .int .u64 0, .slice none 0 0, .slice none 0 0] [.bool nb1, .slice A1 n1 c1, .slice B1 m1 e1, .int .i64 0, .bool false, .int .u64 0, .slice none 0 0, .slice none 0 0] [.bool false, .slice none 0 0, .slice none 0 0, .int .i64 0, .bool false, .int .u64 0, .slice none 0 0, .slice none 0 0] 32 32 32
  replace hx := hx.below hb0
  replace hy := hy.below hb0
  replace hT := hT.below hb0
  go_enter Tryz.func91, Tryz.ntmps91
  go_wp2_with fail
  refine (Mul_any _ _ x y r 100000 _ hT (hx.inp sx (by decide)) (hy.inp sy (by decide)) (sx.mono (by decide)) (sy.mono (by decide)) HR.out).mono ?_
  rintro e0 w1 ⟨v1, rfl, h1, hb1⟩
  obtain ⟨nr, Ar, kr, cr, Br, mr, er, rfl⟩ := h1.agg
  have d3 := k3.below hb1 k3.lt
  replace hb0 := hb0.trans (hb1.mono hb0.size)
  obtain ⟨u0, u1, u2, u3, u4, u5, u6, u7⟩ := d3.c8
  obtain ⟨f0, f1, f2, f3, f4, f5, f6, f7⟩ := d3.f8
  go_wp2_with fail
  refine ret_cs (l := [.bool nr, .slice Ar kr cr, .slice Br mr er, .int .i64 0, .bool false, .int .u64 0, .slice none 0 0, .slice none 0 0]) Tryz.results91 Tryz.underlying32 (by kernel_rfl) rfl (cs_own8 d3 rfl _ _ _ _ _ _ _ _) rfl ?_
  exact ⟨_, rfl, ⟨nr, Ar, kr, cr, Br, mr, er, rfl, h1.s8 d3 (by simp) _ _ _ _ _ _ _ _⟩, below_s8 hb0 (by omega) _ _ _ _ _ _ _ _⟩

/-- A weight that is a number from 0 to 1. -/
def Chance (x : Rat) : Prop := 0 ≤ x ∧ x ≤ 1
set_option maxRecDepth 20000 in
set_option maxHeartbeats 4000000 in
theorem checkChance_ok (A B : Option Addr) (n c m e : Nat) (x : Rat) (V : Int) (w : World) (hT : Tab w) (hx : RatQ w (.agg #[.bool false, .slice A n c, .slice B m e]) x) (sx : Sz x 100000) (HV : Hid (cmpQ x 1 = V)) (hV : V ≤ 0) : Calls Tryz.prog 89 #[aw (.bool false) (.slice A n c) (.slice B m e) 0 false] w (RetV w (.bool true)) := by
  obtain ⟨hb0, c1⟩ := blk1 w [.bool false, .slice A n c, .slice B m e, .int .i64 0, .bool false, .int .u64 0, .slice none 0 0, .slice none 0 0] 32
  replace hx := hx.below hb0
  replace hT := hT.below hb0
  have s1 : Sz 1 100000 := sz_one _ (by decide)
  go_enter Tryz.func89, Tryz.ntmps89
  go_wp2_with fail
  generalize (w.alloc (W8q (.bool false) (.slice A n c) (.slice B m e) 0 false)) = W0 at *
  replace hb0 := hb0.drew
  replace c1 := c1.drew
  replace hx : RatQ W0.drew _ x := hx.below (Below.refl _ _).drew
  replace hT := hT.drew
  have hrl : (W0.drew.cell? ⟨w.heap.size, 0, none⟩ = some (.bool false) ∧ W0.drew.cell? ⟨w.heap.size, 1, none⟩ = some (.slice A n c) ∧ W0.drew.cell? ⟨w.heap.size, 2, none⟩ = some (.slice B m e) ∧ W0.drew.cell? ⟨w.heap.size, 3, none⟩ = some (.int .i64 0) ∧ W0.drew.cell? ⟨w.heap.size, 4, none⟩ = some (.bool false) ∧ W0.drew.cell? ⟨w.heap.size, 5, none⟩ = some (.int .u64 0) ∧ W0.drew.cell? ⟨w.heap.size, 6, none⟩ = some (.slice none 0 0) ∧ W0.drew.cell? ⟨w.heap.size, 7, none⟩ = some (.slice none 0 0)) := c1.c8
  go_region_held3 (fun w' => (w'.cell? ⟨w.heap.size, 0, none⟩ = some (.bool false) ∧ w'.cell? ⟨w.heap.size, 1, none⟩ = some (.slice A n c) ∧ w'.cell? ⟨w.heap.size, 2, none⟩ = some (.slice B m e) ∧ w'.cell? ⟨w.heap.size, 3, none⟩ = some (.int .i64 0) ∧ w'.cell? ⟨w.heap.size, 4, none⟩ = some (.bool false) ∧ w'.cell? ⟨w.heap.size, 5, none⟩ = some (.int .u64 0) ∧ w'.cell? ⟨w.heap.size, 6, none⟩ = some (.slice none 0 0) ∧ w'.cell? ⟨w.heap.size, 7, none⟩ = some (.slice none 0 0)))
    (first | with_reducible exact hrl | fail)
    (first
      | (have _g := m3; go_at_call 136; refine (Compare_any _ _ x 1 100000 V _ hT (hx.inp sx (by decide)) (h1.inp s1 (by decide)) (sx.mono (by decide)) (s1.mono (by decide)) HV).mono ?_; rintro e0 x4 ⟨rfl, hbk⟩; replace hb0 := hb0.trans (hbk.mono hb0.size); replace c1 := c1.below hbk c1.lt; replace hx := hx.below hbk; replace hT := hT.below hbk; have hrl : (x4.cell? ⟨w.heap.size, 0, none⟩ = some (.bool false) ∧ x4.cell? ⟨w.heap.size, 1, none⟩ = some (.slice A n c) ∧ x4.cell? ⟨w.heap.size, 2, none⟩ = some (.slice B m e) ∧ x4.cell? ⟨w.heap.size, 3, none⟩ = some (.int .i64 0) ∧ x4.cell? ⟨w.heap.size, 4, none⟩ = some (.bool false) ∧ x4.cell? ⟨w.heap.size, 5, none⟩ = some (.int .u64 0) ∧ x4.cell? ⟨w.heap.size, 6, none⟩ = some (.slice none 0 0) ∧ x4.cell? ⟨w.heap.size, 7, none⟩ = some (.slice none 0 0)) := c1.c8)
      | (have _g := m2; go_at_call 88; refine (semone_any _).mono ?_; rintro e0 x3 ⟨v1, rfl, h1, hbk⟩; replace hb0 := hb0.trans (hbk.mono hb0.size); replace c1 := c1.below hbk c1.lt; replace hx := hx.below hbk; replace hT := hT.below hbk; have m3 := Lib.hid (rfl : 1 = 1); have hrl : (x3.cell? ⟨w.heap.size, 0, none⟩ = some (.bool false) ∧ x3.cell? ⟨w.heap.size, 1, none⟩ = some (.slice A n c) ∧ x3.cell? ⟨w.heap.size, 2, none⟩ = some (.slice B m e) ∧ x3.cell? ⟨w.heap.size, 3, none⟩ = some (.int .i64 0) ∧ x3.cell? ⟨w.heap.size, 4, none⟩ = some (.bool false) ∧ x3.cell? ⟨w.heap.size, 5, none⟩ = some (.int .u64 0) ∧ x3.cell? ⟨w.heap.size, 6, none⟩ = some (.slice none 0 0) ∧ x3.cell? ⟨w.heap.size, 7, none⟩ = some (.slice none 0 0)) := c1.c8)
      | (have _g := m1; go_at_call 119; refine (Valid_q _ x _ hT hx sx).mono ?_; rintro e0 x2 ⟨rfl, hbk⟩; replace hb0 := hb0.trans (hbk.mono hb0.size); replace c1 := c1.below hbk c1.lt; replace hx := hx.below hbk; replace hT := hT.below hbk; have m2 := Lib.hid (rfl : 1 = 1); have hrl : (x2.cell? ⟨w.heap.size, 0, none⟩ = some (.bool false) ∧ x2.cell? ⟨w.heap.size, 1, none⟩ = some (.slice A n c) ∧ x2.cell? ⟨w.heap.size, 2, none⟩ = some (.slice B m e) ∧ x2.cell? ⟨w.heap.size, 3, none⟩ = some (.int .i64 0) ∧ x2.cell? ⟨w.heap.size, 4, none⟩ = some (.bool false) ∧ x2.cell? ⟨w.heap.size, 5, none⟩ = some (.int .u64 0) ∧ x2.cell? ⟨w.heap.size, 6, none⟩ = some (.slice none 0 0) ∧ x2.cell? ⟨w.heap.size, 7, none⟩ = some (.slice none 0 0)) := c1.c8)
      | (go_at_call 118; refine (onlyNumber_ok _ _ _ _ ⟨_, rfl⟩ ⟨_, _, _, rfl⟩ ⟨_, _, _, rfl⟩).mono ?_; rintro e0 x1 ⟨rfl, hbk⟩; replace hb0 := hb0.trans (hbk.mono hb0.size); replace c1 := c1.below hbk c1.lt; replace hx := hx.below hbk; replace hT := hT.below hbk; have m1 := Lib.hid (rfl : 1 = 1); have hrl : (x1.cell? ⟨w.heap.size, 0, none⟩ = some (.bool false) ∧ x1.cell? ⟨w.heap.size, 1, none⟩ = some (.slice A n c) ∧ x1.cell? ⟨w.heap.size, 2, none⟩ = some (.slice B m e) ∧ x1.cell? ⟨w.heap.size, 3, none⟩ = some (.int .i64 0) ∧ x1.cell? ⟨w.heap.size, 4, none⟩ = some (.bool false) ∧ x1.cell? ⟨w.heap.size, 5, none⟩ = some (.int .u64 0) ∧ x1.cell? ⟨w.heap.size, 6, none⟩ = some (.slice none 0 0) ∧ x1.cell? ⟨w.heap.size, 7, none⟩ = some (.slice none 0 0)) := c1.c8))
  go_wp2_with fail
  go_ret
  exact ⟨rfl, hb0⟩
set_option maxRecDepth 20000 in
set_option maxHeartbeats 4000000 in
theorem greatestChance_l (A B A1 B1 : Option Addr) (n c m e n1 c1 m1 e1 : Nat) (x y : Rat) (V : Int) (w : World) (hT : Tab w) (hx : RatQ w (.agg #[.bool false, .slice A n c, .slice B m e]) x) (hy : RatQ w (.agg #[.bool false, .slice A1 n1 c1, .slice B1 m1 e1]) y) (sx : Sz x 100000) (sy : Sz y 100000) (HV : Hid (cmpQ y x = V)) (hV : Hid (decide (0 < V) = false)) : Calls Tryz.prog 90 #[aw (.bool false) (.slice A n c) (.slice B m e) 0 false, aw (.bool false) (.slice A1 n1 c1) (.slice B1 m1 e1) 0 false] w (fun e0 w' => ∃ A2 n2 c2 B2 m2 e2, e0 = .returned (aw (.bool false) (.slice A2 n2 c2) (.slice B2 m2 e2) 0 false) ∧ RatQ w' (.agg #[.bool false, .slice A2 n2 c2, .slice B2 m2 e2]) x ∧ Below w.heap.size w w') := by
  obtain ⟨hb0, k1, k2, k3⟩ := blk3 w [.bool false, .slice A n c, .slice B m e, .int .i64 0, .bool false, .int .u64 0, .slice none 0 0, .slice none 0 0] [.bool false, .slice A1 n1 c1, .slice B1 m1 e1, .int .i64 0, .bool false, .int .u64 0, .slice none 0 0, .slice none 0 0] [.bool false, .slice none 0 0, .slice none 0 0, .int .i64 0, .bool false, .int .u64 0, .slice none 0 0, .slice none 0 0] 32 32 32
  replace hx := hx.below hb0
  replace hy := hy.below hb0
  replace hT := hT.below hb0
  go_enter Tryz.func90, Tryz.ntmps90
  go_wp2_with fail
  generalize (((w.alloc (W8q (.bool false) (.slice A n c) (.slice B m e) 0 false)).alloc (W8q (.bool false) (.slice A1 n1 c1) (.slice B1 m1 e1) 0 false)).alloc (W8t 0 false)) = W0 at *
  refine (likelier_any false false A1 B1 A B n1 c1 m1 e1 n c m e y x V _ hT hy hx sy sx HV).mono ?_
  rw [hV.out]
  rintro e0 w1 ⟨rfl, hb1⟩
  replace hb0 := hb0.trans (hb1.mono hb0.size)
  replace k1 := k1.below hb1 k1.lt
  replace k2 := k2.below hb1 k2.lt
  replace k3 := k3.below hb1 k3.lt
  replace hx := hx.below hb1
  replace hy := hy.below hb1
  clear hb1
  obtain ⟨a0, a1, a2, a3, a4, a5, a6, a7⟩ := k1.c8
  obtain ⟨b0, b1, b2, b3, b4, b5, b6, b7⟩ := k2.c8
  obtain ⟨f0, f1, f2, f3, f4, f5, f6, f7⟩ := k1.f8
  go_wp2_with fail
  clear a0 a1 a2 a3 a4 a5 a6 a7 b0 b1 b2 b3 b4 b5 b6 b7 f0 f1 f2 f3 f4 f5 f6 f7
  clear k2 hy
  replace hb0 := hb0.drew
  replace k1 := k1.drew
  replace k3 := k3.drew
  replace hx : RatQ w1.drew _ x := hx.below (Below.refl _ _).drew
  obtain ⟨hneg, hN, hD⟩ := hx.parts
  have HN := Lib.hid hneg
  clear hneg
  have ll := hN.len
  have ld := hD.len
  have lN : n ≤ 536870912 := by have := (sx).1; omega
  have lD : m ≤ 536870912 := by
    have h1 := (sx).2
    have h2 : (dl x.den).length ≤ (limbs x.den).length := by
      unfold dl; split
      · simp
      · exact Nat.le_refl _
    omega
  clear ll ld hx
  have hrl : (w1.drew.cell? ⟨w.heap.size, 1, none⟩ = some (.slice A n c) ∧ w1.drew.cell? ⟨w.heap.size, 2, none⟩ = some (.slice B m e)) := ⟨k1.cell rfl, k1.cell rfl⟩
  have l0 := k1.lt
  go_region_held3 (fun w' => (w'.cell? ⟨w.heap.size, 1, none⟩ = some (.slice A n c) ∧ w'.cell? ⟨w.heap.size, 2, none⟩ = some (.slice B m e)))
    (first | with_reducible exact hrl | with_reducible exact hrl2 | fail)
    (first
      | (have _g := mk1; go_at_call 137; refine (clone_l _ _ _ _ _ hD lD).mono ?_; rintro e0 x2 ⟨A4, n4, c4, rfl, o4, hbk⟩; replace hb0 := hb0.trans (hbk.mono hb0.size); replace k1 := k1.below hbk k1.lt; replace k3 := k3.below hbk k3.lt; replace h3 := h3.below hbk; have hrl : (x2.cell? ⟨w.heap.size, 1, none⟩ = some (.slice A n c) ∧ x2.cell? ⟨w.heap.size, 2, none⟩ = some (.slice B m e)) := ⟨k1.cell rfl, k1.cell rfl⟩; obtain ⟨u0, u1, u2, u3, u4, u5, u6, u7⟩ := k3.c8; obtain ⟨v0, v1, v2, v3, v4, v5, v6, v7⟩ := k3.f8; have hrl2 : (((((((((x2.setCell ⟨w.heap.size + 1 + 1, 0, none⟩ (.bool false)).setCell ⟨w.heap.size + 1 + 1, 1, none⟩ (.slice A3 n3 c3)).setCell ⟨w.heap.size + 1 + 1, 2, none⟩ (.slice A4 n4 c4)).setCell ⟨w.heap.size + 1 + 1, 3, none⟩ (.int .i64 0)).setCell ⟨w.heap.size + 1 + 1, 4, none⟩ (.bool false)).setCell ⟨w.heap.size + 1 + 1, 5, none⟩ (.int .u64 0)).setCell ⟨w.heap.size + 1 + 1, 6, none⟩ (.slice none 0 0)).setCell ⟨w.heap.size + 1 + 1, 7, none⟩ (.slice none 0 0)).cell? ⟨w.heap.size, 1, none⟩ = some (.slice A n c) ∧ ((((((((x2.setCell ⟨w.heap.size + 1 + 1, 0, none⟩ (.bool false)).setCell ⟨w.heap.size + 1 + 1, 1, none⟩ (.slice A3 n3 c3)).setCell ⟨w.heap.size + 1 + 1, 2, none⟩ (.slice A4 n4 c4)).setCell ⟨w.heap.size + 1 + 1, 3, none⟩ (.int .i64 0)).setCell ⟨w.heap.size + 1 + 1, 4, none⟩ (.bool false)).setCell ⟨w.heap.size + 1 + 1, 5, none⟩ (.int .u64 0)).setCell ⟨w.heap.size + 1 + 1, 6, none⟩ (.slice none 0 0)).setCell ⟨w.heap.size + 1 + 1, 7, none⟩ (.slice none 0 0)).cell? ⟨w.heap.size, 2, none⟩ = some (.slice B m e)) := ⟨(cs_far8 k1 (by omega) (.bool false) (.slice A3 n3 c3) (.slice A4 n4 c4) (.int .i64 0) (.bool false) (.int .u64 0) (.slice none 0 0) (.slice none 0 0)).cell rfl, (cs_far8 k1 (by omega) (.bool false) (.slice A3 n3 c3) (.slice A4 n4 c4) (.int .i64 0) (.bool false) (.int .u64 0) (.slice none 0 0) (.slice none 0 0)).cell rfl⟩)
      | (go_at_call 137; refine (clone_l _ _ _ _ _ hN lN).mono ?_; rintro e0 x1 ⟨A3, n3, c3, rfl, o3, hbk⟩; have h3 := o3.num; replace hb0 := hb0.trans (hbk.mono hb0.size); replace k1 := k1.below hbk k1.lt; replace k3 := k3.below hbk k3.lt; replace hD := hD.below hbk; have mk1 := Lib.hid (rfl : 1 = 1); have hrl : (x1.cell? ⟨w.heap.size, 1, none⟩ = some (.slice A n c) ∧ x1.cell? ⟨w.heap.size, 2, none⟩ = some (.slice B m e)) := ⟨k1.cell rfl, k1.cell rfl⟩)
      | fail)
  have h4 := o4.num
  go_wp2_with fail
  refine ret_cs (l := [.bool false, .slice A3 n3 c3, .slice A4 n4 c4, .int .i64 0, .bool false, .int .u64 0, .slice none 0 0, .slice none 0 0]) Tryz.results90 Tryz.underlying32 (by kernel_rfl) rfl (cs_own8 k3 rfl _ _ _ _ _ _ _ _) rfl ?_
  exact ⟨A3, n3, c3, A4, n4, c4, rfl, RatQ.s8 ⟨_, _, _, _, _, _, by rw [← HN.out], h3, h4⟩ k3 (by simp) _ _ _ _ _ _ _ _, below_s8 hb0 (by omega) _ _ _ _ _ _ _ _⟩

set_option maxRecDepth 20000 in
set_option maxHeartbeats 4000000 in
theorem greatestChance_r (A B A1 B1 : Option Addr) (n c m e n1 c1 m1 e1 : Nat) (x y : Rat) (V : Int) (w : World) (hT : Tab w) (hx : RatQ w (.agg #[.bool false, .slice A n c, .slice B m e]) x) (hy : RatQ w (.agg #[.bool false, .slice A1 n1 c1, .slice B1 m1 e1]) y) (sx : Sz x 100000) (sy : Sz y 100000) (HV : Hid (cmpQ y x = V)) (hV : Hid (decide (0 < V) = true)) : Calls Tryz.prog 90 #[aw (.bool false) (.slice A n c) (.slice B m e) 0 false, aw (.bool false) (.slice A1 n1 c1) (.slice B1 m1 e1) 0 false] w (fun e0 w' => ∃ A2 n2 c2 B2 m2 e2, e0 = .returned (aw (.bool false) (.slice A2 n2 c2) (.slice B2 m2 e2) 0 false) ∧ RatQ w' (.agg #[.bool false, .slice A2 n2 c2, .slice B2 m2 e2]) y ∧ Below w.heap.size w w') := by
  obtain ⟨hb0, k1, k2, k3⟩ := blk3 w [.bool false, .slice A n c, .slice B m e, .int .i64 0, .bool false, .int .u64 0, .slice none 0 0, .slice none 0 0] [.bool false, .slice A1 n1 c1, .slice B1 m1 e1, .int .i64 0, .bool false, .int .u64 0, .slice none 0 0, .slice none 0 0] [.bool false, .slice none 0 0, .slice none 0 0, .int .i64 0, .bool false, .int .u64 0, .slice none 0 0, .slice none 0 0] 32 32 32
  replace hx := hx.below hb0
  replace hy := hy.below hb0
  replace hT := hT.below hb0
  go_enter Tryz.func90, Tryz.ntmps90
  go_wp2_with fail
  generalize (((w.alloc (W8q (.bool false) (.slice A n c) (.slice B m e) 0 false)).alloc (W8q (.bool false) (.slice A1 n1 c1) (.slice B1 m1 e1) 0 false)).alloc (W8t 0 false)) = W0 at *
  refine (likelier_any false false A1 B1 A B n1 c1 m1 e1 n c m e y x V _ hT hy hx sy sx HV).mono ?_
  rw [hV.out]
  rintro e0 w1 ⟨rfl, hb1⟩
  replace hb0 := hb0.trans (hb1.mono hb0.size)
  replace k1 := k1.below hb1 k1.lt
  replace k2 := k2.below hb1 k2.lt
  replace k3 := k3.below hb1 k3.lt
  replace hx := hx.below hb1
  replace hy := hy.below hb1
  clear hb1
  obtain ⟨a0, a1, a2, a3, a4, a5, a6, a7⟩ := k1.c8
  obtain ⟨b0, b1, b2, b3, b4, b5, b6, b7⟩ := k2.c8
  obtain ⟨f0, f1, f2, f3, f4, f5, f6, f7⟩ := k1.f8
  go_wp2_with fail
  clear a0 a1 a2 a3 a4 a5 a6 a7 b0 b1 b2 b3 b4 b5 b6 b7 f0 f1 f2 f3 f4 f5 f6 f7
  replace hb0 := (show Below w.heap.size w ((((((((w1.setCell ⟨w.heap.size, 0, none⟩ (.bool false)).setCell ⟨w.heap.size, 1, none⟩ (.slice A1 n1 c1)).setCell ⟨w.heap.size, 2, none⟩ (.slice B1 m1 e1)).setCell ⟨w.heap.size, 3, none⟩ (.int .i64 0)).setCell ⟨w.heap.size, 4, none⟩ (.bool false)).setCell ⟨w.heap.size, 5, none⟩ (.int .u64 0)).setCell ⟨w.heap.size, 6, none⟩ (.slice none 0 0)).setCell ⟨w.heap.size, 7, none⟩ (.slice none 0 0)) from below_s8 hb0 (Nat.le_refl _) _ _ _ _ _ _ _ _)
  replace hy := (show RatQ ((((((((w1.setCell ⟨w.heap.size, 0, none⟩ (.bool false)).setCell ⟨w.heap.size, 1, none⟩ (.slice A1 n1 c1)).setCell ⟨w.heap.size, 2, none⟩ (.slice B1 m1 e1)).setCell ⟨w.heap.size, 3, none⟩ (.int .i64 0)).setCell ⟨w.heap.size, 4, none⟩ (.bool false)).setCell ⟨w.heap.size, 5, none⟩ (.int .u64 0)).setCell ⟨w.heap.size, 6, none⟩ (.slice none 0 0)).setCell ⟨w.heap.size, 7, none⟩ (.slice none 0 0)) _ y from hy.s8 k1 (by simp) _ _ _ _ _ _ _ _)
  replace k3 := (show Cs ((((((((w1.setCell ⟨w.heap.size, 0, none⟩ (.bool false)).setCell ⟨w.heap.size, 1, none⟩ (.slice A1 n1 c1)).setCell ⟨w.heap.size, 2, none⟩ (.slice B1 m1 e1)).setCell ⟨w.heap.size, 3, none⟩ (.int .i64 0)).setCell ⟨w.heap.size, 4, none⟩ (.bool false)).setCell ⟨w.heap.size, 5, none⟩ (.int .u64 0)).setCell ⟨w.heap.size, 6, none⟩ (.slice none 0 0)).setCell ⟨w.heap.size, 7, none⟩ (.slice none 0 0)) (w.heap.size + 1 + 1) _ _ from cs_far8 k3 (by omega) _ _ _ _ _ _ _ _)
  replace k1 := (show Cs ((((((((w1.setCell ⟨w.heap.size, 0, none⟩ (.bool false)).setCell ⟨w.heap.size, 1, none⟩ (.slice A1 n1 c1)).setCell ⟨w.heap.size, 2, none⟩ (.slice B1 m1 e1)).setCell ⟨w.heap.size, 3, none⟩ (.int .i64 0)).setCell ⟨w.heap.size, 4, none⟩ (.bool false)).setCell ⟨w.heap.size, 5, none⟩ (.int .u64 0)).setCell ⟨w.heap.size, 6, none⟩ (.slice none 0 0)).setCell ⟨w.heap.size, 7, none⟩ (.slice none 0 0)) w.heap.size [.bool false, .slice A1 n1 c1, .slice B1 m1 e1, .int .i64 0, .bool false, .int .u64 0, .slice none 0 0, .slice none 0 0] 32 from cs_own8 k1 rfl _ _ _ _ _ _ _ _)
  clear k2 hx
  generalize ((((((((w1.setCell ⟨w.heap.size, 0, none⟩ (.bool false)).setCell ⟨w.heap.size, 1, none⟩ (.slice A1 n1 c1)).setCell ⟨w.heap.size, 2, none⟩ (.slice B1 m1 e1)).setCell ⟨w.heap.size, 3, none⟩ (.int .i64 0)).setCell ⟨w.heap.size, 4, none⟩ (.bool false)).setCell ⟨w.heap.size, 5, none⟩ (.int .u64 0)).setCell ⟨w.heap.size, 6, none⟩ (.slice none 0 0)).setCell ⟨w.heap.size, 7, none⟩ (.slice none 0 0)) = U0 at *
  replace hb0 := hb0.drew
  replace k1 := k1.drew
  replace k3 := k3.drew
  replace hy : RatQ U0.drew _ y := hy.below (Below.refl _ _).drew
  obtain ⟨hneg, hN, hD⟩ := hy.parts
  have HN := Lib.hid hneg
  clear hneg
  have ll := hN.len
  have ld := hD.len
  have lN : n1 ≤ 536870912 := by have := (sy).1; omega
  have lD : m1 ≤ 536870912 := by
    have h1 := (sy).2
    have h2 : (dl y.den).length ≤ (limbs y.den).length := by
      unfold dl; split
      · simp
      · exact Nat.le_refl _
    omega
  clear ll ld hy
  have hrl : (U0.drew.cell? ⟨w.heap.size, 1, none⟩ = some (.slice A1 n1 c1) ∧ U0.drew.cell? ⟨w.heap.size, 2, none⟩ = some (.slice B1 m1 e1)) := ⟨k1.cell rfl, k1.cell rfl⟩
  have l0 := k1.lt
  go_region_held3 (fun w' => (w'.cell? ⟨w.heap.size, 1, none⟩ = some (.slice A1 n1 c1) ∧ w'.cell? ⟨w.heap.size, 2, none⟩ = some (.slice B1 m1 e1)))
    (first | with_reducible exact hrl | with_reducible exact hrl2 | fail)
    (first
      | (have _g := mk1; go_at_call 137; refine (clone_l _ _ _ _ _ hD lD).mono ?_; rintro e0 x2 ⟨A4, n4, c4, rfl, o4, hbk⟩; replace hb0 := hb0.trans (hbk.mono hb0.size); replace k1 := k1.below hbk k1.lt; replace k3 := k3.below hbk k3.lt; replace h3 := h3.below hbk; have hrl : (x2.cell? ⟨w.heap.size, 1, none⟩ = some (.slice A1 n1 c1) ∧ x2.cell? ⟨w.heap.size, 2, none⟩ = some (.slice B1 m1 e1)) := ⟨k1.cell rfl, k1.cell rfl⟩; obtain ⟨u0, u1, u2, u3, u4, u5, u6, u7⟩ := k3.c8; obtain ⟨v0, v1, v2, v3, v4, v5, v6, v7⟩ := k3.f8; have hrl2 : (((((((((x2.setCell ⟨w.heap.size + 1 + 1, 0, none⟩ (.bool false)).setCell ⟨w.heap.size + 1 + 1, 1, none⟩ (.slice A3 n3 c3)).setCell ⟨w.heap.size + 1 + 1, 2, none⟩ (.slice A4 n4 c4)).setCell ⟨w.heap.size + 1 + 1, 3, none⟩ (.int .i64 0)).setCell ⟨w.heap.size + 1 + 1, 4, none⟩ (.bool false)).setCell ⟨w.heap.size + 1 + 1, 5, none⟩ (.int .u64 0)).setCell ⟨w.heap.size + 1 + 1, 6, none⟩ (.slice none 0 0)).setCell ⟨w.heap.size + 1 + 1, 7, none⟩ (.slice none 0 0)).cell? ⟨w.heap.size, 1, none⟩ = some (.slice A1 n1 c1) ∧ ((((((((x2.setCell ⟨w.heap.size + 1 + 1, 0, none⟩ (.bool false)).setCell ⟨w.heap.size + 1 + 1, 1, none⟩ (.slice A3 n3 c3)).setCell ⟨w.heap.size + 1 + 1, 2, none⟩ (.slice A4 n4 c4)).setCell ⟨w.heap.size + 1 + 1, 3, none⟩ (.int .i64 0)).setCell ⟨w.heap.size + 1 + 1, 4, none⟩ (.bool false)).setCell ⟨w.heap.size + 1 + 1, 5, none⟩ (.int .u64 0)).setCell ⟨w.heap.size + 1 + 1, 6, none⟩ (.slice none 0 0)).setCell ⟨w.heap.size + 1 + 1, 7, none⟩ (.slice none 0 0)).cell? ⟨w.heap.size, 2, none⟩ = some (.slice B1 m1 e1)) := ⟨(cs_far8 k1 (by omega) (.bool false) (.slice A3 n3 c3) (.slice A4 n4 c4) (.int .i64 0) (.bool false) (.int .u64 0) (.slice none 0 0) (.slice none 0 0)).cell rfl, (cs_far8 k1 (by omega) (.bool false) (.slice A3 n3 c3) (.slice A4 n4 c4) (.int .i64 0) (.bool false) (.int .u64 0) (.slice none 0 0) (.slice none 0 0)).cell rfl⟩)
      | (go_at_call 137; refine (clone_l _ _ _ _ _ hN lN).mono ?_; rintro e0 x1 ⟨A3, n3, c3, rfl, o3, hbk⟩; have h3 := o3.num; replace hb0 := hb0.trans (hbk.mono hb0.size); replace k1 := k1.below hbk k1.lt; replace k3 := k3.below hbk k3.lt; replace hD := hD.below hbk; have mk1 := Lib.hid (rfl : 1 = 1); have hrl : (x1.cell? ⟨w.heap.size, 1, none⟩ = some (.slice A1 n1 c1) ∧ x1.cell? ⟨w.heap.size, 2, none⟩ = some (.slice B1 m1 e1)) := ⟨k1.cell rfl, k1.cell rfl⟩)
      | fail)
  have h4 := o4.num
  go_wp2_with fail
  refine ret_cs (l := [.bool false, .slice A3 n3 c3, .slice A4 n4 c4, .int .i64 0, .bool false, .int .u64 0, .slice none 0 0, .slice none 0 0]) Tryz.results90 Tryz.underlying32 (by kernel_rfl) rfl (cs_own8 k3 rfl _ _ _ _ _ _ _ _) rfl ?_
  exact ⟨A3, n3, c3, A4, n4, c4, rfl, RatQ.s8 ⟨_, _, _, _, _, _, by rw [← HN.out], h3, h4⟩ k3 (by simp) _ _ _ _ _ _ _ _, below_s8 hb0 (by omega) _ _ _ _ _ _ _ _⟩

end Go.Proofs.YtafoplnpnoedfaaGreatDoor

namespace Go.Proofs.YtafoplnpnoedfaaGreatDoor
open Go.RowKit

/-- The operations of Viterbi. -/
abbrev vopsL (b1 b2 bu : Nat) : List Value := [fv 89, cln b1 b2, fv 80, fv 87, fv 90, fv 91, .func (.func 92) #[] #[.pointer (some ⟨bu, 0, none⟩)], fv 93, fv 94, fv 96]
abbrev vops (b1 b2 bu : Nat) : Value := .agg #[fv 89, cln b1 b2, fv 80, fv 87, fv 90, fv 91, .func (.func 92) #[] #[.pointer (some ⟨bu, 0, none⟩)], fv 93, fv 94, fv 96]
def VCl (w : World) (b1 b2 : Nat) : Prop := Cl w b1 b2 (fv 89) (fv 80)
theorem Cl.drew {w : World} {b1 b2 : Nat} {f g : Value} (h : Cl w b1 b2 f g) : Cl w.drew b1 b2 f g := ⟨h.1.drew, h.2.drew⟩
set_option maxRecDepth 20000 in
set_option maxHeartbeats 2000000 in
theorem chances_any (w : World) : Calls Tryz.prog 46 #[] w (fun e0 w' => ∃ b1 b2 bu, e0 = .returned (vops b1 b2 bu) ∧ VCl w' b1 b2 ∧ Below w.heap.size w w') := by
  obtain ⟨hb0, c1, cu⟩ := blk2 w [.nilFunc, .nilFunc, .nilFunc, .nilFunc, .nilFunc, .nilFunc, .nilFunc, .nilFunc, .nilFunc, .nilFunc] [fv 87] 55 49
  go_enter Tryz.func46, Tryz.ntmps46
  have hmf : ∀ (fn : Fn) (first cap : Array Value) (w : World), (Instr.makeFunc fn first cap).run Tryz.prog w = .ok (.func fn first cap) w := fun _ _ _ _ => rfl
  go_wp2_with fail
  generalize ((w.alloc (.cells #[.nilFunc, .nilFunc, .nilFunc, .nilFunc, .nilFunc, .nilFunc, .nilFunc, .nilFunc, .nilFunc, .nilFunc] 55)).alloc (.cells #[.func (.func 87) #[] #[]] 49)) = W0 at *
  replace hb0 := hb0.drew
  replace c1 := c1.drew
  replace cu := cu.drew
  have hrl : (W0.drew.cell? ⟨w.heap.size + 1, 0, none⟩ = some (fv 87)) := cu.cell rfl
  have l1 := c1.lt
  go_region_held3 (fun w' => (w'.cell? ⟨w.heap.size + 1, 0, none⟩ = some (fv 87)))
    (first | with_reducible exact hrl | with_reducible exact hrl2 | fail)
    (first | (go_at_call 55; refine (cleaner_any _ _ _ _ _).mono ?_; rintro e0 x1 ⟨b1, b2, rfl, hC, hbk⟩; replace hb0 := hb0.trans (hbk.mono hb0.size); replace c1 := c1.below hbk c1.lt; replace cu := cu.below hbk cu.lt; have hrl : (x1.cell? ⟨w.heap.size + 1, 0, none⟩ = some (fv 87)) := cu.cell rfl; have hrl2 : (((((((((((x1.setCell ⟨w.heap.size, 0, none⟩ (fv 89)).setCell ⟨w.heap.size, 1, none⟩ (cln b1 b2)).setCell ⟨w.heap.size, 2, none⟩ (fv 80)).setCell ⟨w.heap.size, 3, none⟩ (fv 87)).setCell ⟨w.heap.size, 4, none⟩ (fv 90)).setCell ⟨w.heap.size, 5, none⟩ (fv 91)).setCell ⟨w.heap.size, 6, none⟩ (.func (.func 92) #[] #[.pointer (some ⟨w.heap.size + 1, 0, none⟩)])).setCell ⟨w.heap.size, 7, none⟩ (fv 93)).setCell ⟨w.heap.size, 8, none⟩ (fv 94)).setCell ⟨w.heap.size, 9, none⟩ (fv 96)).cell? ⟨w.heap.size + 1, 0, none⟩ = some (fv 87)) := (cs_far10 cu (by omega) (fv 89) (cln b1 b2) (fv 80) (fv 87) (fv 90) (fv 91) (.func (.func 92) #[] #[.pointer (some ⟨w.heap.size + 1, 0, none⟩)]) (fv 93) (fv 94) (fv 96)).cell rfl; obtain ⟨a0, a1, a2, a3, a4, a5, a6, a7, a8, a9⟩ := c1.c10; obtain ⟨f0, f1, f2, f3, f4, f5, f6, f7⟩ := c1.f8; have f8 := c1.frozen 8; have f9 := c1.frozen 9) | fail)
  all_goals go_wp2_with fail
  all_goals
    refine ret_cs (l := vopsL b1 b2 (w.heap.size + 1)) Tryz.results46 Tryz.underlying55 (by kernel_rfl) rfl (cs_own10 c1 rfl _ _ _ _ _ _ _ _ _ _) rfl ?_
    exact ⟨b1, b2, w.heap.size + 1, rfl, hC.s10 c1 (by decide) _ _ _ _ _ _ _ _ _ _, below_s10 hb0 (Nat.le_refl _) _ _ _ _ _ _ _ _ _ _⟩

set_option maxRecDepth 20000 in
set_option maxHeartbeats 2000000 in
theorem ofKind_chance (w : World) : Calls Tryz.prog 31 #[.int .i64 3] w (fun e0 w' => ∃ b1 b2 bu, e0 = .returned (vops b1 b2 bu) ∧ VCl w' b1 b2 ∧ Below w.heap.size w w') := by
  obtain ⟨hb0, c1⟩ := blk1 w [.nilFunc, .nilFunc, .nilFunc, .nilFunc, .nilFunc, .nilFunc, .nilFunc, .nilFunc, .nilFunc, .nilFunc] 55
  go_enter Tryz.func31, Tryz.ntmps31
  go_wp2_with fail
  refine (chances_any _).mono ?_
  rintro e w1 ⟨b1, b2, bu, rfl, hC, hb1⟩
  replace hb0 := hb0.trans (hb1.mono hb0.size)
  replace c1 := c1.below hb1 c1.lt
  clear hb1
  obtain ⟨a0, a1, a2, a3, a4, a5, a6, a7, a8, a9⟩ := c1.c10
  obtain ⟨f0, f1, f2, f3, f4, f5, f6, f7⟩ := c1.f8
  have f8 := c1.frozen 8
  have f9 := c1.frozen 9
  go_wp2_with fail
  refine ret_cs (l := vopsL b1 b2 bu) Tryz.results31 Tryz.underlying55 (by kernel_rfl) rfl (cs_own10 c1 rfl _ _ _ _ _ _ _ _ _ _) rfl ?_
  exact ⟨b1, b2, bu, rfl, hC.s10 c1 (by decide) _ _ _ _ _ _ _ _ _ _, below_s10 hb0 (Nat.le_refl _) _ _ _ _ _ _ _ _ _ _⟩

set_option maxRecDepth 20000 in
set_option maxHeartbeats 2000000 in
theorem find_chance (w : World) : Calls Tryz.prog 18 #[.agg #[.int .i64 3, .slice none 0 0]] w (fun e0 w' => ∃ b1 b2 bu, e0 = .returned (.tuple #[vops b1 b2 bu, .bool true]) ∧ VCl w' b1 b2 ∧ Below w.heap.size w w') := by
  obtain ⟨hb0, c1, c2⟩ := blk2 w [.int .i64 3, .slice none 0 0] [.nilFunc, .nilFunc, .nilFunc, .nilFunc, .nilFunc, .nilFunc, .nilFunc, .nilFunc, .nilFunc, .nilFunc] 24 55
  go_enter Tryz.func18, Tryz.ntmps18
  go_wp2_with fail
  refine (Valid_kind 3 _ (by decide)).mono ?_
  rintro e w1 ⟨rfl, hb1⟩
  replace hb0 := hb0.trans (hb1.mono hb0.size)
  replace c1 := c1.below hb1 c1.lt
  replace c2 := c2.below hb1 c2.lt
  clear hb1
  have r0 := c1.cell (k := 0) rfl
  have r1 := c1.cell (k := 1) rfl
  go_wp2_with fail
  refine (ofKind_chance _).mono ?_
  rintro e w2 ⟨b1, b2, bu, rfl, hC, hb1⟩
  replace hb0 := hb0.trans (hb1.mono hb0.size)
  replace c1 := c1.below hb1 c1.lt
  replace c2 := c2.below hb1 c2.lt
  clear hb1
  obtain ⟨a0, a1, a2, a3, a4, a5, a6, a7, a8, a9⟩ := c2.c10
  obtain ⟨f0, f1, f2, f3, f4, f5, f6, f7⟩ := c2.f8
  have f8 := c2.frozen 8
  have f9 := c2.frozen 9
  go_wp2_with fail
  refine ret_cs_tmp (l := vopsL b1 b2 bu) Tryz.results18 Tryz.underlying55 (by kernel_rfl) rfl rfl (cs_own10 c2 rfl _ _ _ _ _ _ _ _ _ _) rfl ?_
  exact ⟨b1, b2, bu, rfl, hC.s10 c2 (by decide) _ _ _ _ _ _ _ _ _ _, below_s10 hb0 (by omega) _ _ _ _ _ _ _ _ _ _⟩
end Go.Proofs.YtafoplnpnoedfaaGreatDoor

namespace Go.Proofs.YtafoplnpnoedfaaGreatDoor
open Go.RowKit

set_option maxRecDepth 20000 in
set_option maxHeartbeats 2000000 in
theorem cln_chance (A B : Option Addr) (n c m e : Nat) (x : Rat) (X : Int) (b1 b2 : Nat) (w : World) (hT : Tab w) (hx : RatQ w (.agg #[.bool false, .slice A n c, .slice B m e]) x) (sx : Sz x 100000) (HX : Hid (cmpQ x 1 = X)) (hX : X ≤ 0) (hC : VCl w b1 b2) : Calls Tryz.prog 128 #[aw (.bool false) (.slice A n c) (.slice B m e) 0 false, .pointer (some ⟨b1, 0, none⟩), .pointer (some ⟨b2, 0, none⟩)] w (RetV w (aw (.bool false) (.slice A n c) (.slice B m e) 0 false)) := by
  obtain ⟨hb0, cv, cr⟩ := blk2 w [.bool false, .slice A n c, .slice B m e, .int .i64 0, .bool false, .int .u64 0, .slice none 0 0, .slice none 0 0] [.bool false, .slice none 0 0, .slice none 0 0, .int .i64 0, .bool false, .int .u64 0, .slice none 0 0, .slice none 0 0] 32 32
  replace hx := hx.below hb0
  replace hT := hT.below hb0
  have k1 := ((hC.1.alloc (.cells #[.bool false, .slice A n c, .slice B m e, .int .i64 0, .bool false, .int .u64 0, .slice none 0 0, .slice none 0 0] 32)).alloc (W8t 0 false)).cell (k := 0) rfl
  go_enter Tryz.func128, Tryz.ntmps128
  go_wp2_with (fail)
  go_at_call 89
  generalize ((w.alloc (.cells #[.bool false, .slice A n c, .slice B m e, .int .i64 0, .bool false, .int .u64 0, .slice none 0 0, .slice none 0 0] 32)).alloc (W8t 0 false)) = W0 at *
  refine (checkChance_ok A B n c m e x X _ hT hx sx HX hX).mono ?_
  rintro e0 w1 ⟨rfl, hb1⟩
  replace hb0 := hb0.trans (hb1.mono hb0.size)
  replace cv := cv.below hb1 cv.lt
  replace cr := cr.below hb1 cr.lt
  clear hb1
  obtain ⟨a0, a1, a2, a3, a4, a5, a6, a7⟩ := cv.c8
  obtain ⟨g0, g1, g2, g3, g4, g5, g6, g7⟩ := cr.f8
  obtain ⟨e0, e1, e2, e3, e4, e5, e6, e7⟩ := cr.c8
  go_wp2_with fail
  refine ret_cs (l := [.bool false, .slice A n c, .slice B m e, .int .i64 0, .bool false, .int .u64 0, .slice none 0 0, .slice none 0 0]) Tryz.results128 Tryz.underlying32 (by kernel_rfl) rfl (cs_own8 cr rfl _ _ _ _ _ _ _ _) rfl ?_
  exact ⟨rfl, below_s8 hb0 (by omega) _ _ _ _ _ _ _ _⟩

set_option maxRecDepth 20000 in
set_option maxHeartbeats 4000000 in
theorem Plus_chance_l (A B A1 B1 : Option Addr) (n c m e n1 c1 m1 e1 : Nat) (x y : Rat) (X Y : Int) (V : Int) (HV : Hid (cmpQ y x = V)) (hV : Hid (decide (0 < V) = false)) (w : World) (hT : Tab w) (hx : RatQ w (.agg #[.bool false, .slice A n c, .slice B m e]) x) (hy : RatQ w (.agg #[.bool false, .slice A1 n1 c1, .slice B1 m1 e1]) y) (sx : Sz x 100000) (sy : Sz y 100000) (HX : Hid (cmpQ x 1 = X)) (hX : X ≤ 0) (HY : Hid (cmpQ y 1 = Y)) (hY : Y ≤ 0) : Calls Tryz.prog 5 #[.agg #[.int .i64 3, .slice none 0 0], aw (.bool false) (.slice A n c) (.slice B m e) 0 false, aw (.bool false) (.slice A1 n1 c1) (.slice B1 m1 e1) 0 false] w (fun e0 w' => ∃ A2 n2 c2 B2 m2 e2, e0 = .returned (aw (.bool false) (.slice A2 n2 c2) (.slice B2 m2 e2) 0 false) ∧ RatQ w' (.agg #[.bool false, .slice A2 n2 c2, .slice B2 m2 e2]) x ∧ Below w.heap.size w w') := by
  obtain ⟨hb0, c0, cv, cw, cr⟩ := blk4 w [.int .i64 3, .slice none 0 0] [.bool false, .slice A n c, .slice B m e, .int .i64 0, .bool false, .int .u64 0, .slice none 0 0, .slice none 0 0] [.bool false, .slice A1 n1 c1, .slice B1 m1 e1, .int .i64 0, .bool false, .int .u64 0, .slice none 0 0, .slice none 0 0] [.bool false, .slice none 0 0, .slice none 0 0, .int .i64 0, .bool false, .int .u64 0, .slice none 0 0, .slice none 0 0] 24 32 32 32
  replace hx := hx.below hb0
  replace hy := hy.below hb0
  replace hT := hT.below hb0
  go_enter Tryz.func5, Tryz.ntmps5
  go_wp2_with fail
  generalize ((((w.alloc (.cells #[.int .i64 3, .slice none 0 0] 24)).alloc (.cells #[.bool false, .slice A n c, .slice B m e, .int .i64 0, .bool false, .int .u64 0, .slice none 0 0, .slice none 0 0] 32)).alloc (.cells #[.bool false, .slice A1 n1 c1, .slice B1 m1 e1, .int .i64 0, .bool false, .int .u64 0, .slice none 0 0, .slice none 0 0] 32)).alloc (W8t 0 false)) = W0 at *
  refine (find_chance _).mono ?_
  rintro e0 w1 ⟨b1, b2, bu, rfl, hC, hb1⟩
  replace hx := hx.below hb1
  replace hy := hy.below hb1
  replace hT := hT.below hb1
  replace hb0 := hb0.trans (hb1.mono hb0.size)
  replace c0 := c0.below hb1 c0.lt
  replace cv := cv.below hb1 cv.lt
  replace cw := cw.below hb1 cw.lt
  replace cr := cr.below hb1 cr.lt
  clear hb1
  have n7 := cr.lt
  go_wp2_with fail
  have c7 := Cs.new w1 (vopsL b1 b2 bu) 55
  have hal : Below w1.heap.size w1 (w1.alloc (.cells (vopsL b1 b2 bu).toArray 55)) := (Below.refl _ _).alloc (Nat.le_refl _) _
  replace hb0 := hb0.trans (hal.mono hb0.size)
  replace hC : VCl (w1.alloc (.cells (vopsL b1 b2 bu).toArray 55)) b1 b2 := Cl.below hC hal
  replace cv := cv.below hal cv.lt
  replace cw := cw.below hal cw.lt
  replace cr := cr.below hal cr.lt
  replace hx := hx.below hal
  replace hy := hy.below hal
  replace hT := hT.below hal
  clear c0 hal
  generalize (w1.alloc (.cells #[fv 89, cln b1 b2, fv 80, fv 87, fv 90, fv 91, .func (.func 92) #[] #[.pointer (some ⟨bu, 0, none⟩)], fv 93, fv 94, fv 96] 55)) = W at *
  generalize w1.heap.size = g7 at *
  replace hb0 := hb0.drew
  replace hC : VCl W.drew b1 b2 := Cl.drew hC
  replace c7 := c7.drew
  replace cv := cv.drew
  replace cw := cw.drew
  replace cr := cr.drew
  replace hx : RatQ W.drew _ x := hx.below (Below.refl _ _).drew
  replace hy : RatQ W.drew _ y := hy.below (Below.refl _ _).drew
  replace hT := hT.drew
  have hrl : (W.drew.cell? ⟨g7, 4, none⟩ = some (fv 90) ∧ W.drew.cell? ⟨g7, 1, none⟩ = some (cln b1 b2)) ∧ (W.drew.cell? ⟨w.heap.size + 1, 0, none⟩ = some (.bool false) ∧ W.drew.cell? ⟨w.heap.size + 1, 1, none⟩ = some (.slice A n c) ∧ W.drew.cell? ⟨w.heap.size + 1, 2, none⟩ = some (.slice B m e) ∧ W.drew.cell? ⟨w.heap.size + 1, 3, none⟩ = some (.int .i64 0) ∧ W.drew.cell? ⟨w.heap.size + 1, 4, none⟩ = some (.bool false) ∧ W.drew.cell? ⟨w.heap.size + 1, 5, none⟩ = some (.int .u64 0) ∧ W.drew.cell? ⟨w.heap.size + 1, 6, none⟩ = some (.slice none 0 0) ∧ W.drew.cell? ⟨w.heap.size + 1, 7, none⟩ = some (.slice none 0 0)) ∧ (W.drew.cell? ⟨w.heap.size + 1 + 1, 0, none⟩ = some (.bool false) ∧ W.drew.cell? ⟨w.heap.size + 1 + 1, 1, none⟩ = some (.slice A1 n1 c1) ∧ W.drew.cell? ⟨w.heap.size + 1 + 1, 2, none⟩ = some (.slice B1 m1 e1) ∧ W.drew.cell? ⟨w.heap.size + 1 + 1, 3, none⟩ = some (.int .i64 0) ∧ W.drew.cell? ⟨w.heap.size + 1 + 1, 4, none⟩ = some (.bool false) ∧ W.drew.cell? ⟨w.heap.size + 1 + 1, 5, none⟩ = some (.int .u64 0) ∧ W.drew.cell? ⟨w.heap.size + 1 + 1, 6, none⟩ = some (.slice none 0 0) ∧ W.drew.cell? ⟨w.heap.size + 1 + 1, 7, none⟩ = some (.slice none 0 0)) := ⟨⟨(c7).cell rfl, (c7).cell rfl⟩, (cv).c8, (cw).c8⟩
  go_region_held3 (fun w' => (w'.cell? ⟨g7, 4, none⟩ = some (fv 90) ∧ w'.cell? ⟨g7, 1, none⟩ = some (cln b1 b2)) ∧ (w'.cell? ⟨w.heap.size + 1, 0, none⟩ = some (.bool false) ∧ w'.cell? ⟨w.heap.size + 1, 1, none⟩ = some (.slice A n c) ∧ w'.cell? ⟨w.heap.size + 1, 2, none⟩ = some (.slice B m e) ∧ w'.cell? ⟨w.heap.size + 1, 3, none⟩ = some (.int .i64 0) ∧ w'.cell? ⟨w.heap.size + 1, 4, none⟩ = some (.bool false) ∧ w'.cell? ⟨w.heap.size + 1, 5, none⟩ = some (.int .u64 0) ∧ w'.cell? ⟨w.heap.size + 1, 6, none⟩ = some (.slice none 0 0) ∧ w'.cell? ⟨w.heap.size + 1, 7, none⟩ = some (.slice none 0 0)) ∧ (w'.cell? ⟨w.heap.size + 1 + 1, 0, none⟩ = some (.bool false) ∧ w'.cell? ⟨w.heap.size + 1 + 1, 1, none⟩ = some (.slice A1 n1 c1) ∧ w'.cell? ⟨w.heap.size + 1 + 1, 2, none⟩ = some (.slice B1 m1 e1) ∧ w'.cell? ⟨w.heap.size + 1 + 1, 3, none⟩ = some (.int .i64 0) ∧ w'.cell? ⟨w.heap.size + 1 + 1, 4, none⟩ = some (.bool false) ∧ w'.cell? ⟨w.heap.size + 1 + 1, 5, none⟩ = some (.int .u64 0) ∧ w'.cell? ⟨w.heap.size + 1 + 1, 6, none⟩ = some (.slice none 0 0) ∧ w'.cell? ⟨w.heap.size + 1 + 1, 7, none⟩ = some (.slice none 0 0)))
    (first | with_reducible exact hrl | with_reducible exact hrl2 | fail)
    (first
      | (have _g := mk2; go_at_call 90; refine (greatestChance_l A B A1 B1 n c m e n1 c1 m1 e1 x y V _ hT hx hy sx sy HV hV).mono ?_; rintro e0 x3 ⟨A2, n2, c2, B2, m2, e2, rfl, hr, hbk⟩; replace hb0 := hb0.trans (hbk.mono hb0.size); replace c7 := c7.below hbk c7.lt; replace cv := cv.below hbk cv.lt; replace cw := cw.below hbk cw.lt; replace cr := cr.below hbk cr.lt; replace hx := hx.below hbk; replace hy := hy.below hbk; replace hT := hT.below hbk; replace hr := hr; have hrl : (x3.cell? ⟨g7, 4, none⟩ = some (fv 90) ∧ x3.cell? ⟨g7, 1, none⟩ = some (cln b1 b2)) ∧ (x3.cell? ⟨w.heap.size + 1, 0, none⟩ = some (.bool false) ∧ x3.cell? ⟨w.heap.size + 1, 1, none⟩ = some (.slice A n c) ∧ x3.cell? ⟨w.heap.size + 1, 2, none⟩ = some (.slice B m e) ∧ x3.cell? ⟨w.heap.size + 1, 3, none⟩ = some (.int .i64 0) ∧ x3.cell? ⟨w.heap.size + 1, 4, none⟩ = some (.bool false) ∧ x3.cell? ⟨w.heap.size + 1, 5, none⟩ = some (.int .u64 0) ∧ x3.cell? ⟨w.heap.size + 1, 6, none⟩ = some (.slice none 0 0) ∧ x3.cell? ⟨w.heap.size + 1, 7, none⟩ = some (.slice none 0 0)) ∧ (x3.cell? ⟨w.heap.size + 1 + 1, 0, none⟩ = some (.bool false) ∧ x3.cell? ⟨w.heap.size + 1 + 1, 1, none⟩ = some (.slice A1 n1 c1) ∧ x3.cell? ⟨w.heap.size + 1 + 1, 2, none⟩ = some (.slice B1 m1 e1) ∧ x3.cell? ⟨w.heap.size + 1 + 1, 3, none⟩ = some (.int .i64 0) ∧ x3.cell? ⟨w.heap.size + 1 + 1, 4, none⟩ = some (.bool false) ∧ x3.cell? ⟨w.heap.size + 1 + 1, 5, none⟩ = some (.int .u64 0) ∧ x3.cell? ⟨w.heap.size + 1 + 1, 6, none⟩ = some (.slice none 0 0) ∧ x3.cell? ⟨w.heap.size + 1 + 1, 7, none⟩ = some (.slice none 0 0)) := ⟨⟨(c7).cell rfl, (c7).cell rfl⟩, (cv).c8, (cw).c8⟩; have hrl2 : (((((((((x3.setCell ⟨w.heap.size + 1 + 1 + 1, 0, none⟩ (.bool false)).setCell ⟨w.heap.size + 1 + 1 + 1, 1, none⟩ (.slice A2 n2 c2)).setCell ⟨w.heap.size + 1 + 1 + 1, 2, none⟩ (.slice B2 m2 e2)).setCell ⟨w.heap.size + 1 + 1 + 1, 3, none⟩ (.int .i64 0)).setCell ⟨w.heap.size + 1 + 1 + 1, 4, none⟩ (.bool false)).setCell ⟨w.heap.size + 1 + 1 + 1, 5, none⟩ (.int .u64 0)).setCell ⟨w.heap.size + 1 + 1 + 1, 6, none⟩ (.slice none 0 0)).setCell ⟨w.heap.size + 1 + 1 + 1, 7, none⟩ (.slice none 0 0)).cell? ⟨g7, 4, none⟩ = some (fv 90) ∧ ((((((((x3.setCell ⟨w.heap.size + 1 + 1 + 1, 0, none⟩ (.bool false)).setCell ⟨w.heap.size + 1 + 1 + 1, 1, none⟩ (.slice A2 n2 c2)).setCell ⟨w.heap.size + 1 + 1 + 1, 2, none⟩ (.slice B2 m2 e2)).setCell ⟨w.heap.size + 1 + 1 + 1, 3, none⟩ (.int .i64 0)).setCell ⟨w.heap.size + 1 + 1 + 1, 4, none⟩ (.bool false)).setCell ⟨w.heap.size + 1 + 1 + 1, 5, none⟩ (.int .u64 0)).setCell ⟨w.heap.size + 1 + 1 + 1, 6, none⟩ (.slice none 0 0)).setCell ⟨w.heap.size + 1 + 1 + 1, 7, none⟩ (.slice none 0 0)).cell? ⟨g7, 1, none⟩ = some (cln b1 b2)) ∧ (((((((((x3.setCell ⟨w.heap.size + 1 + 1 + 1, 0, none⟩ (.bool false)).setCell ⟨w.heap.size + 1 + 1 + 1, 1, none⟩ (.slice A2 n2 c2)).setCell ⟨w.heap.size + 1 + 1 + 1, 2, none⟩ (.slice B2 m2 e2)).setCell ⟨w.heap.size + 1 + 1 + 1, 3, none⟩ (.int .i64 0)).setCell ⟨w.heap.size + 1 + 1 + 1, 4, none⟩ (.bool false)).setCell ⟨w.heap.size + 1 + 1 + 1, 5, none⟩ (.int .u64 0)).setCell ⟨w.heap.size + 1 + 1 + 1, 6, none⟩ (.slice none 0 0)).setCell ⟨w.heap.size + 1 + 1 + 1, 7, none⟩ (.slice none 0 0)).cell? ⟨w.heap.size + 1, 0, none⟩ = some (.bool false) ∧ ((((((((x3.setCell ⟨w.heap.size + 1 + 1 + 1, 0, none⟩ (.bool false)).setCell ⟨w.heap.size + 1 + 1 + 1, 1, none⟩ (.slice A2 n2 c2)).setCell ⟨w.heap.size + 1 + 1 + 1, 2, none⟩ (.slice B2 m2 e2)).setCell ⟨w.heap.size + 1 + 1 + 1, 3, none⟩ (.int .i64 0)).setCell ⟨w.heap.size + 1 + 1 + 1, 4, none⟩ (.bool false)).setCell ⟨w.heap.size + 1 + 1 + 1, 5, none⟩ (.int .u64 0)).setCell ⟨w.heap.size + 1 + 1 + 1, 6, none⟩ (.slice none 0 0)).setCell ⟨w.heap.size + 1 + 1 + 1, 7, none⟩ (.slice none 0 0)).cell? ⟨w.heap.size + 1, 1, none⟩ = some (.slice A n c) ∧ ((((((((x3.setCell ⟨w.heap.size + 1 + 1 + 1, 0, none⟩ (.bool false)).setCell ⟨w.heap.size + 1 + 1 + 1, 1, none⟩ (.slice A2 n2 c2)).setCell ⟨w.heap.size + 1 + 1 + 1, 2, none⟩ (.slice B2 m2 e2)).setCell ⟨w.heap.size + 1 + 1 + 1, 3, none⟩ (.int .i64 0)).setCell ⟨w.heap.size + 1 + 1 + 1, 4, none⟩ (.bool false)).setCell ⟨w.heap.size + 1 + 1 + 1, 5, none⟩ (.int .u64 0)).setCell ⟨w.heap.size + 1 + 1 + 1, 6, none⟩ (.slice none 0 0)).setCell ⟨w.heap.size + 1 + 1 + 1, 7, none⟩ (.slice none 0 0)).cell? ⟨w.heap.size + 1, 2, none⟩ = some (.slice B m e) ∧ ((((((((x3.setCell ⟨w.heap.size + 1 + 1 + 1, 0, none⟩ (.bool false)).setCell ⟨w.heap.size + 1 + 1 + 1, 1, none⟩ (.slice A2 n2 c2)).setCell ⟨w.heap.size + 1 + 1 + 1, 2, none⟩ (.slice B2 m2 e2)).setCell ⟨w.heap.size + 1 + 1 + 1, 3, none⟩ (.int .i64 0)).setCell ⟨w.heap.size + 1 + 1 + 1, 4, none⟩ (.bool false)).setCell ⟨w.heap.size + 1 + 1 + 1, 5, none⟩ (.int .u64 0)).setCell ⟨w.heap.size + 1 + 1 + 1, 6, none⟩ (.slice none 0 0)).setCell ⟨w.heap.size + 1 + 1 + 1, 7, none⟩ (.slice none 0 0)).cell? ⟨w.heap.size + 1, 3, none⟩ = some (.int .i64 0) ∧ ((((((((x3.setCell ⟨w.heap.size + 1 + 1 + 1, 0, none⟩ (.bool false)).setCell ⟨w.heap.size + 1 + 1 + 1, 1, none⟩ (.slice A2 n2 c2)).setCell ⟨w.heap.size + 1 + 1 + 1, 2, none⟩ (.slice B2 m2 e2)).setCell ⟨w.heap.size + 1 + 1 + 1, 3, none⟩ (.int .i64 0)).setCell ⟨w.heap.size + 1 + 1 + 1, 4, none⟩ (.bool false)).setCell ⟨w.heap.size + 1 + 1 + 1, 5, none⟩ (.int .u64 0)).setCell ⟨w.heap.size + 1 + 1 + 1, 6, none⟩ (.slice none 0 0)).setCell ⟨w.heap.size + 1 + 1 + 1, 7, none⟩ (.slice none 0 0)).cell? ⟨w.heap.size + 1, 4, none⟩ = some (.bool false) ∧ ((((((((x3.setCell ⟨w.heap.size + 1 + 1 + 1, 0, none⟩ (.bool false)).setCell ⟨w.heap.size + 1 + 1 + 1, 1, none⟩ (.slice A2 n2 c2)).setCell ⟨w.heap.size + 1 + 1 + 1, 2, none⟩ (.slice B2 m2 e2)).setCell ⟨w.heap.size + 1 + 1 + 1, 3, none⟩ (.int .i64 0)).setCell ⟨w.heap.size + 1 + 1 + 1, 4, none⟩ (.bool false)).setCell ⟨w.heap.size + 1 + 1 + 1, 5, none⟩ (.int .u64 0)).setCell ⟨w.heap.size + 1 + 1 + 1, 6, none⟩ (.slice none 0 0)).setCell ⟨w.heap.size + 1 + 1 + 1, 7, none⟩ (.slice none 0 0)).cell? ⟨w.heap.size + 1, 5, none⟩ = some (.int .u64 0) ∧ ((((((((x3.setCell ⟨w.heap.size + 1 + 1 + 1, 0, none⟩ (.bool false)).setCell ⟨w.heap.size + 1 + 1 + 1, 1, none⟩ (.slice A2 n2 c2)).setCell ⟨w.heap.size + 1 + 1 + 1, 2, none⟩ (.slice B2 m2 e2)).setCell ⟨w.heap.size + 1 + 1 + 1, 3, none⟩ (.int .i64 0)).setCell ⟨w.heap.size + 1 + 1 + 1, 4, none⟩ (.bool false)).setCell ⟨w.heap.size + 1 + 1 + 1, 5, none⟩ (.int .u64 0)).setCell ⟨w.heap.size + 1 + 1 + 1, 6, none⟩ (.slice none 0 0)).setCell ⟨w.heap.size + 1 + 1 + 1, 7, none⟩ (.slice none 0 0)).cell? ⟨w.heap.size + 1, 6, none⟩ = some (.slice none 0 0) ∧ ((((((((x3.setCell ⟨w.heap.size + 1 + 1 + 1, 0, none⟩ (.bool false)).setCell ⟨w.heap.size + 1 + 1 + 1, 1, none⟩ (.slice A2 n2 c2)).setCell ⟨w.heap.size + 1 + 1 + 1, 2, none⟩ (.slice B2 m2 e2)).setCell ⟨w.heap.size + 1 + 1 + 1, 3, none⟩ (.int .i64 0)).setCell ⟨w.heap.size + 1 + 1 + 1, 4, none⟩ (.bool false)).setCell ⟨w.heap.size + 1 + 1 + 1, 5, none⟩ (.int .u64 0)).setCell ⟨w.heap.size + 1 + 1 + 1, 6, none⟩ (.slice none 0 0)).setCell ⟨w.heap.size + 1 + 1 + 1, 7, none⟩ (.slice none 0 0)).cell? ⟨w.heap.size + 1, 7, none⟩ = some (.slice none 0 0)) ∧ (((((((((x3.setCell ⟨w.heap.size + 1 + 1 + 1, 0, none⟩ (.bool false)).setCell ⟨w.heap.size + 1 + 1 + 1, 1, none⟩ (.slice A2 n2 c2)).setCell ⟨w.heap.size + 1 + 1 + 1, 2, none⟩ (.slice B2 m2 e2)).setCell ⟨w.heap.size + 1 + 1 + 1, 3, none⟩ (.int .i64 0)).setCell ⟨w.heap.size + 1 + 1 + 1, 4, none⟩ (.bool false)).setCell ⟨w.heap.size + 1 + 1 + 1, 5, none⟩ (.int .u64 0)).setCell ⟨w.heap.size + 1 + 1 + 1, 6, none⟩ (.slice none 0 0)).setCell ⟨w.heap.size + 1 + 1 + 1, 7, none⟩ (.slice none 0 0)).cell? ⟨w.heap.size + 1 + 1, 0, none⟩ = some (.bool false) ∧ ((((((((x3.setCell ⟨w.heap.size + 1 + 1 + 1, 0, none⟩ (.bool false)).setCell ⟨w.heap.size + 1 + 1 + 1, 1, none⟩ (.slice A2 n2 c2)).setCell ⟨w.heap.size + 1 + 1 + 1, 2, none⟩ (.slice B2 m2 e2)).setCell ⟨w.heap.size + 1 + 1 + 1, 3, none⟩ (.int .i64 0)).setCell ⟨w.heap.size + 1 + 1 + 1, 4, none⟩ (.bool false)).setCell ⟨w.heap.size + 1 + 1 + 1, 5, none⟩ (.int .u64 0)).setCell ⟨w.heap.size + 1 + 1 + 1, 6, none⟩ (.slice none 0 0)).setCell ⟨w.heap.size + 1 + 1 + 1, 7, none⟩ (.slice none 0 0)).cell? ⟨w.heap.size + 1 + 1, 1, none⟩ = some (.slice A1 n1 c1) ∧ ((((((((x3.setCell ⟨w.heap.size + 1 + 1 + 1, 0, none⟩ (.bool false)).setCell ⟨w.heap.size + 1 + 1 + 1, 1, none⟩ (.slice A2 n2 c2)).setCell ⟨w.heap.size + 1 + 1 + 1, 2, none⟩ (.slice B2 m2 e2)).setCell ⟨w.heap.size + 1 + 1 + 1, 3, none⟩ (.int .i64 0)).setCell ⟨w.heap.size + 1 + 1 + 1, 4, none⟩ (.bool false)).setCell ⟨w.heap.size + 1 + 1 + 1, 5, none⟩ (.int .u64 0)).setCell ⟨w.heap.size + 1 + 1 + 1, 6, none⟩ (.slice none 0 0)).setCell ⟨w.heap.size + 1 + 1 + 1, 7, none⟩ (.slice none 0 0)).cell? ⟨w.heap.size + 1 + 1, 2, none⟩ = some (.slice B1 m1 e1) ∧ ((((((((x3.setCell ⟨w.heap.size + 1 + 1 + 1, 0, none⟩ (.bool false)).setCell ⟨w.heap.size + 1 + 1 + 1, 1, none⟩ (.slice A2 n2 c2)).setCell ⟨w.heap.size + 1 + 1 + 1, 2, none⟩ (.slice B2 m2 e2)).setCell ⟨w.heap.size + 1 + 1 + 1, 3, none⟩ (.int .i64 0)).setCell ⟨w.heap.size + 1 + 1 + 1, 4, none⟩ (.bool false)).setCell ⟨w.heap.size + 1 + 1 + 1, 5, none⟩ (.int .u64 0)).setCell ⟨w.heap.size + 1 + 1 + 1, 6, none⟩ (.slice none 0 0)).setCell ⟨w.heap.size + 1 + 1 + 1, 7, none⟩ (.slice none 0 0)).cell? ⟨w.heap.size + 1 + 1, 3, none⟩ = some (.int .i64 0) ∧ ((((((((x3.setCell ⟨w.heap.size + 1 + 1 + 1, 0, none⟩ (.bool false)).setCell ⟨w.heap.size + 1 + 1 + 1, 1, none⟩ (.slice A2 n2 c2)).setCell ⟨w.heap.size + 1 + 1 + 1, 2, none⟩ (.slice B2 m2 e2)).setCell ⟨w.heap.size + 1 + 1 + 1, 3, none⟩ (.int .i64 0)).setCell ⟨w.heap.size + 1 + 1 + 1, 4, none⟩ (.bool false)).setCell ⟨w.heap.size + 1 + 1 + 1, 5, none⟩ (.int .u64 0)).setCell ⟨w.heap.size + 1 + 1 + 1, 6, none⟩ (.slice none 0 0)).setCell ⟨w.heap.size + 1 + 1 + 1, 7, none⟩ (.slice none 0 0)).cell? ⟨w.heap.size + 1 + 1, 4, none⟩ = some (.bool false) ∧ ((((((((x3.setCell ⟨w.heap.size + 1 + 1 + 1, 0, none⟩ (.bool false)).setCell ⟨w.heap.size + 1 + 1 + 1, 1, none⟩ (.slice A2 n2 c2)).setCell ⟨w.heap.size + 1 + 1 + 1, 2, none⟩ (.slice B2 m2 e2)).setCell ⟨w.heap.size + 1 + 1 + 1, 3, none⟩ (.int .i64 0)).setCell ⟨w.heap.size + 1 + 1 + 1, 4, none⟩ (.bool false)).setCell ⟨w.heap.size + 1 + 1 + 1, 5, none⟩ (.int .u64 0)).setCell ⟨w.heap.size + 1 + 1 + 1, 6, none⟩ (.slice none 0 0)).setCell ⟨w.heap.size + 1 + 1 + 1, 7, none⟩ (.slice none 0 0)).cell? ⟨w.heap.size + 1 + 1, 5, none⟩ = some (.int .u64 0) ∧ ((((((((x3.setCell ⟨w.heap.size + 1 + 1 + 1, 0, none⟩ (.bool false)).setCell ⟨w.heap.size + 1 + 1 + 1, 1, none⟩ (.slice A2 n2 c2)).setCell ⟨w.heap.size + 1 + 1 + 1, 2, none⟩ (.slice B2 m2 e2)).setCell ⟨w.heap.size + 1 + 1 + 1, 3, none⟩ (.int .i64 0)).setCell ⟨w.heap.size + 1 + 1 + 1, 4, none⟩ (.bool false)).setCell ⟨w.heap.size + 1 + 1 + 1, 5, none⟩ (.int .u64 0)).setCell ⟨w.heap.size + 1 + 1 + 1, 6, none⟩ (.slice none 0 0)).setCell ⟨w.heap.size + 1 + 1 + 1, 7, none⟩ (.slice none 0 0)).cell? ⟨w.heap.size + 1 + 1, 6, none⟩ = some (.slice none 0 0) ∧ ((((((((x3.setCell ⟨w.heap.size + 1 + 1 + 1, 0, none⟩ (.bool false)).setCell ⟨w.heap.size + 1 + 1 + 1, 1, none⟩ (.slice A2 n2 c2)).setCell ⟨w.heap.size + 1 + 1 + 1, 2, none⟩ (.slice B2 m2 e2)).setCell ⟨w.heap.size + 1 + 1 + 1, 3, none⟩ (.int .i64 0)).setCell ⟨w.heap.size + 1 + 1 + 1, 4, none⟩ (.bool false)).setCell ⟨w.heap.size + 1 + 1 + 1, 5, none⟩ (.int .u64 0)).setCell ⟨w.heap.size + 1 + 1 + 1, 6, none⟩ (.slice none 0 0)).setCell ⟨w.heap.size + 1 + 1 + 1, 7, none⟩ (.slice none 0 0)).cell? ⟨w.heap.size + 1 + 1, 7, none⟩ = some (.slice none 0 0)) := ⟨⟨(cs_far8 c7 (by omega) (.bool false) (.slice A2 n2 c2) (.slice B2 m2 e2) (.int .i64 0) (.bool false) (.int .u64 0) (.slice none 0 0) (.slice none 0 0)).cell rfl, (cs_far8 c7 (by omega) (.bool false) (.slice A2 n2 c2) (.slice B2 m2 e2) (.int .i64 0) (.bool false) (.int .u64 0) (.slice none 0 0) (.slice none 0 0)).cell rfl⟩, (cs_far8 cv (by omega) (.bool false) (.slice A2 n2 c2) (.slice B2 m2 e2) (.int .i64 0) (.bool false) (.int .u64 0) (.slice none 0 0) (.slice none 0 0)).c8, (cs_far8 cw (by omega) (.bool false) (.slice A2 n2 c2) (.slice B2 m2 e2) (.int .i64 0) (.bool false) (.int .u64 0) (.slice none 0 0) (.slice none 0 0)).c8⟩; obtain ⟨u0, u1, u2, u3, u4, u5, u6, u7⟩ := cr.c8; obtain ⟨f0, f1, f2, f3, f4, f5, f6, f7⟩ := cr.f8)
      | (have _g := mk1; go_at_call 128; refine (cln_chance A1 B1 n1 c1 m1 e1 y Y b1 b2 _ hT hy sy HY hY hC).mono ?_; rintro e0 x2 ⟨rfl, hbk⟩; replace hb0 := hb0.trans (hbk.mono hb0.size); replace c7 := c7.below hbk c7.lt; replace cv := cv.below hbk cv.lt; replace cw := cw.below hbk cw.lt; replace cr := cr.below hbk cr.lt; replace hx := hx.below hbk; replace hy := hy.below hbk; replace hT := hT.below hbk; have mk2 := Lib.hid (rfl : 1 = 1); have hrl : (x2.cell? ⟨g7, 4, none⟩ = some (fv 90) ∧ x2.cell? ⟨g7, 1, none⟩ = some (cln b1 b2)) ∧ (x2.cell? ⟨w.heap.size + 1, 0, none⟩ = some (.bool false) ∧ x2.cell? ⟨w.heap.size + 1, 1, none⟩ = some (.slice A n c) ∧ x2.cell? ⟨w.heap.size + 1, 2, none⟩ = some (.slice B m e) ∧ x2.cell? ⟨w.heap.size + 1, 3, none⟩ = some (.int .i64 0) ∧ x2.cell? ⟨w.heap.size + 1, 4, none⟩ = some (.bool false) ∧ x2.cell? ⟨w.heap.size + 1, 5, none⟩ = some (.int .u64 0) ∧ x2.cell? ⟨w.heap.size + 1, 6, none⟩ = some (.slice none 0 0) ∧ x2.cell? ⟨w.heap.size + 1, 7, none⟩ = some (.slice none 0 0)) ∧ (x2.cell? ⟨w.heap.size + 1 + 1, 0, none⟩ = some (.bool false) ∧ x2.cell? ⟨w.heap.size + 1 + 1, 1, none⟩ = some (.slice A1 n1 c1) ∧ x2.cell? ⟨w.heap.size + 1 + 1, 2, none⟩ = some (.slice B1 m1 e1) ∧ x2.cell? ⟨w.heap.size + 1 + 1, 3, none⟩ = some (.int .i64 0) ∧ x2.cell? ⟨w.heap.size + 1 + 1, 4, none⟩ = some (.bool false) ∧ x2.cell? ⟨w.heap.size + 1 + 1, 5, none⟩ = some (.int .u64 0) ∧ x2.cell? ⟨w.heap.size + 1 + 1, 6, none⟩ = some (.slice none 0 0) ∧ x2.cell? ⟨w.heap.size + 1 + 1, 7, none⟩ = some (.slice none 0 0)) := ⟨⟨(c7).cell rfl, (c7).cell rfl⟩, (cv).c8, (cw).c8⟩)
      | (go_at_call 128; refine (cln_chance A B n c m e x X b1 b2 _ hT hx sx HX hX hC).mono ?_; rintro e0 x1 ⟨rfl, hbk⟩; replace hC : VCl x1 b1 b2 := Cl.below hC hbk; replace hb0 := hb0.trans (hbk.mono hb0.size); replace c7 := c7.below hbk c7.lt; replace cv := cv.below hbk cv.lt; replace cw := cw.below hbk cw.lt; replace cr := cr.below hbk cr.lt; replace hx := hx.below hbk; replace hy := hy.below hbk; replace hT := hT.below hbk; have mk1 := Lib.hid (rfl : 1 = 1); have hrl : (x1.cell? ⟨g7, 4, none⟩ = some (fv 90) ∧ x1.cell? ⟨g7, 1, none⟩ = some (cln b1 b2)) ∧ (x1.cell? ⟨w.heap.size + 1, 0, none⟩ = some (.bool false) ∧ x1.cell? ⟨w.heap.size + 1, 1, none⟩ = some (.slice A n c) ∧ x1.cell? ⟨w.heap.size + 1, 2, none⟩ = some (.slice B m e) ∧ x1.cell? ⟨w.heap.size + 1, 3, none⟩ = some (.int .i64 0) ∧ x1.cell? ⟨w.heap.size + 1, 4, none⟩ = some (.bool false) ∧ x1.cell? ⟨w.heap.size + 1, 5, none⟩ = some (.int .u64 0) ∧ x1.cell? ⟨w.heap.size + 1, 6, none⟩ = some (.slice none 0 0) ∧ x1.cell? ⟨w.heap.size + 1, 7, none⟩ = some (.slice none 0 0)) ∧ (x1.cell? ⟨w.heap.size + 1 + 1, 0, none⟩ = some (.bool false) ∧ x1.cell? ⟨w.heap.size + 1 + 1, 1, none⟩ = some (.slice A1 n1 c1) ∧ x1.cell? ⟨w.heap.size + 1 + 1, 2, none⟩ = some (.slice B1 m1 e1) ∧ x1.cell? ⟨w.heap.size + 1 + 1, 3, none⟩ = some (.int .i64 0) ∧ x1.cell? ⟨w.heap.size + 1 + 1, 4, none⟩ = some (.bool false) ∧ x1.cell? ⟨w.heap.size + 1 + 1, 5, none⟩ = some (.int .u64 0) ∧ x1.cell? ⟨w.heap.size + 1 + 1, 6, none⟩ = some (.slice none 0 0) ∧ x1.cell? ⟨w.heap.size + 1 + 1, 7, none⟩ = some (.slice none 0 0)) := ⟨⟨(c7).cell rfl, (c7).cell rfl⟩, (cv).c8, (cw).c8⟩)
      | fail)
  go_wp2_with fail
  refine ret_cs (l := [.bool false, .slice A2 n2 c2, .slice B2 m2 e2, .int .i64 0, .bool false, .int .u64 0, .slice none 0 0, .slice none 0 0]) Tryz.results5 Tryz.underlying32 (by kernel_rfl) rfl (cs_own8 cr rfl _ _ _ _ _ _ _ _) rfl ?_
  exact ⟨A2, n2, c2, B2, m2, e2, rfl, hr.s8 cr (by simp) _ _ _ _ _ _ _ _, below_s8 hb0 (by omega) _ _ _ _ _ _ _ _⟩

set_option maxRecDepth 20000 in
set_option maxHeartbeats 4000000 in
theorem Plus_chance_r (A B A1 B1 : Option Addr) (n c m e n1 c1 m1 e1 : Nat) (x y : Rat) (X Y : Int) (V : Int) (HV : Hid (cmpQ y x = V)) (hV : Hid (decide (0 < V) = true)) (w : World) (hT : Tab w) (hx : RatQ w (.agg #[.bool false, .slice A n c, .slice B m e]) x) (hy : RatQ w (.agg #[.bool false, .slice A1 n1 c1, .slice B1 m1 e1]) y) (sx : Sz x 100000) (sy : Sz y 100000) (HX : Hid (cmpQ x 1 = X)) (hX : X ≤ 0) (HY : Hid (cmpQ y 1 = Y)) (hY : Y ≤ 0) : Calls Tryz.prog 5 #[.agg #[.int .i64 3, .slice none 0 0], aw (.bool false) (.slice A n c) (.slice B m e) 0 false, aw (.bool false) (.slice A1 n1 c1) (.slice B1 m1 e1) 0 false] w (fun e0 w' => ∃ A2 n2 c2 B2 m2 e2, e0 = .returned (aw (.bool false) (.slice A2 n2 c2) (.slice B2 m2 e2) 0 false) ∧ RatQ w' (.agg #[.bool false, .slice A2 n2 c2, .slice B2 m2 e2]) y ∧ Below w.heap.size w w') := by
  obtain ⟨hb0, c0, cv, cw, cr⟩ := blk4 w [.int .i64 3, .slice none 0 0] [.bool false, .slice A n c, .slice B m e, .int .i64 0, .bool false, .int .u64 0, .slice none 0 0, .slice none 0 0] [.bool false, .slice A1 n1 c1, .slice B1 m1 e1, .int .i64 0, .bool false, .int .u64 0, .slice none 0 0, .slice none 0 0] [.bool false, .slice none 0 0, .slice none 0 0, .int .i64 0, .bool false, .int .u64 0, .slice none 0 0, .slice none 0 0] 24 32 32 32
  replace hx := hx.below hb0
  replace hy := hy.below hb0
  replace hT := hT.below hb0
  go_enter Tryz.func5, Tryz.ntmps5
  go_wp2_with fail
  generalize ((((w.alloc (.cells #[.int .i64 3, .slice none 0 0] 24)).alloc (.cells #[.bool false, .slice A n c, .slice B m e, .int .i64 0, .bool false, .int .u64 0, .slice none 0 0, .slice none 0 0] 32)).alloc (.cells #[.bool false, .slice A1 n1 c1, .slice B1 m1 e1, .int .i64 0, .bool false, .int .u64 0, .slice none 0 0, .slice none 0 0] 32)).alloc (W8t 0 false)) = W0 at *
  refine (find_chance _).mono ?_
  rintro e0 w1 ⟨b1, b2, bu, rfl, hC, hb1⟩
  replace hx := hx.below hb1
  replace hy := hy.below hb1
  replace hT := hT.below hb1
  replace hb0 := hb0.trans (hb1.mono hb0.size)
  replace c0 := c0.below hb1 c0.lt
  replace cv := cv.below hb1 cv.lt
  replace cw := cw.below hb1 cw.lt
  replace cr := cr.below hb1 cr.lt
  clear hb1
  have n7 := cr.lt
  go_wp2_with fail
  have c7 := Cs.new w1 (vopsL b1 b2 bu) 55
  have hal : Below w1.heap.size w1 (w1.alloc (.cells (vopsL b1 b2 bu).toArray 55)) := (Below.refl _ _).alloc (Nat.le_refl _) _
  replace hb0 := hb0.trans (hal.mono hb0.size)
  replace hC : VCl (w1.alloc (.cells (vopsL b1 b2 bu).toArray 55)) b1 b2 := Cl.below hC hal
  replace cv := cv.below hal cv.lt
  replace cw := cw.below hal cw.lt
  replace cr := cr.below hal cr.lt
  replace hx := hx.below hal
  replace hy := hy.below hal
  replace hT := hT.below hal
  clear c0 hal
  generalize (w1.alloc (.cells #[fv 89, cln b1 b2, fv 80, fv 87, fv 90, fv 91, .func (.func 92) #[] #[.pointer (some ⟨bu, 0, none⟩)], fv 93, fv 94, fv 96] 55)) = W at *
  generalize w1.heap.size = g7 at *
  replace hb0 := hb0.drew
  replace hC : VCl W.drew b1 b2 := Cl.drew hC
  replace c7 := c7.drew
  replace cv := cv.drew
  replace cw := cw.drew
  replace cr := cr.drew
  replace hx : RatQ W.drew _ x := hx.below (Below.refl _ _).drew
  replace hy : RatQ W.drew _ y := hy.below (Below.refl _ _).drew
  replace hT := hT.drew
  have hrl : (W.drew.cell? ⟨g7, 4, none⟩ = some (fv 90) ∧ W.drew.cell? ⟨g7, 1, none⟩ = some (cln b1 b2)) ∧ (W.drew.cell? ⟨w.heap.size + 1, 0, none⟩ = some (.bool false) ∧ W.drew.cell? ⟨w.heap.size + 1, 1, none⟩ = some (.slice A n c) ∧ W.drew.cell? ⟨w.heap.size + 1, 2, none⟩ = some (.slice B m e) ∧ W.drew.cell? ⟨w.heap.size + 1, 3, none⟩ = some (.int .i64 0) ∧ W.drew.cell? ⟨w.heap.size + 1, 4, none⟩ = some (.bool false) ∧ W.drew.cell? ⟨w.heap.size + 1, 5, none⟩ = some (.int .u64 0) ∧ W.drew.cell? ⟨w.heap.size + 1, 6, none⟩ = some (.slice none 0 0) ∧ W.drew.cell? ⟨w.heap.size + 1, 7, none⟩ = some (.slice none 0 0)) ∧ (W.drew.cell? ⟨w.heap.size + 1 + 1, 0, none⟩ = some (.bool false) ∧ W.drew.cell? ⟨w.heap.size + 1 + 1, 1, none⟩ = some (.slice A1 n1 c1) ∧ W.drew.cell? ⟨w.heap.size + 1 + 1, 2, none⟩ = some (.slice B1 m1 e1) ∧ W.drew.cell? ⟨w.heap.size + 1 + 1, 3, none⟩ = some (.int .i64 0) ∧ W.drew.cell? ⟨w.heap.size + 1 + 1, 4, none⟩ = some (.bool false) ∧ W.drew.cell? ⟨w.heap.size + 1 + 1, 5, none⟩ = some (.int .u64 0) ∧ W.drew.cell? ⟨w.heap.size + 1 + 1, 6, none⟩ = some (.slice none 0 0) ∧ W.drew.cell? ⟨w.heap.size + 1 + 1, 7, none⟩ = some (.slice none 0 0)) := ⟨⟨(c7).cell rfl, (c7).cell rfl⟩, (cv).c8, (cw).c8⟩
  go_region_held3 (fun w' => (w'.cell? ⟨g7, 4, none⟩ = some (fv 90) ∧ w'.cell? ⟨g7, 1, none⟩ = some (cln b1 b2)) ∧ (w'.cell? ⟨w.heap.size + 1, 0, none⟩ = some (.bool false) ∧ w'.cell? ⟨w.heap.size + 1, 1, none⟩ = some (.slice A n c) ∧ w'.cell? ⟨w.heap.size + 1, 2, none⟩ = some (.slice B m e) ∧ w'.cell? ⟨w.heap.size + 1, 3, none⟩ = some (.int .i64 0) ∧ w'.cell? ⟨w.heap.size + 1, 4, none⟩ = some (.bool false) ∧ w'.cell? ⟨w.heap.size + 1, 5, none⟩ = some (.int .u64 0) ∧ w'.cell? ⟨w.heap.size + 1, 6, none⟩ = some (.slice none 0 0) ∧ w'.cell? ⟨w.heap.size + 1, 7, none⟩ = some (.slice none 0 0)) ∧ (w'.cell? ⟨w.heap.size + 1 + 1, 0, none⟩ = some (.bool false) ∧ w'.cell? ⟨w.heap.size + 1 + 1, 1, none⟩ = some (.slice A1 n1 c1) ∧ w'.cell? ⟨w.heap.size + 1 + 1, 2, none⟩ = some (.slice B1 m1 e1) ∧ w'.cell? ⟨w.heap.size + 1 + 1, 3, none⟩ = some (.int .i64 0) ∧ w'.cell? ⟨w.heap.size + 1 + 1, 4, none⟩ = some (.bool false) ∧ w'.cell? ⟨w.heap.size + 1 + 1, 5, none⟩ = some (.int .u64 0) ∧ w'.cell? ⟨w.heap.size + 1 + 1, 6, none⟩ = some (.slice none 0 0) ∧ w'.cell? ⟨w.heap.size + 1 + 1, 7, none⟩ = some (.slice none 0 0)))
    (first | with_reducible exact hrl | with_reducible exact hrl2 | fail)
    (first
      | (have _g := mk2; go_at_call 90; refine (greatestChance_r A B A1 B1 n c m e n1 c1 m1 e1 x y V _ hT hx hy sx sy HV hV).mono ?_; rintro e0 x3 ⟨A2, n2, c2, B2, m2, e2, rfl, hr, hbk⟩; replace hb0 := hb0.trans (hbk.mono hb0.size); replace c7 := c7.below hbk c7.lt; replace cv := cv.below hbk cv.lt; replace cw := cw.below hbk cw.lt; replace cr := cr.below hbk cr.lt; replace hx := hx.below hbk; replace hy := hy.below hbk; replace hT := hT.below hbk; replace hr := hr; have hrl : (x3.cell? ⟨g7, 4, none⟩ = some (fv 90) ∧ x3.cell? ⟨g7, 1, none⟩ = some (cln b1 b2)) ∧ (x3.cell? ⟨w.heap.size + 1, 0, none⟩ = some (.bool false) ∧ x3.cell? ⟨w.heap.size + 1, 1, none⟩ = some (.slice A n c) ∧ x3.cell? ⟨w.heap.size + 1, 2, none⟩ = some (.slice B m e) ∧ x3.cell? ⟨w.heap.size + 1, 3, none⟩ = some (.int .i64 0) ∧ x3.cell? ⟨w.heap.size + 1, 4, none⟩ = some (.bool false) ∧ x3.cell? ⟨w.heap.size + 1, 5, none⟩ = some (.int .u64 0) ∧ x3.cell? ⟨w.heap.size + 1, 6, none⟩ = some (.slice none 0 0) ∧ x3.cell? ⟨w.heap.size + 1, 7, none⟩ = some (.slice none 0 0)) ∧ (x3.cell? ⟨w.heap.size + 1 + 1, 0, none⟩ = some (.bool false) ∧ x3.cell? ⟨w.heap.size + 1 + 1, 1, none⟩ = some (.slice A1 n1 c1) ∧ x3.cell? ⟨w.heap.size + 1 + 1, 2, none⟩ = some (.slice B1 m1 e1) ∧ x3.cell? ⟨w.heap.size + 1 + 1, 3, none⟩ = some (.int .i64 0) ∧ x3.cell? ⟨w.heap.size + 1 + 1, 4, none⟩ = some (.bool false) ∧ x3.cell? ⟨w.heap.size + 1 + 1, 5, none⟩ = some (.int .u64 0) ∧ x3.cell? ⟨w.heap.size + 1 + 1, 6, none⟩ = some (.slice none 0 0) ∧ x3.cell? ⟨w.heap.size + 1 + 1, 7, none⟩ = some (.slice none 0 0)) := ⟨⟨(c7).cell rfl, (c7).cell rfl⟩, (cv).c8, (cw).c8⟩; have hrl2 : (((((((((x3.setCell ⟨w.heap.size + 1 + 1 + 1, 0, none⟩ (.bool false)).setCell ⟨w.heap.size + 1 + 1 + 1, 1, none⟩ (.slice A2 n2 c2)).setCell ⟨w.heap.size + 1 + 1 + 1, 2, none⟩ (.slice B2 m2 e2)).setCell ⟨w.heap.size + 1 + 1 + 1, 3, none⟩ (.int .i64 0)).setCell ⟨w.heap.size + 1 + 1 + 1, 4, none⟩ (.bool false)).setCell ⟨w.heap.size + 1 + 1 + 1, 5, none⟩ (.int .u64 0)).setCell ⟨w.heap.size + 1 + 1 + 1, 6, none⟩ (.slice none 0 0)).setCell ⟨w.heap.size + 1 + 1 + 1, 7, none⟩ (.slice none 0 0)).cell? ⟨g7, 4, none⟩ = some (fv 90) ∧ ((((((((x3.setCell ⟨w.heap.size + 1 + 1 + 1, 0, none⟩ (.bool false)).setCell ⟨w.heap.size + 1 + 1 + 1, 1, none⟩ (.slice A2 n2 c2)).setCell ⟨w.heap.size + 1 + 1 + 1, 2, none⟩ (.slice B2 m2 e2)).setCell ⟨w.heap.size + 1 + 1 + 1, 3, none⟩ (.int .i64 0)).setCell ⟨w.heap.size + 1 + 1 + 1, 4, none⟩ (.bool false)).setCell ⟨w.heap.size + 1 + 1 + 1, 5, none⟩ (.int .u64 0)).setCell ⟨w.heap.size + 1 + 1 + 1, 6, none⟩ (.slice none 0 0)).setCell ⟨w.heap.size + 1 + 1 + 1, 7, none⟩ (.slice none 0 0)).cell? ⟨g7, 1, none⟩ = some (cln b1 b2)) ∧ (((((((((x3.setCell ⟨w.heap.size + 1 + 1 + 1, 0, none⟩ (.bool false)).setCell ⟨w.heap.size + 1 + 1 + 1, 1, none⟩ (.slice A2 n2 c2)).setCell ⟨w.heap.size + 1 + 1 + 1, 2, none⟩ (.slice B2 m2 e2)).setCell ⟨w.heap.size + 1 + 1 + 1, 3, none⟩ (.int .i64 0)).setCell ⟨w.heap.size + 1 + 1 + 1, 4, none⟩ (.bool false)).setCell ⟨w.heap.size + 1 + 1 + 1, 5, none⟩ (.int .u64 0)).setCell ⟨w.heap.size + 1 + 1 + 1, 6, none⟩ (.slice none 0 0)).setCell ⟨w.heap.size + 1 + 1 + 1, 7, none⟩ (.slice none 0 0)).cell? ⟨w.heap.size + 1, 0, none⟩ = some (.bool false) ∧ ((((((((x3.setCell ⟨w.heap.size + 1 + 1 + 1, 0, none⟩ (.bool false)).setCell ⟨w.heap.size + 1 + 1 + 1, 1, none⟩ (.slice A2 n2 c2)).setCell ⟨w.heap.size + 1 + 1 + 1, 2, none⟩ (.slice B2 m2 e2)).setCell ⟨w.heap.size + 1 + 1 + 1, 3, none⟩ (.int .i64 0)).setCell ⟨w.heap.size + 1 + 1 + 1, 4, none⟩ (.bool false)).setCell ⟨w.heap.size + 1 + 1 + 1, 5, none⟩ (.int .u64 0)).setCell ⟨w.heap.size + 1 + 1 + 1, 6, none⟩ (.slice none 0 0)).setCell ⟨w.heap.size + 1 + 1 + 1, 7, none⟩ (.slice none 0 0)).cell? ⟨w.heap.size + 1, 1, none⟩ = some (.slice A n c) ∧ ((((((((x3.setCell ⟨w.heap.size + 1 + 1 + 1, 0, none⟩ (.bool false)).setCell ⟨w.heap.size + 1 + 1 + 1, 1, none⟩ (.slice A2 n2 c2)).setCell ⟨w.heap.size + 1 + 1 + 1, 2, none⟩ (.slice B2 m2 e2)).setCell ⟨w.heap.size + 1 + 1 + 1, 3, none⟩ (.int .i64 0)).setCell ⟨w.heap.size + 1 + 1 + 1, 4, none⟩ (.bool false)).setCell ⟨w.heap.size + 1 + 1 + 1, 5, none⟩ (.int .u64 0)).setCell ⟨w.heap.size + 1 + 1 + 1, 6, none⟩ (.slice none 0 0)).setCell ⟨w.heap.size + 1 + 1 + 1, 7, none⟩ (.slice none 0 0)).cell? ⟨w.heap.size + 1, 2, none⟩ = some (.slice B m e) ∧ ((((((((x3.setCell ⟨w.heap.size + 1 + 1 + 1, 0, none⟩ (.bool false)).setCell ⟨w.heap.size + 1 + 1 + 1, 1, none⟩ (.slice A2 n2 c2)).setCell ⟨w.heap.size + 1 + 1 + 1, 2, none⟩ (.slice B2 m2 e2)).setCell ⟨w.heap.size + 1 + 1 + 1, 3, none⟩ (.int .i64 0)).setCell ⟨w.heap.size + 1 + 1 + 1, 4, none⟩ (.bool false)).setCell ⟨w.heap.size + 1 + 1 + 1, 5, none⟩ (.int .u64 0)).setCell ⟨w.heap.size + 1 + 1 + 1, 6, none⟩ (.slice none 0 0)).setCell ⟨w.heap.size + 1 + 1 + 1, 7, none⟩ (.slice none 0 0)).cell? ⟨w.heap.size + 1, 3, none⟩ = some (.int .i64 0) ∧ ((((((((x3.setCell ⟨w.heap.size + 1 + 1 + 1, 0, none⟩ (.bool false)).setCell ⟨w.heap.size + 1 + 1 + 1, 1, none⟩ (.slice A2 n2 c2)).setCell ⟨w.heap.size + 1 + 1 + 1, 2, none⟩ (.slice B2 m2 e2)).setCell ⟨w.heap.size + 1 + 1 + 1, 3, none⟩ (.int .i64 0)).setCell ⟨w.heap.size + 1 + 1 + 1, 4, none⟩ (.bool false)).setCell ⟨w.heap.size + 1 + 1 + 1, 5, none⟩ (.int .u64 0)).setCell ⟨w.heap.size + 1 + 1 + 1, 6, none⟩ (.slice none 0 0)).setCell ⟨w.heap.size + 1 + 1 + 1, 7, none⟩ (.slice none 0 0)).cell? ⟨w.heap.size + 1, 4, none⟩ = some (.bool false) ∧ ((((((((x3.setCell ⟨w.heap.size + 1 + 1 + 1, 0, none⟩ (.bool false)).setCell ⟨w.heap.size + 1 + 1 + 1, 1, none⟩ (.slice A2 n2 c2)).setCell ⟨w.heap.size + 1 + 1 + 1, 2, none⟩ (.slice B2 m2 e2)).setCell ⟨w.heap.size + 1 + 1 + 1, 3, none⟩ (.int .i64 0)).setCell ⟨w.heap.size + 1 + 1 + 1, 4, none⟩ (.bool false)).setCell ⟨w.heap.size + 1 + 1 + 1, 5, none⟩ (.int .u64 0)).setCell ⟨w.heap.size + 1 + 1 + 1, 6, none⟩ (.slice none 0 0)).setCell ⟨w.heap.size + 1 + 1 + 1, 7, none⟩ (.slice none 0 0)).cell? ⟨w.heap.size + 1, 5, none⟩ = some (.int .u64 0) ∧ ((((((((x3.setCell ⟨w.heap.size + 1 + 1 + 1, 0, none⟩ (.bool false)).setCell ⟨w.heap.size + 1 + 1 + 1, 1, none⟩ (.slice A2 n2 c2)).setCell ⟨w.heap.size + 1 + 1 + 1, 2, none⟩ (.slice B2 m2 e2)).setCell ⟨w.heap.size + 1 + 1 + 1, 3, none⟩ (.int .i64 0)).setCell ⟨w.heap.size + 1 + 1 + 1, 4, none⟩ (.bool false)).setCell ⟨w.heap.size + 1 + 1 + 1, 5, none⟩ (.int .u64 0)).setCell ⟨w.heap.size + 1 + 1 + 1, 6, none⟩ (.slice none 0 0)).setCell ⟨w.heap.size + 1 + 1 + 1, 7, none⟩ (.slice none 0 0)).cell? ⟨w.heap.size + 1, 6, none⟩ = some (.slice none 0 0) ∧ ((((((((x3.setCell ⟨w.heap.size + 1 + 1 + 1, 0, none⟩ (.bool false)).setCell ⟨w.heap.size + 1 + 1 + 1, 1, none⟩ (.slice A2 n2 c2)).setCell ⟨w.heap.size + 1 + 1 + 1, 2, none⟩ (.slice B2 m2 e2)).setCell ⟨w.heap.size + 1 + 1 + 1, 3, none⟩ (.int .i64 0)).setCell ⟨w.heap.size + 1 + 1 + 1, 4, none⟩ (.bool false)).setCell ⟨w.heap.size + 1 + 1 + 1, 5, none⟩ (.int .u64 0)).setCell ⟨w.heap.size + 1 + 1 + 1, 6, none⟩ (.slice none 0 0)).setCell ⟨w.heap.size + 1 + 1 + 1, 7, none⟩ (.slice none 0 0)).cell? ⟨w.heap.size + 1, 7, none⟩ = some (.slice none 0 0)) ∧ (((((((((x3.setCell ⟨w.heap.size + 1 + 1 + 1, 0, none⟩ (.bool false)).setCell ⟨w.heap.size + 1 + 1 + 1, 1, none⟩ (.slice A2 n2 c2)).setCell ⟨w.heap.size + 1 + 1 + 1, 2, none⟩ (.slice B2 m2 e2)).setCell ⟨w.heap.size + 1 + 1 + 1, 3, none⟩ (.int .i64 0)).setCell ⟨w.heap.size + 1 + 1 + 1, 4, none⟩ (.bool false)).setCell ⟨w.heap.size + 1 + 1 + 1, 5, none⟩ (.int .u64 0)).setCell ⟨w.heap.size + 1 + 1 + 1, 6, none⟩ (.slice none 0 0)).setCell ⟨w.heap.size + 1 + 1 + 1, 7, none⟩ (.slice none 0 0)).cell? ⟨w.heap.size + 1 + 1, 0, none⟩ = some (.bool false) ∧ ((((((((x3.setCell ⟨w.heap.size + 1 + 1 + 1, 0, none⟩ (.bool false)).setCell ⟨w.heap.size + 1 + 1 + 1, 1, none⟩ (.slice A2 n2 c2)).setCell ⟨w.heap.size + 1 + 1 + 1, 2, none⟩ (.slice B2 m2 e2)).setCell ⟨w.heap.size + 1 + 1 + 1, 3, none⟩ (.int .i64 0)).setCell ⟨w.heap.size + 1 + 1 + 1, 4, none⟩ (.bool false)).setCell ⟨w.heap.size + 1 + 1 + 1, 5, none⟩ (.int .u64 0)).setCell ⟨w.heap.size + 1 + 1 + 1, 6, none⟩ (.slice none 0 0)).setCell ⟨w.heap.size + 1 + 1 + 1, 7, none⟩ (.slice none 0 0)).cell? ⟨w.heap.size + 1 + 1, 1, none⟩ = some (.slice A1 n1 c1) ∧ ((((((((x3.setCell ⟨w.heap.size + 1 + 1 + 1, 0, none⟩ (.bool false)).setCell ⟨w.heap.size + 1 + 1 + 1, 1, none⟩ (.slice A2 n2 c2)).setCell ⟨w.heap.size + 1 + 1 + 1, 2, none⟩ (.slice B2 m2 e2)).setCell ⟨w.heap.size + 1 + 1 + 1, 3, none⟩ (.int .i64 0)).setCell ⟨w.heap.size + 1 + 1 + 1, 4, none⟩ (.bool false)).setCell ⟨w.heap.size + 1 + 1 + 1, 5, none⟩ (.int .u64 0)).setCell ⟨w.heap.size + 1 + 1 + 1, 6, none⟩ (.slice none 0 0)).setCell ⟨w.heap.size + 1 + 1 + 1, 7, none⟩ (.slice none 0 0)).cell? ⟨w.heap.size + 1 + 1, 2, none⟩ = some (.slice B1 m1 e1) ∧ ((((((((x3.setCell ⟨w.heap.size + 1 + 1 + 1, 0, none⟩ (.bool false)).setCell ⟨w.heap.size + 1 + 1 + 1, 1, none⟩ (.slice A2 n2 c2)).setCell ⟨w.heap.size + 1 + 1 + 1, 2, none⟩ (.slice B2 m2 e2)).setCell ⟨w.heap.size + 1 + 1 + 1, 3, none⟩ (.int .i64 0)).setCell ⟨w.heap.size + 1 + 1 + 1, 4, none⟩ (.bool false)).setCell ⟨w.heap.size + 1 + 1 + 1, 5, none⟩ (.int .u64 0)).setCell ⟨w.heap.size + 1 + 1 + 1, 6, none⟩ (.slice none 0 0)).setCell ⟨w.heap.size + 1 + 1 + 1, 7, none⟩ (.slice none 0 0)).cell? ⟨w.heap.size + 1 + 1, 3, none⟩ = some (.int .i64 0) ∧ ((((((((x3.setCell ⟨w.heap.size + 1 + 1 + 1, 0, none⟩ (.bool false)).setCell ⟨w.heap.size + 1 + 1 + 1, 1, none⟩ (.slice A2 n2 c2)).setCell ⟨w.heap.size + 1 + 1 + 1, 2, none⟩ (.slice B2 m2 e2)).setCell ⟨w.heap.size + 1 + 1 + 1, 3, none⟩ (.int .i64 0)).setCell ⟨w.heap.size + 1 + 1 + 1, 4, none⟩ (.bool false)).setCell ⟨w.heap.size + 1 + 1 + 1, 5, none⟩ (.int .u64 0)).setCell ⟨w.heap.size + 1 + 1 + 1, 6, none⟩ (.slice none 0 0)).setCell ⟨w.heap.size + 1 + 1 + 1, 7, none⟩ (.slice none 0 0)).cell? ⟨w.heap.size + 1 + 1, 4, none⟩ = some (.bool false) ∧ ((((((((x3.setCell ⟨w.heap.size + 1 + 1 + 1, 0, none⟩ (.bool false)).setCell ⟨w.heap.size + 1 + 1 + 1, 1, none⟩ (.slice A2 n2 c2)).setCell ⟨w.heap.size + 1 + 1 + 1, 2, none⟩ (.slice B2 m2 e2)).setCell ⟨w.heap.size + 1 + 1 + 1, 3, none⟩ (.int .i64 0)).setCell ⟨w.heap.size + 1 + 1 + 1, 4, none⟩ (.bool false)).setCell ⟨w.heap.size + 1 + 1 + 1, 5, none⟩ (.int .u64 0)).setCell ⟨w.heap.size + 1 + 1 + 1, 6, none⟩ (.slice none 0 0)).setCell ⟨w.heap.size + 1 + 1 + 1, 7, none⟩ (.slice none 0 0)).cell? ⟨w.heap.size + 1 + 1, 5, none⟩ = some (.int .u64 0) ∧ ((((((((x3.setCell ⟨w.heap.size + 1 + 1 + 1, 0, none⟩ (.bool false)).setCell ⟨w.heap.size + 1 + 1 + 1, 1, none⟩ (.slice A2 n2 c2)).setCell ⟨w.heap.size + 1 + 1 + 1, 2, none⟩ (.slice B2 m2 e2)).setCell ⟨w.heap.size + 1 + 1 + 1, 3, none⟩ (.int .i64 0)).setCell ⟨w.heap.size + 1 + 1 + 1, 4, none⟩ (.bool false)).setCell ⟨w.heap.size + 1 + 1 + 1, 5, none⟩ (.int .u64 0)).setCell ⟨w.heap.size + 1 + 1 + 1, 6, none⟩ (.slice none 0 0)).setCell ⟨w.heap.size + 1 + 1 + 1, 7, none⟩ (.slice none 0 0)).cell? ⟨w.heap.size + 1 + 1, 6, none⟩ = some (.slice none 0 0) ∧ ((((((((x3.setCell ⟨w.heap.size + 1 + 1 + 1, 0, none⟩ (.bool false)).setCell ⟨w.heap.size + 1 + 1 + 1, 1, none⟩ (.slice A2 n2 c2)).setCell ⟨w.heap.size + 1 + 1 + 1, 2, none⟩ (.slice B2 m2 e2)).setCell ⟨w.heap.size + 1 + 1 + 1, 3, none⟩ (.int .i64 0)).setCell ⟨w.heap.size + 1 + 1 + 1, 4, none⟩ (.bool false)).setCell ⟨w.heap.size + 1 + 1 + 1, 5, none⟩ (.int .u64 0)).setCell ⟨w.heap.size + 1 + 1 + 1, 6, none⟩ (.slice none 0 0)).setCell ⟨w.heap.size + 1 + 1 + 1, 7, none⟩ (.slice none 0 0)).cell? ⟨w.heap.size + 1 + 1, 7, none⟩ = some (.slice none 0 0)) := ⟨⟨(cs_far8 c7 (by omega) (.bool false) (.slice A2 n2 c2) (.slice B2 m2 e2) (.int .i64 0) (.bool false) (.int .u64 0) (.slice none 0 0) (.slice none 0 0)).cell rfl, (cs_far8 c7 (by omega) (.bool false) (.slice A2 n2 c2) (.slice B2 m2 e2) (.int .i64 0) (.bool false) (.int .u64 0) (.slice none 0 0) (.slice none 0 0)).cell rfl⟩, (cs_far8 cv (by omega) (.bool false) (.slice A2 n2 c2) (.slice B2 m2 e2) (.int .i64 0) (.bool false) (.int .u64 0) (.slice none 0 0) (.slice none 0 0)).c8, (cs_far8 cw (by omega) (.bool false) (.slice A2 n2 c2) (.slice B2 m2 e2) (.int .i64 0) (.bool false) (.int .u64 0) (.slice none 0 0) (.slice none 0 0)).c8⟩; obtain ⟨u0, u1, u2, u3, u4, u5, u6, u7⟩ := cr.c8; obtain ⟨f0, f1, f2, f3, f4, f5, f6, f7⟩ := cr.f8)
      | (have _g := mk1; go_at_call 128; refine (cln_chance A1 B1 n1 c1 m1 e1 y Y b1 b2 _ hT hy sy HY hY hC).mono ?_; rintro e0 x2 ⟨rfl, hbk⟩; replace hb0 := hb0.trans (hbk.mono hb0.size); replace c7 := c7.below hbk c7.lt; replace cv := cv.below hbk cv.lt; replace cw := cw.below hbk cw.lt; replace cr := cr.below hbk cr.lt; replace hx := hx.below hbk; replace hy := hy.below hbk; replace hT := hT.below hbk; have mk2 := Lib.hid (rfl : 1 = 1); have hrl : (x2.cell? ⟨g7, 4, none⟩ = some (fv 90) ∧ x2.cell? ⟨g7, 1, none⟩ = some (cln b1 b2)) ∧ (x2.cell? ⟨w.heap.size + 1, 0, none⟩ = some (.bool false) ∧ x2.cell? ⟨w.heap.size + 1, 1, none⟩ = some (.slice A n c) ∧ x2.cell? ⟨w.heap.size + 1, 2, none⟩ = some (.slice B m e) ∧ x2.cell? ⟨w.heap.size + 1, 3, none⟩ = some (.int .i64 0) ∧ x2.cell? ⟨w.heap.size + 1, 4, none⟩ = some (.bool false) ∧ x2.cell? ⟨w.heap.size + 1, 5, none⟩ = some (.int .u64 0) ∧ x2.cell? ⟨w.heap.size + 1, 6, none⟩ = some (.slice none 0 0) ∧ x2.cell? ⟨w.heap.size + 1, 7, none⟩ = some (.slice none 0 0)) ∧ (x2.cell? ⟨w.heap.size + 1 + 1, 0, none⟩ = some (.bool false) ∧ x2.cell? ⟨w.heap.size + 1 + 1, 1, none⟩ = some (.slice A1 n1 c1) ∧ x2.cell? ⟨w.heap.size + 1 + 1, 2, none⟩ = some (.slice B1 m1 e1) ∧ x2.cell? ⟨w.heap.size + 1 + 1, 3, none⟩ = some (.int .i64 0) ∧ x2.cell? ⟨w.heap.size + 1 + 1, 4, none⟩ = some (.bool false) ∧ x2.cell? ⟨w.heap.size + 1 + 1, 5, none⟩ = some (.int .u64 0) ∧ x2.cell? ⟨w.heap.size + 1 + 1, 6, none⟩ = some (.slice none 0 0) ∧ x2.cell? ⟨w.heap.size + 1 + 1, 7, none⟩ = some (.slice none 0 0)) := ⟨⟨(c7).cell rfl, (c7).cell rfl⟩, (cv).c8, (cw).c8⟩)
      | (go_at_call 128; refine (cln_chance A B n c m e x X b1 b2 _ hT hx sx HX hX hC).mono ?_; rintro e0 x1 ⟨rfl, hbk⟩; replace hC : VCl x1 b1 b2 := Cl.below hC hbk; replace hb0 := hb0.trans (hbk.mono hb0.size); replace c7 := c7.below hbk c7.lt; replace cv := cv.below hbk cv.lt; replace cw := cw.below hbk cw.lt; replace cr := cr.below hbk cr.lt; replace hx := hx.below hbk; replace hy := hy.below hbk; replace hT := hT.below hbk; have mk1 := Lib.hid (rfl : 1 = 1); have hrl : (x1.cell? ⟨g7, 4, none⟩ = some (fv 90) ∧ x1.cell? ⟨g7, 1, none⟩ = some (cln b1 b2)) ∧ (x1.cell? ⟨w.heap.size + 1, 0, none⟩ = some (.bool false) ∧ x1.cell? ⟨w.heap.size + 1, 1, none⟩ = some (.slice A n c) ∧ x1.cell? ⟨w.heap.size + 1, 2, none⟩ = some (.slice B m e) ∧ x1.cell? ⟨w.heap.size + 1, 3, none⟩ = some (.int .i64 0) ∧ x1.cell? ⟨w.heap.size + 1, 4, none⟩ = some (.bool false) ∧ x1.cell? ⟨w.heap.size + 1, 5, none⟩ = some (.int .u64 0) ∧ x1.cell? ⟨w.heap.size + 1, 6, none⟩ = some (.slice none 0 0) ∧ x1.cell? ⟨w.heap.size + 1, 7, none⟩ = some (.slice none 0 0)) ∧ (x1.cell? ⟨w.heap.size + 1 + 1, 0, none⟩ = some (.bool false) ∧ x1.cell? ⟨w.heap.size + 1 + 1, 1, none⟩ = some (.slice A1 n1 c1) ∧ x1.cell? ⟨w.heap.size + 1 + 1, 2, none⟩ = some (.slice B1 m1 e1) ∧ x1.cell? ⟨w.heap.size + 1 + 1, 3, none⟩ = some (.int .i64 0) ∧ x1.cell? ⟨w.heap.size + 1 + 1, 4, none⟩ = some (.bool false) ∧ x1.cell? ⟨w.heap.size + 1 + 1, 5, none⟩ = some (.int .u64 0) ∧ x1.cell? ⟨w.heap.size + 1 + 1, 6, none⟩ = some (.slice none 0 0) ∧ x1.cell? ⟨w.heap.size + 1 + 1, 7, none⟩ = some (.slice none 0 0)) := ⟨⟨(c7).cell rfl, (c7).cell rfl⟩, (cv).c8, (cw).c8⟩)
      | fail)
  go_wp2_with fail
  refine ret_cs (l := [.bool false, .slice A2 n2 c2, .slice B2 m2 e2, .int .i64 0, .bool false, .int .u64 0, .slice none 0 0, .slice none 0 0]) Tryz.results5 Tryz.underlying32 (by kernel_rfl) rfl (cs_own8 cr rfl _ _ _ _ _ _ _ _) rfl ?_
  exact ⟨A2, n2, c2, B2, m2, e2, rfl, hr.s8 cr (by simp) _ _ _ _ _ _ _ _, below_s8 hb0 (by omega) _ _ _ _ _ _ _ _⟩

set_option maxRecDepth 20000 in
set_option maxHeartbeats 4000000 in
theorem Times_chance (A B A1 B1 : Option Addr) (n c m e n1 c1 m1 e1 : Nat) (x y : Rat) (X Y : Int) (r : Rat) (HR : Hid (x * y = r)) (w : World) (hT : Tab w) (hx : RatQ w (.agg #[.bool false, .slice A n c, .slice B m e]) x) (hy : RatQ w (.agg #[.bool false, .slice A1 n1 c1, .slice B1 m1 e1]) y) (sx : Sz x 100000) (sy : Sz y 100000) (HX : Hid (cmpQ x 1 = X)) (hX : X ≤ 0) (HY : Hid (cmpQ y 1 = Y)) (hY : Y ≤ 0) : Calls Tryz.prog 9 #[.agg #[.int .i64 3, .slice none 0 0], aw (.bool false) (.slice A n c) (.slice B m e) 0 false, aw (.bool false) (.slice A1 n1 c1) (.slice B1 m1 e1) 0 false] w (fun e0 w' => ∃ nr A2 n2 c2 B2 m2 e2, e0 = .returned (aw (.bool nr) (.slice A2 n2 c2) (.slice B2 m2 e2) 0 false) ∧ RatQ w' (.agg #[.bool nr, .slice A2 n2 c2, .slice B2 m2 e2]) r ∧ Below w.heap.size w w') := by
  obtain ⟨hb0, c0, cv, cw, cr⟩ := blk4 w [.int .i64 3, .slice none 0 0] [.bool false, .slice A n c, .slice B m e, .int .i64 0, .bool false, .int .u64 0, .slice none 0 0, .slice none 0 0] [.bool false, .slice A1 n1 c1, .slice B1 m1 e1, .int .i64 0, .bool false, .int .u64 0, .slice none 0 0, .slice none 0 0] [.bool false, .slice none 0 0, .slice none 0 0, .int .i64 0, .bool false, .int .u64 0, .slice none 0 0, .slice none 0 0] 24 32 32 32
  replace hx := hx.below hb0
  replace hy := hy.below hb0
  replace hT := hT.below hb0
  go_enter Tryz.func9, Tryz.ntmps9
  go_wp2_with fail
  generalize ((((w.alloc (.cells #[.int .i64 3, .slice none 0 0] 24)).alloc (.cells #[.bool false, .slice A n c, .slice B m e, .int .i64 0, .bool false, .int .u64 0, .slice none 0 0, .slice none 0 0] 32)).alloc (.cells #[.bool false, .slice A1 n1 c1, .slice B1 m1 e1, .int .i64 0, .bool false, .int .u64 0, .slice none 0 0, .slice none 0 0] 32)).alloc (W8t 0 false)) = W0 at *
  refine (find_chance _).mono ?_
  rintro e0 w1 ⟨b1, b2, bu, rfl, hC, hb1⟩
  replace hx := hx.below hb1
  replace hy := hy.below hb1
  replace hT := hT.below hb1
  replace hb0 := hb0.trans (hb1.mono hb0.size)
  replace c0 := c0.below hb1 c0.lt
  replace cv := cv.below hb1 cv.lt
  replace cw := cw.below hb1 cw.lt
  replace cr := cr.below hb1 cr.lt
  clear hb1
  have n7 := cr.lt
  go_wp2_with fail
  have c7 := Cs.new w1 (vopsL b1 b2 bu) 55
  have hal : Below w1.heap.size w1 (w1.alloc (.cells (vopsL b1 b2 bu).toArray 55)) := (Below.refl _ _).alloc (Nat.le_refl _) _
  replace hb0 := hb0.trans (hal.mono hb0.size)
  replace hC : VCl (w1.alloc (.cells (vopsL b1 b2 bu).toArray 55)) b1 b2 := Cl.below hC hal
  replace cv := cv.below hal cv.lt
  replace cw := cw.below hal cw.lt
  replace cr := cr.below hal cr.lt
  replace hx := hx.below hal
  replace hy := hy.below hal
  replace hT := hT.below hal
  clear c0 hal
  generalize (w1.alloc (.cells #[fv 89, cln b1 b2, fv 80, fv 87, fv 90, fv 91, .func (.func 92) #[] #[.pointer (some ⟨bu, 0, none⟩)], fv 93, fv 94, fv 96] 55)) = W at *
  generalize w1.heap.size = g7 at *
  replace hb0 := hb0.drew
  replace hC : VCl W.drew b1 b2 := Cl.drew hC
  replace c7 := c7.drew
  replace cv := cv.drew
  replace cw := cw.drew
  replace cr := cr.drew
  replace hx : RatQ W.drew _ x := hx.below (Below.refl _ _).drew
  replace hy : RatQ W.drew _ y := hy.below (Below.refl _ _).drew
  replace hT := hT.drew
  have hrl : (W.drew.cell? ⟨g7, 5, none⟩ = some (fv 91) ∧ W.drew.cell? ⟨g7, 1, none⟩ = some (cln b1 b2)) ∧ (W.drew.cell? ⟨w.heap.size + 1, 0, none⟩ = some (.bool false) ∧ W.drew.cell? ⟨w.heap.size + 1, 1, none⟩ = some (.slice A n c) ∧ W.drew.cell? ⟨w.heap.size + 1, 2, none⟩ = some (.slice B m e) ∧ W.drew.cell? ⟨w.heap.size + 1, 3, none⟩ = some (.int .i64 0) ∧ W.drew.cell? ⟨w.heap.size + 1, 4, none⟩ = some (.bool false) ∧ W.drew.cell? ⟨w.heap.size + 1, 5, none⟩ = some (.int .u64 0) ∧ W.drew.cell? ⟨w.heap.size + 1, 6, none⟩ = some (.slice none 0 0) ∧ W.drew.cell? ⟨w.heap.size + 1, 7, none⟩ = some (.slice none 0 0)) ∧ (W.drew.cell? ⟨w.heap.size + 1 + 1, 0, none⟩ = some (.bool false) ∧ W.drew.cell? ⟨w.heap.size + 1 + 1, 1, none⟩ = some (.slice A1 n1 c1) ∧ W.drew.cell? ⟨w.heap.size + 1 + 1, 2, none⟩ = some (.slice B1 m1 e1) ∧ W.drew.cell? ⟨w.heap.size + 1 + 1, 3, none⟩ = some (.int .i64 0) ∧ W.drew.cell? ⟨w.heap.size + 1 + 1, 4, none⟩ = some (.bool false) ∧ W.drew.cell? ⟨w.heap.size + 1 + 1, 5, none⟩ = some (.int .u64 0) ∧ W.drew.cell? ⟨w.heap.size + 1 + 1, 6, none⟩ = some (.slice none 0 0) ∧ W.drew.cell? ⟨w.heap.size + 1 + 1, 7, none⟩ = some (.slice none 0 0)) := ⟨⟨(c7).cell rfl, (c7).cell rfl⟩, (cv).c8, (cw).c8⟩
  go_region_held3 (fun w' => (w'.cell? ⟨g7, 5, none⟩ = some (fv 91) ∧ w'.cell? ⟨g7, 1, none⟩ = some (cln b1 b2)) ∧ (w'.cell? ⟨w.heap.size + 1, 0, none⟩ = some (.bool false) ∧ w'.cell? ⟨w.heap.size + 1, 1, none⟩ = some (.slice A n c) ∧ w'.cell? ⟨w.heap.size + 1, 2, none⟩ = some (.slice B m e) ∧ w'.cell? ⟨w.heap.size + 1, 3, none⟩ = some (.int .i64 0) ∧ w'.cell? ⟨w.heap.size + 1, 4, none⟩ = some (.bool false) ∧ w'.cell? ⟨w.heap.size + 1, 5, none⟩ = some (.int .u64 0) ∧ w'.cell? ⟨w.heap.size + 1, 6, none⟩ = some (.slice none 0 0) ∧ w'.cell? ⟨w.heap.size + 1, 7, none⟩ = some (.slice none 0 0)) ∧ (w'.cell? ⟨w.heap.size + 1 + 1, 0, none⟩ = some (.bool false) ∧ w'.cell? ⟨w.heap.size + 1 + 1, 1, none⟩ = some (.slice A1 n1 c1) ∧ w'.cell? ⟨w.heap.size + 1 + 1, 2, none⟩ = some (.slice B1 m1 e1) ∧ w'.cell? ⟨w.heap.size + 1 + 1, 3, none⟩ = some (.int .i64 0) ∧ w'.cell? ⟨w.heap.size + 1 + 1, 4, none⟩ = some (.bool false) ∧ w'.cell? ⟨w.heap.size + 1 + 1, 5, none⟩ = some (.int .u64 0) ∧ w'.cell? ⟨w.heap.size + 1 + 1, 6, none⟩ = some (.slice none 0 0) ∧ w'.cell? ⟨w.heap.size + 1 + 1, 7, none⟩ = some (.slice none 0 0)))
    (first | with_reducible exact hrl | with_reducible exact hrl2 | fail)
    (first
      | (have _g := mk2; go_at_call 91; refine (timesNumbers_any false false A B A1 B1 n c m e n1 c1 m1 e1 x y r _ hT hx hy sx sy HR.out).mono ?_; rintro e0 x3 ⟨v, rfl, hN, hbk⟩; replace hb0 := hb0.trans (hbk.mono hb0.size); replace c7 := c7.below hbk c7.lt; replace cv := cv.below hbk cv.lt; replace cw := cw.below hbk cw.lt; replace cr := cr.below hbk cr.lt; replace hx := hx.below hbk; replace hy := hy.below hbk; replace hT := hT.below hbk; obtain ⟨nr, A2, n2, c2, B2, m2, e2, rfl, hr⟩ := hN; have hrl : (x3.cell? ⟨g7, 5, none⟩ = some (fv 91) ∧ x3.cell? ⟨g7, 1, none⟩ = some (cln b1 b2)) ∧ (x3.cell? ⟨w.heap.size + 1, 0, none⟩ = some (.bool false) ∧ x3.cell? ⟨w.heap.size + 1, 1, none⟩ = some (.slice A n c) ∧ x3.cell? ⟨w.heap.size + 1, 2, none⟩ = some (.slice B m e) ∧ x3.cell? ⟨w.heap.size + 1, 3, none⟩ = some (.int .i64 0) ∧ x3.cell? ⟨w.heap.size + 1, 4, none⟩ = some (.bool false) ∧ x3.cell? ⟨w.heap.size + 1, 5, none⟩ = some (.int .u64 0) ∧ x3.cell? ⟨w.heap.size + 1, 6, none⟩ = some (.slice none 0 0) ∧ x3.cell? ⟨w.heap.size + 1, 7, none⟩ = some (.slice none 0 0)) ∧ (x3.cell? ⟨w.heap.size + 1 + 1, 0, none⟩ = some (.bool false) ∧ x3.cell? ⟨w.heap.size + 1 + 1, 1, none⟩ = some (.slice A1 n1 c1) ∧ x3.cell? ⟨w.heap.size + 1 + 1, 2, none⟩ = some (.slice B1 m1 e1) ∧ x3.cell? ⟨w.heap.size + 1 + 1, 3, none⟩ = some (.int .i64 0) ∧ x3.cell? ⟨w.heap.size + 1 + 1, 4, none⟩ = some (.bool false) ∧ x3.cell? ⟨w.heap.size + 1 + 1, 5, none⟩ = some (.int .u64 0) ∧ x3.cell? ⟨w.heap.size + 1 + 1, 6, none⟩ = some (.slice none 0 0) ∧ x3.cell? ⟨w.heap.size + 1 + 1, 7, none⟩ = some (.slice none 0 0)) := ⟨⟨(c7).cell rfl, (c7).cell rfl⟩, (cv).c8, (cw).c8⟩; have hrl2 : (((((((((x3.setCell ⟨w.heap.size + 1 + 1 + 1, 0, none⟩ (.bool nr)).setCell ⟨w.heap.size + 1 + 1 + 1, 1, none⟩ (.slice A2 n2 c2)).setCell ⟨w.heap.size + 1 + 1 + 1, 2, none⟩ (.slice B2 m2 e2)).setCell ⟨w.heap.size + 1 + 1 + 1, 3, none⟩ (.int .i64 0)).setCell ⟨w.heap.size + 1 + 1 + 1, 4, none⟩ (.bool false)).setCell ⟨w.heap.size + 1 + 1 + 1, 5, none⟩ (.int .u64 0)).setCell ⟨w.heap.size + 1 + 1 + 1, 6, none⟩ (.slice none 0 0)).setCell ⟨w.heap.size + 1 + 1 + 1, 7, none⟩ (.slice none 0 0)).cell? ⟨g7, 5, none⟩ = some (fv 91) ∧ ((((((((x3.setCell ⟨w.heap.size + 1 + 1 + 1, 0, none⟩ (.bool nr)).setCell ⟨w.heap.size + 1 + 1 + 1, 1, none⟩ (.slice A2 n2 c2)).setCell ⟨w.heap.size + 1 + 1 + 1, 2, none⟩ (.slice B2 m2 e2)).setCell ⟨w.heap.size + 1 + 1 + 1, 3, none⟩ (.int .i64 0)).setCell ⟨w.heap.size + 1 + 1 + 1, 4, none⟩ (.bool false)).setCell ⟨w.heap.size + 1 + 1 + 1, 5, none⟩ (.int .u64 0)).setCell ⟨w.heap.size + 1 + 1 + 1, 6, none⟩ (.slice none 0 0)).setCell ⟨w.heap.size + 1 + 1 + 1, 7, none⟩ (.slice none 0 0)).cell? ⟨g7, 1, none⟩ = some (cln b1 b2)) ∧ (((((((((x3.setCell ⟨w.heap.size + 1 + 1 + 1, 0, none⟩ (.bool nr)).setCell ⟨w.heap.size + 1 + 1 + 1, 1, none⟩ (.slice A2 n2 c2)).setCell ⟨w.heap.size + 1 + 1 + 1, 2, none⟩ (.slice B2 m2 e2)).setCell ⟨w.heap.size + 1 + 1 + 1, 3, none⟩ (.int .i64 0)).setCell ⟨w.heap.size + 1 + 1 + 1, 4, none⟩ (.bool false)).setCell ⟨w.heap.size + 1 + 1 + 1, 5, none⟩ (.int .u64 0)).setCell ⟨w.heap.size + 1 + 1 + 1, 6, none⟩ (.slice none 0 0)).setCell ⟨w.heap.size + 1 + 1 + 1, 7, none⟩ (.slice none 0 0)).cell? ⟨w.heap.size + 1, 0, none⟩ = some (.bool false) ∧ ((((((((x3.setCell ⟨w.heap.size + 1 + 1 + 1, 0, none⟩ (.bool nr)).setCell ⟨w.heap.size + 1 + 1 + 1, 1, none⟩ (.slice A2 n2 c2)).setCell ⟨w.heap.size + 1 + 1 + 1, 2, none⟩ (.slice B2 m2 e2)).setCell ⟨w.heap.size + 1 + 1 + 1, 3, none⟩ (.int .i64 0)).setCell ⟨w.heap.size + 1 + 1 + 1, 4, none⟩ (.bool false)).setCell ⟨w.heap.size + 1 + 1 + 1, 5, none⟩ (.int .u64 0)).setCell ⟨w.heap.size + 1 + 1 + 1, 6, none⟩ (.slice none 0 0)).setCell ⟨w.heap.size + 1 + 1 + 1, 7, none⟩ (.slice none 0 0)).cell? ⟨w.heap.size + 1, 1, none⟩ = some (.slice A n c) ∧ ((((((((x3.setCell ⟨w.heap.size + 1 + 1 + 1, 0, none⟩ (.bool nr)).setCell ⟨w.heap.size + 1 + 1 + 1, 1, none⟩ (.slice A2 n2 c2)).setCell ⟨w.heap.size + 1 + 1 + 1, 2, none⟩ (.slice B2 m2 e2)).setCell ⟨w.heap.size + 1 + 1 + 1, 3, none⟩ (.int .i64 0)).setCell ⟨w.heap.size + 1 + 1 + 1, 4, none⟩ (.bool false)).setCell ⟨w.heap.size + 1 + 1 + 1, 5, none⟩ (.int .u64 0)).setCell ⟨w.heap.size + 1 + 1 + 1, 6, none⟩ (.slice none 0 0)).setCell ⟨w.heap.size + 1 + 1 + 1, 7, none⟩ (.slice none 0 0)).cell? ⟨w.heap.size + 1, 2, none⟩ = some (.slice B m e) ∧ ((((((((x3.setCell ⟨w.heap.size + 1 + 1 + 1, 0, none⟩ (.bool nr)).setCell ⟨w.heap.size + 1 + 1 + 1, 1, none⟩ (.slice A2 n2 c2)).setCell ⟨w.heap.size + 1 + 1 + 1, 2, none⟩ (.slice B2 m2 e2)).setCell ⟨w.heap.size + 1 + 1 + 1, 3, none⟩ (.int .i64 0)).setCell ⟨w.heap.size + 1 + 1 + 1, 4, none⟩ (.bool false)).setCell ⟨w.heap.size + 1 + 1 + 1, 5, none⟩ (.int .u64 0)).setCell ⟨w.heap.size + 1 + 1 + 1, 6, none⟩ (.slice none 0 0)).setCell ⟨w.heap.size + 1 + 1 + 1, 7, none⟩ (.slice none 0 0)).cell? ⟨w.heap.size + 1, 3, none⟩ = some (.int .i64 0) ∧ ((((((((x3.setCell ⟨w.heap.size + 1 + 1 + 1, 0, none⟩ (.bool nr)).setCell ⟨w.heap.size + 1 + 1 + 1, 1, none⟩ (.slice A2 n2 c2)).setCell ⟨w.heap.size + 1 + 1 + 1, 2, none⟩ (.slice B2 m2 e2)).setCell ⟨w.heap.size + 1 + 1 + 1, 3, none⟩ (.int .i64 0)).setCell ⟨w.heap.size + 1 + 1 + 1, 4, none⟩ (.bool false)).setCell ⟨w.heap.size + 1 + 1 + 1, 5, none⟩ (.int .u64 0)).setCell ⟨w.heap.size + 1 + 1 + 1, 6, none⟩ (.slice none 0 0)).setCell ⟨w.heap.size + 1 + 1 + 1, 7, none⟩ (.slice none 0 0)).cell? ⟨w.heap.size + 1, 4, none⟩ = some (.bool false) ∧ ((((((((x3.setCell ⟨w.heap.size + 1 + 1 + 1, 0, none⟩ (.bool nr)).setCell ⟨w.heap.size + 1 + 1 + 1, 1, none⟩ (.slice A2 n2 c2)).setCell ⟨w.heap.size + 1 + 1 + 1, 2, none⟩ (.slice B2 m2 e2)).setCell ⟨w.heap.size + 1 + 1 + 1, 3, none⟩ (.int .i64 0)).setCell ⟨w.heap.size + 1 + 1 + 1, 4, none⟩ (.bool false)).setCell ⟨w.heap.size + 1 + 1 + 1, 5, none⟩ (.int .u64 0)).setCell ⟨w.heap.size + 1 + 1 + 1, 6, none⟩ (.slice none 0 0)).setCell ⟨w.heap.size + 1 + 1 + 1, 7, none⟩ (.slice none 0 0)).cell? ⟨w.heap.size + 1, 5, none⟩ = some (.int .u64 0) ∧ ((((((((x3.setCell ⟨w.heap.size + 1 + 1 + 1, 0, none⟩ (.bool nr)).setCell ⟨w.heap.size + 1 + 1 + 1, 1, none⟩ (.slice A2 n2 c2)).setCell ⟨w.heap.size + 1 + 1 + 1, 2, none⟩ (.slice B2 m2 e2)).setCell ⟨w.heap.size + 1 + 1 + 1, 3, none⟩ (.int .i64 0)).setCell ⟨w.heap.size + 1 + 1 + 1, 4, none⟩ (.bool false)).setCell ⟨w.heap.size + 1 + 1 + 1, 5, none⟩ (.int .u64 0)).setCell ⟨w.heap.size + 1 + 1 + 1, 6, none⟩ (.slice none 0 0)).setCell ⟨w.heap.size + 1 + 1 + 1, 7, none⟩ (.slice none 0 0)).cell? ⟨w.heap.size + 1, 6, none⟩ = some (.slice none 0 0) ∧ ((((((((x3.setCell ⟨w.heap.size + 1 + 1 + 1, 0, none⟩ (.bool nr)).setCell ⟨w.heap.size + 1 + 1 + 1, 1, none⟩ (.slice A2 n2 c2)).setCell ⟨w.heap.size + 1 + 1 + 1, 2, none⟩ (.slice B2 m2 e2)).setCell ⟨w.heap.size + 1 + 1 + 1, 3, none⟩ (.int .i64 0)).setCell ⟨w.heap.size + 1 + 1 + 1, 4, none⟩ (.bool false)).setCell ⟨w.heap.size + 1 + 1 + 1, 5, none⟩ (.int .u64 0)).setCell ⟨w.heap.size + 1 + 1 + 1, 6, none⟩ (.slice none 0 0)).setCell ⟨w.heap.size + 1 + 1 + 1, 7, none⟩ (.slice none 0 0)).cell? ⟨w.heap.size + 1, 7, none⟩ = some (.slice none 0 0)) ∧ (((((((((x3.setCell ⟨w.heap.size + 1 + 1 + 1, 0, none⟩ (.bool nr)).setCell ⟨w.heap.size + 1 + 1 + 1, 1, none⟩ (.slice A2 n2 c2)).setCell ⟨w.heap.size + 1 + 1 + 1, 2, none⟩ (.slice B2 m2 e2)).setCell ⟨w.heap.size + 1 + 1 + 1, 3, none⟩ (.int .i64 0)).setCell ⟨w.heap.size + 1 + 1 + 1, 4, none⟩ (.bool false)).setCell ⟨w.heap.size + 1 + 1 + 1, 5, none⟩ (.int .u64 0)).setCell ⟨w.heap.size + 1 + 1 + 1, 6, none⟩ (.slice none 0 0)).setCell ⟨w.heap.size + 1 + 1 + 1, 7, none⟩ (.slice none 0 0)).cell? ⟨w.heap.size + 1 + 1, 0, none⟩ = some (.bool false) ∧ ((((((((x3.setCell ⟨w.heap.size + 1 + 1 + 1, 0, none⟩ (.bool nr)).setCell ⟨w.heap.size + 1 + 1 + 1, 1, none⟩ (.slice A2 n2 c2)).setCell ⟨w.heap.size + 1 + 1 + 1, 2, none⟩ (.slice B2 m2 e2)).setCell ⟨w.heap.size + 1 + 1 + 1, 3, none⟩ (.int .i64 0)).setCell ⟨w.heap.size + 1 + 1 + 1, 4, none⟩ (.bool false)).setCell ⟨w.heap.size + 1 + 1 + 1, 5, none⟩ (.int .u64 0)).setCell ⟨w.heap.size + 1 + 1 + 1, 6, none⟩ (.slice none 0 0)).setCell ⟨w.heap.size + 1 + 1 + 1, 7, none⟩ (.slice none 0 0)).cell? ⟨w.heap.size + 1 + 1, 1, none⟩ = some (.slice A1 n1 c1) ∧ ((((((((x3.setCell ⟨w.heap.size + 1 + 1 + 1, 0, none⟩ (.bool nr)).setCell ⟨w.heap.size + 1 + 1 + 1, 1, none⟩ (.slice A2 n2 c2)).setCell ⟨w.heap.size + 1 + 1 + 1, 2, none⟩ (.slice B2 m2 e2)).setCell ⟨w.heap.size + 1 + 1 + 1, 3, none⟩ (.int .i64 0)).setCell ⟨w.heap.size + 1 + 1 + 1, 4, none⟩ (.bool false)).setCell ⟨w.heap.size + 1 + 1 + 1, 5, none⟩ (.int .u64 0)).setCell ⟨w.heap.size + 1 + 1 + 1, 6, none⟩ (.slice none 0 0)).setCell ⟨w.heap.size + 1 + 1 + 1, 7, none⟩ (.slice none 0 0)).cell? ⟨w.heap.size + 1 + 1, 2, none⟩ = some (.slice B1 m1 e1) ∧ ((((((((x3.setCell ⟨w.heap.size + 1 + 1 + 1, 0, none⟩ (.bool nr)).setCell ⟨w.heap.size + 1 + 1 + 1, 1, none⟩ (.slice A2 n2 c2)).setCell ⟨w.heap.size + 1 + 1 + 1, 2, none⟩ (.slice B2 m2 e2)).setCell ⟨w.heap.size + 1 + 1 + 1, 3, none⟩ (.int .i64 0)).setCell ⟨w.heap.size + 1 + 1 + 1, 4, none⟩ (.bool false)).setCell ⟨w.heap.size + 1 + 1 + 1, 5, none⟩ (.int .u64 0)).setCell ⟨w.heap.size + 1 + 1 + 1, 6, none⟩ (.slice none 0 0)).setCell ⟨w.heap.size + 1 + 1 + 1, 7, none⟩ (.slice none 0 0)).cell? ⟨w.heap.size + 1 + 1, 3, none⟩ = some (.int .i64 0) ∧ ((((((((x3.setCell ⟨w.heap.size + 1 + 1 + 1, 0, none⟩ (.bool nr)).setCell ⟨w.heap.size + 1 + 1 + 1, 1, none⟩ (.slice A2 n2 c2)).setCell ⟨w.heap.size + 1 + 1 + 1, 2, none⟩ (.slice B2 m2 e2)).setCell ⟨w.heap.size + 1 + 1 + 1, 3, none⟩ (.int .i64 0)).setCell ⟨w.heap.size + 1 + 1 + 1, 4, none⟩ (.bool false)).setCell ⟨w.heap.size + 1 + 1 + 1, 5, none⟩ (.int .u64 0)).setCell ⟨w.heap.size + 1 + 1 + 1, 6, none⟩ (.slice none 0 0)).setCell ⟨w.heap.size + 1 + 1 + 1, 7, none⟩ (.slice none 0 0)).cell? ⟨w.heap.size + 1 + 1, 4, none⟩ = some (.bool false) ∧ ((((((((x3.setCell ⟨w.heap.size + 1 + 1 + 1, 0, none⟩ (.bool nr)).setCell ⟨w.heap.size + 1 + 1 + 1, 1, none⟩ (.slice A2 n2 c2)).setCell ⟨w.heap.size + 1 + 1 + 1, 2, none⟩ (.slice B2 m2 e2)).setCell ⟨w.heap.size + 1 + 1 + 1, 3, none⟩ (.int .i64 0)).setCell ⟨w.heap.size + 1 + 1 + 1, 4, none⟩ (.bool false)).setCell ⟨w.heap.size + 1 + 1 + 1, 5, none⟩ (.int .u64 0)).setCell ⟨w.heap.size + 1 + 1 + 1, 6, none⟩ (.slice none 0 0)).setCell ⟨w.heap.size + 1 + 1 + 1, 7, none⟩ (.slice none 0 0)).cell? ⟨w.heap.size + 1 + 1, 5, none⟩ = some (.int .u64 0) ∧ ((((((((x3.setCell ⟨w.heap.size + 1 + 1 + 1, 0, none⟩ (.bool nr)).setCell ⟨w.heap.size + 1 + 1 + 1, 1, none⟩ (.slice A2 n2 c2)).setCell ⟨w.heap.size + 1 + 1 + 1, 2, none⟩ (.slice B2 m2 e2)).setCell ⟨w.heap.size + 1 + 1 + 1, 3, none⟩ (.int .i64 0)).setCell ⟨w.heap.size + 1 + 1 + 1, 4, none⟩ (.bool false)).setCell ⟨w.heap.size + 1 + 1 + 1, 5, none⟩ (.int .u64 0)).setCell ⟨w.heap.size + 1 + 1 + 1, 6, none⟩ (.slice none 0 0)).setCell ⟨w.heap.size + 1 + 1 + 1, 7, none⟩ (.slice none 0 0)).cell? ⟨w.heap.size + 1 + 1, 6, none⟩ = some (.slice none 0 0) ∧ ((((((((x3.setCell ⟨w.heap.size + 1 + 1 + 1, 0, none⟩ (.bool nr)).setCell ⟨w.heap.size + 1 + 1 + 1, 1, none⟩ (.slice A2 n2 c2)).setCell ⟨w.heap.size + 1 + 1 + 1, 2, none⟩ (.slice B2 m2 e2)).setCell ⟨w.heap.size + 1 + 1 + 1, 3, none⟩ (.int .i64 0)).setCell ⟨w.heap.size + 1 + 1 + 1, 4, none⟩ (.bool false)).setCell ⟨w.heap.size + 1 + 1 + 1, 5, none⟩ (.int .u64 0)).setCell ⟨w.heap.size + 1 + 1 + 1, 6, none⟩ (.slice none 0 0)).setCell ⟨w.heap.size + 1 + 1 + 1, 7, none⟩ (.slice none 0 0)).cell? ⟨w.heap.size + 1 + 1, 7, none⟩ = some (.slice none 0 0)) := ⟨⟨(cs_far8 c7 (by omega) (.bool nr) (.slice A2 n2 c2) (.slice B2 m2 e2) (.int .i64 0) (.bool false) (.int .u64 0) (.slice none 0 0) (.slice none 0 0)).cell rfl, (cs_far8 c7 (by omega) (.bool nr) (.slice A2 n2 c2) (.slice B2 m2 e2) (.int .i64 0) (.bool false) (.int .u64 0) (.slice none 0 0) (.slice none 0 0)).cell rfl⟩, (cs_far8 cv (by omega) (.bool nr) (.slice A2 n2 c2) (.slice B2 m2 e2) (.int .i64 0) (.bool false) (.int .u64 0) (.slice none 0 0) (.slice none 0 0)).c8, (cs_far8 cw (by omega) (.bool nr) (.slice A2 n2 c2) (.slice B2 m2 e2) (.int .i64 0) (.bool false) (.int .u64 0) (.slice none 0 0) (.slice none 0 0)).c8⟩; obtain ⟨u0, u1, u2, u3, u4, u5, u6, u7⟩ := cr.c8; obtain ⟨f0, f1, f2, f3, f4, f5, f6, f7⟩ := cr.f8)
      | (have _g := mk1; go_at_call 128; refine (cln_chance A1 B1 n1 c1 m1 e1 y Y b1 b2 _ hT hy sy HY hY hC).mono ?_; rintro e0 x2 ⟨rfl, hbk⟩; replace hb0 := hb0.trans (hbk.mono hb0.size); replace c7 := c7.below hbk c7.lt; replace cv := cv.below hbk cv.lt; replace cw := cw.below hbk cw.lt; replace cr := cr.below hbk cr.lt; replace hx := hx.below hbk; replace hy := hy.below hbk; replace hT := hT.below hbk; have mk2 := Lib.hid (rfl : 1 = 1); have hrl : (x2.cell? ⟨g7, 5, none⟩ = some (fv 91) ∧ x2.cell? ⟨g7, 1, none⟩ = some (cln b1 b2)) ∧ (x2.cell? ⟨w.heap.size + 1, 0, none⟩ = some (.bool false) ∧ x2.cell? ⟨w.heap.size + 1, 1, none⟩ = some (.slice A n c) ∧ x2.cell? ⟨w.heap.size + 1, 2, none⟩ = some (.slice B m e) ∧ x2.cell? ⟨w.heap.size + 1, 3, none⟩ = some (.int .i64 0) ∧ x2.cell? ⟨w.heap.size + 1, 4, none⟩ = some (.bool false) ∧ x2.cell? ⟨w.heap.size + 1, 5, none⟩ = some (.int .u64 0) ∧ x2.cell? ⟨w.heap.size + 1, 6, none⟩ = some (.slice none 0 0) ∧ x2.cell? ⟨w.heap.size + 1, 7, none⟩ = some (.slice none 0 0)) ∧ (x2.cell? ⟨w.heap.size + 1 + 1, 0, none⟩ = some (.bool false) ∧ x2.cell? ⟨w.heap.size + 1 + 1, 1, none⟩ = some (.slice A1 n1 c1) ∧ x2.cell? ⟨w.heap.size + 1 + 1, 2, none⟩ = some (.slice B1 m1 e1) ∧ x2.cell? ⟨w.heap.size + 1 + 1, 3, none⟩ = some (.int .i64 0) ∧ x2.cell? ⟨w.heap.size + 1 + 1, 4, none⟩ = some (.bool false) ∧ x2.cell? ⟨w.heap.size + 1 + 1, 5, none⟩ = some (.int .u64 0) ∧ x2.cell? ⟨w.heap.size + 1 + 1, 6, none⟩ = some (.slice none 0 0) ∧ x2.cell? ⟨w.heap.size + 1 + 1, 7, none⟩ = some (.slice none 0 0)) := ⟨⟨(c7).cell rfl, (c7).cell rfl⟩, (cv).c8, (cw).c8⟩)
      | (go_at_call 128; refine (cln_chance A B n c m e x X b1 b2 _ hT hx sx HX hX hC).mono ?_; rintro e0 x1 ⟨rfl, hbk⟩; replace hC : VCl x1 b1 b2 := Cl.below hC hbk; replace hb0 := hb0.trans (hbk.mono hb0.size); replace c7 := c7.below hbk c7.lt; replace cv := cv.below hbk cv.lt; replace cw := cw.below hbk cw.lt; replace cr := cr.below hbk cr.lt; replace hx := hx.below hbk; replace hy := hy.below hbk; replace hT := hT.below hbk; have mk1 := Lib.hid (rfl : 1 = 1); have hrl : (x1.cell? ⟨g7, 5, none⟩ = some (fv 91) ∧ x1.cell? ⟨g7, 1, none⟩ = some (cln b1 b2)) ∧ (x1.cell? ⟨w.heap.size + 1, 0, none⟩ = some (.bool false) ∧ x1.cell? ⟨w.heap.size + 1, 1, none⟩ = some (.slice A n c) ∧ x1.cell? ⟨w.heap.size + 1, 2, none⟩ = some (.slice B m e) ∧ x1.cell? ⟨w.heap.size + 1, 3, none⟩ = some (.int .i64 0) ∧ x1.cell? ⟨w.heap.size + 1, 4, none⟩ = some (.bool false) ∧ x1.cell? ⟨w.heap.size + 1, 5, none⟩ = some (.int .u64 0) ∧ x1.cell? ⟨w.heap.size + 1, 6, none⟩ = some (.slice none 0 0) ∧ x1.cell? ⟨w.heap.size + 1, 7, none⟩ = some (.slice none 0 0)) ∧ (x1.cell? ⟨w.heap.size + 1 + 1, 0, none⟩ = some (.bool false) ∧ x1.cell? ⟨w.heap.size + 1 + 1, 1, none⟩ = some (.slice A1 n1 c1) ∧ x1.cell? ⟨w.heap.size + 1 + 1, 2, none⟩ = some (.slice B1 m1 e1) ∧ x1.cell? ⟨w.heap.size + 1 + 1, 3, none⟩ = some (.int .i64 0) ∧ x1.cell? ⟨w.heap.size + 1 + 1, 4, none⟩ = some (.bool false) ∧ x1.cell? ⟨w.heap.size + 1 + 1, 5, none⟩ = some (.int .u64 0) ∧ x1.cell? ⟨w.heap.size + 1 + 1, 6, none⟩ = some (.slice none 0 0) ∧ x1.cell? ⟨w.heap.size + 1 + 1, 7, none⟩ = some (.slice none 0 0)) := ⟨⟨(c7).cell rfl, (c7).cell rfl⟩, (cv).c8, (cw).c8⟩)
      | fail)
  go_wp2_with fail
  refine ret_cs (l := [.bool nr, .slice A2 n2 c2, .slice B2 m2 e2, .int .i64 0, .bool false, .int .u64 0, .slice none 0 0, .slice none 0 0]) Tryz.results9 Tryz.underlying32 (by kernel_rfl) rfl (cs_own8 cr rfl _ _ _ _ _ _ _ _) rfl ?_
  exact ⟨nr, A2, n2, c2, B2, m2, e2, rfl, hr.s8 cr (by simp) _ _ _ _ _ _ _ _, below_s8 hb0 (by omega) _ _ _ _ _ _ _ _⟩

end Go.Proofs.YtafoplnpnoedfaaGreatDoor
