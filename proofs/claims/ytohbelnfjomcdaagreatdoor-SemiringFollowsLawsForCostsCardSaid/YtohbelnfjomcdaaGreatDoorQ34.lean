/- Operations of Rational; what Star and Format of Tropical come to at 0. -/
import Derived.Test.YtohbelnfjomcdaaGreatDoorQ27
import Derived.Test.YtohbelnfjomcdaaGreatDoorQ20
import Derived.Test.YtohbelnfjomcdaaGreatDoorQ28
import Derived.Test.YtohbelnfjomcdaaGreatDoorQ33
import Derived.Deep.RegionHeld3
import Derived.Deep.CutRange
set_option linter.unusedVariables false
set_option linter.unusedSimpArgs false
namespace Go.Proofs.YtohbelnfjomcdaaGreatDoor
open Go.RowKit

/-- A weight that is the number q. -/
def NW (w : World) (v : Value) (q : Rat) : Prop := ∃ nb A n c B m e, v = aw (.bool nb) (.slice A n c) (.slice B m e) 0 false ∧ RatQ w (.agg #[.bool nb, .slice A n c, .slice B m e]) q
theorem NW.below {w w' : World} {v : Value} {q : Rat} (h : NW w v q) (hb : Below w.heap.size w w') : NW w' v q := by
  obtain ⟨nb, A, n, c, B, m, e, rfl, h1⟩ := h
  exact ⟨nb, A, n, c, B, m, e, rfl, h1.below hb⟩
theorem num_one : Rat.num 1 = 1 := rfl
theorem ratq_one {w : World} {g c : Nat} (h : Row w g [1]) (hc : 1 ≤ c) : RatQ w (.agg #[.bool false, .slice (some ⟨g, 0, none⟩) 1 c, .slice none 0 0]) 1 := by
  refine ⟨_, _, _, _, _, _, rfl, ?_, ?_⟩
  · show Num w (limbs 1) _ _ _
    rw [limbs_one]
    exact h.num (by intro x hx; simp at hx; subst hx; decide) rfl hc
  · show Num w (dl 1) _ _ _
    unfold dl; rw [if_pos rfl]; exact Num.nil _ _ _
set_option maxRecDepth 20000 in
set_option maxHeartbeats 2000000 in
theorem semone_any (w : World) : Calls Tryz.prog 131 #[] w (RetRat w 1) := by
  go_enter Tryz.func131, Tryz.ntmps131
  have x0 := blk2 w [.bool false, .slice (some ⟨w.heap.size + 1, 0, none⟩) 1 1, .slice none 0 0] [.int .u32 1] 27 99
  go_wp2_with fail
  refine ret_rc Tryz.results131 rfl (show Rc _ _ _ _ _ from x0.2.1) rfl ?_
  exact ⟨_, rfl, ratq_one (show Row _ _ _ from x0.2.2) (Nat.le_refl _), x0.1⟩

set_option maxRecDepth 20000 in
set_option maxHeartbeats 2000000 in
theorem onlyNumber_ok (q0 q1 q2 : Value) (w : World) (hq0 : ∃ b, q0 = .bool b) (hq1 : ∃ a n c, q1 = .slice a n c) (hq2 : ∃ a n c, q2 = .slice a n c) : Calls Tryz.prog 161 #[aw q0 q1 q2 0 false] w (RetV w (.bool true)) := by
  obtain ⟨nb, rfl⟩ := hq0
  obtain ⟨A, n, c, rfl⟩ := hq1
  obtain ⟨B, m, e, rfl⟩ := hq2
  obtain ⟨h0, _⟩ := blk1 w [.bool false, .slice none 0 0, .slice none 0 0, .int .i64 0, .bool false, .int .u64 0, .slice none 0 0, .slice none 0 0] 32
  go_enter Tryz.func161, Tryz.ntmps161
  go_wp2_with fail
  refine (blank_zero _).mono ?_
  rintro e w1 ⟨rfl, hb1⟩
  go_wp2_with fail
  go_ret
  exact ⟨rfl, h0.trans (hb1.mono h0.size)⟩

theorem dec_dig0 : Lib.decDigits 0 = [48] := by rw [Lib.decDigits]; rfl
theorem itoa0 (w : World) : Calls Tryz.prog 175 #[.int .i64 0] w (fun e w' => e = .returned (.string ⟨#[48]⟩) ∧ w' = w) := by
  have h := Lx.Tryz.strconv_Itoa_small 0 (by decide) w
  rw [show Lib.decDigits 0 = [48] from dec_dig0] at h
  exact h
theorem Valid_q (v : Value) (q : Rat) (w : World) (hT : Tab w) (h : RatQ w v q) (hS : Sz q 100000) : Calls Tryz.prog 162 #[v] w (RetV w (.bool true)) := by
  obtain ⟨A, n, c, A', m, c', rfl, h1, h2⟩ := h
  have l1 := h1.len
  have l2 := h2.len
  have hd : (dl q.den).length ≤ (limbs q.den).length := by
    unfold dl; split
    · simp
    · exact Nat.le_refl _
  exact valid_any _ A A' n c m c' _ _ w true hT h1 h2 (by have := hS.1; omega) (by have := hS.2; omega) vld_canon
set_option maxRecDepth 20000 in
set_option maxHeartbeats 2000000 in
theorem costs2_any (c : Int) (i : Bool) (w : World) : Calls Tryz.prog 126 #[tw c i] w (RetV w (.tuple #[tw 0 false, .bool true])) := by
  have x0 := blk2 w [.bool false, .slice none 0 0, .slice none 0 0, .int .i64 c, .bool i, .int .u64 0, .slice none 0 0, .slice none 0 0] [.bool false, .slice none 0 0, .slice none 0 0, .int .i64 0, .bool false, .int .u64 0, .slice none 0 0, .slice none 0 0] 32 32
  go_enter Tryz.func126, Tryz.ntmps126
  go_wp2_with fail
  refine ret_cs_tmp (l := [.bool false, .slice none 0 0, .slice none 0 0, .int .i64 0, .bool false, .int .u64 0, .slice none 0 0, .slice none 0 0]) Tryz.results126 Tryz.underlying32 (by kernel_rfl) rfl rfl x0.2.2 rfl ?_
  exact ⟨rfl, x0.1⟩

set_option maxRecDepth 20000 in
set_option maxHeartbeats 2000000 in
theorem formatCost_zero (w : World) : Calls Tryz.prog 128 #[tw 0 false] w (RetV w (.string ⟨#[48]⟩)) := by
  have x0 := blk1 w [.bool false, .slice none 0 0, .slice none 0 0, .int .i64 0, .bool false, .int .u64 0, .slice none 0 0, .slice none 0 0] 32
  go_enter Tryz.func128, Tryz.ntmps128
  go_wp2_with fail
  refine (itoa0 _).mono ?_
  rintro e w1 ⟨rfl, rfl⟩
  go_wp2_with fail
  go_ret
  exact ⟨rfl, x0.1⟩

/-- The operations of Rational. -/
abbrev nopsL (b1 b2 : Nat) : List Value := [fv 160, cln b1 b2, fv 123, fv 163, fv 164, fv 134, fv 166, fv 108, fv 167, fv 168]
abbrev nops (b1 b2 : Nat) : Value := .agg #[fv 160, cln b1 b2, fv 123, fv 163, fv 164, fv 134, fv 166, fv 108, fv 167, fv 168]
def NCl (w : World) (b1 b2 : Nat) : Prop := Cl w b1 b2 (fv 161) (fv 123)
set_option maxRecDepth 20000 in
set_option maxHeartbeats 2000000 in
theorem numbers_any (w : World) : Calls Tryz.prog 93 #[] w (fun e w' => ∃ b1 b2, e = .returned (nops b1 b2) ∧ NCl w' b1 b2 ∧ Below w.heap.size w w') := by
  obtain ⟨hb0, c1⟩ := blk1 w [.nilFunc, .nilFunc, .nilFunc, .nilFunc, .nilFunc, .nilFunc, .nilFunc, .nilFunc, .nilFunc, .nilFunc] 65
  go_enter Tryz.func93, Tryz.ntmps93
  go_wp2_with fail
  refine (cleaner_any _ _ _ _ _).mono ?_
  rintro e w1 ⟨b1, b2, rfl, hC, hb1⟩
  replace hb0 := hb0.trans (hb1.mono hb0.size)
  replace c1 := c1.below hb1 c1.lt
  clear hb1
  obtain ⟨a0, a1, a2, a3, a4, a5, a6, a7, a8, a9⟩ := c1.c10
  obtain ⟨f0, f1, f2, f3, f4, f5, f6, f7⟩ := c1.f8
  have f8 := c1.frozen 8
  have f9 := c1.frozen 9
  go_wp2_with fail
  refine ret_cs (l := nopsL b1 b2) Tryz.results93 Tryz.underlying65 (by kernel_rfl) rfl (cs_own10 c1 rfl _ _ _ _ _ _ _ _ _ _) rfl ?_
  exact ⟨b1, b2, rfl, hC.s10 c1 (by decide) _ _ _ _ _ _ _ _ _ _, below_s10 hb0 (Nat.le_refl _) _ _ _ _ _ _ _ _ _ _⟩

set_option maxRecDepth 20000 in
set_option maxHeartbeats 2000000 in
theorem ofKind_num (w : World) : Calls Tryz.prog 68 #[.int .i64 1] w (fun e w' => ∃ b1 b2, e = .returned (nops b1 b2) ∧ NCl w' b1 b2 ∧ Below w.heap.size w w') := by
  obtain ⟨hb0, c1⟩ := blk1 w [.nilFunc, .nilFunc, .nilFunc, .nilFunc, .nilFunc, .nilFunc, .nilFunc, .nilFunc, .nilFunc, .nilFunc] 65
  go_enter Tryz.func68, Tryz.ntmps68
  go_wp2_with fail
  refine (numbers_any _).mono ?_
  rintro e w1 ⟨b1, b2, rfl, hC, hb1⟩
  replace hb0 := hb0.trans (hb1.mono hb0.size)
  replace c1 := c1.below hb1 c1.lt
  clear hb1
  obtain ⟨a0, a1, a2, a3, a4, a5, a6, a7, a8, a9⟩ := c1.c10
  obtain ⟨f0, f1, f2, f3, f4, f5, f6, f7⟩ := c1.f8
  have f8 := c1.frozen 8
  have f9 := c1.frozen 9
  go_wp2_with fail
  refine ret_cs (l := nopsL b1 b2) Tryz.results68 Tryz.underlying65 (by kernel_rfl) rfl (cs_own10 c1 rfl _ _ _ _ _ _ _ _ _ _) rfl ?_
  exact ⟨b1, b2, rfl, hC.s10 c1 (by decide) _ _ _ _ _ _ _ _ _ _, below_s10 hb0 (Nat.le_refl _) _ _ _ _ _ _ _ _ _ _⟩

set_option maxRecDepth 20000 in
set_option maxHeartbeats 2000000 in
theorem numbers1_ok (nb : Bool) (A B : Option Addr) (n c m e : Nat) (q : Rat) (w : World) (hT : Tab w) (h : RatQ w (.agg #[.bool nb, .slice A n c, .slice B m e]) q) (hS : Sz q 100000) : Calls Tryz.prog 160 #[aw (.bool nb) (.slice A n c) (.slice B m e) 0 false] w (RetV w (.bool true)) := by
  obtain ⟨hb0, c1⟩ := blk1 w [.bool nb, .slice A n c, .slice B m e, .int .i64 0, .bool false, .int .u64 0, .slice none 0 0, .slice none 0 0] 32
  have h1 := h.below hb0
  have hT1 := hT.below hb0
  go_enter Tryz.func160, Tryz.ntmps160
  go_wp2_with fail
  generalize (w.alloc (W8q (.bool nb) (.slice A n c) (.slice B m e) 0 false)) = W0 at *
  refine (onlyNumber_ok _ _ _ _ ⟨_, rfl⟩ ⟨_, _, _, rfl⟩ ⟨_, _, _, rfl⟩).mono ?_
  rintro e w1 ⟨rfl, hb1⟩
  replace h1 := h1.below hb1
  replace hT1 := hT1.below hb1
  replace hb0 := hb0.trans (hb1.mono hb0.size)
  replace c1 := c1.below hb1 c1.lt
  clear hb1
  obtain ⟨a0, a1, a2, a3, a4, a5, a6, a7⟩ := c1.c8
  go_wp2_with fail
  refine (Valid_q _ q _ hT1 h1 hS).mono ?_
  rintro e w1 ⟨rfl, hb1⟩
  replace hb0 := hb0.trans (hb1.mono hb0.size)
  go_wp2_with fail
  go_ret
  exact ⟨rfl, hb0⟩

set_option maxRecDepth 20000 in
set_option maxHeartbeats 2000000 in
theorem numbers4_any (nb : Bool) (A B : Option Addr) (n c m e : Nat) (q : Rat) (S : ByteArray) (w : World) (hT : Txt w) (h : RatQ w (.agg #[.bool nb, .slice A n c, .slice B m e]) q) (hS : Sz q 10000) (HS : Hid ((⟨(fmtQ q).toArray⟩ : ByteArray) = S)) : Calls Tryz.prog 167 #[aw (.bool nb) (.slice A n c) (.slice B m e) 0 false] w (RetV w (.string S)) := by
  obtain ⟨hb0, c1⟩ := blk1 w [.bool nb, .slice A n c, .slice B m e, .int .i64 0, .bool false, .int .u64 0, .slice none 0 0, .slice none 0 0] 32
  have h1 := h.below hb0
  have hT1 := hT.below hb0
  go_enter Tryz.func167, Tryz.ntmps167
  go_wp2_with fail
  refine (Format_any _ q 10000 _ hT1 (h1.inp hS (by decide)) hS).mono ?_
  rw [HS.out]
  rintro e w1 ⟨rfl, hb1⟩
  go_wp2_with fail
  go_ret
  exact ⟨rfl, hb0.trans (hb1.mono hb0.size)⟩

end Go.Proofs.YtohbelnfjomcdaaGreatDoor

namespace Go.Proofs.YtohbelnfjomcdaaGreatDoor
open Go.RowKit

theorem sz_one (L : Nat) (h : 1 ≤ L) : Sz 1 L := ⟨by show (limbs 1).length ≤ L; rw [limbs_one]; exact h, by show (limbs 1).length ≤ L; rw [limbs_one]; exact h⟩
theorem cell_alc {w : World} {a : Addr} {v : Value} (o : Obj) (h : w.cell? a = some v) : (w.alloc o).cell? a = some v := (World.cell?_alloc_some w a o (by rw [h]; rfl)).trans h
theorem cell_alc_d {w : World} {a : Addr} {v : Value} (o : Obj) (h : w.drew.cell? a = some v) : (w.alloc o).drew.cell? a = some v := cell_alc (w := w) o h
theorem cell_st {w : World} {b g k k' : Nat} {v u : Value} (hne : b ≠ g) (h : w.cell? ⟨b, k, none⟩ = some v) : (w.setCell ⟨g, k', none⟩ u).cell? ⟨b, k, none⟩ = some v := by
  rw [World.cell?_setCell_other _ _ _ _ (fun e => hne (by injection e with e1; first | exact e1 | exact e1.symm))]; exact h
theorem RatQ.s8 {w : World} {v : Value} {q : Rat} (h : RatQ w v q) {g : Nat} {l : List Value} {t : TypeId} (hr : Cs w g l t) (hl : ∀ v ∈ l, ∀ x : Nat, v ≠ .int .u32 (x : Int)) (u0 u1 u2 u3 u4 u5 u6 u7 : Value) : RatQ ((((((((w.setCell ⟨g, 0, none⟩ u0).setCell ⟨g, 1, none⟩ u1).setCell ⟨g, 2, none⟩ u2).setCell ⟨g, 3, none⟩ u3).setCell ⟨g, 4, none⟩ u4).setCell ⟨g, 5, none⟩ u5).setCell ⟨g, 6, none⟩ u6).setCell ⟨g, 7, none⟩ u7) v q := by
  obtain ⟨A, n, c, A', m, c', e, h1, h2⟩ := h
  exact ⟨A, n, c, A', m, c', e, num_s8 h1 (h1.ne_cs hr hl) _ _ _ _ _ _ _ _, num_s8 h2 (h2.ne_cs hr hl) _ _ _ _ _ _ _ _⟩
/-- What the quotient has left behind. -/
def QRel (w0 : World) (r : Rat) (p : Value) (wx : World) : Prop :=
  ∃ g nb A n c B m e, p = .pointer (some ⟨g, 0, none⟩) ∧ Cs wx g [.bool nb, .slice A n c, .slice B m e] 27 ∧ w0.heap.size ≤ g ∧ RatQ wx (.agg #[.bool nb, .slice A n c, .slice B m e]) r ∧ Below w0.heap.size w0 wx
theorem qrel1 {w0 W : World} {r : Rat} {nb : Bool} {A B : Option Addr} {n c m e : Nat} (hb : Below w0.heap.size w0 W) (h : RatQ W (.agg #[.bool nb, .slice A n c, .slice B m e]) r) : QRel w0 r (.pointer (some ⟨W.heap.size, 0, none⟩)) (W.alloc (R1 (.bool nb) (.slice A n c) (.slice B m e))) := by
  have hx := blk1 W [.bool nb, .slice A n c, .slice B m e] 27
  exact ⟨_, _, _, _, _, _, _, _, rfl, hx.2, hb.size, h.below hx.1, hb.trans (hx.1.mono hb.size)⟩
theorem qrel2 {w0 W : World} {r : Rat} {nb : Bool} {A B : Option Addr} {n c m e g : Nat} (hb : Below w0.heap.size w0 W) (hg : w0.heap.size ≤ g) (hA : Cs W g [.bool false, .slice none 0 0, .slice none 0 0] 27) (h : RatQ W (.agg #[.bool nb, .slice A n c, .slice B m e]) r) : QRel w0 r (.pointer (some ⟨g, 0, none⟩)) (((W.setCell ⟨g, 0, none⟩ (.bool nb)).setCell ⟨g, 1, none⟩ (.slice A n c)).setCell ⟨g, 2, none⟩ (.slice B m e)) :=
  ⟨_, _, _, _, _, _, _, _, rfl, cs_own3 hA rfl _ _ _, hg, h.set3 (show Rc _ _ _ _ _ from hA) _ _ _, below_s3 hb hg _ _ _⟩
set_option maxRecDepth 20000 in
set_option maxHeartbeats 8000000 in
theorem starOfNumber_in (nb : Bool) (A B : Option Addr) (n c m e : Nat) (q a s r : Rat) (w : World) (hT : Tab w) (h : RatQ w (.agg #[.bool nb, .slice A n c, .slice B m e]) q) (hS : Sz q 100000) (ha : Hid (qv false q.num.natAbs q.den = a)) (hSa : Sz a 100000) (HC : Hid (cmpQ a 1 = -1)) (HS : Hid (1 - q = s)) (hSs : Sz s 100000) (HS0 : Hid (s ≠ 0)) (HR : Hid (1 / s = r)) :
    Calls Tryz.prog 166 #[aw (.bool nb) (.slice A n c) (.slice B m e) 0 false] w (fun e w' => ∃ v, e = .returned (.tuple #[v, .bool true]) ∧ NW w' v r ∧ Below w.heap.size w w') := by
  obtain ⟨hb0, c1, c2⟩ := blk2 w [.bool nb, .slice A n c, .slice B m e, .int .i64 0, .bool false, .int .u64 0, .slice none 0 0, .slice none 0 0] [.bool false, .slice none 0 0, .slice none 0 0, .int .i64 0, .bool false, .int .u64 0, .slice none 0 0, .slice none 0 0] 32 32
  have hq := h.below hb0
  have hT1 := hT.below hb0
  have hS1 : Sz 1 100000 := sz_one _ (by decide)
  clear h hT
  go_enter Tryz.func166, Tryz.ntmps166
  go_wp2_with fail
  generalize ((w.alloc (W8q (.bool nb) (.slice A n c) (.slice B m e) 0 false)).alloc (W8t 0 false)) = W at *
  refine (Abs_any _ q a 100000 _ hT1 (hq.inp hS (by decide)) (hS.mono (by decide)) ha.out).mono ?_
  rintro e w1 ⟨v1, rfl, h1, hb1⟩
  replace hq := hq.below hb1
  replace hT1 := hT1.below hb1
  replace hb0 := hb0.trans (hb1.mono hb0.size)
  replace c1 := c1.below hb1 c1.lt
  replace c2 := c2.below hb1 c2.lt
  clear hb1
  obtain ⟨a0, a1, a2, a3, a4, a5, a6, a7⟩ := c1.c8
  go_wp2_with fail
  refine (semone_any _).mono ?_
  rintro e w2 ⟨v2, rfl, h2, hb1⟩
  replace hq := hq.below hb1
  replace hT1 := hT1.below hb1
  replace h1 := h1.below hb1
  clear a0 a1 a2 a3 a4 a5 a6 a7
  replace hb0 := hb0.trans (hb1.mono hb0.size)
  replace c1 := c1.below hb1 c1.lt
  replace c2 := c2.below hb1 c2.lt
  clear hb1
  obtain ⟨a0, a1, a2, a3, a4, a5, a6, a7⟩ := c1.c8
  go_wp2_with fail
  refine (Compare_any _ _ a 1 100000 (-1) _ hT1 (h1.inp hSa (by decide)) (h2.inp hS1 (by decide)) (hSa.mono (by decide)) (hS1.mono (by decide)) HC).mono ?_
  rintro e W0 ⟨rfl, hb1⟩
  replace hq := hq.below hb1
  replace hT1 := hT1.below hb1
  clear a0 a1 a2 a3 a4 a5 a6 a7 h1 h2
  replace hb0 := hb0.trans (hb1.mono hb0.size)
  replace c1 := c1.below hb1 c1.lt
  replace c2 := c2.below hb1 c2.lt
  clear hb1
  have hrl : (W0.drew.cell? ⟨w.heap.size, 0, none⟩ = some (.bool nb) ∧ W0.drew.cell? ⟨w.heap.size, 1, none⟩ = some (.slice A n c) ∧ W0.drew.cell? ⟨w.heap.size, 2, none⟩ = some (.slice B m e)) := ⟨c1.cell rfl, c1.cell rfl, c1.cell rfl⟩
  go_wp2_with fail
  replace hq : RatQ W0.drew _ q := hq.below (Below.refl _ _).drew
  replace hT1 : Tab W0.drew := hT1.drew
  replace c1 := c1.drew
  replace c2 := c2.drew
  have hb9 := hb0.drew
  replace hb0 : Below W0.drew.heap.size W0.drew W0.drew := Below.refl _ _
  have hz0 := hb9.size
  have hdz1 : W0.drew.heap.size ≤ W0.heap.size := Nat.le_refl _
  have hdz2 : W0.heap.size ≤ W0.drew.heap.size := Nat.le_refl _
  have l0 := c1.lt
  go_cut [4] from 13 to 21 (fun p wx => QRel W0.drew r p wx)
  case first =>
    go_region_held3 (fun w' => (w'.cell? ⟨w.heap.size, 0, none⟩ = some (.bool nb) ∧ w'.cell? ⟨w.heap.size, 1, none⟩ = some (.slice A n c) ∧ w'.cell? ⟨w.heap.size, 2, none⟩ = some (.slice B m e)))
        (first | with_reducible exact hrl | ((with_reducible refine ⟨?_, ?_, ?_⟩) <;> (repeat' (first | (with_reducible exact hrl.1) | (with_reducible exact hrl.2.1) | (with_reducible exact hrl.2.2) | (with_reducible refine cell_alc _ ?_) | (with_reducible refine cell_alc_d _ ?_) | (with_reducible refine cell_st ?_ ?_) | omega))) | fail)
        (first
          | (have _g := m3; (with_reducible change Calls _ _ _ (x3) _); go_at_call 194; refine (Div_any _ _ 1 s r 100000 0 _ hT1 (h1.inp hS1 (by decide)) (h3.inp hSs (by decide)) (hS1.mono (by decide)) (hSs.mono (by decide)) (.inr ⟨HS0.out, HR.out, rfl⟩)).mono ?_; rintro e x4 ⟨y4, rfl, h4, hbk⟩; replace hb0 := hb0.trans (hbk.mono hb0.size); replace c1 := c1.below hbk c1.lt; replace hq := hq.below hbk; replace hT1 := hT1.below hbk; replace c2 := c2.below hbk c2.lt; replace h1 := h1.below hbk; replace h2 := h2.below hbk; replace h3 := h3.below hbk; (try replace rA := rA.below hbk rA.lt); have m4 := Lib.hid (rfl : 1 = 1); have hz4 := hb0.size; have l4c1 := c1.lt; have hrl : (x4.cell? ⟨w.heap.size, 0, none⟩ = some (.bool nb) ∧ x4.cell? ⟨w.heap.size, 1, none⟩ = some (.slice A n c) ∧ x4.cell? ⟨w.heap.size, 2, none⟩ = some (.slice B m e)) := ⟨c1.cell rfl, c1.cell rfl, c1.cell rfl⟩; obtain ⟨nr, Ar, nr1, cr, Br, mr, er, rfl⟩ := h4.agg; (try (have e0 := rA.at 0 (by decide); have q0 := rA.frozen 0; have e1 := rA.at 1 (by decide); have q1 := rA.frozen 1; have e2 := rA.at 2 (by decide); have q2 := rA.frozen 2; have lA := rA.lt)))
          | (have _g := m3; (with_reducible change Calls _ _ _ ((x3.alloc (.cells #[.bool false, .slice none 0 0, .slice none 0 0] 27))) _); go_at_call 194; have hal : Below (x3).heap.size (x3) ((x3.alloc (.cells #[.bool false, .slice none 0 0, .slice none 0 0] 27))) := (Below.refl _ _).alloc (Nat.le_refl _) _; have rA : Cs ((x3.alloc (.cells #[.bool false, .slice none 0 0, .slice none 0 0] 27))) x3.heap.size [.bool false, .slice none 0 0, .slice none 0 0] 27 := Cs.new x3 _ _; replace hb0 := hb0.trans (hal.mono hb0.size); replace c1 := c1.below hal c1.lt; replace hq := hq.below hal; replace hT1 := hT1.below hal; replace c2 := c2.below hal c2.lt; replace h1 := h1.below hal; replace h2 := h2.below hal; replace h3 := h3.below hal; refine (Div_any _ _ 1 s r 100000 0 _ hT1 (h1.inp hS1 (by decide)) (h3.inp hSs (by decide)) (hS1.mono (by decide)) (hSs.mono (by decide)) (.inr ⟨HS0.out, HR.out, rfl⟩)).mono ?_; rintro e x4 ⟨y4, rfl, h4, hbk⟩; replace hb0 := hb0.trans (hbk.mono hb0.size); replace c1 := c1.below hbk c1.lt; replace hq := hq.below hbk; replace hT1 := hT1.below hbk; replace c2 := c2.below hbk c2.lt; replace h1 := h1.below hbk; replace h2 := h2.below hbk; replace h3 := h3.below hbk; replace rA := rA.below hbk rA.lt; have m4 := Lib.hid (rfl : 1 = 1); have hz4 := hb0.size; have l4c1 := c1.lt; have hrl : (x4.cell? ⟨w.heap.size, 0, none⟩ = some (.bool nb) ∧ x4.cell? ⟨w.heap.size, 1, none⟩ = some (.slice A n c) ∧ x4.cell? ⟨w.heap.size, 2, none⟩ = some (.slice B m e)) := ⟨c1.cell rfl, c1.cell rfl, c1.cell rfl⟩; obtain ⟨nr, Ar, nr1, cr, Br, mr, er, rfl⟩ := h4.agg; (try (have e0 := rA.at 0 (by decide); have q0 := rA.frozen 0; have e1 := rA.at 1 (by decide); have q1 := rA.frozen 1; have e2 := rA.at 2 (by decide); have q2 := rA.frozen 2; have lA := rA.lt)))
          | (have _g := m2; (with_reducible change Calls _ _ _ (x2) _); go_at_call 195; refine (Sub_any _ _ 1 q s 100000 _ hT1 (h2.inp hS1 (by decide)) (hq.inp hS (by decide)) (hS1.mono (by decide)) (hS.mono (by decide)) HS.out).mono ?_; rintro e x3 ⟨y3, rfl, h3, hbk⟩; replace hb0 := hb0.trans (hbk.mono hb0.size); replace c1 := c1.below hbk c1.lt; replace hq := hq.below hbk; replace hT1 := hT1.below hbk; replace c2 := c2.below hbk c2.lt; replace h1 := h1.below hbk; replace h2 := h2.below hbk; (try replace rA := rA.below hbk rA.lt); have m3 := Lib.hid (rfl : 1 = 1); have hz3 := hb0.size; have l3c1 := c1.lt; have hrl : (x3.cell? ⟨w.heap.size, 0, none⟩ = some (.bool nb) ∧ x3.cell? ⟨w.heap.size, 1, none⟩ = some (.slice A n c) ∧ x3.cell? ⟨w.heap.size, 2, none⟩ = some (.slice B m e)) := ⟨c1.cell rfl, c1.cell rfl, c1.cell rfl⟩)
          | (have _g := m2; (with_reducible change Calls _ _ _ ((x2.alloc (.cells #[.bool false, .slice none 0 0, .slice none 0 0] 27))) _); go_at_call 195; have hal : Below (x2).heap.size (x2) ((x2.alloc (.cells #[.bool false, .slice none 0 0, .slice none 0 0] 27))) := (Below.refl _ _).alloc (Nat.le_refl _) _; have rA : Cs ((x2.alloc (.cells #[.bool false, .slice none 0 0, .slice none 0 0] 27))) x2.heap.size [.bool false, .slice none 0 0, .slice none 0 0] 27 := Cs.new x2 _ _; replace hb0 := hb0.trans (hal.mono hb0.size); replace c1 := c1.below hal c1.lt; replace hq := hq.below hal; replace hT1 := hT1.below hal; replace c2 := c2.below hal c2.lt; replace h1 := h1.below hal; replace h2 := h2.below hal; refine (Sub_any _ _ 1 q s 100000 _ hT1 (h2.inp hS1 (by decide)) (hq.inp hS (by decide)) (hS1.mono (by decide)) (hS.mono (by decide)) HS.out).mono ?_; rintro e x3 ⟨y3, rfl, h3, hbk⟩; replace hb0 := hb0.trans (hbk.mono hb0.size); replace c1 := c1.below hbk c1.lt; replace hq := hq.below hbk; replace hT1 := hT1.below hbk; replace c2 := c2.below hbk c2.lt; replace h1 := h1.below hbk; replace h2 := h2.below hbk; replace rA := rA.below hbk rA.lt; have m3 := Lib.hid (rfl : 1 = 1); have hz3 := hb0.size; have l3c1 := c1.lt; have hrl : (x3.cell? ⟨w.heap.size, 0, none⟩ = some (.bool nb) ∧ x3.cell? ⟨w.heap.size, 1, none⟩ = some (.slice A n c) ∧ x3.cell? ⟨w.heap.size, 2, none⟩ = some (.slice B m e)) := ⟨c1.cell rfl, c1.cell rfl, c1.cell rfl⟩)
          | (have _g := m1; (with_reducible change Calls _ _ _ (x1) _); go_at_call 131; refine (semone_any _).mono ?_; rintro e x2 ⟨y2, rfl, h2, hbk⟩; replace hb0 := hb0.trans (hbk.mono hb0.size); replace c1 := c1.below hbk c1.lt; replace hq := hq.below hbk; replace hT1 := hT1.below hbk; replace c2 := c2.below hbk c2.lt; replace h1 := h1.below hbk; (try replace rA := rA.below hbk rA.lt); have m2 := Lib.hid (rfl : 1 = 1); have hz2 := hb0.size; have l2c1 := c1.lt; have hrl : (x2.cell? ⟨w.heap.size, 0, none⟩ = some (.bool nb) ∧ x2.cell? ⟨w.heap.size, 1, none⟩ = some (.slice A n c) ∧ x2.cell? ⟨w.heap.size, 2, none⟩ = some (.slice B m e)) := ⟨c1.cell rfl, c1.cell rfl, c1.cell rfl⟩)
          | (have _g := m1; (with_reducible change Calls _ _ _ ((x1.alloc (.cells #[.bool false, .slice none 0 0, .slice none 0 0] 27))) _); go_at_call 131; have hal : Below (x1).heap.size (x1) ((x1.alloc (.cells #[.bool false, .slice none 0 0, .slice none 0 0] 27))) := (Below.refl _ _).alloc (Nat.le_refl _) _; have rA : Cs ((x1.alloc (.cells #[.bool false, .slice none 0 0, .slice none 0 0] 27))) x1.heap.size [.bool false, .slice none 0 0, .slice none 0 0] 27 := Cs.new x1 _ _; replace hb0 := hb0.trans (hal.mono hb0.size); replace c1 := c1.below hal c1.lt; replace hq := hq.below hal; replace hT1 := hT1.below hal; replace c2 := c2.below hal c2.lt; replace h1 := h1.below hal; refine (semone_any _).mono ?_; rintro e x2 ⟨y2, rfl, h2, hbk⟩; replace hb0 := hb0.trans (hbk.mono hb0.size); replace c1 := c1.below hbk c1.lt; replace hq := hq.below hbk; replace hT1 := hT1.below hbk; replace c2 := c2.below hbk c2.lt; replace h1 := h1.below hbk; replace rA := rA.below hbk rA.lt; have m2 := Lib.hid (rfl : 1 = 1); have hz2 := hb0.size; have l2c1 := c1.lt; have hrl : (x2.cell? ⟨w.heap.size, 0, none⟩ = some (.bool nb) ∧ x2.cell? ⟨w.heap.size, 1, none⟩ = some (.slice A n c) ∧ x2.cell? ⟨w.heap.size, 2, none⟩ = some (.slice B m e)) := ⟨c1.cell rfl, c1.cell rfl, c1.cell rfl⟩)
          | ((with_reducible change Calls _ _ _ (W0.drew) _); go_at_call 131; refine (semone_any _).mono ?_; rintro e x1 ⟨y1, rfl, h1, hbk⟩; replace hb0 := hb0.trans (hbk.mono hb0.size); replace c1 := c1.below hbk c1.lt; replace hq := hq.below hbk; replace hT1 := hT1.below hbk; replace c2 := c2.below hbk c2.lt; (try replace rA := rA.below hbk rA.lt); have m1 := Lib.hid (rfl : 1 = 1); have hz1 := hb0.size; have l1c1 := c1.lt; have hrl : (x1.cell? ⟨w.heap.size, 0, none⟩ = some (.bool nb) ∧ x1.cell? ⟨w.heap.size, 1, none⟩ = some (.slice A n c) ∧ x1.cell? ⟨w.heap.size, 2, none⟩ = some (.slice B m e)) := ⟨c1.cell rfl, c1.cell rfl, c1.cell rfl⟩)
          | ((with_reducible change Calls _ _ _ ((W0.alloc (.cells #[.bool false, .slice none 0 0, .slice none 0 0] 27)).drew) _); go_at_call 131; have hal : Below (W0.drew).heap.size (W0.drew) ((W0.alloc (.cells #[.bool false, .slice none 0 0, .slice none 0 0] 27)).drew) := (Below.refl _ _).alloc (Nat.le_refl _) _; have rA : Cs ((W0.alloc (.cells #[.bool false, .slice none 0 0, .slice none 0 0] 27)).drew) W0.heap.size [.bool false, .slice none 0 0, .slice none 0 0] 27 := Cs.new W0 _ _; replace hb0 := hb0.trans (hal.mono hb0.size); replace c1 := c1.below hal c1.lt; replace hq := hq.below hal; replace hT1 := hT1.below hal; replace c2 := c2.below hal c2.lt; refine (semone_any _).mono ?_; rintro e x1 ⟨y1, rfl, h1, hbk⟩; replace hb0 := hb0.trans (hbk.mono hb0.size); replace c1 := c1.below hbk c1.lt; replace hq := hq.below hbk; replace hT1 := hT1.below hbk; replace c2 := c2.below hbk c2.lt; replace rA := rA.below hbk rA.lt; have m1 := Lib.hid (rfl : 1 = 1); have hz1 := hb0.size; have l1c1 := c1.lt; have hrl : (x1.cell? ⟨w.heap.size, 0, none⟩ = some (.bool nb) ∧ x1.cell? ⟨w.heap.size, 1, none⟩ = some (.slice A n c) ∧ x1.cell? ⟨w.heap.size, 2, none⟩ = some (.slice B m e)) := ⟨c1.cell rfl, c1.cell rfl, c1.cell rfl⟩))
    all_goals
      (try clear e0 e1 e2 q0 q1 q2)
      go_wp2_with fail
      go_meet
      case rel => first | with_reducible exact qrel1 hb0 h4 | with_reducible exact qrel2 hb0 (by omega) rA h4 | fail
  case rest =>
    obtain ⟨g, nr, Ar, nr1, cr, Br, mr, er, rfl, rA, hg, hr, hbq⟩ := hcut
    have d2 := c2.below hbq c2.lt
    have lr := c2.lt
    have e0 := rA.cell (k := 0) rfl
    have e1 := rA.cell (k := 1) rfl
    have e2 := rA.cell (k := 2) rfl
    obtain ⟨k0, k1, k2, k3, k4, k5, k6, k7⟩ := d2.c8
    obtain ⟨f0, f1, f2, f3, f4, f5, f6, f7⟩ := d2.f8
    go_wp2_with fail
    refine ret_cs_tmp (l := [.bool nr, .slice Ar nr1 cr, .slice Br mr er, .int .i64 0, .bool false, .int .u64 0, .slice none 0 0, .slice none 0 0]) Tryz.results166 Tryz.underlying32 (by kernel_rfl) rfl rfl (cs_own8 d2 rfl _ _ _ _ _ _ _ _) rfl ?_
    refine ⟨_, rfl, ⟨nr, Ar, nr1, cr, Br, mr, er, rfl, ?_⟩, below_s8 (hb9.trans (hbq.mono hz0)) (by omega) _ _ _ _ _ _ _ _⟩
    exact hr.s8 d2 (by simp) _ _ _ _ _ _ _ _
end Go.Proofs.YtohbelnfjomcdaaGreatDoor
