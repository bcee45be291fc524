/- part, cancel, fraction, reduced, balanced, multiply. -/
import Derived.Test.YtohbelnfjomcdaaGreatDoorQ13
import Derived.Test.YtohbelnfjomcdaaGreatDoorQ14
import Derived.Test.YtohbelnfjomcdaaGreatDoorQ16
import Derived.Test.YtohbelnfjomcdaaGreatDoorQ17
set_option linter.unusedVariables false
set_option linter.unusedSimpArgs false
namespace Go.Proofs.YtohbelnfjomcdaaGreatDoor
open Go.RowKit

/-- A slice that reads as a number, in whatever memory. -/
def RetNum (w0 : World) (a : Nat) (e : Ending) (w' : World) : Prop := ∃ A n c, e = .returned (.slice A n c) ∧ Num w' (limbs a) A n c ∧ Below w0.heap.size w0 w'
def RetNum2 (w0 : World) (a b : Nat) (e : Ending) (w' : World) : Prop :=
  ∃ A n c A' n' c', e = .returned (.tuple #[.slice A n c, .slice A' n' c']) ∧ Num w' (limbs a) A n c ∧ Num w' (limbs b) A' n' c' ∧ Below w0.heap.size w0 w'

set_option maxRecDepth 20000 in
set_option maxHeartbeats 1000000 in
theorem part_any (A A' : Option Addr) (n c m c' X Y : Nat) (w : World) (hx : Num w (limbs X) A n c) (hy : Num w (limbs Y) A' m c') (hn : n ≤ 268435456) (hm : m ≤ 268435456) (hY : Y ≠ 0) :
    Calls Tryz.prog 249 #[.slice A n c, .slice A' m c'] w (RetNum w (X / Y)) := by
  by_cases h1 : Y = 1
  · have HO : Hid (decide (limbs Y = [1]) = true) := decide_eq_true (limbs_eq_one.2 h1)
    have HV : Hid (X / Y = X) := by show _ = _; rw [h1, Nat.div_one]
    clear h1
    go_enter Tryz.func249, Tryz.ntmps249
    go_wp2_with fail
    refine (isOne_v _ _ _ _ _ true hy (by omega) HO).mono ?_
    rintro e w' ⟨rfl, rfl⟩
    go_wp2_with fail
    go_ret
    rw [HV.out]
    exact ⟨_, _, _, rfl, hx, Below.refl _ _⟩
  · have HO : Hid (decide (limbs Y = [1]) = false) := decide_eq_false (fun h => h1 (limbs_eq_one.1 h))
    have HY := Lib.hid hY
    clear h1 hY
    go_enter Tryz.func249, Tryz.ntmps249
    go_wp2_with fail
    refine (isOne_v _ _ _ _ _ false hy (by omega) HO).mono ?_
    rintro e w' ⟨rfl, rfl⟩
    go_wp2_with fail
    refine (divide_any _ _ _ _ _ _ X Y _ hx hy hn hm HY.out).mono ?_
    rintro e w1 ⟨A1, n1, c1, A2, n2, c2, rfl, h1, h2, hb⟩
    go_wp2_with fail
    go_ret
    exact ⟨_, _, _, rfl, h1.num, hb⟩

set_option maxRecDepth 20000 in
set_option maxHeartbeats 1000000 in
theorem cancel_any (A A' : Option Addr) (n c m c' X Y : Nat) (w : World) (hT : Tab w) (hx : Num w (limbs X) A n c) (hy : Num w (limbs Y) A' m c') (hn : n ≤ 8388608) (hm : m ≤ 8388608) (hXY : ¬ (X = 0 ∧ Y = 0)) :
    Calls Tryz.prog 250 #[.slice A n c, .slice A' m c'] w (RetNum2 w (X / Nat.gcd X Y) (Y / Nat.gcd X Y)) := by
  have hG0 : Nat.gcd X Y ≠ 0 := fun h => hXY ⟨Nat.eq_zero_of_gcd_eq_zero_left h, Nat.eq_zero_of_gcd_eq_zero_right h⟩
  have HG0 := Lib.hid hG0
  by_cases h1 : X = 1
  · have HO : Hid (decide (limbs X = [1]) = true) := decide_eq_true (limbs_eq_one.2 h1)
    have HV : Hid (Nat.gcd X Y = 1) := by show _ = _; rw [h1, Nat.gcd_one_left]
    clear h1 hXY hG0
    go_enter Tryz.func250, Tryz.ntmps250
    go_wp2_with fail
    refine (isOne_v _ _ _ _ _ true hx (by omega) HO).mono ?_
    rintro e w' ⟨rfl, rfl⟩
    go_wp2_with fail
    go_ret2
    rw [HV.out, Nat.div_one, Nat.div_one]
    exact ⟨_, _, _, _, _, _, rfl, hx, hy, Below.refl _ _⟩
  · have HO : Hid (decide (limbs X = [1]) = false) := decide_eq_false (fun h => h1 (limbs_eq_one.1 h))
    by_cases h2 : Y = 1
    · have HO2 : Hid (decide (limbs Y = [1]) = true) := decide_eq_true (limbs_eq_one.2 h2)
      have HV : Hid (Nat.gcd X Y = 1) := by show _ = _; rw [h2, Nat.gcd_one_right]
      clear h1 h2 hXY hG0
      go_enter Tryz.func250, Tryz.ntmps250
      go_wp2_with fail
      refine (isOne_v _ _ _ _ _ false hx (by omega) HO).mono ?_
      rintro e w' ⟨rfl, rfl⟩
      go_wp2_with fail
      refine (isOne_v _ _ _ _ _ true hy (by omega) HO2).mono ?_
      rintro e w' ⟨rfl, rfl⟩
      go_wp2_with fail
      go_ret2
      rw [HV.out, Nat.div_one, Nat.div_one]
      exact ⟨_, _, _, _, _, _, rfl, hx, hy, Below.refl _ _⟩
    · have HO2 : Hid (decide (limbs Y = [1]) = false) := decide_eq_false (fun h => h2 (limbs_eq_one.1 h))
      have HGL : Hid ((limbs (Nat.gcd X Y)).length ≤ 8388608) := by
        show _ ≤ _
        rcases Nat.eq_zero_or_pos X with h | h
        · rw [h, Nat.gcd_zero_left, ← hy.len]; exact hm
        · have := length_mono (Nat.le_of_dvd h (Nat.gcd_dvd_left X Y))
          have := hx.len
          omega
      clear h1 h2 hXY hG0
      go_enter Tryz.func250, Tryz.ntmps250
      go_wp2_with fail
      refine (isOne_v _ _ _ _ _ false hx (by omega) HO).mono ?_
      rintro e w' ⟨rfl, rfl⟩
      go_wp2_with fail
      refine (isOne_v _ _ _ _ _ false hy (by omega) HO2).mono ?_
      rintro e w' ⟨rfl, rfl⟩
      go_wp2_with fail
      refine (divisor_any _ _ _ _ _ _ X Y _ hT hx hy hn hm).mono ?_
      rintro e w1 ⟨A1, n1, c1, rfl, ho1, hb1⟩
      have hn1 : n1 ≤ 8388608 := by rw [ho1.len]; exact HGL.out
      go_wp2_with fail
      refine (part_any _ _ _ _ _ _ X _ _ (hx.below hb1) ho1.num (by omega) (by omega) HG0.out).mono ?_
      rintro e w2 ⟨A2, n2, c2, rfl, h2, hb2⟩
      have hb12 := hb1.trans (hb2.mono hb1.size)
      go_wp2_with fail
      refine (part_any _ _ _ _ _ _ Y _ _ (hy.below hb12) (ho1.num.below hb2) (by omega) (by omega) HG0.out).mono ?_
      rintro e w3 ⟨A3, n3, c3, rfl, h3, hb3⟩
      go_wp2_with fail
      go_ret2
      exact ⟨_, _, _, _, _, _, rfl, h2.below hb3, h3, hb12.trans (hb3.mono hb12.size)⟩

/-- The limbs of a denominator: none for 1. -/
def dl (d : Nat) : List Nat := if d = 1 then [] else limbs d
/-- The struct value v reads as sign, numerator and denominator. -/
def RatN (w : World) (v : Value) (neg : Bool) (a d : Nat) : Prop := ∃ A n c A' m c', v = .agg #[.bool neg, .slice A n c, .slice A' m c'] ∧ Num w (limbs a) A n c ∧ Num w (dl d) A' m c'
/-- .. handed back; a 0 has no sign and the denominator 1. -/
def RetFrac (w0 : World) (neg : Bool) (a d : Nat) (e : Ending) (w' : World) : Prop := ∃ v, e = .returned v ∧ RatN w' v (neg && decide (a ≠ 0)) a (if a = 0 then 1 else d) ∧ Below w0.heap.size w0 w'

/-- Block g is a variable of three cells. -/
def Rc (w : World) (g : Nat) (z0 z1 z2 : Value) : Prop := w.heap[g]? = some (.cells #[z0, z1, z2] 27 (0, 0))
theorem Rc.lt {w : World} {g : Nat} {z0 z1 z2 : Value} (h : Rc w g z0 z1 z2) : g < w.heap.size := heap_lt h
theorem Rc.new (w : World) (z0 z1 z2 : Value) : Rc (w.alloc (.cells #[z0, z1, z2] 27)) w.heap.size z0 z1 z2 := heap_alloc_new w _
theorem Rc.below {w w' : World} {B g : Nat} {z0 z1 z2 : Value} (h : Rc w g z0 z1 z2) (hb : Below B w w') (hg : g < B) : Rc w' g z0 z1 z2 := (hb.block g hg).trans h
theorem Rc.drewN {w : World} {g : Nat} {z0 z1 z2 : Value} (h : Rc w g z0 z1 z2) (n : Nat) : Rc (w.drewN n) g z0 z1 z2 := h
theorem Rc.alloc {w : World} {g : Nat} {z0 z1 z2 : Value} (h : Rc w g z0 z1 z2) (o : Obj) : Rc (w.alloc o) g z0 z1 z2 := (Below.heap_alloc w o g h.lt).trans h
theorem Rc.far {w : World} {g : Nat} {z0 z1 z2 : Value} (h : Rc w g z0 z1 z2) {p : Addr} (hp : g ≠ p.block) (u : Value) : Rc (w.setCell p u) g z0 z1 z2 := (Below.heap_setCell w p u g hp).trans h
theorem Rc.cells {w : World} {g : Nat} {z0 z1 z2 : Value} (h : Rc w g z0 z1 z2) : w.cell? ⟨g, 0, none⟩ = some z0 ∧ w.cell? ⟨g, 1, none⟩ = some z1 ∧ w.cell? ⟨g, 2, none⟩ = some z2 := by
  refine ⟨?_, ?_, ?_⟩ <;> (rw [cell_of_row w g _ _ _ _ h]; rfl)
theorem Rc.frozen {w : World} {g : Nat} {z0 z1 z2 : Value} (h : Rc w g z0 z1 z2) : w.frozen? ⟨g, 0, none⟩ = false ∧ w.frozen? ⟨g, 1, none⟩ = false ∧ w.frozen? ⟨g, 2, none⟩ = false :=
  ⟨frozen_of_row w g 0 _ _ h, frozen_of_row w g 1 _ _ h, frozen_of_row w g 2 _ _ h⟩
theorem Rc.set {w : World} {g : Nat} {z0 z1 z2 : Value} (h : Rc w g z0 z1 z2) (u0 u1 u2 : Value) : Rc (((w.setCell ⟨g, 0, none⟩ u0).setCell ⟨g, 1, none⟩ u1).setCell ⟨g, 2, none⟩ u2) g u0 u1 u2 :=
  heap_setCell_same _ g 2 _ _ _ (heap_setCell_same _ g 1 _ _ _ (heap_setCell_same w g 0 _ _ _ h))
/-- A struct that lies in the variable of the result is handed back. -/
theorem ret_rc {fn : Func} {p : Tmp} (hres : fn.results = #[.cell p 27]) {R : Ending → World → Prop} {a : Act} {w : World} {g : Nat} {z0 z1 z2 : Value} (hp : a.tmps.getD p undef = .pointer (some ⟨g, 0, none⟩)) (h : Rc w g z0 z1 z2) (hd : a.defers = [])
    (hR : R (.returned (.agg #[z0, z1, z2])) w) : bodyPost Tryz.prog fn R .ret a w :=
  bodyPost_ret (results_cell_row (P := Tryz.prog) hres _ _ g 27 _ (0, 0) _ hp h Tryz.underlying27 rfl (by kernel_rfl)) hd hR
theorem below_set3 {B : Nat} {a w : World} (h : Below B a w) {g : Nat} (hg : B ≤ g) (u0 u1 u2 : Value) : Below B a (((w.setCell ⟨g, 0, none⟩ u0).setCell ⟨g, 1, none⟩ u1).setCell ⟨g, 2, none⟩ u2) :=
  ((h.setCell (p := ⟨g, 0, none⟩) hg _).setCell (p := ⟨g, 1, none⟩) hg _).setCell (p := ⟨g, 2, none⟩) hg _
theorem Num.ne_rc {w : World} {l : List Nat} {A : Option Addr} {n c g : Nat} (h : Num w l A n c) {x : Bool} {B1 B2 : Option Addr} {n1 c1 n2 c2 : Nat} (hr : Rc w g (.bool x) (.slice B1 n1 c1) (.slice B2 n2 c2)) : 0 < n → ∀ a, A = some a → a.block ≠ g := by
  intro hn a ha e
  obtain ⟨b, o, y, hA, _, _, _, hc⟩ := h.at_ hn
  rw [ha] at hA
  cases hA
  simp only at e
  subst e
  rw [cell_of_row w b _ _ _ _ hr] at hc
  match o, hc with
  | 0, hc => simp at hc
  | 1, hc => simp at hc
  | 2, hc => simp at hc
  | k + 3, hc => simp at hc
theorem Num.set3 {w : World} {l : List Nat} {A : Option Addr} {n c : Nat} (h : Num w l A n c) {g : Nat} (hA : 0 < n → ∀ a, A = some a → a.block ≠ g) (u0 u1 u2 : Value) : Num (((w.setCell ⟨g, 0, none⟩ u0).setCell ⟨g, 1, none⟩ u1).setCell ⟨g, 2, none⟩ u2) l A n c :=
  ⟨h.len, h.cap, h.lim, fun hn => by
    obtain ⟨b, o, hA', hb, hc⟩ := h.cells hn
    have hne := hA hn _ hA'
    refine ⟨b, o, hA', by simpa [World.setCell] using hb, fun k x hx => ?_⟩
    rw [World.cell?_setCell_other _ _ _ _ (fun e => hne (by injection e with e1; exact e1.symm)), World.cell?_setCell_other _ _ _ _ (fun e => hne (by injection e with e1; exact e1.symm)), World.cell?_setCell_other _ _ _ _ (fun e => hne (by injection e with e1; exact e1.symm))]
    exact hc k x hx⟩

set_option maxRecDepth 20000 in
set_option maxHeartbeats 1000000 in
/-- fraction: den may be the limbs of d, or none for 1. -/
theorem fraction_any (neg : Bool) (A A' : Option Addr) (n c m c' a d : Nat) (ld : List Nat) (w : World) (hx : Num w (limbs a) A n c) (hy : Num w ld A' m c') (hn : n ≤ 268435456) (hm : m ≤ 268435456) (hld : ld = limbs d ∨ (ld = [] ∧ d = 1)) :
    Calls Tryz.prog 210 #[.bool neg, .slice A n c, .slice A' m c'] w (RetFrac w neg a d) := by
  have hbA : ∀ o, Below w.heap.size w (w.alloc o) := fun o => (Below.refl _ _).alloc (Nat.le_refl _) _
  by_cases h0 : n = 0
  · have ha : a = 0 := limbs_length_zero.1 (by rw [← hx.len]; exact h0)
    subst h0
    have HA := Lib.hid ha
    clear ha hld
    go_enter Tryz.func210, Tryz.ntmps210
    go_wp2_with fail
    refine bodyPost_ret (v := .agg #[.bool false, .slice none 0 0, .slice none 0 0]) (by simp [results, Tryz.results210, go_sem]) rfl ?_
    rw [HA.out]
    exact ⟨_, rfl, ⟨none, 0, 0, none, 0, 0, by simp, by rw [limbs_zero]; exact Num.nil _ _ _, by rw [if_pos rfl]; exact Num.nil _ _ _⟩, hbA _⟩
  · have ha : a ≠ 0 := fun h => h0 (by rw [hx.len, h, limbs_zero]; rfl)
    have hn0 : ((n : Int) == 0) = false := by simp; omega
    have HA := Lib.hid ha
    by_cases h1 : ld = [1]
    · have HO : Hid (decide (ld = [1]) = true) := decide_eq_true h1
      have HD : Hid (d = 1) := by
        show _ = _
        rcases hld with h | ⟨_, h⟩
        · exact limbs_eq_one.1 (by rw [← h]; exact h1)
        · exact h
      clear ha hld h1
      go_enter Tryz.func210, Tryz.ntmps210
      go_wp2_with fail
      refine (isOne_v _ _ _ _ _ true (hy.below (hbA _)) (by omega) HO).mono ?_
      rintro e w' ⟨rfl, rfl⟩
      go_wp2_with fail
      refine ret_rc Tryz.results210 rfl (Rc.new w _ _ _) rfl ?_
      exact ⟨_, rfl, ⟨A, n, c, none, 0, 0, by rw [decide_eq_true HA.out, Bool.and_true], hx.below (hbA _), by rw [if_neg HA.out, HD.out]; exact Num.nil _ _ _⟩, hbA _⟩
    · have HO : Hid (decide (ld = [1]) = false) := decide_eq_false h1
      have HD : Hid (ld = dl d) := by
        show _ = _
        unfold dl
        rcases hld with h | ⟨h, h'⟩
        · rw [if_neg (fun h2 => h1 (by rw [h, h2, limbs_one])), h]
        · rw [if_pos h', h]
      clear ha hld h1
      go_enter Tryz.func210, Tryz.ntmps210
      go_wp2_with fail
      refine (isOne_v _ _ _ _ _ false (hy.below (hbA _)) (by omega) HO).mono ?_
      rintro e w' ⟨rfl, rfl⟩
      go_wp2_with fail
      refine ret_rc Tryz.results210 rfl (Rc.new w _ _ _) rfl ?_
      exact ⟨_, rfl, ⟨A, n, c, A', m, c', by rw [decide_eq_true HA.out, Bool.and_true], hx.below (hbA _), by rw [if_neg HA.out, ← HD.out]; exact hy.below (hbA _)⟩, hbA _⟩

set_option maxRecDepth 20000 in
set_option maxHeartbeats 1000000 in
theorem reduced_any (neg : Bool) (A A' : Option Addr) (n c m c' a d : Nat) (w : World) (hT : Tab w) (hx : Num w (limbs a) A n c) (hy : Num w (limbs d) A' m c') (hn : n ≤ 8388608) (hm : m ≤ 8388608) (hd : d ≠ 0) :
    Calls Tryz.prog 211 #[.bool neg, .slice A n c, .slice A' m c'] w (RetFrac w neg (a / Nat.gcd a d) (d / Nat.gcd a d)) := by
  have HD := Lib.hid hd; clear hd
  have hbA : Below w.heap.size w (w.alloc (.cells #[.bool false, .slice none 0 0, .slice none 0 0] 27)) := (Below.refl _ _).alloc (Nat.le_refl _) _
  have hrc := Rc.new w (.bool false) (.slice none 0 0) (.slice none 0 0)
  go_enter Tryz.func211, Tryz.ntmps211
  go_wp2_with fail
  refine (cancel_any _ _ _ _ _ _ a d _ (hT.below hbA) (hx.below hbA) (hy.below hbA) hn hm (fun h => HD.out h.2)).mono ?_
  rintro e w1 ⟨A1, n1, c1, A2, n2, c2, rfl, h1, h2, hb1⟩
  have hn1 : n1 ≤ n := by rw [h1.len, hx.len]; exact length_mono (Nat.div_le_self _ _)
  have hn2 : n2 ≤ m := by rw [h2.len, hy.len]; exact length_mono (Nat.div_le_self _ _)
  go_wp2_with fail
  refine (fraction_any neg _ _ _ _ _ _ _ (d / Nat.gcd a d) _ _ h1 h2 (by omega) (by omega) (.inl rfl)).mono ?_
  rintro e w2 ⟨v, rfl, ⟨A3, n3, c3, A4, n4, c4, rfl, h3, h4⟩, hb2⟩
  have hb12 := hb1.trans (hb2.mono hb1.size)
  obtain ⟨nb, hnb⟩ : ∃ nb, (neg && decide (a / Nat.gcd a d ≠ 0)) = nb := ⟨_, rfl⟩
  rw [hnb]
  have HNB := Lib.hid hnb; clear hnb
  have hrc2 := hrc.below hb12 (by simp)
  obtain ⟨k0, k1, k2⟩ := hrc2.cells
  obtain ⟨f0, f1, f2⟩ := hrc2.frozen
  have hne3 := h3.ne_rc hrc2
  have hne4 := h4.ne_rc hrc2
  go_wp2_with fail
  refine ret_rc Tryz.results211 rfl (hrc2.set _ _ _) rfl ?_
  exact ⟨_, rfl, ⟨A3, n3, c3, A4, n4, c4, by rw [HNB.out], h3.set3 hne3 _ _ _, h4.set3 hne4 _ _ _⟩, below_set3 (hbA.trans (hb12.mono hbA.size)) (Nat.le_refl _) _ _ _⟩

/-- What balanced hands back: a sign and a size. -/
def RetBal (w0 : World) (V : Int) (e : Ending) (w' : World) : Prop :=
  ∃ (neg : Bool) (t : Nat) (A : Option Addr) (n c : Nat), e = .returned (.tuple #[.bool neg, .slice A n c]) ∧ (if neg then -(t : Int) else (t : Int)) = V ∧ Num w' (limbs t) A n c ∧ Below w0.heap.size w0 w'


set_option maxRecDepth 20000 in
set_option maxHeartbeats 1000000 in
theorem balanced_any (nx ny : Bool) (A A' : Option Addr) (n c m c' a b : Nat) (w : World) (hx : Num w (limbs a) A n c) (hy : Num w (limbs b) A' m c') (hn : n ≤ 268435456) (hm : m ≤ 268435456) :
    Calls Tryz.prog 248 #[.bool nx, .slice A n c, .bool ny, .slice A' m c'] w (RetBal w (sgn nx a + sgn ny b)) := by
  by_cases he : nx = ny
  · subst he
    have hbb : (nx == nx) = true := by simp
    go_enter Tryz.func248, Tryz.ntmps248
    go_wp2_with fail
    refine (sum_any _ _ _ _ _ _ a b _ hx hy (by omega) (by omega)).mono ?_
    rintro e w1 ⟨A1, n1, c1, rfl, h1, hb⟩
    go_wp2_with fail
    go_ret2
    exact ⟨nx, a + b, _, _, _, rfl, by unfold sgn; cases nx <;> simp <;> omega, h1.num, hb⟩
  · have hny : ny = !nx := by cases nx <;> cases ny <;> simp_all
    subst hny
    clear he
    have hbb : (nx == !nx) = false := by cases nx <;> rfl
    by_cases hlt : a < b
    · have HC : Hid (cmpI (a : Int) (b : Int) = -1) := cmpI_lt (by omega)
      have HLT := Lib.hid hlt; clear hlt
      go_enter Tryz.func248, Tryz.ntmps248
      go_wp2_with fail
      refine (order_v _ _ _ _ _ _ a b _ (-1) hx hy (by omega) (by omega) HC).mono ?_
      rintro e w' ⟨rfl, q, rfl⟩
      go_wp2_with fail
      refine (difference_any _ _ _ _ _ _ b a _ (hy.drewN q) (hx.drewN q) (by omega) (Nat.le_of_lt HLT.out)).mono ?_
      rintro e w1 ⟨A1, n1, c1, rfl, h1, hb⟩
      go_wp2_with fail
      go_ret2
      have := HLT.out
      exact ⟨!nx, b - a, _, _, _, rfl, by unfold sgn; cases nx <;> simp <;> omega, h1.num, (below_of_drewN w q _).trans hb⟩
    · obtain ⟨v, hv⟩ : ∃ v, cmpI (a : Int) (b : Int) = v := ⟨_, rfl⟩
      have hv0 : 0 ≤ v := by rw [← hv]; unfold cmpI; rw [if_neg (by omega)]; split <;> omega
      have hd : decide (v < 0) = false := by simp; omega
      have HC := Lib.hid hv; clear hv
      have HLT := Lib.hid hlt; clear hlt
      go_enter Tryz.func248, Tryz.ntmps248
      go_wp2_with fail
      refine (order_v _ _ _ _ _ _ a b _ v hx hy (by omega) (by omega) HC).mono ?_
      rintro e w' ⟨rfl, q, rfl⟩
      go_wp2_with fail
      refine (difference_any _ _ _ _ _ _ a b _ (hx.drewN q) (hy.drewN q) (by omega) (by have := HLT.out; omega)).mono ?_
      rintro e w1 ⟨A1, n1, c1, rfl, h1, hb⟩
      go_wp2_with fail
      go_ret2
      have := HLT.out
      exact ⟨nx, a - b, _, _, _, rfl, by unfold sgn; cases nx <;> simp <;> omega, h1.num, (below_of_drewN w q _).trans hb⟩
end Go.Proofs.YtohbelnfjomcdaaGreatDoor

namespace Go.Proofs.YtohbelnfjomcdaaGreatDoor
open Go.RowKit

/-- The struct value v reads as the number q, in lowest terms. -/
def RatQ (w : World) (v : Value) (q : Rat) : Prop := RatN w v (decide (q.num < 0)) q.num.natAbs q.den
def RetRat (w0 : World) (q : Rat) (e : Ending) (w' : World) : Prop := ∃ v, e = .returned v ∧ RatQ w' v q ∧ Below w0.heap.size w0 w'
theorem RetFrac.rat {w0 : World} {neg : Bool} {a d : Nat} {q : Rat} (hd : d ≠ 0) (hg : Nat.gcd a d = 1) (hq : qv neg a d = q) {e : Ending} {w' : World} (h : RetFrac w0 neg a d e w') : RetRat w0 q e w' := by
  obtain ⟨v, rfl, h1, hb⟩ := h
  refine ⟨v, rfl, ?_, hb⟩
  rw [← hq]
  unfold RatQ
  rw [(qv_low hd hg).1, (qv_low hd hg).2, sgn_abs, sgn_neg]
  by_cases ha : a = 0
  · rw [if_pos ha] at h1
    have : d = 1 := by rw [ha, Nat.gcd_zero_left] at hg; exact hg
    rw [this]; exact h1
  · rw [if_neg ha] at h1; exact h1

theorem dl_one : dl 1 = [] := rfl
theorem length_mul (a b : Nat) : (limbs (a * b)).length ≤ (limbs a).length + (limbs b).length := by
  refine limbs_length_le ?_
  rw [P_add]
  exact Nat.mul_lt_mul'' (lt_P_length a) (lt_P_length b)
theorem dl_ne {d : Nat} (h : d ≠ 1) : dl d = limbs d := if_neg h

set_option maxRecDepth 20000 in
set_option maxHeartbeats 1000000 in
theorem denominator_any (neg : Bool) (A A' : Option Addr) (n c m c' d : Nat) (w : World) (hy : Num w (dl d) A' m c') (hd : d ≠ 0) :
    Calls Tryz.prog 223 #[.agg #[.bool neg, .slice A n c, .slice A' m c']] w (RetNum w d) := by
  have hbA : Below w.heap.size w (w.alloc (.cells #[.bool neg, .slice A n c, .slice A' m c'] 27)) := (Below.refl _ _).alloc (Nat.le_refl _) _
  by_cases h1 : d = 1
  · have hm : m = 0 := by rw [hy.len, h1, dl_one]; rfl
    subst hm
    have H1 := Lib.hid h1; clear h1 hd
    go_enter Tryz.func223, Tryz.ntmps223
    go_wp2_with fail
    refine (one_any _).mono ?_
    rintro e w1 ⟨A1, n1, c1, rfl, h1, hb⟩
    go_wp2_with fail
    go_ret
    exact ⟨_, _, _, rfl, by rw [H1.out, limbs_one]; exact h1.num, hbA.trans (hb.mono hbA.size)⟩
  · have hy2 : Num w (limbs d) A' m c' := by rw [← dl_ne h1]; exact hy
    have hm : m ≠ 0 := by
      rw [hy2.len]
      exact fun e => hd (limbs_length_zero.1 e)
    have hm0 : ((m : Int) == 0) = false := by simp; omega
    clear h1 hd hy
    go_enter Tryz.func223, Tryz.ntmps223
    go_wp2_with fail
    go_ret
    exact ⟨_, _, _, rfl, hy2.below hbA, hbA⟩

set_option maxRecDepth 20000 in
set_option maxHeartbeats 1000000 in
theorem multiply_any (neg : Bool) (A1 A2 A3 A4 : Option Addr) (n1 c1 n2 c2 n3 c3 n4 c4 a b c d : Nat) (q : Rat) (w : World) (hT : Tab w) (h1 : Num w (limbs a) A1 n1 c1) (h2 : Num w (limbs b) A2 n2 c2) (h3 : Num w (limbs c) A3 n3 c3) (h4 : Num w (limbs d) A4 n4 c4)
    (hn1 : n1 ≤ 8388608) (hn2 : n2 ≤ 8388608) (hn3 : n3 ≤ 8388608) (hn4 : n4 ≤ 8388608) (hb : b ≠ 0) (hd : d ≠ 0) (hg1 : Nat.gcd a b = 1) (hg2 : Nat.gcd c d = 1) (hq : qv neg (a * c) (b * d) = q) :
    Calls Tryz.prog 224 #[.bool neg, .slice A1 n1 c1, .slice A2 n2 c2, .slice A3 n3 c3, .slice A4 n4 c4] w (RetRat w q) := by
  obtain ⟨k1, k2, k3⟩ := qv_cross (x := neg) hb hd hg1 hg2
  have k4 : (c / Nat.gcd c b = c / Nat.gcd c b) := rfl
  rw [hq] at k1
  have K1 := Lib.hid k1
  have K2 := Lib.hid k2
  have K3 := Lib.hid k3
  have HB := Lib.hid hb
  have HD := Lib.hid hd
  clear k1 k2 k3 hb hd hg1 hg2 hq k4
  have hbA : Below w.heap.size w (w.alloc (.cells #[.bool false, .slice none 0 0, .slice none 0 0] 27)) := (Below.refl _ _).alloc (Nat.le_refl _) _
  have hrc := Rc.new w (.bool false) (.slice none 0 0) (.slice none 0 0)
  go_enter Tryz.func224, Tryz.ntmps224
  go_wp2_with fail
  refine (cancel_any _ _ _ _ _ _ a d _ (hT.below hbA) (h1.below hbA) (h4.below hbA) hn1 hn4 (fun h => HD.out h.2)).mono ?_
  rintro e w1 ⟨B1, m1, e1, B4, m4, e4, rfl, g1, g4, hb1⟩
  have hm1 : m1 ≤ 8388608 := by have := length_mono (Nat.div_le_self a (Nat.gcd a d)); rw [g1.len]; rw [h1.len] at hn1; omega
  have hm4 : m4 ≤ 8388608 := by have := length_mono (Nat.div_le_self d (Nat.gcd a d)); rw [g4.len]; rw [h4.len] at hn4; omega
  obtain ⟨a', ha'⟩ : ∃ x, a / Nat.gcd a d = x := ⟨_, rfl⟩
  obtain ⟨d', hd'⟩ : ∃ x, d / Nat.gcd a d = x := ⟨_, rfl⟩
  simp only [ha', hd'] at K1 K2 K3
  rw [ha'] at g1
  rw [hd'] at g4
  clear ha' hd'
  go_wp2_with fail
  refine (cancel_any _ _ _ _ _ _ c b _ ((hT.below hbA).below hb1) ((h3.below hbA).below hb1) ((h2.below hbA).below hb1) hn3 hn2 (fun h => HB.out h.2)).mono ?_
  rintro e w2 ⟨B3, m3, e3, B2, m2, e2, rfl, g3, g2, hb2⟩
  have hm3 : m3 ≤ 8388608 := by have := length_mono (Nat.div_le_self c (Nat.gcd c b)); rw [g3.len]; rw [h3.len] at hn3; omega
  have hm2 : m2 ≤ 8388608 := by have := length_mono (Nat.div_le_self b (Nat.gcd c b)); rw [g2.len]; rw [h2.len] at hn2; omega
  obtain ⟨c', hc'⟩ : ∃ x, c / Nat.gcd c b = x := ⟨_, rfl⟩
  obtain ⟨b', hb'⟩ : ∃ x, b / Nat.gcd c b = x := ⟨_, rfl⟩
  simp only [hc', hb'] at K1 K2 K3
  rw [hc'] at g3
  rw [hb'] at g2
  clear hc' hb'
  have hb12 := hb1.trans (hb2.mono hb1.size)
  go_wp2_with fail
  refine (product_any _ _ _ _ _ _ a' c' _ (g1.below hb2) g3 (by omega) (by omega)).mono ?_
  rintro e w3 ⟨B5, m5, e5, rfl, g5, hb3⟩
  have hm5 : m5 ≤ 16777216 := by
    rw [g5.len]
    have := length_mul a' c'
    have := g1.len
    have := g3.len
    omega
  have hb13 := hb12.trans (hb3.mono hb12.size)
  go_wp2_with fail
  refine (product_any _ _ _ _ _ _ b' d' _ (g2.below hb3) (g4.below (hb2.trans (hb3.mono hb2.size))) (by omega) (by omega)).mono ?_
  rintro e w4 ⟨B6, m6, e6, rfl, g6, hb4⟩
  have hm6 : m6 ≤ 16777216 := by
    rw [g6.len]
    have := length_mul b' d'
    have := g2.len
    have := g4.len
    omega
  have hb14 := hb13.trans (hb4.mono hb13.size)
  go_wp2_with fail
  refine (fraction_any neg _ _ _ _ _ _ _ (b' * d') _ _ (g5.num.below hb4) g6.num (by omega) (by omega) (.inl rfl)).mono ?_
  rintro e w5 hr
  obtain ⟨v, rfl, ⟨A7, n7, c7, A8, n8, c8, rfl, g7, g8⟩, hb5⟩ := RetFrac.rat K2.out K3.out K1.out hr
  have hb15 := hb14.trans (hb5.mono hb14.size)
  have hrc2 := hrc.below hb15 (by simp)
  obtain ⟨k0, k1, k2⟩ := hrc2.cells
  obtain ⟨f0, f1, f2⟩ := hrc2.frozen
  have hne7 := g7.ne_rc hrc2
  have hne8 := g8.ne_rc hrc2
  obtain ⟨nb, hnb⟩ : ∃ nb, (decide (q.num < 0)) = nb := ⟨_, rfl⟩
  rw [hnb]
  have HNB := Lib.hid hnb; clear hnb
  go_wp2_with fail
  refine ret_rc Tryz.results224 rfl (hrc2.set _ _ _) rfl ?_
  exact ⟨_, rfl, ⟨A7, n7, c7, A8, n8, c8, by rw [HNB.out], g7.set3 hne7 _ _ _, g8.set3 hne8 _ _ _⟩, below_set3 (hbA.trans (hb15.mono hbA.size)) (Nat.le_refl _) _ _ _⟩
end Go.Proofs.YtohbelnfjomcdaaGreatDoor
