/- The law SemiringPrefersTheSum. -/
import Derived.Test.YtafoplnpnoedfaaGreatDoorQ37
import Derived.Test.YtafoplnpnoedfaaGreatDoorQ38
import Derived.Deep.RegionHeld3
import Derived.Deep.CutRange
set_option linter.unusedVariables false
set_option linter.unusedSimpArgs false
namespace Go.Proofs.YtafoplnpnoedfaaGreatDoor
open Go.RowKit

abbrev rk (k : Int) : Value := .agg #[.int .i64 k, .slice none 0 0]
theorem WV.s8 {k : Int} {L : Nat} {w : World} {v : Value} {z : Int × Bool × Rat} (h : WV k L w v z) {g : Nat} {l : List Value} {t : TypeId} (hr : Cs w g l t) (hl : ∀ v ∈ l, ∀ x : Nat, v ≠ .int .u32 (x : Int)) (u0 u1 u2 u3 u4 u5 u6 u7 : Value) :
    WV k L ((((((((w.setCell ⟨g, 0, none⟩ u0).setCell ⟨g, 1, none⟩ u1).setCell ⟨g, 2, none⟩ u2).setCell ⟨g, 3, none⟩ u3).setCell ⟨g, 4, none⟩ u4).setCell ⟨g, 5, none⟩ u5).setCell ⟨g, 6, none⟩ u6).setCell ⟨g, 7, none⟩ u7) v z := by
  rcases h with h | ⟨h1, ⟨A, n, c, B, m, e, h2, h3⟩, h4⟩
  · exact .inl h
  · exact .inr ⟨h1, ⟨A, n, c, B, m, e, h2, h3.s8 hr hl _ _ _ _ _ _ _ _⟩, h4⟩
theorem WV.shape {k : Int} {L : Nat} {w : World} {v : Value} {z : Int × Bool × Rat} (h : WV k L w v z) : ∃ A n c B m e q i, v = .agg #[.bool false, .slice A n c, .slice B m e, .int .i64 q, .bool i, .int .u64 0, .slice none 0 0, .slice none 0 0] := by
  rcases h with ⟨_, h, _⟩ | ⟨_, ⟨A, n, c, B, m, e, h2, _⟩, _⟩
  · exact ⟨none, 0, 0, none, 0, 0, _, _, h⟩
  · exact ⟨_, _, _, _, _, _, _, _, h2⟩
/-- The cells of a weight. -/
abbrev wl (A : Option Addr) (n c : Nat) (B : Option Addr) (m e : Nat) (q : Int) (i : Bool) : List Value := [.bool false, .slice A n c, .slice B m e, .int .i64 q, .bool i, .int .u64 0, .slice none 0 0, .slice none 0 0]
theorem wl_no (A : Option Addr) (n c : Nat) (B : Option Addr) (m e : Nat) (q : Int) (i : Bool) : ∀ v ∈ wl A n c B m e q i, ∀ x : Nat, v ≠ .int .u32 (x : Int) := by simp
/-- Block g holds the weight z. -/
def Box (wx : World) (k : Int) (g : Nat) (z : Int × Bool × Rat) : Prop := ∃ A n c B m e q i, Cs wx g (wl A n c B m e q i) 32 ∧ WV k 1 wx (.agg (wl A n c B m e q i).toArray) z
theorem Box.below {w w' : World} {k : Int} {g : Nat} {z : Int × Bool × Rat} (h : Box w k g z) (hb : Below w.heap.size w w') : Box w' k g z := by
  obtain ⟨A, n, c, B, m, e, q, i, h1, h2⟩ := h
  exact ⟨A, n, c, B, m, e, q, i, h1.below hb h1.lt, h2.below hb⟩
theorem Box.lt {w : World} {k : Int} {g : Nat} {z : Int × Bool × Rat} (h : Box w k g z) : g < w.heap.size := by
  obtain ⟨A, n, c, B, m, e, q, i, h1, h2⟩ := h
  exact h1.lt
theorem Box.far {w : World} {k : Int} {g : Nat} {z : Int × Bool × Rat} (h : Box w k g z) {g' : Nat} {l : List Value} {t : TypeId} (hr : Cs w g' l t) (hl : ∀ v ∈ l, ∀ x : Nat, v ≠ .int .u32 (x : Int)) (hne : g ≠ g') (u0 u1 u2 u3 u4 u5 u6 u7 : Value) : Box ((((((((w.setCell ⟨g', 0, none⟩ u0).setCell ⟨g', 1, none⟩ u1).setCell ⟨g', 2, none⟩ u2).setCell ⟨g', 3, none⟩ u3).setCell ⟨g', 4, none⟩ u4).setCell ⟨g', 5, none⟩ u5).setCell ⟨g', 6, none⟩ u6).setCell ⟨g', 7, none⟩ u7) k g z := by
  obtain ⟨A, n, c, B, m, e, q, i, h1, h2⟩ := h
  exact ⟨A, n, c, B, m, e, q, i, cs_far8 h1 hne _ _ _ _ _ _ _ _, h2.s8 hr hl _ _ _ _ _ _ _ _⟩
/-- A block that holds zero cells, stored into: the weight. -/
theorem Box.own {w : World} {k : Int} {g : Nat} {l : List Value} (hr : Cs w g l 32) (h8 : l.length = 8) (hl : ∀ v ∈ l, ∀ x : Nat, v ≠ .int .u32 (x : Int)) {xA xB : Option Addr} {xn xc xm xe : Nat} {xq : Int} {xi : Bool} {z : Int × Bool × Rat} (h : WV k 1 w (.agg (wl xA xn xc xB xm xe xq xi).toArray) z) : Box ((((((((w.setCell ⟨g, 0, none⟩ (.bool false)).setCell ⟨g, 1, none⟩ (.slice xA xn xc)).setCell ⟨g, 2, none⟩ (.slice xB xm xe)).setCell ⟨g, 3, none⟩ (.int .i64 xq)).setCell ⟨g, 4, none⟩ (.bool xi)).setCell ⟨g, 5, none⟩ (.int .u64 0)).setCell ⟨g, 6, none⟩ (.slice none 0 0)).setCell ⟨g, 7, none⟩ (.slice none 0 0)) k g z :=
  ⟨xA, xn, xc, xB, xm, xe, xq, xi, cs_own8 hr h8 _ _ _ _ _ _ _ _, h.s8 hr hl _ _ _ _ _ _ _ _⟩
def Z8 : List Value := [.bool false, .slice none 0 0, .slice none 0 0, .int .i64 0, .bool false, .int .u64 0, .slice none 0 0, .slice none 0 0]
theorem z8_no : ∀ v ∈ Z8, ∀ x : Nat, v ≠ .int .u32 (x : Int) := by unfold Z8; simp
/-- What the front of the first region leaves in the slots. -/
def G4 (w0 : World) (k u v x : Int) (i : Nat) (a : Value) (w : World) : Prop :=
  match i with
  | 0 => a = rk k
  | 1 => a = .int .i64 u
  | 2 => ∃ z, WV k 1 w a z
  | 3 => a = rk k
  | 4 => a = .int .i64 v
  | 5 => ∃ z, WV k 1 w a z
  | 6 => a = rk k
  | 7 => a = .int .i64 x
  | 8 => ∃ z, WV k 1 w a z
  | _ => ∃ g, a = .pointer (some ⟨g, 0, none⟩) ∧ w0.heap.size ≤ g ∧ Cs w g Z8 32
theorem G4.keep {w0 : World} {k u v x : Int} (i : Nat) (a : Value) (w w' : World) (h : G4 w0 k u v x i a w) (hb : Below w.heap.size w w') : G4 w0 k u v x i a w' := by
  match i, h with
  | 0, h => exact h
  | 1, h => exact h
  | 2, ⟨z, h⟩ => exact ⟨z, h.below hb⟩
  | 3, h => exact h
  | 4, h => exact h
  | 5, ⟨z, h⟩ => exact ⟨z, h.below hb⟩
  | 6, h => exact h
  | 7, h => exact h
  | 8, ⟨z, h⟩ => exact ⟨z, h.below hb⟩
  | n + 9, ⟨g, h1, h2, h3⟩ => exact ⟨g, h1, h2, h3.below hb h3.lt⟩
def F4 (i : Nat) : Bool := decide (i < 12)
def S4 (i : Nat) : Bool := decide (9 ≤ i)
theorem G4.ptr {w0 : World} {k u v x : Int} (i : Nat) (a : Value) (w : World) (hs : S4 i = true) (h : G4 w0 k u v x i a w) : ∃ g, a = .pointer (some ⟨g, 0, none⟩) ∧ g < w.heap.size := by
  have h9 := of_decide_eq_true hs
  match i, h with
  | n + 9, ⟨g, h1, _, h3⟩ => exact ⟨g, h1, h3.lt⟩
  | 0, _ => omega
  | 1, _ => omega
  | 2, _ => omega
  | 3, _ => omega
  | 4, _ => omega
  | 5, _ => omega
  | 6, _ => omega
  | 7, _ => omega
  | 8, _ => omega
/-- The box of the semiring. -/
def B4 (w0 : World) (k : Int) (g0 : Nat) (wx : World) : Prop := Cs wx g0 [.int .i64 k, .slice none 0 0] 24 ∧ Below w0.heap.size w0 wx
theorem B4.drew {w0 w : World} {k : Int} {g0 : Nat} (h : B4 w0 k g0 w) : B4 w0 k g0 w.drew := ⟨h.1.drew, h.2.drew⟩
theorem B4.below {w0 w w' : World} {k : Int} {g0 : Nat} (h : B4 w0 k g0 w) (hb : Below w.heap.size w w') : B4 w0 k g0 w' := ⟨h.1.below hb h.1.lt, h.2.trans (hb.mono h.2.size)⟩
/-- The five boxes and the semiring's, while the last region runs. -/
structure B9 (w0 : World) (k : Int) (ga gb gc gs gq : Nat) (X Y R S T : List Value) (za zb zc zs : Int × Bool × Rat) (wx : World) : Prop where
  b : B4 w0 k w0.heap.size wx
  a : Cs wx ga X 32
  b' : Cs wx gb Y 32
  c : Cs wx gc R 32
  s : Cs wx gs S 32
  q : Cs wx gq T 32
  wa : WV k 1 wx (.agg X.toArray) za
  wb : WV k 1 wx (.agg Y.toArray) zb
  wz : WV k 1 wx (.agg R.toArray) zc
  ws : WV k 1 wx (.agg S.toArray) zs
  wq : WV k 1 wx (.agg T.toArray) zs
theorem B9.below {w0 : World} {k : Int} {ga gb gc gs gq : Nat} {X Y R S T : List Value} {za zb zc zs : Int × Bool × Rat} {wx wy : World} (h : B9 w0 k ga gb gc gs gq X Y R S T za zb zc zs wx) (hb : Below wx.heap.size wx wy) : B9 w0 k ga gb gc gs gq X Y R S T za zb zc zs wy :=
  ⟨h.b.below hb, h.a.below hb h.a.lt, h.b'.below hb h.b'.lt, h.c.below hb h.c.lt, h.s.below hb h.s.lt, h.q.below hb h.q.lt, h.wa.below hb, h.wb.below hb, h.wz.below hb, h.ws.below hb, h.wq.below hb⟩
theorem B9.drew {w0 : World} {k : Int} {ga gb gc gs gq : Nat} {X Y R S T : List Value} {za zb zc zs : Int × Bool × Rat} {wx : World} (h : B9 w0 k ga gb gc gs gq X Y R S T za zb zc zs wx) : B9 w0 k ga gb gc gs gq X Y R S T za zb zc zs wx.drew := h.below ((Below.refl _ _).drew)
def G9t (k : Int) (X Y R S T : List Value) (za zb zc : Int × Bool × Rat) (i : Nat) (a : Value) (w : World) : Prop :=
  match i with
  | 0 => a = .bool true
  | 1 => a = .bool true
  | 2 => a = .agg S.toArray
  | 3 => a = .agg T.toArray
  | 4 => a = .bool true
  | 5 => a = .bool true
  | 6 => a = .bool true
  | 7 => a = rk k
  | 8 => a = .agg X.toArray
  | 9 => a = .agg Y.toArray
  | 10 => a = .bool true
  | 11 => a = .bool true
  | 12 => a = rk k
  | 13 => a = .agg Y.toArray
  | 14 => a = .agg X.toArray
  | 15 => a = .bool false
  | 16 => a = .bool false
  | 17 => a = .bool true
  | 18 => a = .bool true
  | 19 => a = .bool true
  | 20 => a = rk k
  | 21 => a = .agg X.toArray
  | 22 => a = .agg Y.toArray
  | 23 => a = .bool true
  | 24 => a = .bool true
  | 25 => a = rk k
  | 26 => a = rk k
  | 27 => a = .agg Y.toArray
  | 28 => a = .agg R.toArray
  | 29 => WV k 2 w a (tm k zb zc)
  | 30 => a = rk k
  | 31 => a = .agg X.toArray
  | 32 => a = .agg R.toArray
  | 33 => WV k 2 w a (tm k za zc)
  | 34 => a = .bool false
  | 35 => a = .bool false
  | 36 => a = .bool true
  | 37 => a = .bool true
  | _ => True
theorem G9t.keep {k : Int} {X Y R S T : List Value} {za zb zc : Int × Bool × Rat} (i : Nat) (a : Value) (w w' : World) (h : G9t k X Y R S T za zb zc i a w) (hb : Below w.heap.size w w') : G9t k X Y R S T za zb zc i a w' := by
  match i, h with
  | 0, h => exact h
  | 1, h => exact h
  | 2, h => exact h
  | 3, h => exact h
  | 4, h => exact h
  | 5, h => exact h
  | 6, h => exact h
  | 7, h => exact h
  | 8, h => exact h
  | 9, h => exact h
  | 10, h => exact h
  | 11, h => exact h
  | 12, h => exact h
  | 13, h => exact h
  | 14, h => exact h
  | 15, h => exact h
  | 16, h => exact h
  | 17, h => exact h
  | 18, h => exact h
  | 19, h => exact h
  | 20, h => exact h
  | 21, h => exact h
  | 22, h => exact h
  | 23, h => exact h
  | 24, h => exact h
  | 25, h => exact h
  | 26, h => exact h
  | 27, h => exact h
  | 28, h => exact h
  | 29, h => exact WV.below h hb
  | 30, h => exact h
  | 31, h => exact h
  | 32, h => exact h
  | 33, h => exact WV.below h hb
  | 34, h => exact h
  | 35, h => exact h
  | 36, h => exact h
  | 37, h => exact h
  | n + 38, h => exact trivial
def G9f (k : Int) (X Y R S T : List Value) (za zb zc : Int × Bool × Rat) (i : Nat) (a : Value) (w : World) : Prop :=
  match i with
  | 0 => a = .bool true
  | 1 => a = .bool true
  | 2 => a = .agg S.toArray
  | 3 => a = .agg T.toArray
  | 4 => a = .bool true
  | 5 => a = .bool true
  | 6 => a = .bool true
  | 7 => a = rk k
  | 8 => a = .agg X.toArray
  | 9 => a = .agg Y.toArray
  | 10 => a = .bool false
  | 11 => a = .bool false
  | 12 => a = undef
  | 13 => a = undef
  | 14 => a = undef
  | 15 => a = undef
  | 16 => a = .bool false
  | 17 => a = .bool true
  | 18 => a = .bool true
  | 19 => a = .bool true
  | 20 => a = rk k
  | 21 => a = .agg X.toArray
  | 22 => a = .agg Y.toArray
  | 23 => a = .bool false
  | 24 => a = .bool false
  | 25 => a = undef
  | 26 => a = undef
  | 27 => a = undef
  | 28 => a = undef
  | 29 => a = undef
  | 30 => a = undef
  | 31 => a = undef
  | 32 => a = undef
  | 33 => a = undef
  | 34 => a = undef
  | 35 => a = .bool false
  | 36 => a = .bool true
  | 37 => a = .bool true
  | _ => True
theorem G9f.keep {k : Int} {X Y R S T : List Value} {za zb zc : Int × Bool × Rat} (i : Nat) (a : Value) (w w' : World) (h : G9f k X Y R S T za zb zc i a w) (hb : Below w.heap.size w w') : G9f k X Y R S T za zb zc i a w' := by
  match i, h with
  | 0, h => exact h
  | 1, h => exact h
  | 2, h => exact h
  | 3, h => exact h
  | 4, h => exact h
  | 5, h => exact h
  | 6, h => exact h
  | 7, h => exact h
  | 8, h => exact h
  | 9, h => exact h
  | 10, h => exact h
  | 11, h => exact h
  | 12, h => exact h
  | 13, h => exact h
  | 14, h => exact h
  | 15, h => exact h
  | 16, h => exact h
  | 17, h => exact h
  | 18, h => exact h
  | 19, h => exact h
  | 20, h => exact h
  | 21, h => exact h
  | 22, h => exact h
  | 23, h => exact h
  | 24, h => exact h
  | 25, h => exact h
  | 26, h => exact h
  | 27, h => exact h
  | 28, h => exact h
  | 29, h => exact h
  | 30, h => exact h
  | 31, h => exact h
  | 32, h => exact h
  | 33, h => exact h
  | 34, h => exact h
  | 35, h => exact h
  | 36, h => exact h
  | 37, h => exact h
  | n + 38, h => exact trivial
def F9 (i : Nat) : Bool := decide (i < 38)
def S9' (i : Nat) : Bool := false
set_option maxRecDepth 20000 in
set_option maxHeartbeats 16000000 in
theorem prefers_law (vit : Bool) (u v x : Int) (w : World) (hT : Txt w) (hu : -9223372036854775808 ≤ u ∧ u ≤ 9223372036854775807) (hv : -9223372036854775808 ≤ v ∧ v ≤ 9223372036854775807) (hx : -9223372036854775808 ≤ x ∧ x ≤ 9223372036854775807) :
    Calls Tryz.prog 3 #[.bool vit, .int .i64 u, .int .i64 v, .int .i64 x] w (RetV w (.bool true)) := by
  have HT := Lib.hid hT
  have HU := Lib.hid hu
  have HV := Lib.hid hv
  have HX := Lib.hid hx
  obtain ⟨hb0, c1⟩ := blk1 w [.int .i64 2, .slice none 0 0] 24
  clear hT hu hv hx
  go_enter Tryz.func3, Tryz.ntmps3
  go_upto_if 16 with (fail)
  go_cut [16] from 17 to 17 (fun _ wx => ∃ k, (k = 2 ∨ k = 3) ∧ B4 w k w.heap.size wx)
  case first =>
    cases vit
    · go_wp2_with fail
      go_meet
      case rel => exact ⟨2, .inl rfl, c1, hb0⟩
    · have k0 := c1.cell (k := 0) rfl
      have f0 := c1.frozen 0
      go_wp2_with fail
      go_meet
      case rel => exact ⟨3, .inr rfl, (blk1 w [.int .i64 3, .slice none 0 0] 24).2, (blk1 w [.int .i64 3, .slice none 0 0] 24).1⟩
  case rest =>
    obtain ⟨k, hk, hB⟩ := hcut
    have HB := Lib.hid hB
    have HK := Lib.hid hk
    clear hk hB hb0 c1
    go_wp2_with fail
    go_cut [10, 11, 12] from 18 to 26 (fun p q r wx => ∃ ga gb gc za zb zc, p = .pointer (some ⟨ga, 0, none⟩) ∧ q = .pointer (some ⟨gb, 0, none⟩) ∧ r = .pointer (some ⟨gc, 0, none⟩) ∧ Box wx k ga za ∧ Box wx k gb zb ∧ Box wx k gc zc ∧ B4 w k w.heap.size wx)
    case first =>
      refine wp_region_front0 (by kernel_rfl) F4 S4 [18, 19, 20, 21, 22, 23, 24, 25, 26, 10, 11, 12] (G4 w k u v x) (B4 w k w.heap.size) HB.out.drew (by kernel_rfl) (by kernel_rfl) G4.keep G4.ptr ?step 3 (by kernel_rfl) _ rfl ?fin
      case step =>
        intro i oi ho hF
        have hi : i < 12 := of_decide_eq_true hF
        clear hF
        obtain rfl | rfl | rfl | rfl | rfl | rfl | rfl | rfl | rfl | rfl | rfl | rfl : i = 0 ∨ i = 1 ∨ i = 2 ∨ i = 3 ∨ i = 4 ∨ i = 5 ∨ i = 6 ∨ i = 7 ∨ i = 8 ∨ i = 9 ∨ i = 10 ∨ i = 11 := by omega
        · obtain rfl := Option.some.inj ho
          intro f wx hB hdep K hK
          have HQ : Hid (∀ (val : Value) w', val = rk k → Below wx.heap.size wx w' → B4 w k w.heap.size w' → K _ w') := Lib.hid (fun val w' h1 h2 h3 => hK val w' h1 h2 h3 (fun h => absurd h (by decide)))
          simp only [frontAct, List.foldl_cons, List.foldl_nil, List.setIfInBounds_toArray, List.set_cons_succ, List.set_cons_zero, Act.put] at HQ
          clear hK hdep
          simp only [frontAct, List.foldl_cons, List.foldl_nil, List.setIfInBounds_toArray, List.set_cons_succ, List.set_cons_zero]
          have k0 := hB.1.cell (k := 0) rfl
          have k1 := hB.1.cell (k := 1) rfl
          go_simp
          exact HQ.out (rk k) wx rfl (Below.refl _ _) hB
        · obtain rfl := Option.some.inj ho
          intro f wx hB hdep K hK
          have HQ : Hid (∀ (val : Value) w', val = .int .i64 u → Below wx.heap.size wx w' → B4 w k w.heap.size w' → K _ w') := Lib.hid (fun val w' h1 h2 h3 => hK val w' h1 h2 h3 (fun h => absurd h (by decide)))
          simp only [frontAct, List.foldl_cons, List.foldl_nil, List.setIfInBounds_toArray, List.set_cons_succ, List.set_cons_zero, Act.put] at HQ
          clear hK hdep
          simp only [frontAct, List.foldl_cons, List.foldl_nil, List.setIfInBounds_toArray, List.set_cons_succ, List.set_cons_zero]
          go_simp
          exact HQ.out (.int .i64 u) wx rfl (Below.refl _ _) hB
        · obtain rfl := Option.some.inj ho
          intro f wx hB hdep K hK
          have HQ : Hid (∀ (val : Value) w', (∃ z, WV k 1 w' val z) → Below wx.heap.size wx w' → B4 w k w.heap.size w' → K _ w') := Lib.hid (fun val w' h1 h2 h3 => hK val w' h1 h2 h3 (fun h => absurd h (by decide)))
          have e18 : f 18 = _ := hdep ⟨0, .data⟩ (by simp) (by rfl)
          have e19 : f 19 = _ := hdep ⟨1, .data⟩ (by simp) (by rfl)
          simp only [frontAct, List.foldl_cons, List.foldl_nil, List.setIfInBounds_toArray, List.set_cons_succ, List.set_cons_zero, Act.put] at HQ
          clear hK hdep
          simp only [frontAct, List.foldl_cons, List.foldl_nil, List.setIfInBounds_toArray, List.set_cons_succ, List.set_cons_zero]
          generalize f 18 = f18 at *
          subst e18
          generalize f 19 = f19 at *
          subst e19
          go_simp
          refine (Weight_w HK.out u _ HU.out.1 HU.out.2).mono ?_
          rintro e w' ⟨val, z, rfl, hz, hb⟩
          exact HQ.out val w' ⟨z, hz⟩ hb (hB.below hb)
        · obtain rfl := Option.some.inj ho
          intro f wx hB hdep K hK
          have HQ : Hid (∀ (val : Value) w', val = rk k → Below wx.heap.size wx w' → B4 w k w.heap.size w' → K _ w') := Lib.hid (fun val w' h1 h2 h3 => hK val w' h1 h2 h3 (fun h => absurd h (by decide)))
          simp only [frontAct, List.foldl_cons, List.foldl_nil, List.setIfInBounds_toArray, List.set_cons_succ, List.set_cons_zero, Act.put] at HQ
          clear hK hdep
          simp only [frontAct, List.foldl_cons, List.foldl_nil, List.setIfInBounds_toArray, List.set_cons_succ, List.set_cons_zero]
          have k0 := hB.1.cell (k := 0) rfl
          have k1 := hB.1.cell (k := 1) rfl
          go_simp
          exact HQ.out (rk k) wx rfl (Below.refl _ _) hB
        · obtain rfl := Option.some.inj ho
          intro f wx hB hdep K hK
          have HQ : Hid (∀ (val : Value) w', val = .int .i64 v → Below wx.heap.size wx w' → B4 w k w.heap.size w' → K _ w') := Lib.hid (fun val w' h1 h2 h3 => hK val w' h1 h2 h3 (fun h => absurd h (by decide)))
          simp only [frontAct, List.foldl_cons, List.foldl_nil, List.setIfInBounds_toArray, List.set_cons_succ, List.set_cons_zero, Act.put] at HQ
          clear hK hdep
          simp only [frontAct, List.foldl_cons, List.foldl_nil, List.setIfInBounds_toArray, List.set_cons_succ, List.set_cons_zero]
          go_simp
          exact HQ.out (.int .i64 v) wx rfl (Below.refl _ _) hB
        · obtain rfl := Option.some.inj ho
          intro f wx hB hdep K hK
          have HQ : Hid (∀ (val : Value) w', (∃ z, WV k 1 w' val z) → Below wx.heap.size wx w' → B4 w k w.heap.size w' → K _ w') := Lib.hid (fun val w' h1 h2 h3 => hK val w' h1 h2 h3 (fun h => absurd h (by decide)))
          have e21 : f 21 = _ := hdep ⟨3, .data⟩ (by simp) (by rfl)
          have e22 : f 22 = _ := hdep ⟨4, .data⟩ (by simp) (by rfl)
          simp only [frontAct, List.foldl_cons, List.foldl_nil, List.setIfInBounds_toArray, List.set_cons_succ, List.set_cons_zero, Act.put] at HQ
          clear hK hdep
          simp only [frontAct, List.foldl_cons, List.foldl_nil, List.setIfInBounds_toArray, List.set_cons_succ, List.set_cons_zero]
          generalize f 21 = f21 at *
          subst e21
          generalize f 22 = f22 at *
          subst e22
          go_simp
          refine (Weight_w HK.out v _ HV.out.1 HV.out.2).mono ?_
          rintro e w' ⟨val, z, rfl, hz, hb⟩
          exact HQ.out val w' ⟨z, hz⟩ hb (hB.below hb)
        · obtain rfl := Option.some.inj ho
          intro f wx hB hdep K hK
          have HQ : Hid (∀ (val : Value) w', val = rk k → Below wx.heap.size wx w' → B4 w k w.heap.size w' → K _ w') := Lib.hid (fun val w' h1 h2 h3 => hK val w' h1 h2 h3 (fun h => absurd h (by decide)))
          simp only [frontAct, List.foldl_cons, List.foldl_nil, List.setIfInBounds_toArray, List.set_cons_succ, List.set_cons_zero, Act.put] at HQ
          clear hK hdep
          simp only [frontAct, List.foldl_cons, List.foldl_nil, List.setIfInBounds_toArray, List.set_cons_succ, List.set_cons_zero]
          have k0 := hB.1.cell (k := 0) rfl
          have k1 := hB.1.cell (k := 1) rfl
          go_simp
          exact HQ.out (rk k) wx rfl (Below.refl _ _) hB
        · obtain rfl := Option.some.inj ho
          intro f wx hB hdep K hK
          have HQ : Hid (∀ (val : Value) w', val = .int .i64 x → Below wx.heap.size wx w' → B4 w k w.heap.size w' → K _ w') := Lib.hid (fun val w' h1 h2 h3 => hK val w' h1 h2 h3 (fun h => absurd h (by decide)))
          simp only [frontAct, List.foldl_cons, List.foldl_nil, List.setIfInBounds_toArray, List.set_cons_succ, List.set_cons_zero, Act.put] at HQ
          clear hK hdep
          simp only [frontAct, List.foldl_cons, List.foldl_nil, List.setIfInBounds_toArray, List.set_cons_succ, List.set_cons_zero]
          go_simp
          exact HQ.out (.int .i64 x) wx rfl (Below.refl _ _) hB
        · obtain rfl := Option.some.inj ho
          intro f wx hB hdep K hK
          have HQ : Hid (∀ (val : Value) w', (∃ z, WV k 1 w' val z) → Below wx.heap.size wx w' → B4 w k w.heap.size w' → K _ w') := Lib.hid (fun val w' h1 h2 h3 => hK val w' h1 h2 h3 (fun h => absurd h (by decide)))
          have e24 : f 24 = _ := hdep ⟨6, .data⟩ (by simp) (by rfl)
          have e25 : f 25 = _ := hdep ⟨7, .data⟩ (by simp) (by rfl)
          simp only [frontAct, List.foldl_cons, List.foldl_nil, List.setIfInBounds_toArray, List.set_cons_succ, List.set_cons_zero, Act.put] at HQ
          clear hK hdep
          simp only [frontAct, List.foldl_cons, List.foldl_nil, List.setIfInBounds_toArray, List.set_cons_succ, List.set_cons_zero]
          generalize f 24 = f24 at *
          subst e24
          generalize f 25 = f25 at *
          subst e25
          go_simp
          refine (Weight_w HK.out x _ HX.out.1 HX.out.2).mono ?_
          rintro e w' ⟨val, z, rfl, hz, hb⟩
          exact HQ.out val w' ⟨z, hz⟩ hb (hB.below hb)
        · obtain rfl := Option.some.inj ho
          intro f wx hB hdep K hK
          have HQ : Hid (∀ (val : Value) w', (∃ g, val = .pointer (some ⟨g, 0, none⟩) ∧ w.heap.size ≤ g ∧ Cs w' g Z8 32) → Below wx.heap.size wx w' → B4 w k w.heap.size w' → (∃ g, val = .pointer (some ⟨g, 0, none⟩) ∧ wx.heap.size ≤ g) → K _ w') := Lib.hid (fun val w' h1 h2 h3 h4 => hK val w' h1 h2 h3 (fun _ => h4))
          simp only [frontAct, List.foldl_cons, List.foldl_nil, List.setIfInBounds_toArray, List.set_cons_succ, List.set_cons_zero, Act.put] at HQ
          clear hK hdep
          simp only [frontAct, List.foldl_cons, List.foldl_nil, List.setIfInBounds_toArray, List.set_cons_succ, List.set_cons_zero]
          go_simp
          have hbl := blk1 wx Z8 32
          exact HQ.out _ _ ⟨wx.heap.size, rfl, hB.2.size, hbl.2⟩ hbl.1 (hB.below hbl.1) ⟨_, rfl, Nat.le_refl _⟩
        · obtain rfl := Option.some.inj ho
          intro f wx hB hdep K hK
          have HQ : Hid (∀ (val : Value) w', (∃ g, val = .pointer (some ⟨g, 0, none⟩) ∧ w.heap.size ≤ g ∧ Cs w' g Z8 32) → Below wx.heap.size wx w' → B4 w k w.heap.size w' → (∃ g, val = .pointer (some ⟨g, 0, none⟩) ∧ wx.heap.size ≤ g) → K _ w') := Lib.hid (fun val w' h1 h2 h3 h4 => hK val w' h1 h2 h3 (fun _ => h4))
          simp only [frontAct, List.foldl_cons, List.foldl_nil, List.setIfInBounds_toArray, List.set_cons_succ, List.set_cons_zero, Act.put] at HQ
          clear hK hdep
          simp only [frontAct, List.foldl_cons, List.foldl_nil, List.setIfInBounds_toArray, List.set_cons_succ, List.set_cons_zero]
          go_simp
          have hbl := blk1 wx Z8 32
          exact HQ.out _ _ ⟨wx.heap.size, rfl, hB.2.size, hbl.2⟩ hbl.1 (hB.below hbl.1) ⟨_, rfl, Nat.le_refl _⟩
        · obtain rfl := Option.some.inj ho
          intro f wx hB hdep K hK
          have HQ : Hid (∀ (val : Value) w', (∃ g, val = .pointer (some ⟨g, 0, none⟩) ∧ w.heap.size ≤ g ∧ Cs w' g Z8 32) → Below wx.heap.size wx w' → B4 w k w.heap.size w' → (∃ g, val = .pointer (some ⟨g, 0, none⟩) ∧ wx.heap.size ≤ g) → K _ w') := Lib.hid (fun val w' h1 h2 h3 h4 => hK val w' h1 h2 h3 (fun _ => h4))
          simp only [frontAct, List.foldl_cons, List.foldl_nil, List.setIfInBounds_toArray, List.set_cons_succ, List.set_cons_zero, Act.put] at HQ
          clear hK hdep
          simp only [frontAct, List.foldl_cons, List.foldl_nil, List.setIfInBounds_toArray, List.set_cons_succ, List.set_cons_zero]
          go_simp
          have hbl := blk1 wx Z8 32
          exact HQ.out _ _ ⟨wx.heap.size, rfl, hB.2.size, hbl.2⟩ hbl.1 (hB.below hbl.1) ⟨_, rfl, Nat.le_refl _⟩
      case fin =>
        intro f wx hB hG hne
        obtain ⟨za, hza⟩ : ∃ z, WV k 1 wx (f 20) z := hG 2 (by decide) (by rfl)
        obtain ⟨zb, hzb⟩ : ∃ z, WV k 1 wx (f 23) z := hG 5 (by decide) (by rfl)
        obtain ⟨zc, hzc⟩ : ∃ z, WV k 1 wx (f 26) z := hG 8 (by decide) (by rfl)
        obtain ⟨ga, ea, hga, ca⟩ : ∃ g, f 10 = .pointer (some ⟨g, 0, none⟩) ∧ w.heap.size ≤ g ∧ Cs wx g Z8 32 := hG 9 (by decide) (by rfl)
        obtain ⟨gb, eb, hgb, cb⟩ : ∃ g, f 11 = .pointer (some ⟨g, 0, none⟩) ∧ w.heap.size ≤ g ∧ Cs wx g Z8 32 := hG 10 (by decide) (by rfl)
        obtain ⟨gc, ec, hgc, cc⟩ : ∃ g, f 12 = .pointer (some ⟨g, 0, none⟩) ∧ w.heap.size ≤ g ∧ Cs wx g Z8 32 := hG 11 (by decide) (by rfl)
        have n1 : f 10 ≠ f 11 := hne 9 10 (by decide) (by decide) rfl rfl rfl rfl (by decide)
        have n2 : f 10 ≠ f 12 := hne 9 11 (by decide) (by decide) rfl rfl rfl rfl (by decide)
        have n3 : f 11 ≠ f 12 := hne 10 11 (by decide) (by decide) rfl rfl rfl rfl (by decide)
        rw [ea, eb] at n1
        rw [ea, ec] at n2
        rw [eb, ec] at n3
        have m1 : ga ≠ gb := fun h => n1 (by rw [h])
        have m2 : ga ≠ gc := fun h => n2 (by rw [h])
        have m3 : gb ≠ gc := fun h => n3 (by rw [h])
        obtain ⟨xA, xn, xc, xB, xm, xe, xq, xi, ex⟩ := hza.shape
        obtain ⟨yA, yn, yc, yB, ym, ye, yq, yi, ey⟩ := hzb.shape
        obtain ⟨rA, rn, rc, rB, rm, re, rq, ri, ez⟩ := hzc.shape
        clear hG hne n1 n2 n3
        simp only [frontAct, List.foldl_cons, List.foldl_nil, List.setIfInBounds_toArray, List.set_cons_succ, List.set_cons_zero]
        generalize f 10 = f10 at *
        generalize f 11 = f11 at *
        generalize f 12 = f12 at *
        generalize f 20 = f20 at *
        generalize f 23 = f23 at *
        generalize f 26 = f26 at *
        subst ea eb ec ex ey ez
        refine wpAny_ready (rs := [12]) (by kernel_rfl) (by simp) ?_
        refine AllReady.cons rfl (fun K hK => ?_) AllReady.nil
        have HQ := Lib.hid hK
        clear hK
        obtain ⟨a0, a1, a2, a3, a4, a5, a6, a7⟩ := (show Cs wx ga [.bool false, .slice none 0 0, .slice none 0 0, .int .i64 0, .bool false, .int .u64 0, .slice none 0 0, .slice none 0 0] 32 from ca).c8
        obtain ⟨q0, q1, q2, q3, q4, q5, q6, q7⟩ := ca.f8
        go_simp
        clear a0 a1 a2 a3 a4 a5 a6 a7 q0 q1 q2 q3 q4 q5 q6 q7
        refine HQ.out _ _ ?_
        clear HQ K
        have b0 : Box (((((((((wx.setCell ⟨ga, 0, none⟩ (.bool false)).setCell ⟨ga, 1, none⟩ (.slice xA xn xc)).setCell ⟨ga, 2, none⟩ (.slice xB xm xe)).setCell ⟨ga, 3, none⟩ (.int .i64 xq)).setCell ⟨ga, 4, none⟩ (.bool xi)).setCell ⟨ga, 5, none⟩ (.int .u64 0)).setCell ⟨ga, 6, none⟩ (.slice none 0 0)).setCell ⟨ga, 7, none⟩ (.slice none 0 0))) k ga za := Box.own ca rfl z8_no hza
        replace hzb := hzb.s8 ca z8_no (.bool false) (.slice xA xn xc) (.slice xB xm xe) (.int .i64 xq) (.bool xi) (.int .u64 0) (.slice none 0 0) (.slice none 0 0)
        replace hzc := hzc.s8 ca z8_no (.bool false) (.slice xA xn xc) (.slice xB xm xe) (.int .i64 xq) (.bool xi) (.int .u64 0) (.slice none 0 0) (.slice none 0 0)
        replace cb := cs_far8 cb (Ne.symm m1) (.bool false) (.slice xA xn xc) (.slice xB xm xe) (.int .i64 xq) (.bool xi) (.int .u64 0) (.slice none 0 0) (.slice none 0 0)
        replace cc := cs_far8 cc (Ne.symm m2) (.bool false) (.slice xA xn xc) (.slice xB xm xe) (.int .i64 xq) (.bool xi) (.int .u64 0) (.slice none 0 0) (.slice none 0 0)
        replace hB : B4 w k w.heap.size (((((((((wx.setCell ⟨ga, 0, none⟩ (.bool false)).setCell ⟨ga, 1, none⟩ (.slice xA xn xc)).setCell ⟨ga, 2, none⟩ (.slice xB xm xe)).setCell ⟨ga, 3, none⟩ (.int .i64 xq)).setCell ⟨ga, 4, none⟩ (.bool xi)).setCell ⟨ga, 5, none⟩ (.int .u64 0)).setCell ⟨ga, 6, none⟩ (.slice none 0 0)).setCell ⟨ga, 7, none⟩ (.slice none 0 0))) := ⟨cs_far8 hB.1 (hB.1.ne_len ca (show (2 : Nat) ≠ 8 by decide)) _ _ _ _ _ _ _ _, below_s8 hB.2 hga _ _ _ _ _ _ _ _⟩
        clear ca hza
        generalize ((((((((wx.setCell ⟨ga, 0, none⟩ (.bool false)).setCell ⟨ga, 1, none⟩ (.slice xA xn xc)).setCell ⟨ga, 2, none⟩ (.slice xB xm xe)).setCell ⟨ga, 3, none⟩ (.int .i64 xq)).setCell ⟨ga, 4, none⟩ (.bool xi)).setCell ⟨ga, 5, none⟩ (.int .u64 0)).setCell ⟨ga, 6, none⟩ (.slice none 0 0)).setCell ⟨ga, 7, none⟩ (.slice none 0 0)) = W1 at *
        refine wpAny_ready (rs := [13]) (by kernel_rfl) (by simp) ?_
        refine AllReady.cons rfl (fun K hK => ?_) AllReady.nil
        have HQ := Lib.hid hK
        clear hK
        obtain ⟨a0, a1, a2, a3, a4, a5, a6, a7⟩ := (show Cs W1 gb [.bool false, .slice none 0 0, .slice none 0 0, .int .i64 0, .bool false, .int .u64 0, .slice none 0 0, .slice none 0 0] 32 from cb).c8
        obtain ⟨q0, q1, q2, q3, q4, q5, q6, q7⟩ := cb.f8
        go_simp
        clear a0 a1 a2 a3 a4 a5 a6 a7 q0 q1 q2 q3 q4 q5 q6 q7
        refine HQ.out _ _ ?_
        clear HQ K
        have b1 : Box (((((((((W1.setCell ⟨gb, 0, none⟩ (.bool false)).setCell ⟨gb, 1, none⟩ (.slice yA yn yc)).setCell ⟨gb, 2, none⟩ (.slice yB ym ye)).setCell ⟨gb, 3, none⟩ (.int .i64 yq)).setCell ⟨gb, 4, none⟩ (.bool yi)).setCell ⟨gb, 5, none⟩ (.int .u64 0)).setCell ⟨gb, 6, none⟩ (.slice none 0 0)).setCell ⟨gb, 7, none⟩ (.slice none 0 0))) k gb zb := Box.own cb rfl z8_no hzb
        replace b0 := b0.far cb z8_no m1 (.bool false) (.slice yA yn yc) (.slice yB ym ye) (.int .i64 yq) (.bool yi) (.int .u64 0) (.slice none 0 0) (.slice none 0 0)
        replace hzc := hzc.s8 cb z8_no (.bool false) (.slice yA yn yc) (.slice yB ym ye) (.int .i64 yq) (.bool yi) (.int .u64 0) (.slice none 0 0) (.slice none 0 0)
        replace cc := cs_far8 cc (Ne.symm m3) (.bool false) (.slice yA yn yc) (.slice yB ym ye) (.int .i64 yq) (.bool yi) (.int .u64 0) (.slice none 0 0) (.slice none 0 0)
        replace hB : B4 w k w.heap.size (((((((((W1.setCell ⟨gb, 0, none⟩ (.bool false)).setCell ⟨gb, 1, none⟩ (.slice yA yn yc)).setCell ⟨gb, 2, none⟩ (.slice yB ym ye)).setCell ⟨gb, 3, none⟩ (.int .i64 yq)).setCell ⟨gb, 4, none⟩ (.bool yi)).setCell ⟨gb, 5, none⟩ (.int .u64 0)).setCell ⟨gb, 6, none⟩ (.slice none 0 0)).setCell ⟨gb, 7, none⟩ (.slice none 0 0))) := ⟨cs_far8 hB.1 (hB.1.ne_len cb (show (2 : Nat) ≠ 8 by decide)) _ _ _ _ _ _ _ _, below_s8 hB.2 hgb _ _ _ _ _ _ _ _⟩
        clear cb hzb
        generalize ((((((((W1.setCell ⟨gb, 0, none⟩ (.bool false)).setCell ⟨gb, 1, none⟩ (.slice yA yn yc)).setCell ⟨gb, 2, none⟩ (.slice yB ym ye)).setCell ⟨gb, 3, none⟩ (.int .i64 yq)).setCell ⟨gb, 4, none⟩ (.bool yi)).setCell ⟨gb, 5, none⟩ (.int .u64 0)).setCell ⟨gb, 6, none⟩ (.slice none 0 0)).setCell ⟨gb, 7, none⟩ (.slice none 0 0)) = W2 at *
        refine wpAny_ready (rs := [14]) (by kernel_rfl) (by simp) ?_
        refine AllReady.cons rfl (fun K hK => ?_) AllReady.nil
        have HQ := Lib.hid hK
        clear hK
        obtain ⟨a0, a1, a2, a3, a4, a5, a6, a7⟩ := (show Cs W2 gc [.bool false, .slice none 0 0, .slice none 0 0, .int .i64 0, .bool false, .int .u64 0, .slice none 0 0, .slice none 0 0] 32 from cc).c8
        obtain ⟨q0, q1, q2, q3, q4, q5, q6, q7⟩ := cc.f8
        go_simp
        clear a0 a1 a2 a3 a4 a5 a6 a7 q0 q1 q2 q3 q4 q5 q6 q7
        refine HQ.out _ _ ?_
        clear HQ K
        have b2 : Box (((((((((W2.setCell ⟨gc, 0, none⟩ (.bool false)).setCell ⟨gc, 1, none⟩ (.slice rA rn rc)).setCell ⟨gc, 2, none⟩ (.slice rB rm re)).setCell ⟨gc, 3, none⟩ (.int .i64 rq)).setCell ⟨gc, 4, none⟩ (.bool ri)).setCell ⟨gc, 5, none⟩ (.int .u64 0)).setCell ⟨gc, 6, none⟩ (.slice none 0 0)).setCell ⟨gc, 7, none⟩ (.slice none 0 0))) k gc zc := Box.own cc rfl z8_no hzc
        replace b0 := b0.far cc z8_no m2 (.bool false) (.slice rA rn rc) (.slice rB rm re) (.int .i64 rq) (.bool ri) (.int .u64 0) (.slice none 0 0) (.slice none 0 0)
        replace b1 := b1.far cc z8_no m3 (.bool false) (.slice rA rn rc) (.slice rB rm re) (.int .i64 rq) (.bool ri) (.int .u64 0) (.slice none 0 0) (.slice none 0 0)
        replace hB : B4 w k w.heap.size (((((((((W2.setCell ⟨gc, 0, none⟩ (.bool false)).setCell ⟨gc, 1, none⟩ (.slice rA rn rc)).setCell ⟨gc, 2, none⟩ (.slice rB rm re)).setCell ⟨gc, 3, none⟩ (.int .i64 rq)).setCell ⟨gc, 4, none⟩ (.bool ri)).setCell ⟨gc, 5, none⟩ (.int .u64 0)).setCell ⟨gc, 6, none⟩ (.slice none 0 0)).setCell ⟨gc, 7, none⟩ (.slice none 0 0))) := ⟨cs_far8 hB.1 (hB.1.ne_len cc (show (2 : Nat) ≠ 8 by decide)) _ _ _ _ _ _ _ _, below_s8 hB.2 hgc _ _ _ _ _ _ _ _⟩
        clear cc hzc
        generalize ((((((((W2.setCell ⟨gc, 0, none⟩ (.bool false)).setCell ⟨gc, 1, none⟩ (.slice rA rn rc)).setCell ⟨gc, 2, none⟩ (.slice rB rm re)).setCell ⟨gc, 3, none⟩ (.int .i64 rq)).setCell ⟨gc, 4, none⟩ (.bool ri)).setCell ⟨gc, 5, none⟩ (.int .u64 0)).setCell ⟨gc, 6, none⟩ (.slice none 0 0)).setCell ⟨gc, 7, none⟩ (.slice none 0 0)) = W3 at *
        refine wpAny_done (by kernel_rfl) ?_ _
        go_wp2_with fail
        go_meet
        case rel => exact ⟨ga, gb, gc, za, zb, zc, rfl, rfl, rfl, b0, b1, b2, hB⟩
    case rest =>
      obtain ⟨ga, gb, gc, za, zb, zc, rfl, rfl, rfl, ba, bb, bc, hB⟩ := hcut
      obtain ⟨xA, xn, xc, xB, xm, xe, xq, xi, ca, wa⟩ := ba
      obtain ⟨yA, yn, yc, yB, ym, ye, yq, yi, cb, wb⟩ := bb
      have hT1 := HT.out.tab.below hB.2
      have r0 := hB.1.cell (k := 0) rfl
      have r1 := hB.1.cell (k := 1) rfl
      obtain ⟨a0, a1, a2, a3, a4, a5, a6, a7⟩ := ca.c8
      obtain ⟨b0, b1, b2, b3, b4, b5, b6, b7⟩ := cb.c8
      go_wp2_with fail
      obtain ⟨zs, hzs⟩ : ∃ s, pl k za zb = s := ⟨_, rfl⟩
      have HZ := Lib.hid hzs
      clear hzs
      refine (Plus_w _ hT1 wa wb (by decide) zs HZ).mono ?_
      rintro e w1 ⟨us, rfl, ws, hb1⟩
      clear r0 r1
      clear a0 a1 a2 a3 a4 a5 a6 a7 b0 b1 b2 b3 b4 b5 b6 b7
      replace hB := hB.below hb1
      replace hT1 := hT1.below hb1
      replace ca := ca.below hb1 ca.lt
      replace cb := cb.below hb1 cb.lt
      replace wa := wa.below hb1
      replace wb := wb.below hb1
      replace bc := bc.below hb1
      clear hb1
      obtain ⟨sA, sn, sc, sB, sm, se, sq, si, rfl⟩ := ws.shape
      go_upto_region 6 with (fail)
      have hbl := blk1 w1 (wl sA sn sc sB sm se sq si) 32
      replace hB := hB.below hbl.1
      replace hT1 := hT1.below hbl.1
      replace ca := ca.below hbl.1 ca.lt
      replace cb := cb.below hbl.1 cb.lt
      replace wa := wa.below hbl.1
      replace wb := wb.below hbl.1
      replace ws := ws.below hbl.1
      replace bc := bc.below hbl.1
      have cs := hbl.2
      have la := ca.lt
      have lb := cb.lt
      clear hbl la lb
      generalize w1.alloc (.cells #[.bool false, .slice sA sn sc, .slice sB sm se, .int .i64 sq, .bool si, .int .u64 0, .slice none 0 0, .slice none 0 0] 32) = w2 at *
      generalize w1.heap.size = gs at *
      obtain ⟨a0, a1, a2, a3, a4, a5, a6, a7⟩ := ca.c8
      go_upto_region 7 with (fail)
      clear a0 a1 a2 a3 a4 a5 a6 a7
      have na := ca.lt
      have nb := cb.lt
      have ns := cs.lt
      have nc := bc.lt
      have nr := hB.1.lt
      have nq := hB.2.size
      have hbl := blk1 w2 (wl xA xn xc xB xm xe xq xi) 32
      replace hB := hB.below hbl.1
      replace hT1 := hT1.below hbl.1
      replace ca := ca.below hbl.1 ca.lt
      replace cb := cb.below hbl.1 cb.lt
      replace cs := cs.below hbl.1 cs.lt
      replace wa := wa.below hbl.1
      replace wb := wb.below hbl.1
      replace ws := ws.below hbl.1
      replace bc := bc.below hbl.1
      have cq := hbl.2
      clear hbl
      generalize w2.alloc (.cells #[.bool false, .slice xA xn xc, .slice xB xm xe, .int .i64 xq, .bool xi, .int .u64 0, .slice none 0 0, .slice none 0 0] 32) = w3 at *
      generalize w2.heap.size = gq at *
      have r0 := hB.1.cell (k := 0) rfl
      have r1 := hB.1.cell (k := 1) rfl
      obtain ⟨a0, a1, a2, a3, a4, a5, a6, a7⟩ := ca.c8
      obtain ⟨b0, b1, b2, b3, b4, b5, b6, b7⟩ := cb.c8
      go_wp2_with fail
      obtain ⟨V0, hV0⟩ : ∃ b, bt k zb za = b := ⟨_, rfl⟩
      have HV0 := Lib.hid hV0
      clear hV0
      refine (Better_w _ hT1 wb wa (by decide) (by decide) V0 HV0).mono ?_
      rintro e w4 ⟨rfl, hb4⟩
      clear r0 r1
      clear a0 a1 a2 a3 a4 a5 a6 a7 b0 b1 b2 b3 b4 b5 b6 b7
      replace hB := hB.below hb4
      replace hT1 := hT1.below hb4
      replace ca := ca.below hb4 ca.lt
      replace cb := cb.below hb4 cb.lt
      replace cs := cs.below hb4 cs.lt
      replace cq := cq.below hb4 cq.lt
      replace wa := wa.below hb4
      replace wb := wb.below hb4
      replace ws := ws.below hb4
      replace bc := bc.below hb4
      clear hb4
      go_upto_if 35 with (fail)
      go_cut [35] from 36 to 36 (fun _ wx => Box wx k ga za ∧ Box wx k gb zb ∧ Box wx k gc zc ∧ Box wx k gs zs ∧ Box wx k gq zs ∧ B4 w k w.heap.size wx)
      case first =>
        cases V0
        · have hz : zs = za := by
            rw [← HZ.out]; unfold pl; rw [HV0.out, if_neg (by decide)]
          have HZ2 := Lib.hid hz
          clear hz
          go_wp2_with fail
          go_meet
          case rel => exact ⟨⟨_, _, _, _, _, _, _, _, ca, wa⟩, ⟨_, _, _, _, _, _, _, _, cb, wb⟩, bc, ⟨_, _, _, _, _, _, _, _, cs, ws⟩, by rw [HZ2.out]; exact ⟨_, _, _, _, _, _, _, _, cq, wa⟩, hB⟩
        · have hz : zs = zb := by
            rw [← HZ.out]; unfold pl; rw [HV0.out, if_pos rfl]
          have HZ2 := Lib.hid hz
          clear hz
          obtain ⟨a0, a1, a2, a3, a4, a5, a6, a7⟩ := cb.c8
          obtain ⟨b0, b1, b2, b3, b4, b5, b6, b7⟩ := cq.c8
          obtain ⟨q0, q1, q2, q3, q4, q5, q6, q7⟩ := cq.f8
          go_wp2_with fail
          clear a0 a1 a2 a3 a4 a5 a6 a7 b0 b1 b2 b3 b4 b5 b6 b7 q0 q1 q2 q3 q4 q5 q6 q7
          go_meet
          case rel =>
            have oa : Box w4 k ga za := ⟨_, _, _, _, _, _, _, _, ca, wa⟩
            have ob : Box w4 k gb zb := ⟨_, _, _, _, _, _, _, _, cb, wb⟩
            have os : Box w4 k gs zs := ⟨_, _, _, _, _, _, _, _, cs, ws⟩
            refine ⟨oa.far cq (wl_no _ _ _ _ _ _ _ _) (by omega) _ _ _ _ _ _ _ _, ob.far cq (wl_no _ _ _ _ _ _ _ _) (by omega) _ _ _ _ _ _ _ _, bc.far cq (wl_no _ _ _ _ _ _ _ _) (by omega) _ _ _ _ _ _ _ _, os.far cq (wl_no _ _ _ _ _ _ _ _) (by omega) _ _ _ _ _ _ _ _, ?_, cs_far8 hB.1 (by omega) _ _ _ _ _ _ _ _, below_s8 hB.2 (by omega) _ _ _ _ _ _ _ _⟩
            rw [HZ2.out]
            exact Box.own cq rfl (wl_no _ _ _ _ _ _ _ _) wb
      case rest =>
        obtain ⟨ba, bb, bc, bs, bq, hB⟩ := hcut
        obtain ⟨xA, xn, xc, xB, xm, xe, xq, xi, ca, wa⟩ := ba
        obtain ⟨yA, yn, yc, yB, ym, ye, yq, yi, cb, wb⟩ := bb
        obtain ⟨rA, rn, rc, rB, rm, re, rq, ri, cc, wz⟩ := bc
        obtain ⟨sA, sn, sc, sB, sm, se, sq, si, cs, ws⟩ := bs
        obtain ⟨pA, pn, pc, pB, pm, pe, pq, pi, cq, wq⟩ := bq
        have h9 : B9 w k ga gb gc gs gq (wl xA xn xc xB xm xe xq xi) (wl yA yn yc yB ym ye yq yi) (wl rA rn rc rB rm re rq ri) (wl sA sn sc sB sm se sq si) (wl pA pn pc pB pm pe pq pi) za zb zc zs wc := ⟨hB, ca, cb, cc, cs, cq, wa, wb, wz, ws, wq⟩
        have H9 := Lib.hid h9
        obtain ⟨V1, hV1⟩ : ∃ b, bt k za zb = b := ⟨_, rfl⟩
        cases V1
        · have HV1 := Lib.hid hV1
          clear hV1 h9 hB ca cb cc cs cq wa wb wz ws wq
          go_upto_region 9 with (fail)
          refine wp_region_front0 (by kernel_rfl) F9 S9' [37, 38, 39, 40, 41, 42, 43, 44, 45, 46, 47, 48, 49, 50, 51, 52, 53, 54, 55, 56, 57, 58, 59, 60, 61, 62, 63, 64, 65, 66, 67, 68, 69, 70, 71, 72, 73, 74] (G9f k (wl xA xn xc xB xm xe xq xi) (wl yA yn yc yB ym ye yq yi) (wl rA rn rc rB rm re rq ri) (wl sA sn sc sB sm se sq si) (wl pA pn pc pB pm pe pq pi) za zb zc) (B9 w k ga gb gc gs gq (wl xA xn xc xB xm xe xq xi) (wl yA yn yc yB ym ye yq yi) (wl rA rn rc rB rm re rq ri) (wl sA sn sc sB sm se sq si) (wl pA pn pc pB pm pe pq pi) za zb zc zs) H9.out.drew (by kernel_rfl) (by kernel_rfl) G9f.keep (fun _ _ _ h => by cases h) ?stepf 1 (by kernel_rfl) _ rfl ?finf
          case stepf =>
            intro i oi ho hF f wx hB hdep K hK
            have hi : i < 38 := of_decide_eq_true hF
            clear hF
            simp only [frontAct, List.foldl_cons, List.foldl_nil, List.setIfInBounds_toArray, List.set_cons_succ, List.set_cons_zero] at hK ⊢
            obtain rfl | rfl | rfl | rfl | rfl | rfl | rfl | rfl | rfl | rfl | rfl | rfl | rfl | rfl | rfl | rfl | rfl | rfl | rfl | rfl | rfl | rfl | rfl | rfl | rfl | rfl | rfl | rfl | rfl | rfl | rfl | rfl | rfl | rfl | rfl | rfl | rfl | rfl : i = 0 ∨ i = 1 ∨ i = 2 ∨ i = 3 ∨ i = 4 ∨ i = 5 ∨ i = 6 ∨ i = 7 ∨ i = 8 ∨ i = 9 ∨ i = 10 ∨ i = 11 ∨ i = 12 ∨ i = 13 ∨ i = 14 ∨ i = 15 ∨ i = 16 ∨ i = 17 ∨ i = 18 ∨ i = 19 ∨ i = 20 ∨ i = 21 ∨ i = 22 ∨ i = 23 ∨ i = 24 ∨ i = 25 ∨ i = 26 ∨ i = 27 ∨ i = 28 ∨ i = 29 ∨ i = 30 ∨ i = 31 ∨ i = 32 ∨ i = 33 ∨ i = 34 ∨ i = 35 ∨ i = 36 ∨ i = 37 := by omega
            · obtain rfl := Option.some.inj ho
              have HQ : Hid (∀ (val : Value) w', val = .bool true → Below wx.heap.size wx w' → B9 w k ga gb gc gs gq (wl xA xn xc xB xm xe xq xi) (wl yA yn yc yB ym ye yq yi) (wl rA rn rc rB rm re rq ri) (wl sA sn sc sB sm se sq si) (wl pA pn pc pB pm pe pq pi) za zb zc zs w' → K _ w') := Lib.hid (fun val w' h1 h2 h3 => hK val w' h1 h2 h3 (fun h => by cases h))
              simp only [Act.put, List.setIfInBounds_toArray, List.set_cons_succ, List.set_cons_zero] at HQ
              clear hK hdep
              go_simp
              refine (awake3_any _ (HT.out.below hB.b.2)).mono ?_
              rintro e w' ⟨rfl, hb⟩
              exact HQ.out (.bool true) w' rfl hb (hB.below hb)
            · obtain rfl := Option.some.inj ho
              have HQ : Hid (∀ (val : Value) w', val = .bool true → Below wx.heap.size wx w' → B9 w k ga gb gc gs gq (wl xA xn xc xB xm xe xq xi) (wl yA yn yc yB ym ye yq yi) (wl rA rn rc rB rm re rq ri) (wl sA sn sc sB sm se sq si) (wl pA pn pc pB pm pe pq pi) za zb zc zs w' → K _ w') := Lib.hid (fun val w' h1 h2 h3 => hK val w' h1 h2 h3 (fun h => by cases h))
              have e37 := hdep ⟨0, .data⟩ (by simp) (by rfl)
              simp only [Act.put, List.setIfInBounds_toArray, List.set_cons_succ, List.set_cons_zero] at HQ
              clear hK hdep
              replace e37 : f 37 = .bool true := e37
              generalize f 37 = f37 at *
              subst e37
              go_simp
              exact HQ.out (.bool true) wx rfl (Below.refl _ _) hB
            · obtain rfl := Option.some.inj ho
              have HQ : Hid (∀ (val : Value) w', val = Value.agg #[.bool false, .slice sA sn sc, .slice sB sm se, .int .i64 sq, .bool si, .int .u64 0, .slice none 0 0, .slice none 0 0] → Below wx.heap.size wx w' → B9 w k ga gb gc gs gq (wl xA xn xc xB xm xe xq xi) (wl yA yn yc yB ym ye yq yi) (wl rA rn rc rB rm re rq ri) (wl sA sn sc sB sm se sq si) (wl pA pn pc pB pm pe pq pi) za zb zc zs w' → K _ w') := Lib.hid (fun val w' h1 h2 h3 => hK val w' h1 h2 h3 (fun h => by cases h))
              have e38 := hdep ⟨1, .guard⟩ (by simp) (by rfl)
              simp only [Act.put, List.setIfInBounds_toArray, List.set_cons_succ, List.set_cons_zero] at HQ
              clear hK hdep
              replace e38 : f 38 = .bool true := e38
              generalize f 38 = f38 at *
              subst e38
              obtain ⟨a0, a1, a2, a3, a4, a5, a6, a7⟩ := hB.s.c8
              go_simp
              exact HQ.out (.agg #[.bool false, .slice sA sn sc, .slice sB sm se, .int .i64 sq, .bool si, .int .u64 0, .slice none 0 0, .slice none 0 0]) wx rfl (Below.refl _ _) hB
            · obtain rfl := Option.some.inj ho
              have HQ : Hid (∀ (val : Value) w', val = Value.agg #[.bool false, .slice pA pn pc, .slice pB pm pe, .int .i64 pq, .bool pi, .int .u64 0, .slice none 0 0, .slice none 0 0] → Below wx.heap.size wx w' → B9 w k ga gb gc gs gq (wl xA xn xc xB xm xe xq xi) (wl yA yn yc yB ym ye yq yi) (wl rA rn rc rB rm re rq ri) (wl sA sn sc sB sm se sq si) (wl pA pn pc pB pm pe pq pi) za zb zc zs w' → K _ w') := Lib.hid (fun val w' h1 h2 h3 => hK val w' h1 h2 h3 (fun h => by cases h))
              have e38 := hdep ⟨1, .guard⟩ (by simp) (by rfl)
              simp only [Act.put, List.setIfInBounds_toArray, List.set_cons_succ, List.set_cons_zero] at HQ
              clear hK hdep
              replace e38 : f 38 = .bool true := e38
              generalize f 38 = f38 at *
              subst e38
              obtain ⟨a0, a1, a2, a3, a4, a5, a6, a7⟩ := hB.q.c8
              go_simp
              exact HQ.out (.agg #[.bool false, .slice pA pn pc, .slice pB pm pe, .int .i64 pq, .bool pi, .int .u64 0, .slice none 0 0, .slice none 0 0]) wx rfl (Below.refl _ _) hB
            · obtain rfl := Option.some.inj ho
              have HQ : Hid (∀ (val : Value) w', val = .bool true → Below wx.heap.size wx w' → B9 w k ga gb gc gs gq (wl xA xn xc xB xm xe xq xi) (wl yA yn yc yB ym ye yq yi) (wl rA rn rc rB rm re rq ri) (wl sA sn sc sB sm se sq si) (wl pA pn pc pB pm pe pq pi) za zb zc zs w' → K _ w') := Lib.hid (fun val w' h1 h2 h3 => hK val w' h1 h2 h3 (fun h => by cases h))
              have e38 := hdep ⟨1, .guard⟩ (by simp) (by rfl)
              have e39 := hdep ⟨2, .data⟩ (by simp) (by rfl)
              have e40 := hdep ⟨3, .data⟩ (by simp) (by rfl)
              simp only [Act.put, List.setIfInBounds_toArray, List.set_cons_succ, List.set_cons_zero] at HQ
              clear hK hdep
              replace e38 : f 38 = .bool true := e38
              generalize f 38 = f38 at *
              subst e38
              replace e39 : f 39 = .agg #[.bool false, .slice sA sn sc, .slice sB sm se, .int .i64 sq, .bool si, .int .u64 0, .slice none 0 0, .slice none 0 0] := e39
              generalize f 39 = f39 at *
              subst e39
              replace e40 : f 40 = .agg #[.bool false, .slice pA pn pc, .slice pB pm pe, .int .i64 pq, .bool pi, .int .u64 0, .slice none 0 0, .slice none 0 0] := e40
              generalize f 40 = f40 at *
              subst e40
              go_simp
              refine (Equal_w _ hB.ws hB.wq (by decide)).mono ?_
              rintro e w' ⟨rfl, hb⟩
              exact HQ.out (.bool true) w' rfl hb (hB.below hb)
            · obtain rfl := Option.some.inj ho
              have HQ : Hid (∀ (val : Value) w', val = .bool true → Below wx.heap.size wx w' → B9 w k ga gb gc gs gq (wl xA xn xc xB xm xe xq xi) (wl yA yn yc yB ym ye yq yi) (wl rA rn rc rB rm re rq ri) (wl sA sn sc sB sm se sq si) (wl pA pn pc pB pm pe pq pi) za zb zc zs w' → K _ w') := Lib.hid (fun val w' h1 h2 h3 => hK val w' h1 h2 h3 (fun h => by cases h))
              have e38 := hdep ⟨1, .data⟩ (by simp) (by rfl)
              have e41 := hdep ⟨4, .data⟩ (by simp) (by rfl)
              simp only [Act.put, List.setIfInBounds_toArray, List.set_cons_succ, List.set_cons_zero] at HQ
              clear hK hdep
              replace e38 : f 38 = .bool true := e38
              generalize f 38 = f38 at *
              subst e38
              replace e41 : f 41 = .bool true := e41
              generalize f 41 = f41 at *
              subst e41
              go_simp
              exact HQ.out (.bool true) wx rfl (Below.refl _ _) hB
            · obtain rfl := Option.some.inj ho
              have HQ : Hid (∀ (val : Value) w', val = .bool true → Below wx.heap.size wx w' → B9 w k ga gb gc gs gq (wl xA xn xc xB xm xe xq xi) (wl yA yn yc yB ym ye yq yi) (wl rA rn rc rB rm re rq ri) (wl sA sn sc sB sm se sq si) (wl pA pn pc pB pm pe pq pi) za zb zc zs w' → K _ w') := Lib.hid (fun val w' h1 h2 h3 => hK val w' h1 h2 h3 (fun h => by cases h))
              have e42 := hdep ⟨5, .data⟩ (by simp) (by rfl)
              simp only [Act.put, List.setIfInBounds_toArray, List.set_cons_succ, List.set_cons_zero] at HQ
              clear hK hdep
              replace e42 : f 42 = .bool true := e42
              generalize f 42 = f42 at *
              subst e42
              go_simp
              exact HQ.out (.bool true) wx rfl (Below.refl _ _) hB
            · obtain rfl := Option.some.inj ho
              have HQ : Hid (∀ (val : Value) w', val = rk k → Below wx.heap.size wx w' → B9 w k ga gb gc gs gq (wl xA xn xc xB xm xe xq xi) (wl yA yn yc yB ym ye yq yi) (wl rA rn rc rB rm re rq ri) (wl sA sn sc sB sm se sq si) (wl pA pn pc pB pm pe pq pi) za zb zc zs w' → K _ w') := Lib.hid (fun val w' h1 h2 h3 => hK val w' h1 h2 h3 (fun h => by cases h))
              have e43 := hdep ⟨6, .guard⟩ (by simp) (by rfl)
              simp only [Act.put, List.setIfInBounds_toArray, List.set_cons_succ, List.set_cons_zero] at HQ
              clear hK hdep
              replace e43 : f 43 = .bool true := e43
              generalize f 43 = f43 at *
              subst e43
              have k0 := hB.b.1.cell (k := 0) rfl
              have k1 := hB.b.1.cell (k := 1) rfl
              go_simp
              exact HQ.out (rk k) wx rfl (Below.refl _ _) hB
            · obtain rfl := Option.some.inj ho
              have HQ : Hid (∀ (val : Value) w', val = Value.agg #[.bool false, .slice xA xn xc, .slice xB xm xe, .int .i64 xq, .bool xi, .int .u64 0, .slice none 0 0, .slice none 0 0] → Below wx.heap.size wx w' → B9 w k ga gb gc gs gq (wl xA xn xc xB xm xe xq xi) (wl yA yn yc yB ym ye yq yi) (wl rA rn rc rB rm re rq ri) (wl sA sn sc sB sm se sq si) (wl pA pn pc pB pm pe pq pi) za zb zc zs w' → K _ w') := Lib.hid (fun val w' h1 h2 h3 => hK val w' h1 h2 h3 (fun h => by cases h))
              have e43 := hdep ⟨6, .guard⟩ (by simp) (by rfl)
              simp only [Act.put, List.setIfInBounds_toArray, List.set_cons_succ, List.set_cons_zero] at HQ
              clear hK hdep
              replace e43 : f 43 = .bool true := e43
              generalize f 43 = f43 at *
              subst e43
              obtain ⟨a0, a1, a2, a3, a4, a5, a6, a7⟩ := hB.a.c8
              go_simp
              exact HQ.out (.agg #[.bool false, .slice xA xn xc, .slice xB xm xe, .int .i64 xq, .bool xi, .int .u64 0, .slice none 0 0, .slice none 0 0]) wx rfl (Below.refl _ _) hB
            · obtain rfl := Option.some.inj ho
              have HQ : Hid (∀ (val : Value) w', val = Value.agg #[.bool false, .slice yA yn yc, .slice yB ym ye, .int .i64 yq, .bool yi, .int .u64 0, .slice none 0 0, .slice none 0 0] → Below wx.heap.size wx w' → B9 w k ga gb gc gs gq (wl xA xn xc xB xm xe xq xi) (wl yA yn yc yB ym ye yq yi) (wl rA rn rc rB rm re rq ri) (wl sA sn sc sB sm se sq si) (wl pA pn pc pB pm pe pq pi) za zb zc zs w' → K _ w') := Lib.hid (fun val w' h1 h2 h3 => hK val w' h1 h2 h3 (fun h => by cases h))
              have e43 := hdep ⟨6, .guard⟩ (by simp) (by rfl)
              simp only [Act.put, List.setIfInBounds_toArray, List.set_cons_succ, List.set_cons_zero] at HQ
              clear hK hdep
              replace e43 : f 43 = .bool true := e43
              generalize f 43 = f43 at *
              subst e43
              obtain ⟨a0, a1, a2, a3, a4, a5, a6, a7⟩ := hB.b'.c8
              go_simp
              exact HQ.out (.agg #[.bool false, .slice yA yn yc, .slice yB ym ye, .int .i64 yq, .bool yi, .int .u64 0, .slice none 0 0, .slice none 0 0]) wx rfl (Below.refl _ _) hB
            · obtain rfl := Option.some.inj ho
              have HQ : Hid (∀ (val : Value) w', val = .bool false → Below wx.heap.size wx w' → B9 w k ga gb gc gs gq (wl xA xn xc xB xm xe xq xi) (wl yA yn yc yB ym ye yq yi) (wl rA rn rc rB rm re rq ri) (wl sA sn sc sB sm se sq si) (wl pA pn pc pB pm pe pq pi) za zb zc zs w' → K _ w') := Lib.hid (fun val w' h1 h2 h3 => hK val w' h1 h2 h3 (fun h => by cases h))
              have e43 := hdep ⟨6, .guard⟩ (by simp) (by rfl)
              have e44 := hdep ⟨7, .data⟩ (by simp) (by rfl)
              have e45 := hdep ⟨8, .data⟩ (by simp) (by rfl)
              have e46 := hdep ⟨9, .data⟩ (by simp) (by rfl)
              simp only [Act.put, List.setIfInBounds_toArray, List.set_cons_succ, List.set_cons_zero] at HQ
              clear hK hdep
              replace e43 : f 43 = .bool true := e43
              generalize f 43 = f43 at *
              subst e43
              replace e44 : f 44 = rk k := e44
              generalize f 44 = f44 at *
              subst e44
              replace e45 : f 45 = .agg #[.bool false, .slice xA xn xc, .slice xB xm xe, .int .i64 xq, .bool xi, .int .u64 0, .slice none 0 0, .slice none 0 0] := e45
              generalize f 45 = f45 at *
              subst e45
              replace e46 : f 46 = .agg #[.bool false, .slice yA yn yc, .slice yB ym ye, .int .i64 yq, .bool yi, .int .u64 0, .slice none 0 0, .slice none 0 0] := e46
              generalize f 46 = f46 at *
              subst e46
              go_simp
              refine (Better_w _ (HT.out.tab.below hB.b.2) hB.wa hB.wb (by decide) (by decide) false HV1).mono ?_
              rintro e w' ⟨rfl, hb⟩
              exact HQ.out (.bool false) w' rfl hb (hB.below hb)
            · obtain rfl := Option.some.inj ho
              have HQ : Hid (∀ (val : Value) w', val = .bool false → Below wx.heap.size wx w' → B9 w k ga gb gc gs gq (wl xA xn xc xB xm xe xq xi) (wl yA yn yc yB ym ye yq yi) (wl rA rn rc rB rm re rq ri) (wl sA sn sc sB sm se sq si) (wl pA pn pc pB pm pe pq pi) za zb zc zs w' → K _ w') := Lib.hid (fun val w' h1 h2 h3 => hK val w' h1 h2 h3 (fun h => by cases h))
              have e43 := hdep ⟨6, .guard⟩ (by simp) (by rfl)
              have e47 := hdep ⟨10, .data⟩ (by simp) (by rfl)
              simp only [Act.put, List.setIfInBounds_toArray, List.set_cons_succ, List.set_cons_zero] at HQ
              clear hK hdep
              replace e43 : f 43 = .bool true := e43
              generalize f 43 = f43 at *
              subst e43
              replace e47 : f 47 = .bool false := e47
              generalize f 47 = f47 at *
              subst e47
              go_simp
              exact HQ.out (.bool false) wx rfl (Below.refl _ _) hB
            · obtain rfl := Option.some.inj ho
              have HQ : Hid (∀ (val : Value) w', val = undef → Below wx.heap.size wx w' → B9 w k ga gb gc gs gq (wl xA xn xc xB xm xe xq xi) (wl yA yn yc yB ym ye yq yi) (wl rA rn rc rB rm re rq ri) (wl sA sn sc sB sm se sq si) (wl pA pn pc pB pm pe pq pi) za zb zc zs w' → K _ w') := Lib.hid (fun val w' h1 h2 h3 => hK val w' h1 h2 h3 (fun h => by cases h))
              have e48 := hdep ⟨11, .guard⟩ (by simp) (by rfl)
              simp only [Act.put, List.setIfInBounds_toArray, List.set_cons_succ, List.set_cons_zero] at HQ
              clear hK hdep
              replace e48 : f 48 = .bool false := e48
              generalize f 48 = f48 at *
              subst e48
              go_simp
              exact HQ.out undef wx rfl (Below.refl _ _) hB
            · obtain rfl := Option.some.inj ho
              have HQ : Hid (∀ (val : Value) w', val = undef → Below wx.heap.size wx w' → B9 w k ga gb gc gs gq (wl xA xn xc xB xm xe xq xi) (wl yA yn yc yB ym ye yq yi) (wl rA rn rc rB rm re rq ri) (wl sA sn sc sB sm se sq si) (wl pA pn pc pB pm pe pq pi) za zb zc zs w' → K _ w') := Lib.hid (fun val w' h1 h2 h3 => hK val w' h1 h2 h3 (fun h => by cases h))
              have e48 := hdep ⟨11, .guard⟩ (by simp) (by rfl)
              simp only [Act.put, List.setIfInBounds_toArray, List.set_cons_succ, List.set_cons_zero] at HQ
              clear hK hdep
              replace e48 : f 48 = .bool false := e48
              generalize f 48 = f48 at *
              subst e48
              go_simp
              exact HQ.out undef wx rfl (Below.refl _ _) hB
            · obtain rfl := Option.some.inj ho
              have HQ : Hid (∀ (val : Value) w', val = undef → Below wx.heap.size wx w' → B9 w k ga gb gc gs gq (wl xA xn xc xB xm xe xq xi) (wl yA yn yc yB ym ye yq yi) (wl rA rn rc rB rm re rq ri) (wl sA sn sc sB sm se sq si) (wl pA pn pc pB pm pe pq pi) za zb zc zs w' → K _ w') := Lib.hid (fun val w' h1 h2 h3 => hK val w' h1 h2 h3 (fun h => by cases h))
              have e48 := hdep ⟨11, .guard⟩ (by simp) (by rfl)
              simp only [Act.put, List.setIfInBounds_toArray, List.set_cons_succ, List.set_cons_zero] at HQ
              clear hK hdep
              replace e48 : f 48 = .bool false := e48
              generalize f 48 = f48 at *
              subst e48
              go_simp
              exact HQ.out undef wx rfl (Below.refl _ _) hB
            · obtain rfl := Option.some.inj ho
              have HQ : Hid (∀ (val : Value) w', val = undef → Below wx.heap.size wx w' → B9 w k ga gb gc gs gq (wl xA xn xc xB xm xe xq xi) (wl yA yn yc yB ym ye yq yi) (wl rA rn rc rB rm re rq ri) (wl sA sn sc sB sm se sq si) (wl pA pn pc pB pm pe pq pi) za zb zc zs w' → K _ w') := Lib.hid (fun val w' h1 h2 h3 => hK val w' h1 h2 h3 (fun h => by cases h))
              have e48 := hdep ⟨11, .guard⟩ (by simp) (by rfl)
              simp only [Act.put, List.setIfInBounds_toArray, List.set_cons_succ, List.set_cons_zero] at HQ
              clear hK hdep
              replace e48 : f 48 = .bool false := e48
              generalize f 48 = f48 at *
              subst e48
              go_simp
              exact HQ.out undef wx rfl (Below.refl _ _) hB
            · obtain rfl := Option.some.inj ho
              have HQ : Hid (∀ (val : Value) w', val = .bool false → Below wx.heap.size wx w' → B9 w k ga gb gc gs gq (wl xA xn xc xB xm xe xq xi) (wl yA yn yc yB ym ye yq yi) (wl rA rn rc rB rm re rq ri) (wl sA sn sc sB sm se sq si) (wl pA pn pc pB pm pe pq pi) za zb zc zs w' → K _ w') := Lib.hid (fun val w' h1 h2 h3 => hK val w' h1 h2 h3 (fun h => by cases h))
              have e43 := hdep ⟨6, .guard⟩ (by simp) (by rfl)
              have e48 := hdep ⟨11, .data⟩ (by simp) (by rfl)
              have e52 := hdep ⟨15, .data⟩ (by simp) (by rfl)
              simp only [Act.put, List.setIfInBounds_toArray, List.set_cons_succ, List.set_cons_zero] at HQ
              clear hK hdep
              replace e43 : f 43 = .bool true := e43
              generalize f 43 = f43 at *
              subst e43
              replace e48 : f 48 = .bool false := e48
              generalize f 48 = f48 at *
              subst e48
              replace e52 : f 52 = undef := e52
              generalize f 52 = f52 at *
              subst e52
              go_simp
              exact HQ.out (.bool false) wx rfl (Below.refl _ _) hB
            · obtain rfl := Option.some.inj ho
              have HQ : Hid (∀ (val : Value) w', val = .bool true → Below wx.heap.size wx w' → B9 w k ga gb gc gs gq (wl xA xn xc xB xm xe xq xi) (wl yA yn yc yB ym ye yq yi) (wl rA rn rc rB rm re rq ri) (wl sA sn sc sB sm se sq si) (wl pA pn pc pB pm pe pq pi) za zb zc zs w' → K _ w') := Lib.hid (fun val w' h1 h2 h3 => hK val w' h1 h2 h3 (fun h => by cases h))
              have e43 := hdep ⟨6, .guard⟩ (by simp) (by rfl)
              have e53 := hdep ⟨16, .data⟩ (by simp) (by rfl)
              simp only [Act.put, List.setIfInBounds_toArray, List.set_cons_succ, List.set_cons_zero] at HQ
              clear hK hdep
              replace e43 : f 43 = .bool true := e43
              generalize f 43 = f43 at *
              subst e43
              replace e53 : f 53 = .bool false := e53
              generalize f 53 = f53 at *
              subst e53
              go_simp
              exact HQ.out (.bool true) wx rfl (Below.refl _ _) hB
            · obtain rfl := Option.some.inj ho
              have HQ : Hid (∀ (val : Value) w', val = .bool true → Below wx.heap.size wx w' → B9 w k ga gb gc gs gq (wl xA xn xc xB xm xe xq xi) (wl yA yn yc yB ym ye yq yi) (wl rA rn rc rB rm re rq ri) (wl sA sn sc sB sm se sq si) (wl pA pn pc pB pm pe pq pi) za zb zc zs w' → K _ w') := Lib.hid (fun val w' h1 h2 h3 => hK val w' h1 h2 h3 (fun h => by cases h))
              have e43 := hdep ⟨6, .data⟩ (by simp) (by rfl)
              have e54 := hdep ⟨17, .data⟩ (by simp) (by rfl)
              simp only [Act.put, List.setIfInBounds_toArray, List.set_cons_succ, List.set_cons_zero] at HQ
              clear hK hdep
              replace e43 : f 43 = .bool true := e43
              generalize f 43 = f43 at *
              subst e43
              replace e54 : f 54 = .bool true := e54
              generalize f 54 = f54 at *
              subst e54
              go_simp
              exact HQ.out (.bool true) wx rfl (Below.refl _ _) hB
            · obtain rfl := Option.some.inj ho
              have HQ : Hid (∀ (val : Value) w', val = .bool true → Below wx.heap.size wx w' → B9 w k ga gb gc gs gq (wl xA xn xc xB xm xe xq xi) (wl yA yn yc yB ym ye yq yi) (wl rA rn rc rB rm re rq ri) (wl sA sn sc sB sm se sq si) (wl pA pn pc pB pm pe pq pi) za zb zc zs w' → K _ w') := Lib.hid (fun val w' h1 h2 h3 => hK val w' h1 h2 h3 (fun h => by cases h))
              have e55 := hdep ⟨18, .data⟩ (by simp) (by rfl)
              simp only [Act.put, List.setIfInBounds_toArray, List.set_cons_succ, List.set_cons_zero] at HQ
              clear hK hdep
              replace e55 : f 55 = .bool true := e55
              generalize f 55 = f55 at *
              subst e55
              go_simp
              exact HQ.out (.bool true) wx rfl (Below.refl _ _) hB
            · obtain rfl := Option.some.inj ho
              have HQ : Hid (∀ (val : Value) w', val = rk k → Below wx.heap.size wx w' → B9 w k ga gb gc gs gq (wl xA xn xc xB xm xe xq xi) (wl yA yn yc yB ym ye yq yi) (wl rA rn rc rB rm re rq ri) (wl sA sn sc sB sm se sq si) (wl pA pn pc pB pm pe pq pi) za zb zc zs w' → K _ w') := Lib.hid (fun val w' h1 h2 h3 => hK val w' h1 h2 h3 (fun h => by cases h))
              have e56 := hdep ⟨19, .guard⟩ (by simp) (by rfl)
              simp only [Act.put, List.setIfInBounds_toArray, List.set_cons_succ, List.set_cons_zero] at HQ
              clear hK hdep
              replace e56 : f 56 = .bool true := e56
              generalize f 56 = f56 at *
              subst e56
              have k0 := hB.b.1.cell (k := 0) rfl
              have k1 := hB.b.1.cell (k := 1) rfl
              go_simp
              exact HQ.out (rk k) wx rfl (Below.refl _ _) hB
            · obtain rfl := Option.some.inj ho
              have HQ : Hid (∀ (val : Value) w', val = Value.agg #[.bool false, .slice xA xn xc, .slice xB xm xe, .int .i64 xq, .bool xi, .int .u64 0, .slice none 0 0, .slice none 0 0] → Below wx.heap.size wx w' → B9 w k ga gb gc gs gq (wl xA xn xc xB xm xe xq xi) (wl yA yn yc yB ym ye yq yi) (wl rA rn rc rB rm re rq ri) (wl sA sn sc sB sm se sq si) (wl pA pn pc pB pm pe pq pi) za zb zc zs w' → K _ w') := Lib.hid (fun val w' h1 h2 h3 => hK val w' h1 h2 h3 (fun h => by cases h))
              have e56 := hdep ⟨19, .guard⟩ (by simp) (by rfl)
              simp only [Act.put, List.setIfInBounds_toArray, List.set_cons_succ, List.set_cons_zero] at HQ
              clear hK hdep
              replace e56 : f 56 = .bool true := e56
              generalize f 56 = f56 at *
              subst e56
              obtain ⟨a0, a1, a2, a3, a4, a5, a6, a7⟩ := hB.a.c8
              go_simp
              exact HQ.out (.agg #[.bool false, .slice xA xn xc, .slice xB xm xe, .int .i64 xq, .bool xi, .int .u64 0, .slice none 0 0, .slice none 0 0]) wx rfl (Below.refl _ _) hB
            · obtain rfl := Option.some.inj ho
              have HQ : Hid (∀ (val : Value) w', val = Value.agg #[.bool false, .slice yA yn yc, .slice yB ym ye, .int .i64 yq, .bool yi, .int .u64 0, .slice none 0 0, .slice none 0 0] → Below wx.heap.size wx w' → B9 w k ga gb gc gs gq (wl xA xn xc xB xm xe xq xi) (wl yA yn yc yB ym ye yq yi) (wl rA rn rc rB rm re rq ri) (wl sA sn sc sB sm se sq si) (wl pA pn pc pB pm pe pq pi) za zb zc zs w' → K _ w') := Lib.hid (fun val w' h1 h2 h3 => hK val w' h1 h2 h3 (fun h => by cases h))
              have e56 := hdep ⟨19, .guard⟩ (by simp) (by rfl)
              simp only [Act.put, List.setIfInBounds_toArray, List.set_cons_succ, List.set_cons_zero] at HQ
              clear hK hdep
              replace e56 : f 56 = .bool true := e56
              generalize f 56 = f56 at *
              subst e56
              obtain ⟨a0, a1, a2, a3, a4, a5, a6, a7⟩ := hB.b'.c8
              go_simp
              exact HQ.out (.agg #[.bool false, .slice yA yn yc, .slice yB ym ye, .int .i64 yq, .bool yi, .int .u64 0, .slice none 0 0, .slice none 0 0]) wx rfl (Below.refl _ _) hB
            · obtain rfl := Option.some.inj ho
              have HQ : Hid (∀ (val : Value) w', val = .bool false → Below wx.heap.size wx w' → B9 w k ga gb gc gs gq (wl xA xn xc xB xm xe xq xi) (wl yA yn yc yB ym ye yq yi) (wl rA rn rc rB rm re rq ri) (wl sA sn sc sB sm se sq si) (wl pA pn pc pB pm pe pq pi) za zb zc zs w' → K _ w') := Lib.hid (fun val w' h1 h2 h3 => hK val w' h1 h2 h3 (fun h => by cases h))
              have e56 := hdep ⟨19, .guard⟩ (by simp) (by rfl)
              have e57 := hdep ⟨20, .data⟩ (by simp) (by rfl)
              have e58 := hdep ⟨21, .data⟩ (by simp) (by rfl)
              have e59 := hdep ⟨22, .data⟩ (by simp) (by rfl)
              simp only [Act.put, List.setIfInBounds_toArray, List.set_cons_succ, List.set_cons_zero] at HQ
              clear hK hdep
              replace e56 : f 56 = .bool true := e56
              generalize f 56 = f56 at *
              subst e56
              replace e57 : f 57 = rk k := e57
              generalize f 57 = f57 at *
              subst e57
              replace e58 : f 58 = .agg #[.bool false, .slice xA xn xc, .slice xB xm xe, .int .i64 xq, .bool xi, .int .u64 0, .slice none 0 0, .slice none 0 0] := e58
              generalize f 58 = f58 at *
              subst e58
              replace e59 : f 59 = .agg #[.bool false, .slice yA yn yc, .slice yB ym ye, .int .i64 yq, .bool yi, .int .u64 0, .slice none 0 0, .slice none 0 0] := e59
              generalize f 59 = f59 at *
              subst e59
              go_simp
              refine (Better_w _ (HT.out.tab.below hB.b.2) hB.wa hB.wb (by decide) (by decide) false HV1).mono ?_
              rintro e w' ⟨rfl, hb⟩
              exact HQ.out (.bool false) w' rfl hb (hB.below hb)
            · obtain rfl := Option.some.inj ho
              have HQ : Hid (∀ (val : Value) w', val = .bool false → Below wx.heap.size wx w' → B9 w k ga gb gc gs gq (wl xA xn xc xB xm xe xq xi) (wl yA yn yc yB ym ye yq yi) (wl rA rn rc rB rm re rq ri) (wl sA sn sc sB sm se sq si) (wl pA pn pc pB pm pe pq pi) za zb zc zs w' → K _ w') := Lib.hid (fun val w' h1 h2 h3 => hK val w' h1 h2 h3 (fun h => by cases h))
              have e56 := hdep ⟨19, .guard⟩ (by simp) (by rfl)
              have e60 := hdep ⟨23, .data⟩ (by simp) (by rfl)
              simp only [Act.put, List.setIfInBounds_toArray, List.set_cons_succ, List.set_cons_zero] at HQ
              clear hK hdep
              replace e56 : f 56 = .bool true := e56
              generalize f 56 = f56 at *
              subst e56
              replace e60 : f 60 = .bool false := e60
              generalize f 60 = f60 at *
              subst e60
              go_simp
              exact HQ.out (.bool false) wx rfl (Below.refl _ _) hB
            · obtain rfl := Option.some.inj ho
              have HQ : Hid (∀ (val : Value) w', val = undef → Below wx.heap.size wx w' → B9 w k ga gb gc gs gq (wl xA xn xc xB xm xe xq xi) (wl yA yn yc yB ym ye yq yi) (wl rA rn rc rB rm re rq ri) (wl sA sn sc sB sm se sq si) (wl pA pn pc pB pm pe pq pi) za zb zc zs w' → K _ w') := Lib.hid (fun val w' h1 h2 h3 => hK val w' h1 h2 h3 (fun h => by cases h))
              have e61 := hdep ⟨24, .guard⟩ (by simp) (by rfl)
              simp only [Act.put, List.setIfInBounds_toArray, List.set_cons_succ, List.set_cons_zero] at HQ
              clear hK hdep
              replace e61 : f 61 = .bool false := e61
              generalize f 61 = f61 at *
              subst e61
              go_simp
              exact HQ.out undef wx rfl (Below.refl _ _) hB
            · obtain rfl := Option.some.inj ho
              have HQ : Hid (∀ (val : Value) w', val = undef → Below wx.heap.size wx w' → B9 w k ga gb gc gs gq (wl xA xn xc xB xm xe xq xi) (wl yA yn yc yB ym ye yq yi) (wl rA rn rc rB rm re rq ri) (wl sA sn sc sB sm se sq si) (wl pA pn pc pB pm pe pq pi) za zb zc zs w' → K _ w') := Lib.hid (fun val w' h1 h2 h3 => hK val w' h1 h2 h3 (fun h => by cases h))
              have e61 := hdep ⟨24, .guard⟩ (by simp) (by rfl)
              simp only [Act.put, List.setIfInBounds_toArray, List.set_cons_succ, List.set_cons_zero] at HQ
              clear hK hdep
              replace e61 : f 61 = .bool false := e61
              generalize f 61 = f61 at *
              subst e61
              go_simp
              exact HQ.out undef wx rfl (Below.refl _ _) hB
            · obtain rfl := Option.some.inj ho
              have HQ : Hid (∀ (val : Value) w', val = undef → Below wx.heap.size wx w' → B9 w k ga gb gc gs gq (wl xA xn xc xB xm xe xq xi) (wl yA yn yc yB ym ye yq yi) (wl rA rn rc rB rm re rq ri) (wl sA sn sc sB sm se sq si) (wl pA pn pc pB pm pe pq pi) za zb zc zs w' → K _ w') := Lib.hid (fun val w' h1 h2 h3 => hK val w' h1 h2 h3 (fun h => by cases h))
              have e61 := hdep ⟨24, .guard⟩ (by simp) (by rfl)
              simp only [Act.put, List.setIfInBounds_toArray, List.set_cons_succ, List.set_cons_zero] at HQ
              clear hK hdep
              replace e61 : f 61 = .bool false := e61
              generalize f 61 = f61 at *
              subst e61
              go_simp
              exact HQ.out undef wx rfl (Below.refl _ _) hB
            · obtain rfl := Option.some.inj ho
              have HQ : Hid (∀ (val : Value) w', val = undef → Below wx.heap.size wx w' → B9 w k ga gb gc gs gq (wl xA xn xc xB xm xe xq xi) (wl yA yn yc yB ym ye yq yi) (wl rA rn rc rB rm re rq ri) (wl sA sn sc sB sm se sq si) (wl pA pn pc pB pm pe pq pi) za zb zc zs w' → K _ w') := Lib.hid (fun val w' h1 h2 h3 => hK val w' h1 h2 h3 (fun h => by cases h))
              have e61 := hdep ⟨24, .guard⟩ (by simp) (by rfl)
              simp only [Act.put, List.setIfInBounds_toArray, List.set_cons_succ, List.set_cons_zero] at HQ
              clear hK hdep
              replace e61 : f 61 = .bool false := e61
              generalize f 61 = f61 at *
              subst e61
              go_simp
              exact HQ.out undef wx rfl (Below.refl _ _) hB
            · obtain rfl := Option.some.inj ho
              have HQ : Hid (∀ (val : Value) w', val = undef → Below wx.heap.size wx w' → B9 w k ga gb gc gs gq (wl xA xn xc xB xm xe xq xi) (wl yA yn yc yB ym ye yq yi) (wl rA rn rc rB rm re rq ri) (wl sA sn sc sB sm se sq si) (wl pA pn pc pB pm pe pq pi) za zb zc zs w' → K _ w') := Lib.hid (fun val w' h1 h2 h3 => hK val w' h1 h2 h3 (fun h => by cases h))
              have e61 := hdep ⟨24, .guard⟩ (by simp) (by rfl)
              simp only [Act.put, List.setIfInBounds_toArray, List.set_cons_succ, List.set_cons_zero] at HQ
              clear hK hdep
              replace e61 : f 61 = .bool false := e61
              generalize f 61 = f61 at *
              subst e61
              go_simp
              exact HQ.out undef wx rfl (Below.refl _ _) hB
            · obtain rfl := Option.some.inj ho
              have HQ : Hid (∀ (val : Value) w', val = undef → Below wx.heap.size wx w' → B9 w k ga gb gc gs gq (wl xA xn xc xB xm xe xq xi) (wl yA yn yc yB ym ye yq yi) (wl rA rn rc rB rm re rq ri) (wl sA sn sc sB sm se sq si) (wl pA pn pc pB pm pe pq pi) za zb zc zs w' → K _ w') := Lib.hid (fun val w' h1 h2 h3 => hK val w' h1 h2 h3 (fun h => by cases h))
              have e61 := hdep ⟨24, .guard⟩ (by simp) (by rfl)
              simp only [Act.put, List.setIfInBounds_toArray, List.set_cons_succ, List.set_cons_zero] at HQ
              clear hK hdep
              replace e61 : f 61 = .bool false := e61
              generalize f 61 = f61 at *
              subst e61
              go_simp
              exact HQ.out undef wx rfl (Below.refl _ _) hB
            · obtain rfl := Option.some.inj ho
              have HQ : Hid (∀ (val : Value) w', val = undef → Below wx.heap.size wx w' → B9 w k ga gb gc gs gq (wl xA xn xc xB xm xe xq xi) (wl yA yn yc yB ym ye yq yi) (wl rA rn rc rB rm re rq ri) (wl sA sn sc sB sm se sq si) (wl pA pn pc pB pm pe pq pi) za zb zc zs w' → K _ w') := Lib.hid (fun val w' h1 h2 h3 => hK val w' h1 h2 h3 (fun h => by cases h))
              have e61 := hdep ⟨24, .guard⟩ (by simp) (by rfl)
              simp only [Act.put, List.setIfInBounds_toArray, List.set_cons_succ, List.set_cons_zero] at HQ
              clear hK hdep
              replace e61 : f 61 = .bool false := e61
              generalize f 61 = f61 at *
              subst e61
              go_simp
              exact HQ.out undef wx rfl (Below.refl _ _) hB
            · obtain rfl := Option.some.inj ho
              have HQ : Hid (∀ (val : Value) w', val = undef → Below wx.heap.size wx w' → B9 w k ga gb gc gs gq (wl xA xn xc xB xm xe xq xi) (wl yA yn yc yB ym ye yq yi) (wl rA rn rc rB rm re rq ri) (wl sA sn sc sB sm se sq si) (wl pA pn pc pB pm pe pq pi) za zb zc zs w' → K _ w') := Lib.hid (fun val w' h1 h2 h3 => hK val w' h1 h2 h3 (fun h => by cases h))
              have e61 := hdep ⟨24, .guard⟩ (by simp) (by rfl)
              simp only [Act.put, List.setIfInBounds_toArray, List.set_cons_succ, List.set_cons_zero] at HQ
              clear hK hdep
              replace e61 : f 61 = .bool false := e61
              generalize f 61 = f61 at *
              subst e61
              go_simp
              exact HQ.out undef wx rfl (Below.refl _ _) hB
            · obtain rfl := Option.some.inj ho
              have HQ : Hid (∀ (val : Value) w', val = undef → Below wx.heap.size wx w' → B9 w k ga gb gc gs gq (wl xA xn xc xB xm xe xq xi) (wl yA yn yc yB ym ye yq yi) (wl rA rn rc rB rm re rq ri) (wl sA sn sc sB sm se sq si) (wl pA pn pc pB pm pe pq pi) za zb zc zs w' → K _ w') := Lib.hid (fun val w' h1 h2 h3 => hK val w' h1 h2 h3 (fun h => by cases h))
              have e61 := hdep ⟨24, .guard⟩ (by simp) (by rfl)
              simp only [Act.put, List.setIfInBounds_toArray, List.set_cons_succ, List.set_cons_zero] at HQ
              clear hK hdep
              replace e61 : f 61 = .bool false := e61
              generalize f 61 = f61 at *
              subst e61
              go_simp
              exact HQ.out undef wx rfl (Below.refl _ _) hB
            · obtain rfl := Option.some.inj ho
              have HQ : Hid (∀ (val : Value) w', val = undef → Below wx.heap.size wx w' → B9 w k ga gb gc gs gq (wl xA xn xc xB xm xe xq xi) (wl yA yn yc yB ym ye yq yi) (wl rA rn rc rB rm re rq ri) (wl sA sn sc sB sm se sq si) (wl pA pn pc pB pm pe pq pi) za zb zc zs w' → K _ w') := Lib.hid (fun val w' h1 h2 h3 => hK val w' h1 h2 h3 (fun h => by cases h))
              have e61 := hdep ⟨24, .guard⟩ (by simp) (by rfl)
              simp only [Act.put, List.setIfInBounds_toArray, List.set_cons_succ, List.set_cons_zero] at HQ
              clear hK hdep
              replace e61 : f 61 = .bool false := e61
              generalize f 61 = f61 at *
              subst e61
              go_simp
              exact HQ.out undef wx rfl (Below.refl _ _) hB
            · obtain rfl := Option.some.inj ho
              have HQ : Hid (∀ (val : Value) w', val = .bool false → Below wx.heap.size wx w' → B9 w k ga gb gc gs gq (wl xA xn xc xB xm xe xq xi) (wl yA yn yc yB ym ye yq yi) (wl rA rn rc rB rm re rq ri) (wl sA sn sc sB sm se sq si) (wl pA pn pc pB pm pe pq pi) za zb zc zs w' → K _ w') := Lib.hid (fun val w' h1 h2 h3 => hK val w' h1 h2 h3 (fun h => by cases h))
              have e56 := hdep ⟨19, .guard⟩ (by simp) (by rfl)
              have e61 := hdep ⟨24, .data⟩ (by simp) (by rfl)
              have e71 := hdep ⟨34, .data⟩ (by simp) (by rfl)
              simp only [Act.put, List.setIfInBounds_toArray, List.set_cons_succ, List.set_cons_zero] at HQ
              clear hK hdep
              replace e56 : f 56 = .bool true := e56
              generalize f 56 = f56 at *
              subst e56
              replace e61 : f 61 = .bool false := e61
              generalize f 61 = f61 at *
              subst e61
              replace e71 : f 71 = undef := e71
              generalize f 71 = f71 at *
              subst e71
              go_simp
              exact HQ.out (.bool false) wx rfl (Below.refl _ _) hB
            · obtain rfl := Option.some.inj ho
              have HQ : Hid (∀ (val : Value) w', val = .bool true → Below wx.heap.size wx w' → B9 w k ga gb gc gs gq (wl xA xn xc xB xm xe xq xi) (wl yA yn yc yB ym ye yq yi) (wl rA rn rc rB rm re rq ri) (wl sA sn sc sB sm se sq si) (wl pA pn pc pB pm pe pq pi) za zb zc zs w' → K _ w') := Lib.hid (fun val w' h1 h2 h3 => hK val w' h1 h2 h3 (fun h => by cases h))
              have e56 := hdep ⟨19, .guard⟩ (by simp) (by rfl)
              have e72 := hdep ⟨35, .data⟩ (by simp) (by rfl)
              simp only [Act.put, List.setIfInBounds_toArray, List.set_cons_succ, List.set_cons_zero] at HQ
              clear hK hdep
              replace e56 : f 56 = .bool true := e56
              generalize f 56 = f56 at *
              subst e56
              replace e72 : f 72 = .bool false := e72
              generalize f 72 = f72 at *
              subst e72
              go_simp
              exact HQ.out (.bool true) wx rfl (Below.refl _ _) hB
            · obtain rfl := Option.some.inj ho
              have HQ : Hid (∀ (val : Value) w', val = .bool true → Below wx.heap.size wx w' → B9 w k ga gb gc gs gq (wl xA xn xc xB xm xe xq xi) (wl yA yn yc yB ym ye yq yi) (wl rA rn rc rB rm re rq ri) (wl sA sn sc sB sm se sq si) (wl pA pn pc pB pm pe pq pi) za zb zc zs w' → K _ w') := Lib.hid (fun val w' h1 h2 h3 => hK val w' h1 h2 h3 (fun h => by cases h))
              have e56 := hdep ⟨19, .data⟩ (by simp) (by rfl)
              have e73 := hdep ⟨36, .data⟩ (by simp) (by rfl)
              simp only [Act.put, List.setIfInBounds_toArray, List.set_cons_succ, List.set_cons_zero] at HQ
              clear hK hdep
              replace e56 : f 56 = .bool true := e56
              generalize f 56 = f56 at *
              subst e56
              replace e73 : f 73 = .bool true := e73
              generalize f 73 = f73 at *
              subst e73
              go_simp
              exact HQ.out (.bool true) wx rfl (Below.refl _ _) hB
          case finf =>
            intro f wx hB hG _
            have e74 : f 74 = .bool true := hG 37 (by decide) (by rfl)
            clear hG
            simp only [frontAct, List.foldl_cons, List.foldl_nil, List.setIfInBounds_toArray, List.set_cons_succ, List.set_cons_zero]
            generalize f 74 = f74 at *
            subst e74
            refine wpAny_ready (rs := [38]) (by kernel_rfl) (by simp) ?_
            refine AllReady.cons rfl (fun K hK => ?_) AllReady.nil
            have HQ := Lib.hid hK
            clear hK
            go_simp
            refine HQ.out _ _ ?_
            clear HQ K
            refine wpAny_done (by kernel_rfl) ?_ _
            go_wp2_with fail
            go_ret
            exact ⟨rfl, hB.b.2⟩
        · have HV1 := Lib.hid hV1
          have HV2 := Lib.hid (bt_not HK.out hV1)
          have HV3 := Lib.hid (bt_times wa wb wz hV1)
          clear hV1 h9 hB ca cb cc cs cq wa wb wz ws wq
          go_upto_region 9 with (fail)
          refine wp_region_front0 (by kernel_rfl) F9 S9' [37, 38, 39, 40, 41, 42, 43, 44, 45, 46, 47, 48, 49, 50, 51, 52, 53, 54, 55, 56, 57, 58, 59, 60, 61, 62, 63, 64, 65, 66, 67, 68, 69, 70, 71, 72, 73, 74] (G9t k (wl xA xn xc xB xm xe xq xi) (wl yA yn yc yB ym ye yq yi) (wl rA rn rc rB rm re rq ri) (wl sA sn sc sB sm se sq si) (wl pA pn pc pB pm pe pq pi) za zb zc) (B9 w k ga gb gc gs gq (wl xA xn xc xB xm xe xq xi) (wl yA yn yc yB ym ye yq yi) (wl rA rn rc rB rm re rq ri) (wl sA sn sc sB sm se sq si) (wl pA pn pc pB pm pe pq pi) za zb zc zs) H9.out.drew (by kernel_rfl) (by kernel_rfl) G9t.keep (fun _ _ _ h => by cases h) ?stept 1 (by kernel_rfl) _ rfl ?fint
          case stept =>
            intro i oi ho hF f wx hB hdep K hK
            have hi : i < 38 := of_decide_eq_true hF
            clear hF
            simp only [frontAct, List.foldl_cons, List.foldl_nil, List.setIfInBounds_toArray, List.set_cons_succ, List.set_cons_zero] at hK ⊢
            obtain rfl | rfl | rfl | rfl | rfl | rfl | rfl | rfl | rfl | rfl | rfl | rfl | rfl | rfl | rfl | rfl | rfl | rfl | rfl | rfl | rfl | rfl | rfl | rfl | rfl | rfl | rfl | rfl | rfl | rfl | rfl | rfl | rfl | rfl | rfl | rfl | rfl | rfl : i = 0 ∨ i = 1 ∨ i = 2 ∨ i = 3 ∨ i = 4 ∨ i = 5 ∨ i = 6 ∨ i = 7 ∨ i = 8 ∨ i = 9 ∨ i = 10 ∨ i = 11 ∨ i = 12 ∨ i = 13 ∨ i = 14 ∨ i = 15 ∨ i = 16 ∨ i = 17 ∨ i = 18 ∨ i = 19 ∨ i = 20 ∨ i = 21 ∨ i = 22 ∨ i = 23 ∨ i = 24 ∨ i = 25 ∨ i = 26 ∨ i = 27 ∨ i = 28 ∨ i = 29 ∨ i = 30 ∨ i = 31 ∨ i = 32 ∨ i = 33 ∨ i = 34 ∨ i = 35 ∨ i = 36 ∨ i = 37 := by omega
            · obtain rfl := Option.some.inj ho
              have HQ : Hid (∀ (val : Value) w', val = .bool true → Below wx.heap.size wx w' → B9 w k ga gb gc gs gq (wl xA xn xc xB xm xe xq xi) (wl yA yn yc yB ym ye yq yi) (wl rA rn rc rB rm re rq ri) (wl sA sn sc sB sm se sq si) (wl pA pn pc pB pm pe pq pi) za zb zc zs w' → K _ w') := Lib.hid (fun val w' h1 h2 h3 => hK val w' h1 h2 h3 (fun h => by cases h))
              simp only [Act.put, List.setIfInBounds_toArray, List.set_cons_succ, List.set_cons_zero] at HQ
              clear hK hdep
              go_simp
              refine (awake3_any _ (HT.out.below hB.b.2)).mono ?_
              rintro e w' ⟨rfl, hb⟩
              exact HQ.out (.bool true) w' rfl hb (hB.below hb)
            · obtain rfl := Option.some.inj ho
              have HQ : Hid (∀ (val : Value) w', val = .bool true → Below wx.heap.size wx w' → B9 w k ga gb gc gs gq (wl xA xn xc xB xm xe xq xi) (wl yA yn yc yB ym ye yq yi) (wl rA rn rc rB rm re rq ri) (wl sA sn sc sB sm se sq si) (wl pA pn pc pB pm pe pq pi) za zb zc zs w' → K _ w') := Lib.hid (fun val w' h1 h2 h3 => hK val w' h1 h2 h3 (fun h => by cases h))
              have e37 := hdep ⟨0, .data⟩ (by simp) (by rfl)
              simp only [Act.put, List.setIfInBounds_toArray, List.set_cons_succ, List.set_cons_zero] at HQ
              clear hK hdep
              replace e37 : f 37 = .bool true := e37
              generalize f 37 = f37 at *
              subst e37
              go_simp
              exact HQ.out (.bool true) wx rfl (Below.refl _ _) hB
            · obtain rfl := Option.some.inj ho
              have HQ : Hid (∀ (val : Value) w', val = Value.agg #[.bool false, .slice sA sn sc, .slice sB sm se, .int .i64 sq, .bool si, .int .u64 0, .slice none 0 0, .slice none 0 0] → Below wx.heap.size wx w' → B9 w k ga gb gc gs gq (wl xA xn xc xB xm xe xq xi) (wl yA yn yc yB ym ye yq yi) (wl rA rn rc rB rm re rq ri) (wl sA sn sc sB sm se sq si) (wl pA pn pc pB pm pe pq pi) za zb zc zs w' → K _ w') := Lib.hid (fun val w' h1 h2 h3 => hK val w' h1 h2 h3 (fun h => by cases h))
              have e38 := hdep ⟨1, .guard⟩ (by simp) (by rfl)
              simp only [Act.put, List.setIfInBounds_toArray, List.set_cons_succ, List.set_cons_zero] at HQ
              clear hK hdep
              replace e38 : f 38 = .bool true := e38
              generalize f 38 = f38 at *
              subst e38
              obtain ⟨a0, a1, a2, a3, a4, a5, a6, a7⟩ := hB.s.c8
              go_simp
              exact HQ.out (.agg #[.bool false, .slice sA sn sc, .slice sB sm se, .int .i64 sq, .bool si, .int .u64 0, .slice none 0 0, .slice none 0 0]) wx rfl (Below.refl _ _) hB
            · obtain rfl := Option.some.inj ho
              have HQ : Hid (∀ (val : Value) w', val = Value.agg #[.bool false, .slice pA pn pc, .slice pB pm pe, .int .i64 pq, .bool pi, .int .u64 0, .slice none 0 0, .slice none 0 0] → Below wx.heap.size wx w' → B9 w k ga gb gc gs gq (wl xA xn xc xB xm xe xq xi) (wl yA yn yc yB ym ye yq yi) (wl rA rn rc rB rm re rq ri) (wl sA sn sc sB sm se sq si) (wl pA pn pc pB pm pe pq pi) za zb zc zs w' → K _ w') := Lib.hid (fun val w' h1 h2 h3 => hK val w' h1 h2 h3 (fun h => by cases h))
              have e38 := hdep ⟨1, .guard⟩ (by simp) (by rfl)
              simp only [Act.put, List.setIfInBounds_toArray, List.set_cons_succ, List.set_cons_zero] at HQ
              clear hK hdep
              replace e38 : f 38 = .bool true := e38
              generalize f 38 = f38 at *
              subst e38
              obtain ⟨a0, a1, a2, a3, a4, a5, a6, a7⟩ := hB.q.c8
              go_simp
              exact HQ.out (.agg #[.bool false, .slice pA pn pc, .slice pB pm pe, .int .i64 pq, .bool pi, .int .u64 0, .slice none 0 0, .slice none 0 0]) wx rfl (Below.refl _ _) hB
            · obtain rfl := Option.some.inj ho
              have HQ : Hid (∀ (val : Value) w', val = .bool true → Below wx.heap.size wx w' → B9 w k ga gb gc gs gq (wl xA xn xc xB xm xe xq xi) (wl yA yn yc yB ym ye yq yi) (wl rA rn rc rB rm re rq ri) (wl sA sn sc sB sm se sq si) (wl pA pn pc pB pm pe pq pi) za zb zc zs w' → K _ w') := Lib.hid (fun val w' h1 h2 h3 => hK val w' h1 h2 h3 (fun h => by cases h))
              have e38 := hdep ⟨1, .guard⟩ (by simp) (by rfl)
              have e39 := hdep ⟨2, .data⟩ (by simp) (by rfl)
              have e40 := hdep ⟨3, .data⟩ (by simp) (by rfl)
              simp only [Act.put, List.setIfInBounds_toArray, List.set_cons_succ, List.set_cons_zero] at HQ
              clear hK hdep
              replace e38 : f 38 = .bool true := e38
              generalize f 38 = f38 at *
              subst e38
              replace e39 : f 39 = .agg #[.bool false, .slice sA sn sc, .slice sB sm se, .int .i64 sq, .bool si, .int .u64 0, .slice none 0 0, .slice none 0 0] := e39
              generalize f 39 = f39 at *
              subst e39
              replace e40 : f 40 = .agg #[.bool false, .slice pA pn pc, .slice pB pm pe, .int .i64 pq, .bool pi, .int .u64 0, .slice none 0 0, .slice none 0 0] := e40
              generalize f 40 = f40 at *
              subst e40
              go_simp
              refine (Equal_w _ hB.ws hB.wq (by decide)).mono ?_
              rintro e w' ⟨rfl, hb⟩
              exact HQ.out (.bool true) w' rfl hb (hB.below hb)
            · obtain rfl := Option.some.inj ho
              have HQ : Hid (∀ (val : Value) w', val = .bool true → Below wx.heap.size wx w' → B9 w k ga gb gc gs gq (wl xA xn xc xB xm xe xq xi) (wl yA yn yc yB ym ye yq yi) (wl rA rn rc rB rm re rq ri) (wl sA sn sc sB sm se sq si) (wl pA pn pc pB pm pe pq pi) za zb zc zs w' → K _ w') := Lib.hid (fun val w' h1 h2 h3 => hK val w' h1 h2 h3 (fun h => by cases h))
              have e38 := hdep ⟨1, .data⟩ (by simp) (by rfl)
              have e41 := hdep ⟨4, .data⟩ (by simp) (by rfl)
              simp only [Act.put, List.setIfInBounds_toArray, List.set_cons_succ, List.set_cons_zero] at HQ
              clear hK hdep
              replace e38 : f 38 = .bool true := e38
              generalize f 38 = f38 at *
              subst e38
              replace e41 : f 41 = .bool true := e41
              generalize f 41 = f41 at *
              subst e41
              go_simp
              exact HQ.out (.bool true) wx rfl (Below.refl _ _) hB
            · obtain rfl := Option.some.inj ho
              have HQ : Hid (∀ (val : Value) w', val = .bool true → Below wx.heap.size wx w' → B9 w k ga gb gc gs gq (wl xA xn xc xB xm xe xq xi) (wl yA yn yc yB ym ye yq yi) (wl rA rn rc rB rm re rq ri) (wl sA sn sc sB sm se sq si) (wl pA pn pc pB pm pe pq pi) za zb zc zs w' → K _ w') := Lib.hid (fun val w' h1 h2 h3 => hK val w' h1 h2 h3 (fun h => by cases h))
              have e42 := hdep ⟨5, .data⟩ (by simp) (by rfl)
              simp only [Act.put, List.setIfInBounds_toArray, List.set_cons_succ, List.set_cons_zero] at HQ
              clear hK hdep
              replace e42 : f 42 = .bool true := e42
              generalize f 42 = f42 at *
              subst e42
              go_simp
              exact HQ.out (.bool true) wx rfl (Below.refl _ _) hB
            · obtain rfl := Option.some.inj ho
              have HQ : Hid (∀ (val : Value) w', val = rk k → Below wx.heap.size wx w' → B9 w k ga gb gc gs gq (wl xA xn xc xB xm xe xq xi) (wl yA yn yc yB ym ye yq yi) (wl rA rn rc rB rm re rq ri) (wl sA sn sc sB sm se sq si) (wl pA pn pc pB pm pe pq pi) za zb zc zs w' → K _ w') := Lib.hid (fun val w' h1 h2 h3 => hK val w' h1 h2 h3 (fun h => by cases h))
              have e43 := hdep ⟨6, .guard⟩ (by simp) (by rfl)
              simp only [Act.put, List.setIfInBounds_toArray, List.set_cons_succ, List.set_cons_zero] at HQ
              clear hK hdep
              replace e43 : f 43 = .bool true := e43
              generalize f 43 = f43 at *
              subst e43
              have k0 := hB.b.1.cell (k := 0) rfl
              have k1 := hB.b.1.cell (k := 1) rfl
              go_simp
              exact HQ.out (rk k) wx rfl (Below.refl _ _) hB
            · obtain rfl := Option.some.inj ho
              have HQ : Hid (∀ (val : Value) w', val = Value.agg #[.bool false, .slice xA xn xc, .slice xB xm xe, .int .i64 xq, .bool xi, .int .u64 0, .slice none 0 0, .slice none 0 0] → Below wx.heap.size wx w' → B9 w k ga gb gc gs gq (wl xA xn xc xB xm xe xq xi) (wl yA yn yc yB ym ye yq yi) (wl rA rn rc rB rm re rq ri) (wl sA sn sc sB sm se sq si) (wl pA pn pc pB pm pe pq pi) za zb zc zs w' → K _ w') := Lib.hid (fun val w' h1 h2 h3 => hK val w' h1 h2 h3 (fun h => by cases h))
              have e43 := hdep ⟨6, .guard⟩ (by simp) (by rfl)
              simp only [Act.put, List.setIfInBounds_toArray, List.set_cons_succ, List.set_cons_zero] at HQ
              clear hK hdep
              replace e43 : f 43 = .bool true := e43
              generalize f 43 = f43 at *
              subst e43
              obtain ⟨a0, a1, a2, a3, a4, a5, a6, a7⟩ := hB.a.c8
              go_simp
              exact HQ.out (.agg #[.bool false, .slice xA xn xc, .slice xB xm xe, .int .i64 xq, .bool xi, .int .u64 0, .slice none 0 0, .slice none 0 0]) wx rfl (Below.refl _ _) hB
            · obtain rfl := Option.some.inj ho
              have HQ : Hid (∀ (val : Value) w', val = Value.agg #[.bool false, .slice yA yn yc, .slice yB ym ye, .int .i64 yq, .bool yi, .int .u64 0, .slice none 0 0, .slice none 0 0] → Below wx.heap.size wx w' → B9 w k ga gb gc gs gq (wl xA xn xc xB xm xe xq xi) (wl yA yn yc yB ym ye yq yi) (wl rA rn rc rB rm re rq ri) (wl sA sn sc sB sm se sq si) (wl pA pn pc pB pm pe pq pi) za zb zc zs w' → K _ w') := Lib.hid (fun val w' h1 h2 h3 => hK val w' h1 h2 h3 (fun h => by cases h))
              have e43 := hdep ⟨6, .guard⟩ (by simp) (by rfl)
              simp only [Act.put, List.setIfInBounds_toArray, List.set_cons_succ, List.set_cons_zero] at HQ
              clear hK hdep
              replace e43 : f 43 = .bool true := e43
              generalize f 43 = f43 at *
              subst e43
              obtain ⟨a0, a1, a2, a3, a4, a5, a6, a7⟩ := hB.b'.c8
              go_simp
              exact HQ.out (.agg #[.bool false, .slice yA yn yc, .slice yB ym ye, .int .i64 yq, .bool yi, .int .u64 0, .slice none 0 0, .slice none 0 0]) wx rfl (Below.refl _ _) hB
            · obtain rfl := Option.some.inj ho
              have HQ : Hid (∀ (val : Value) w', val = .bool true → Below wx.heap.size wx w' → B9 w k ga gb gc gs gq (wl xA xn xc xB xm xe xq xi) (wl yA yn yc yB ym ye yq yi) (wl rA rn rc rB rm re rq ri) (wl sA sn sc sB sm se sq si) (wl pA pn pc pB pm pe pq pi) za zb zc zs w' → K _ w') := Lib.hid (fun val w' h1 h2 h3 => hK val w' h1 h2 h3 (fun h => by cases h))
              have e43 := hdep ⟨6, .guard⟩ (by simp) (by rfl)
              have e44 := hdep ⟨7, .data⟩ (by simp) (by rfl)
              have e45 := hdep ⟨8, .data⟩ (by simp) (by rfl)
              have e46 := hdep ⟨9, .data⟩ (by simp) (by rfl)
              simp only [Act.put, List.setIfInBounds_toArray, List.set_cons_succ, List.set_cons_zero] at HQ
              clear hK hdep
              replace e43 : f 43 = .bool true := e43
              generalize f 43 = f43 at *
              subst e43
              replace e44 : f 44 = rk k := e44
              generalize f 44 = f44 at *
              subst e44
              replace e45 : f 45 = .agg #[.bool false, .slice xA xn xc, .slice xB xm xe, .int .i64 xq, .bool xi, .int .u64 0, .slice none 0 0, .slice none 0 0] := e45
              generalize f 45 = f45 at *
              subst e45
              replace e46 : f 46 = .agg #[.bool false, .slice yA yn yc, .slice yB ym ye, .int .i64 yq, .bool yi, .int .u64 0, .slice none 0 0, .slice none 0 0] := e46
              generalize f 46 = f46 at *
              subst e46
              go_simp
              refine (Better_w _ (HT.out.tab.below hB.b.2) hB.wa hB.wb (by decide) (by decide) true HV1).mono ?_
              rintro e w' ⟨rfl, hb⟩
              exact HQ.out (.bool true) w' rfl hb (hB.below hb)
            · obtain rfl := Option.some.inj ho
              have HQ : Hid (∀ (val : Value) w', val = .bool true → Below wx.heap.size wx w' → B9 w k ga gb gc gs gq (wl xA xn xc xB xm xe xq xi) (wl yA yn yc yB ym ye yq yi) (wl rA rn rc rB rm re rq ri) (wl sA sn sc sB sm se sq si) (wl pA pn pc pB pm pe pq pi) za zb zc zs w' → K _ w') := Lib.hid (fun val w' h1 h2 h3 => hK val w' h1 h2 h3 (fun h => by cases h))
              have e43 := hdep ⟨6, .guard⟩ (by simp) (by rfl)
              have e47 := hdep ⟨10, .data⟩ (by simp) (by rfl)
              simp only [Act.put, List.setIfInBounds_toArray, List.set_cons_succ, List.set_cons_zero] at HQ
              clear hK hdep
              replace e43 : f 43 = .bool true := e43
              generalize f 43 = f43 at *
              subst e43
              replace e47 : f 47 = .bool true := e47
              generalize f 47 = f47 at *
              subst e47
              go_simp
              exact HQ.out (.bool true) wx rfl (Below.refl _ _) hB
            · obtain rfl := Option.some.inj ho
              have HQ : Hid (∀ (val : Value) w', val = rk k → Below wx.heap.size wx w' → B9 w k ga gb gc gs gq (wl xA xn xc xB xm xe xq xi) (wl yA yn yc yB ym ye yq yi) (wl rA rn rc rB rm re rq ri) (wl sA sn sc sB sm se sq si) (wl pA pn pc pB pm pe pq pi) za zb zc zs w' → K _ w') := Lib.hid (fun val w' h1 h2 h3 => hK val w' h1 h2 h3 (fun h => by cases h))
              have e48 := hdep ⟨11, .guard⟩ (by simp) (by rfl)
              simp only [Act.put, List.setIfInBounds_toArray, List.set_cons_succ, List.set_cons_zero] at HQ
              clear hK hdep
              replace e48 : f 48 = .bool true := e48
              generalize f 48 = f48 at *
              subst e48
              have k0 := hB.b.1.cell (k := 0) rfl
              have k1 := hB.b.1.cell (k := 1) rfl
              go_simp
              exact HQ.out (rk k) wx rfl (Below.refl _ _) hB
            · obtain rfl := Option.some.inj ho
              have HQ : Hid (∀ (val : Value) w', val = Value.agg #[.bool false, .slice yA yn yc, .slice yB ym ye, .int .i64 yq, .bool yi, .int .u64 0, .slice none 0 0, .slice none 0 0] → Below wx.heap.size wx w' → B9 w k ga gb gc gs gq (wl xA xn xc xB xm xe xq xi) (wl yA yn yc yB ym ye yq yi) (wl rA rn rc rB rm re rq ri) (wl sA sn sc sB sm se sq si) (wl pA pn pc pB pm pe pq pi) za zb zc zs w' → K _ w') := Lib.hid (fun val w' h1 h2 h3 => hK val w' h1 h2 h3 (fun h => by cases h))
              have e48 := hdep ⟨11, .guard⟩ (by simp) (by rfl)
              simp only [Act.put, List.setIfInBounds_toArray, List.set_cons_succ, List.set_cons_zero] at HQ
              clear hK hdep
              replace e48 : f 48 = .bool true := e48
              generalize f 48 = f48 at *
              subst e48
              obtain ⟨a0, a1, a2, a3, a4, a5, a6, a7⟩ := hB.b'.c8
              go_simp
              exact HQ.out (.agg #[.bool false, .slice yA yn yc, .slice yB ym ye, .int .i64 yq, .bool yi, .int .u64 0, .slice none 0 0, .slice none 0 0]) wx rfl (Below.refl _ _) hB
            · obtain rfl := Option.some.inj ho
              have HQ : Hid (∀ (val : Value) w', val = Value.agg #[.bool false, .slice xA xn xc, .slice xB xm xe, .int .i64 xq, .bool xi, .int .u64 0, .slice none 0 0, .slice none 0 0] → Below wx.heap.size wx w' → B9 w k ga gb gc gs gq (wl xA xn xc xB xm xe xq xi) (wl yA yn yc yB ym ye yq yi) (wl rA rn rc rB rm re rq ri) (wl sA sn sc sB sm se sq si) (wl pA pn pc pB pm pe pq pi) za zb zc zs w' → K _ w') := Lib.hid (fun val w' h1 h2 h3 => hK val w' h1 h2 h3 (fun h => by cases h))
              have e48 := hdep ⟨11, .guard⟩ (by simp) (by rfl)
              simp only [Act.put, List.setIfInBounds_toArray, List.set_cons_succ, List.set_cons_zero] at HQ
              clear hK hdep
              replace e48 : f 48 = .bool true := e48
              generalize f 48 = f48 at *
              subst e48
              obtain ⟨a0, a1, a2, a3, a4, a5, a6, a7⟩ := hB.a.c8
              go_simp
              exact HQ.out (.agg #[.bool false, .slice xA xn xc, .slice xB xm xe, .int .i64 xq, .bool xi, .int .u64 0, .slice none 0 0, .slice none 0 0]) wx rfl (Below.refl _ _) hB
            · obtain rfl := Option.some.inj ho
              have HQ : Hid (∀ (val : Value) w', val = .bool false → Below wx.heap.size wx w' → B9 w k ga gb gc gs gq (wl xA xn xc xB xm xe xq xi) (wl yA yn yc yB ym ye yq yi) (wl rA rn rc rB rm re rq ri) (wl sA sn sc sB sm se sq si) (wl pA pn pc pB pm pe pq pi) za zb zc zs w' → K _ w') := Lib.hid (fun val w' h1 h2 h3 => hK val w' h1 h2 h3 (fun h => by cases h))
              have e48 := hdep ⟨11, .guard⟩ (by simp) (by rfl)
              have e49 := hdep ⟨12, .data⟩ (by simp) (by rfl)
              have e50 := hdep ⟨13, .data⟩ (by simp) (by rfl)
              have e51 := hdep ⟨14, .data⟩ (by simp) (by rfl)
              simp only [Act.put, List.setIfInBounds_toArray, List.set_cons_succ, List.set_cons_zero] at HQ
              clear hK hdep
              replace e48 : f 48 = .bool true := e48
              generalize f 48 = f48 at *
              subst e48
              replace e49 : f 49 = rk k := e49
              generalize f 49 = f49 at *
              subst e49
              replace e50 : f 50 = .agg #[.bool false, .slice yA yn yc, .slice yB ym ye, .int .i64 yq, .bool yi, .int .u64 0, .slice none 0 0, .slice none 0 0] := e50
              generalize f 50 = f50 at *
              subst e50
              replace e51 : f 51 = .agg #[.bool false, .slice xA xn xc, .slice xB xm xe, .int .i64 xq, .bool xi, .int .u64 0, .slice none 0 0, .slice none 0 0] := e51
              generalize f 51 = f51 at *
              subst e51
              go_simp
              refine (Better_w _ (HT.out.tab.below hB.b.2) hB.wb hB.wa (by decide) (by decide) false HV2).mono ?_
              rintro e w' ⟨rfl, hb⟩
              exact HQ.out (.bool false) w' rfl hb (hB.below hb)
            · obtain rfl := Option.some.inj ho
              have HQ : Hid (∀ (val : Value) w', val = .bool false → Below wx.heap.size wx w' → B9 w k ga gb gc gs gq (wl xA xn xc xB xm xe xq xi) (wl yA yn yc yB ym ye yq yi) (wl rA rn rc rB rm re rq ri) (wl sA sn sc sB sm se sq si) (wl pA pn pc pB pm pe pq pi) za zb zc zs w' → K _ w') := Lib.hid (fun val w' h1 h2 h3 => hK val w' h1 h2 h3 (fun h => by cases h))
              have e43 := hdep ⟨6, .guard⟩ (by simp) (by rfl)
              have e48 := hdep ⟨11, .data⟩ (by simp) (by rfl)
              have e52 := hdep ⟨15, .data⟩ (by simp) (by rfl)
              simp only [Act.put, List.setIfInBounds_toArray, List.set_cons_succ, List.set_cons_zero] at HQ
              clear hK hdep
              replace e43 : f 43 = .bool true := e43
              generalize f 43 = f43 at *
              subst e43
              replace e48 : f 48 = .bool true := e48
              generalize f 48 = f48 at *
              subst e48
              replace e52 : f 52 = .bool false := e52
              generalize f 52 = f52 at *
              subst e52
              go_simp
              exact HQ.out (.bool false) wx rfl (Below.refl _ _) hB
            · obtain rfl := Option.some.inj ho
              have HQ : Hid (∀ (val : Value) w', val = .bool true → Below wx.heap.size wx w' → B9 w k ga gb gc gs gq (wl xA xn xc xB xm xe xq xi) (wl yA yn yc yB ym ye yq yi) (wl rA rn rc rB rm re rq ri) (wl sA sn sc sB sm se sq si) (wl pA pn pc pB pm pe pq pi) za zb zc zs w' → K _ w') := Lib.hid (fun val w' h1 h2 h3 => hK val w' h1 h2 h3 (fun h => by cases h))
              have e43 := hdep ⟨6, .guard⟩ (by simp) (by rfl)
              have e53 := hdep ⟨16, .data⟩ (by simp) (by rfl)
              simp only [Act.put, List.setIfInBounds_toArray, List.set_cons_succ, List.set_cons_zero] at HQ
              clear hK hdep
              replace e43 : f 43 = .bool true := e43
              generalize f 43 = f43 at *
              subst e43
              replace e53 : f 53 = .bool false := e53
              generalize f 53 = f53 at *
              subst e53
              go_simp
              exact HQ.out (.bool true) wx rfl (Below.refl _ _) hB
            · obtain rfl := Option.some.inj ho
              have HQ : Hid (∀ (val : Value) w', val = .bool true → Below wx.heap.size wx w' → B9 w k ga gb gc gs gq (wl xA xn xc xB xm xe xq xi) (wl yA yn yc yB ym ye yq yi) (wl rA rn rc rB rm re rq ri) (wl sA sn sc sB sm se sq si) (wl pA pn pc pB pm pe pq pi) za zb zc zs w' → K _ w') := Lib.hid (fun val w' h1 h2 h3 => hK val w' h1 h2 h3 (fun h => by cases h))
              have e43 := hdep ⟨6, .data⟩ (by simp) (by rfl)
              have e54 := hdep ⟨17, .data⟩ (by simp) (by rfl)
              simp only [Act.put, List.setIfInBounds_toArray, List.set_cons_succ, List.set_cons_zero] at HQ
              clear hK hdep
              replace e43 : f 43 = .bool true := e43
              generalize f 43 = f43 at *
              subst e43
              replace e54 : f 54 = .bool true := e54
              generalize f 54 = f54 at *
              subst e54
              go_simp
              exact HQ.out (.bool true) wx rfl (Below.refl _ _) hB
            · obtain rfl := Option.some.inj ho
              have HQ : Hid (∀ (val : Value) w', val = .bool true → Below wx.heap.size wx w' → B9 w k ga gb gc gs gq (wl xA xn xc xB xm xe xq xi) (wl yA yn yc yB ym ye yq yi) (wl rA rn rc rB rm re rq ri) (wl sA sn sc sB sm se sq si) (wl pA pn pc pB pm pe pq pi) za zb zc zs w' → K _ w') := Lib.hid (fun val w' h1 h2 h3 => hK val w' h1 h2 h3 (fun h => by cases h))
              have e55 := hdep ⟨18, .data⟩ (by simp) (by rfl)
              simp only [Act.put, List.setIfInBounds_toArray, List.set_cons_succ, List.set_cons_zero] at HQ
              clear hK hdep
              replace e55 : f 55 = .bool true := e55
              generalize f 55 = f55 at *
              subst e55
              go_simp
              exact HQ.out (.bool true) wx rfl (Below.refl _ _) hB
            · obtain rfl := Option.some.inj ho
              have HQ : Hid (∀ (val : Value) w', val = rk k → Below wx.heap.size wx w' → B9 w k ga gb gc gs gq (wl xA xn xc xB xm xe xq xi) (wl yA yn yc yB ym ye yq yi) (wl rA rn rc rB rm re rq ri) (wl sA sn sc sB sm se sq si) (wl pA pn pc pB pm pe pq pi) za zb zc zs w' → K _ w') := Lib.hid (fun val w' h1 h2 h3 => hK val w' h1 h2 h3 (fun h => by cases h))
              have e56 := hdep ⟨19, .guard⟩ (by simp) (by rfl)
              simp only [Act.put, List.setIfInBounds_toArray, List.set_cons_succ, List.set_cons_zero] at HQ
              clear hK hdep
              replace e56 : f 56 = .bool true := e56
              generalize f 56 = f56 at *
              subst e56
              have k0 := hB.b.1.cell (k := 0) rfl
              have k1 := hB.b.1.cell (k := 1) rfl
              go_simp
              exact HQ.out (rk k) wx rfl (Below.refl _ _) hB
            · obtain rfl := Option.some.inj ho
              have HQ : Hid (∀ (val : Value) w', val = Value.agg #[.bool false, .slice xA xn xc, .slice xB xm xe, .int .i64 xq, .bool xi, .int .u64 0, .slice none 0 0, .slice none 0 0] → Below wx.heap.size wx w' → B9 w k ga gb gc gs gq (wl xA xn xc xB xm xe xq xi) (wl yA yn yc yB ym ye yq yi) (wl rA rn rc rB rm re rq ri) (wl sA sn sc sB sm se sq si) (wl pA pn pc pB pm pe pq pi) za zb zc zs w' → K _ w') := Lib.hid (fun val w' h1 h2 h3 => hK val w' h1 h2 h3 (fun h => by cases h))
              have e56 := hdep ⟨19, .guard⟩ (by simp) (by rfl)
              simp only [Act.put, List.setIfInBounds_toArray, List.set_cons_succ, List.set_cons_zero] at HQ
              clear hK hdep
              replace e56 : f 56 = .bool true := e56
              generalize f 56 = f56 at *
              subst e56
              obtain ⟨a0, a1, a2, a3, a4, a5, a6, a7⟩ := hB.a.c8
              go_simp
              exact HQ.out (.agg #[.bool false, .slice xA xn xc, .slice xB xm xe, .int .i64 xq, .bool xi, .int .u64 0, .slice none 0 0, .slice none 0 0]) wx rfl (Below.refl _ _) hB
            · obtain rfl := Option.some.inj ho
              have HQ : Hid (∀ (val : Value) w', val = Value.agg #[.bool false, .slice yA yn yc, .slice yB ym ye, .int .i64 yq, .bool yi, .int .u64 0, .slice none 0 0, .slice none 0 0] → Below wx.heap.size wx w' → B9 w k ga gb gc gs gq (wl xA xn xc xB xm xe xq xi) (wl yA yn yc yB ym ye yq yi) (wl rA rn rc rB rm re rq ri) (wl sA sn sc sB sm se sq si) (wl pA pn pc pB pm pe pq pi) za zb zc zs w' → K _ w') := Lib.hid (fun val w' h1 h2 h3 => hK val w' h1 h2 h3 (fun h => by cases h))
              have e56 := hdep ⟨19, .guard⟩ (by simp) (by rfl)
              simp only [Act.put, List.setIfInBounds_toArray, List.set_cons_succ, List.set_cons_zero] at HQ
              clear hK hdep
              replace e56 : f 56 = .bool true := e56
              generalize f 56 = f56 at *
              subst e56
              obtain ⟨a0, a1, a2, a3, a4, a5, a6, a7⟩ := hB.b'.c8
              go_simp
              exact HQ.out (.agg #[.bool false, .slice yA yn yc, .slice yB ym ye, .int .i64 yq, .bool yi, .int .u64 0, .slice none 0 0, .slice none 0 0]) wx rfl (Below.refl _ _) hB
            · obtain rfl := Option.some.inj ho
              have HQ : Hid (∀ (val : Value) w', val = .bool true → Below wx.heap.size wx w' → B9 w k ga gb gc gs gq (wl xA xn xc xB xm xe xq xi) (wl yA yn yc yB ym ye yq yi) (wl rA rn rc rB rm re rq ri) (wl sA sn sc sB sm se sq si) (wl pA pn pc pB pm pe pq pi) za zb zc zs w' → K _ w') := Lib.hid (fun val w' h1 h2 h3 => hK val w' h1 h2 h3 (fun h => by cases h))
              have e56 := hdep ⟨19, .guard⟩ (by simp) (by rfl)
              have e57 := hdep ⟨20, .data⟩ (by simp) (by rfl)
              have e58 := hdep ⟨21, .data⟩ (by simp) (by rfl)
              have e59 := hdep ⟨22, .data⟩ (by simp) (by rfl)
              simp only [Act.put, List.setIfInBounds_toArray, List.set_cons_succ, List.set_cons_zero] at HQ
              clear hK hdep
              replace e56 : f 56 = .bool true := e56
              generalize f 56 = f56 at *
              subst e56
              replace e57 : f 57 = rk k := e57
              generalize f 57 = f57 at *
              subst e57
              replace e58 : f 58 = .agg #[.bool false, .slice xA xn xc, .slice xB xm xe, .int .i64 xq, .bool xi, .int .u64 0, .slice none 0 0, .slice none 0 0] := e58
              generalize f 58 = f58 at *
              subst e58
              replace e59 : f 59 = .agg #[.bool false, .slice yA yn yc, .slice yB ym ye, .int .i64 yq, .bool yi, .int .u64 0, .slice none 0 0, .slice none 0 0] := e59
              generalize f 59 = f59 at *
              subst e59
              go_simp
              refine (Better_w _ (HT.out.tab.below hB.b.2) hB.wa hB.wb (by decide) (by decide) true HV1).mono ?_
              rintro e w' ⟨rfl, hb⟩
              exact HQ.out (.bool true) w' rfl hb (hB.below hb)
            · obtain rfl := Option.some.inj ho
              have HQ : Hid (∀ (val : Value) w', val = .bool true → Below wx.heap.size wx w' → B9 w k ga gb gc gs gq (wl xA xn xc xB xm xe xq xi) (wl yA yn yc yB ym ye yq yi) (wl rA rn rc rB rm re rq ri) (wl sA sn sc sB sm se sq si) (wl pA pn pc pB pm pe pq pi) za zb zc zs w' → K _ w') := Lib.hid (fun val w' h1 h2 h3 => hK val w' h1 h2 h3 (fun h => by cases h))
              have e56 := hdep ⟨19, .guard⟩ (by simp) (by rfl)
              have e60 := hdep ⟨23, .data⟩ (by simp) (by rfl)
              simp only [Act.put, List.setIfInBounds_toArray, List.set_cons_succ, List.set_cons_zero] at HQ
              clear hK hdep
              replace e56 : f 56 = .bool true := e56
              generalize f 56 = f56 at *
              subst e56
              replace e60 : f 60 = .bool true := e60
              generalize f 60 = f60 at *
              subst e60
              go_simp
              exact HQ.out (.bool true) wx rfl (Below.refl _ _) hB
            · obtain rfl := Option.some.inj ho
              have HQ : Hid (∀ (val : Value) w', val = rk k → Below wx.heap.size wx w' → B9 w k ga gb gc gs gq (wl xA xn xc xB xm xe xq xi) (wl yA yn yc yB ym ye yq yi) (wl rA rn rc rB rm re rq ri) (wl sA sn sc sB sm se sq si) (wl pA pn pc pB pm pe pq pi) za zb zc zs w' → K _ w') := Lib.hid (fun val w' h1 h2 h3 => hK val w' h1 h2 h3 (fun h => by cases h))
              have e61 := hdep ⟨24, .guard⟩ (by simp) (by rfl)
              simp only [Act.put, List.setIfInBounds_toArray, List.set_cons_succ, List.set_cons_zero] at HQ
              clear hK hdep
              replace e61 : f 61 = .bool true := e61
              generalize f 61 = f61 at *
              subst e61
              have k0 := hB.b.1.cell (k := 0) rfl
              have k1 := hB.b.1.cell (k := 1) rfl
              go_simp
              exact HQ.out (rk k) wx rfl (Below.refl _ _) hB
            · obtain rfl := Option.some.inj ho
              have HQ : Hid (∀ (val : Value) w', val = rk k → Below wx.heap.size wx w' → B9 w k ga gb gc gs gq (wl xA xn xc xB xm xe xq xi) (wl yA yn yc yB ym ye yq yi) (wl rA rn rc rB rm re rq ri) (wl sA sn sc sB sm se sq si) (wl pA pn pc pB pm pe pq pi) za zb zc zs w' → K _ w') := Lib.hid (fun val w' h1 h2 h3 => hK val w' h1 h2 h3 (fun h => by cases h))
              have e61 := hdep ⟨24, .guard⟩ (by simp) (by rfl)
              simp only [Act.put, List.setIfInBounds_toArray, List.set_cons_succ, List.set_cons_zero] at HQ
              clear hK hdep
              replace e61 : f 61 = .bool true := e61
              generalize f 61 = f61 at *
              subst e61
              have k0 := hB.b.1.cell (k := 0) rfl
              have k1 := hB.b.1.cell (k := 1) rfl
              go_simp
              exact HQ.out (rk k) wx rfl (Below.refl _ _) hB
            · obtain rfl := Option.some.inj ho
              have HQ : Hid (∀ (val : Value) w', val = Value.agg #[.bool false, .slice yA yn yc, .slice yB ym ye, .int .i64 yq, .bool yi, .int .u64 0, .slice none 0 0, .slice none 0 0] → Below wx.heap.size wx w' → B9 w k ga gb gc gs gq (wl xA xn xc xB xm xe xq xi) (wl yA yn yc yB ym ye yq yi) (wl rA rn rc rB rm re rq ri) (wl sA sn sc sB sm se sq si) (wl pA pn pc pB pm pe pq pi) za zb zc zs w' → K _ w') := Lib.hid (fun val w' h1 h2 h3 => hK val w' h1 h2 h3 (fun h => by cases h))
              have e61 := hdep ⟨24, .guard⟩ (by simp) (by rfl)
              simp only [Act.put, List.setIfInBounds_toArray, List.set_cons_succ, List.set_cons_zero] at HQ
              clear hK hdep
              replace e61 : f 61 = .bool true := e61
              generalize f 61 = f61 at *
              subst e61
              obtain ⟨a0, a1, a2, a3, a4, a5, a6, a7⟩ := hB.b'.c8
              go_simp
              exact HQ.out (.agg #[.bool false, .slice yA yn yc, .slice yB ym ye, .int .i64 yq, .bool yi, .int .u64 0, .slice none 0 0, .slice none 0 0]) wx rfl (Below.refl _ _) hB
            · obtain rfl := Option.some.inj ho
              have HQ : Hid (∀ (val : Value) w', val = Value.agg #[.bool false, .slice rA rn rc, .slice rB rm re, .int .i64 rq, .bool ri, .int .u64 0, .slice none 0 0, .slice none 0 0] → Below wx.heap.size wx w' → B9 w k ga gb gc gs gq (wl xA xn xc xB xm xe xq xi) (wl yA yn yc yB ym ye yq yi) (wl rA rn rc rB rm re rq ri) (wl sA sn sc sB sm se sq si) (wl pA pn pc pB pm pe pq pi) za zb zc zs w' → K _ w') := Lib.hid (fun val w' h1 h2 h3 => hK val w' h1 h2 h3 (fun h => by cases h))
              have e61 := hdep ⟨24, .guard⟩ (by simp) (by rfl)
              simp only [Act.put, List.setIfInBounds_toArray, List.set_cons_succ, List.set_cons_zero] at HQ
              clear hK hdep
              replace e61 : f 61 = .bool true := e61
              generalize f 61 = f61 at *
              subst e61
              obtain ⟨a0, a1, a2, a3, a4, a5, a6, a7⟩ := hB.c.c8
              go_simp
              exact HQ.out (.agg #[.bool false, .slice rA rn rc, .slice rB rm re, .int .i64 rq, .bool ri, .int .u64 0, .slice none 0 0, .slice none 0 0]) wx rfl (Below.refl _ _) hB
            · obtain rfl := Option.some.inj ho
              have HQ : Hid (∀ (val : Value) w', WV k 2 w' val (tm k zb zc) → Below wx.heap.size wx w' → B9 w k ga gb gc gs gq (wl xA xn xc xB xm xe xq xi) (wl yA yn yc yB ym ye yq yi) (wl rA rn rc rB rm re rq ri) (wl sA sn sc sB sm se sq si) (wl pA pn pc pB pm pe pq pi) za zb zc zs w' → K _ w') := Lib.hid (fun val w' h1 h2 h3 => hK val w' h1 h2 h3 (fun h => by cases h))
              have e61 := hdep ⟨24, .guard⟩ (by simp) (by rfl)
              have e63 := hdep ⟨26, .data⟩ (by simp) (by rfl)
              have e64 := hdep ⟨27, .data⟩ (by simp) (by rfl)
              have e65 := hdep ⟨28, .data⟩ (by simp) (by rfl)
              simp only [Act.put, List.setIfInBounds_toArray, List.set_cons_succ, List.set_cons_zero] at HQ
              clear hK hdep
              replace e61 : f 61 = .bool true := e61
              generalize f 61 = f61 at *
              subst e61
              replace e63 : f 63 = rk k := e63
              generalize f 63 = f63 at *
              subst e63
              replace e64 : f 64 = .agg #[.bool false, .slice yA yn yc, .slice yB ym ye, .int .i64 yq, .bool yi, .int .u64 0, .slice none 0 0, .slice none 0 0] := e64
              generalize f 64 = f64 at *
              subst e64
              replace e65 : f 65 = .agg #[.bool false, .slice rA rn rc, .slice rB rm re, .int .i64 rq, .bool ri, .int .u64 0, .slice none 0 0, .slice none 0 0] := e65
              generalize f 65 = f65 at *
              subst e65
              go_simp
              refine (Times_w _ (HT.out.tab.below hB.b.2) hB.wb hB.wz (by decide) (by decide) _ (Lib.hid rfl)).mono ?_
              rintro e w' ⟨val, rfl, hz, hb⟩
              exact HQ.out val w' hz hb (hB.below hb)
            · obtain rfl := Option.some.inj ho
              have HQ : Hid (∀ (val : Value) w', val = rk k → Below wx.heap.size wx w' → B9 w k ga gb gc gs gq (wl xA xn xc xB xm xe xq xi) (wl yA yn yc yB ym ye yq yi) (wl rA rn rc rB rm re rq ri) (wl sA sn sc sB sm se sq si) (wl pA pn pc pB pm pe pq pi) za zb zc zs w' → K _ w') := Lib.hid (fun val w' h1 h2 h3 => hK val w' h1 h2 h3 (fun h => by cases h))
              have e61 := hdep ⟨24, .guard⟩ (by simp) (by rfl)
              simp only [Act.put, List.setIfInBounds_toArray, List.set_cons_succ, List.set_cons_zero] at HQ
              clear hK hdep
              replace e61 : f 61 = .bool true := e61
              generalize f 61 = f61 at *
              subst e61
              have k0 := hB.b.1.cell (k := 0) rfl
              have k1 := hB.b.1.cell (k := 1) rfl
              go_simp
              exact HQ.out (rk k) wx rfl (Below.refl _ _) hB
            · obtain rfl := Option.some.inj ho
              have HQ : Hid (∀ (val : Value) w', val = Value.agg #[.bool false, .slice xA xn xc, .slice xB xm xe, .int .i64 xq, .bool xi, .int .u64 0, .slice none 0 0, .slice none 0 0] → Below wx.heap.size wx w' → B9 w k ga gb gc gs gq (wl xA xn xc xB xm xe xq xi) (wl yA yn yc yB ym ye yq yi) (wl rA rn rc rB rm re rq ri) (wl sA sn sc sB sm se sq si) (wl pA pn pc pB pm pe pq pi) za zb zc zs w' → K _ w') := Lib.hid (fun val w' h1 h2 h3 => hK val w' h1 h2 h3 (fun h => by cases h))
              have e61 := hdep ⟨24, .guard⟩ (by simp) (by rfl)
              simp only [Act.put, List.setIfInBounds_toArray, List.set_cons_succ, List.set_cons_zero] at HQ
              clear hK hdep
              replace e61 : f 61 = .bool true := e61
              generalize f 61 = f61 at *
              subst e61
              obtain ⟨a0, a1, a2, a3, a4, a5, a6, a7⟩ := hB.a.c8
              go_simp
              exact HQ.out (.agg #[.bool false, .slice xA xn xc, .slice xB xm xe, .int .i64 xq, .bool xi, .int .u64 0, .slice none 0 0, .slice none 0 0]) wx rfl (Below.refl _ _) hB
            · obtain rfl := Option.some.inj ho
              have HQ : Hid (∀ (val : Value) w', val = Value.agg #[.bool false, .slice rA rn rc, .slice rB rm re, .int .i64 rq, .bool ri, .int .u64 0, .slice none 0 0, .slice none 0 0] → Below wx.heap.size wx w' → B9 w k ga gb gc gs gq (wl xA xn xc xB xm xe xq xi) (wl yA yn yc yB ym ye yq yi) (wl rA rn rc rB rm re rq ri) (wl sA sn sc sB sm se sq si) (wl pA pn pc pB pm pe pq pi) za zb zc zs w' → K _ w') := Lib.hid (fun val w' h1 h2 h3 => hK val w' h1 h2 h3 (fun h => by cases h))
              have e61 := hdep ⟨24, .guard⟩ (by simp) (by rfl)
              simp only [Act.put, List.setIfInBounds_toArray, List.set_cons_succ, List.set_cons_zero] at HQ
              clear hK hdep
              replace e61 : f 61 = .bool true := e61
              generalize f 61 = f61 at *
              subst e61
              obtain ⟨a0, a1, a2, a3, a4, a5, a6, a7⟩ := hB.c.c8
              go_simp
              exact HQ.out (.agg #[.bool false, .slice rA rn rc, .slice rB rm re, .int .i64 rq, .bool ri, .int .u64 0, .slice none 0 0, .slice none 0 0]) wx rfl (Below.refl _ _) hB
            · obtain rfl := Option.some.inj ho
              have HQ : Hid (∀ (val : Value) w', WV k 2 w' val (tm k za zc) → Below wx.heap.size wx w' → B9 w k ga gb gc gs gq (wl xA xn xc xB xm xe xq xi) (wl yA yn yc yB ym ye yq yi) (wl rA rn rc rB rm re rq ri) (wl sA sn sc sB sm se sq si) (wl pA pn pc pB pm pe pq pi) za zb zc zs w' → K _ w') := Lib.hid (fun val w' h1 h2 h3 => hK val w' h1 h2 h3 (fun h => by cases h))
              have e61 := hdep ⟨24, .guard⟩ (by simp) (by rfl)
              have e67 := hdep ⟨30, .data⟩ (by simp) (by rfl)
              have e68 := hdep ⟨31, .data⟩ (by simp) (by rfl)
              have e69 := hdep ⟨32, .data⟩ (by simp) (by rfl)
              simp only [Act.put, List.setIfInBounds_toArray, List.set_cons_succ, List.set_cons_zero] at HQ
              clear hK hdep
              replace e61 : f 61 = .bool true := e61
              generalize f 61 = f61 at *
              subst e61
              replace e67 : f 67 = rk k := e67
              generalize f 67 = f67 at *
              subst e67
              replace e68 : f 68 = .agg #[.bool false, .slice xA xn xc, .slice xB xm xe, .int .i64 xq, .bool xi, .int .u64 0, .slice none 0 0, .slice none 0 0] := e68
              generalize f 68 = f68 at *
              subst e68
              replace e69 : f 69 = .agg #[.bool false, .slice rA rn rc, .slice rB rm re, .int .i64 rq, .bool ri, .int .u64 0, .slice none 0 0, .slice none 0 0] := e69
              generalize f 69 = f69 at *
              subst e69
              go_simp
              refine (Times_w _ (HT.out.tab.below hB.b.2) hB.wa hB.wz (by decide) (by decide) _ (Lib.hid rfl)).mono ?_
              rintro e w' ⟨val, rfl, hz, hb⟩
              exact HQ.out val w' hz hb (hB.below hb)
            · obtain rfl := Option.some.inj ho
              have HQ : Hid (∀ (val : Value) w', val = .bool false → Below wx.heap.size wx w' → B9 w k ga gb gc gs gq (wl xA xn xc xB xm xe xq xi) (wl yA yn yc yB ym ye yq yi) (wl rA rn rc rB rm re rq ri) (wl sA sn sc sB sm se sq si) (wl pA pn pc pB pm pe pq pi) za zb zc zs w' → K _ w') := Lib.hid (fun val w' h1 h2 h3 => hK val w' h1 h2 h3 (fun h => by cases h))
              have e61 := hdep ⟨24, .guard⟩ (by simp) (by rfl)
              have e62 := hdep ⟨25, .data⟩ (by simp) (by rfl)
              have e66 := hdep ⟨29, .data⟩ (by simp) (by rfl)
              have e70 := hdep ⟨33, .data⟩ (by simp) (by rfl)
              simp only [Act.put, List.setIfInBounds_toArray, List.set_cons_succ, List.set_cons_zero] at HQ
              clear hK hdep
              replace e61 : f 61 = .bool true := e61
              generalize f 61 = f61 at *
              subst e61
              replace e62 : f 62 = rk k := e62
              generalize f 62 = f62 at *
              subst e62
              replace e66 : WV k 2 wx (f 66) (tm k zb zc) := e66
              generalize f 66 = f66 at *
              replace e70 : WV k 2 wx (f 70) (tm k za zc) := e70
              generalize f 70 = f70 at *
              go_simp
              refine (Better_w _ (HT.out.tab.below hB.b.2) e66 e70 (by decide) (by decide) false HV3).mono ?_
              rintro e w' ⟨rfl, hb⟩
              exact HQ.out (.bool false) w' rfl hb (hB.below hb)
            · obtain rfl := Option.some.inj ho
              have HQ : Hid (∀ (val : Value) w', val = .bool false → Below wx.heap.size wx w' → B9 w k ga gb gc gs gq (wl xA xn xc xB xm xe xq xi) (wl yA yn yc yB ym ye yq yi) (wl rA rn rc rB rm re rq ri) (wl sA sn sc sB sm se sq si) (wl pA pn pc pB pm pe pq pi) za zb zc zs w' → K _ w') := Lib.hid (fun val w' h1 h2 h3 => hK val w' h1 h2 h3 (fun h => by cases h))
              have e56 := hdep ⟨19, .guard⟩ (by simp) (by rfl)
              have e61 := hdep ⟨24, .data⟩ (by simp) (by rfl)
              have e71 := hdep ⟨34, .data⟩ (by simp) (by rfl)
              simp only [Act.put, List.setIfInBounds_toArray, List.set_cons_succ, List.set_cons_zero] at HQ
              clear hK hdep
              replace e56 : f 56 = .bool true := e56
              generalize f 56 = f56 at *
              subst e56
              replace e61 : f 61 = .bool true := e61
              generalize f 61 = f61 at *
              subst e61
              replace e71 : f 71 = .bool false := e71
              generalize f 71 = f71 at *
              subst e71
              go_simp
              exact HQ.out (.bool false) wx rfl (Below.refl _ _) hB
            · obtain rfl := Option.some.inj ho
              have HQ : Hid (∀ (val : Value) w', val = .bool true → Below wx.heap.size wx w' → B9 w k ga gb gc gs gq (wl xA xn xc xB xm xe xq xi) (wl yA yn yc yB ym ye yq yi) (wl rA rn rc rB rm re rq ri) (wl sA sn sc sB sm se sq si) (wl pA pn pc pB pm pe pq pi) za zb zc zs w' → K _ w') := Lib.hid (fun val w' h1 h2 h3 => hK val w' h1 h2 h3 (fun h => by cases h))
              have e56 := hdep ⟨19, .guard⟩ (by simp) (by rfl)
              have e72 := hdep ⟨35, .data⟩ (by simp) (by rfl)
              simp only [Act.put, List.setIfInBounds_toArray, List.set_cons_succ, List.set_cons_zero] at HQ
              clear hK hdep
              replace e56 : f 56 = .bool true := e56
              generalize f 56 = f56 at *
              subst e56
              replace e72 : f 72 = .bool false := e72
              generalize f 72 = f72 at *
              subst e72
              go_simp
              exact HQ.out (.bool true) wx rfl (Below.refl _ _) hB
            · obtain rfl := Option.some.inj ho
              have HQ : Hid (∀ (val : Value) w', val = .bool true → Below wx.heap.size wx w' → B9 w k ga gb gc gs gq (wl xA xn xc xB xm xe xq xi) (wl yA yn yc yB ym ye yq yi) (wl rA rn rc rB rm re rq ri) (wl sA sn sc sB sm se sq si) (wl pA pn pc pB pm pe pq pi) za zb zc zs w' → K _ w') := Lib.hid (fun val w' h1 h2 h3 => hK val w' h1 h2 h3 (fun h => by cases h))
              have e56 := hdep ⟨19, .data⟩ (by simp) (by rfl)
              have e73 := hdep ⟨36, .data⟩ (by simp) (by rfl)
              simp only [Act.put, List.setIfInBounds_toArray, List.set_cons_succ, List.set_cons_zero] at HQ
              clear hK hdep
              replace e56 : f 56 = .bool true := e56
              generalize f 56 = f56 at *
              subst e56
              replace e73 : f 73 = .bool true := e73
              generalize f 73 = f73 at *
              subst e73
              go_simp
              exact HQ.out (.bool true) wx rfl (Below.refl _ _) hB
          case fint =>
            intro f wx hB hG _
            have e74 : f 74 = .bool true := hG 37 (by decide) (by rfl)
            clear hG
            simp only [frontAct, List.foldl_cons, List.foldl_nil, List.setIfInBounds_toArray, List.set_cons_succ, List.set_cons_zero]
            generalize f 74 = f74 at *
            subst e74
            refine wpAny_ready (rs := [38]) (by kernel_rfl) (by simp) ?_
            refine AllReady.cons rfl (fun K hK => ?_) AllReady.nil
            have HQ := Lib.hid hK
            clear hK
            go_simp
            refine HQ.out _ _ ?_
            clear HQ K
            refine wpAny_done (by kernel_rfl) ?_ _
            go_wp2_with fail
            go_ret
            exact ⟨rfl, hB.b.2⟩
end Go.Proofs.YtafoplnpnoedfaaGreatDoor
