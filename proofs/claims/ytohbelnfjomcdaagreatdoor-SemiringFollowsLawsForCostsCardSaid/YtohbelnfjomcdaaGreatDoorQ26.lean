/- Weights all of whose fields are zero: Equal, blank, onlyNumber. -/
import Derived.Test.YtohbelnfjomcdaaGreatDoorQ24
import Derived.Test.YtohbelnfjomcdaaGreatDoorQ25
set_option linter.unusedVariables false
set_option linter.unusedSimpArgs false
namespace Go.Proofs.YtohbelnfjomcdaaGreatDoor
open Go.RowKit

abbrev W8 (z0 z1 z2 z3 z4 z5 z6 z7 : Value) : Obj := .cells #[z0, z1, z2, z3, z4, z5, z6, z7] 32
/-- A weight of nothing but numbers: Q q, Cost c, Inf i. -/
abbrev aw (q0 q1 q2 : Value) (c : Int) (i : Bool) : Value := .agg #[q0, q1, q2, .int .i64 c, .bool i, .int .u64 0, .slice none 0 0, .slice none 0 0]
abbrev W8q (q0 q1 q2 : Value) (c : Int) (i : Bool) : Obj := W8 q0 q1 q2 (.int .i64 c) (.bool i) (.int .u64 0) (.slice none 0 0) (.slice none 0 0)
abbrev tw (c : Int) (i : Bool) : Value := aw (.bool false) (.slice none 0 0) (.slice none 0 0) c i
abbrev W8t (c : Int) (i : Bool) : Obj := W8q (.bool false) (.slice none 0 0) (.slice none 0 0) c i

theorem equal0 (A B : Option Addr) (c d : Nat) (w : World) : Calls Tryz.prog 73 #[.slice A 0 c, .slice B 0 d] w (RetQ w (.bool true)) :=
  equal_any A B 0 c 0 d [] [] w true (Num.nil _ _ _) (Num.nil _ _ _) (by omega) (by omega) (show decide _ = _ by decide)

set_option maxHeartbeats 1000000 in
theorem equalFuncM0 (A B : Option Addr) (c d : Nat) (f : Value) (w : World) : Calls Tryz.prog 45 #[.slice A 0 c, .slice B 0 d, f] w (RetV w (.bool true)) := by
  go_enter Tryz.func45, Tryz.ntmps45
  go_wp2_with fail
  go_loopw [17] (fun i wr => i = .int .i64 0 ∧ wr = w) (fun _ _ => 0)
  case atStart => exact ⟨rfl, rfl⟩
  case round =>
    obtain ⟨rfl, rfl⟩ := hrel
    go_wp2_with fail
    go_ret
    exact ⟨rfl, Below.refl _ _⟩

set_option maxHeartbeats 1000000 in
theorem equalFuncW0 (A B : Option Addr) (c d : Nat) (f : Value) (w : World) : Calls Tryz.prog 47 #[.slice A 0 c, .slice B 0 d, f] w (RetV w (.bool true)) := by
  go_enter Tryz.func47, Tryz.ntmps47
  go_wp2_with fail
  go_loopw [17] (fun i wr => i = .int .i64 0 ∧ wr = w) (fun _ _ => 0)
  case atStart => exact ⟨rfl, rfl⟩
  case round =>
    obtain ⟨rfl, rfl⟩ := hrel
    go_wp2_with fail
    go_ret
    exact ⟨rfl, Below.refl _ _⟩

abbrev zq : List Value := [.bool false, .slice none 0 0, .slice none 0 0]
abbrev zw : List Value := [.bool false, .slice none 0 0, .slice none 0 0, .int .i64 0, .bool false, .int .u64 0, .slice none 0 0, .slice none 0 0]
set_option maxRecDepth 20000 in
set_option maxHeartbeats 1000000 in
theorem equalNumbers_zero (w : World) : Calls Tryz.prog 44 #[.agg #[.bool false, .slice none 0 0, .slice none 0 0], .agg #[.bool false, .slice none 0 0, .slice none 0 0]] w (RetV w (.bool true)) := by
  obtain ⟨hb0, c1, c2⟩ := blk2 w [.bool false, .slice none 0 0, .slice none 0 0] [.bool false, .slice none 0 0, .slice none 0 0] 27 27
  go_enter Tryz.func44, Tryz.ntmps44
  go_wp2_with fail
  refine (equal0 _ _ _ _ _).mono ?_
  rintro e w1 ⟨rfl, q, rfl⟩
  go_wp2_with fail
  refine (equal0 _ _ _ _ _).mono ?_
  rintro e w1 ⟨rfl, q', rfl⟩
  go_wp2_with fail
  go_ret
  exact ⟨rfl, below_drewN hb0 _⟩

set_option maxRecDepth 20000 in
set_option maxHeartbeats 2000000 in
theorem Equal_zero (w : World) : Calls Tryz.prog 20 #[tw 0 false, tw 0 false] w (RetV w (.bool true)) := by
  obtain ⟨hb0, c1, c2⟩ := blk2 w [.bool false, .slice none 0 0, .slice none 0 0, .int .i64 0, .bool false, .int .u64 0, .slice none 0 0, .slice none 0 0] [.bool false, .slice none 0 0, .slice none 0 0, .int .i64 0, .bool false, .int .u64 0, .slice none 0 0, .slice none 0 0] 32 32
  go_enter Tryz.func20, Tryz.ntmps20
  go_wp2_with fail
  generalize ((w.alloc (W8t 0 false)).alloc (W8t 0 false)) = W0 at *
  refine (equalNumbers_zero _).mono ?_
  rintro e w1 ⟨rfl, hb1⟩
  replace hb0 := hb0.trans (hb1.mono hb0.size)
  replace c1 := c1.below hb1 c1.lt
  replace c2 := c2.below hb1 c2.lt
  clear hb1
  obtain ⟨a0, a1, a2, a3, a4, a5, a6, a7⟩ := c1.c8
  obtain ⟨b0, b1, b2, b3, b4, b5, b6, b7⟩ := c2.c8
  go_wp2_with fail
  refine (equalFuncM0 _ _ _ _ _ _).mono ?_
  rintro e w2 ⟨rfl, hb1⟩
  replace hb0 := hb0.trans (hb1.mono hb0.size)
  replace c1 := c1.below hb1 c1.lt
  replace c2 := c2.below hb1 c2.lt
  clear hb1 a0 a1 a2 a3 a4 a5 a6 a7 b0 b1 b2 b3 b4 b5 b6 b7
  obtain ⟨a0, a1, a2, a3, a4, a5, a6, a7⟩ := c1.c8
  obtain ⟨b0, b1, b2, b3, b4, b5, b6, b7⟩ := c2.c8
  go_wp2_with fail
  refine (equalFuncW0 _ _ _ _ _ _).mono ?_
  rintro e w3 ⟨rfl, hb1⟩
  replace hb0 := hb0.trans (hb1.mono hb0.size)
  go_wp2_with fail
  go_ret
  exact ⟨rfl, hb0⟩

set_option maxRecDepth 20000 in
set_option maxHeartbeats 1000000 in
theorem blank_zero (w : World) : Calls Tryz.prog 170 #[tw 0 false] w (RetV w (.bool true)) := by
  obtain ⟨hb0, c1⟩ := blk1 w [.bool false, .slice none 0 0, .slice none 0 0, .int .i64 0, .bool false, .int .u64 0, .slice none 0 0, .slice none 0 0] 32
  go_enter Tryz.func170, Tryz.ntmps170
  go_wp2_with fail
  refine (Equal_zero _).mono ?_
  rintro e w1 ⟨rfl, hb1⟩
  go_wp2_with fail
  go_ret
  exact ⟨rfl, hb0.trans (hb1.mono hb0.size)⟩
end Go.Proofs.YtohbelnfjomcdaaGreatDoor

namespace Go.Proofs.YtohbelnfjomcdaaGreatDoor
open Go.RowKit

set_option maxRecDepth 20000 in
set_option maxHeartbeats 2000000 in
theorem cheaper_any (c d : Int) (i j V : Bool) (w : World) (H : Hid ((!i && (j || decide (c < d))) = V)) : Calls Tryz.prog 127 #[tw c i, tw d j] w (RetV w (.bool V)) := by
  obtain ⟨hb0, c1, c2⟩ := blk2 w [.bool false, .slice none 0 0, .slice none 0 0, .int .i64 c, .bool i, .int .u64 0, .slice none 0 0, .slice none 0 0] [.bool false, .slice none 0 0, .slice none 0 0, .int .i64 d, .bool j, .int .u64 0, .slice none 0 0, .slice none 0 0] 32 32
  have HV := H.out
  clear H
  go_enter Tryz.func127, Tryz.ntmps127
  cases i
  · cases j
    · by_cases hcd : c < d
      · have hV := Lib.hid (show true = V by rw [← HV]; simp [hcd])
        clear HV
        go_wp2_with fail
        go_ret
        cases hV.out; exact ⟨rfl, hb0⟩
      · have hV := Lib.hid (show false = V by rw [← HV]; simp [hcd])
        clear HV
        go_wp2_with fail
        go_ret
        cases hV.out; exact ⟨rfl, hb0⟩
    · have hV := Lib.hid (show true = V by rw [← HV]; rfl)
      clear HV
      go_wp2_with fail
      go_ret
      cases hV.out; exact ⟨rfl, hb0⟩
  · have hV := Lib.hid (show false = V by rw [← HV]; rfl)
    clear HV
    go_wp2_with fail
    go_ret
    cases hV.out; exact ⟨rfl, hb0⟩

set_option maxRecDepth 20000 in
set_option maxHeartbeats 2000000 in
theorem leastCost_any (c d : Int) (i j V : Bool) (w : World) (H : Hid ((!j && (i || decide (d < c))) = V)) : Calls Tryz.prog 124 #[tw c i, tw d j] w (RetV w (cond V (tw d j) (tw c i))) := by
  obtain ⟨hb0, c1, c2, c3⟩ := blk3 w [.bool false, .slice none 0 0, .slice none 0 0, .int .i64 c, .bool i, .int .u64 0, .slice none 0 0, .slice none 0 0] [.bool false, .slice none 0 0, .slice none 0 0, .int .i64 d, .bool j, .int .u64 0, .slice none 0 0, .slice none 0 0] [.bool false, .slice none 0 0, .slice none 0 0, .int .i64 0, .bool false, .int .u64 0, .slice none 0 0, .slice none 0 0] 32 32 32
  go_enter Tryz.func124, Tryz.ntmps124
  go_wp2_with fail
  generalize (((w.alloc (W8t c i)).alloc (W8t d j)).alloc (W8t 0 false)) = W0 at *
  refine (cheaper_any d c j i V _ H).mono ?_
  rintro e w1 ⟨rfl, hb1⟩
  replace hb0 := hb0.trans (hb1.mono hb0.size)
  replace c1 := c1.below hb1 c1.lt
  replace c2 := c2.below hb1 c2.lt
  replace c3 := c3.below hb1 c3.lt
  clear hb1
  clear H
  obtain ⟨a0, a1, a2, a3, a4, a5, a6, a7⟩ := c1.c8
  obtain ⟨b0, b1, b2, b3, b4, b5, b6, b7⟩ := c2.c8
  obtain ⟨f0, f1, f2, f3, f4, f5, f6, f7⟩ := c1.f8
  obtain ⟨g0, g1, g2, g3, g4, g5, g6, g7⟩ := c3.f8
  obtain ⟨e0, e1, e2, e3, e4, e5, e6, e7⟩ := c3.c8
  cases V
  · go_wp2_with fail
    refine ret_cs (l := [.bool false, .slice none 0 0, .slice none 0 0, .int .i64 c, .bool i, .int .u64 0, .slice none 0 0, .slice none 0 0]) Tryz.results124 Tryz.underlying32 (by kernel_rfl) rfl (cs_own8 c3 rfl _ _ _ _ _ _ _ _) rfl ?_
    exact ⟨rfl, below_s8 hb0 (by omega) _ _ _ _ _ _ _ _⟩
  · go_wp2_with fail
    refine ret_cs (l := [.bool false, .slice none 0 0, .slice none 0 0, .int .i64 d, .bool j, .int .u64 0, .slice none 0 0, .slice none 0 0]) Tryz.results124 Tryz.underlying32 (by kernel_rfl) rfl (cs_own8 (cs_far8 c3 (by omega) _ _ _ _ _ _ _ _) rfl _ _ _ _ _ _ _ _) rfl ?_
    exact ⟨rfl, below_s8 (below_s8 hb0 (by omega) _ _ _ _ _ _ _ _) (by omega) _ _ _ _ _ _ _ _⟩

set_option maxRecDepth 20000 in
set_option maxHeartbeats 2000000 in
theorem addCosts_any (c d : Int) (i j V : Bool) (w : World) (hc : 0 ≤ c ∧ c ≤ 1099511627776) (hd : 0 ≤ d ∧ d ≤ 1099511627776) (H : Hid ((i || (j || decide (1099511627776 < c + d))) = V)) : Calls Tryz.prog 125 #[tw c i, tw d j] w (RetV w (cond V (tw 0 true) (tw (c + d) false))) := by
  obtain ⟨hb0, c1, c2, c3⟩ := blk3 w [.bool false, .slice none 0 0, .slice none 0 0, .int .i64 c, .bool i, .int .u64 0, .slice none 0 0, .slice none 0 0] [.bool false, .slice none 0 0, .slice none 0 0, .int .i64 d, .bool j, .int .u64 0, .slice none 0 0, .slice none 0 0] [.bool false, .slice none 0 0, .slice none 0 0, .int .i64 0, .bool false, .int .u64 0, .slice none 0 0, .slice none 0 0] 32 32 32
  have HV := H.out
  clear H
  obtain ⟨hc0, hc1⟩ := hc
  obtain ⟨hd0, hd1⟩ := hd
  have hsum : wrap64 (c + d) = c + d := by unfold wrap64; omega
  have x0 := blk3 w [.bool false, .slice none 0 0, .slice none 0 0, .int .i64 c, .bool i, .int .u64 0, .slice none 0 0, .slice none 0 0] [.bool false, .slice none 0 0, .slice none 0 0, .int .i64 d, .bool j, .int .u64 0, .slice none 0 0, .slice none 0 0] [.bool false, .slice none 0 0, .slice none 0 0, .int .i64 (c + d), .bool false, .int .u64 0, .slice none 0 0, .slice none 0 0] 32 32 32
  have x1 := blk3 w [.bool false, .slice none 0 0, .slice none 0 0, .int .i64 c, .bool i, .int .u64 0, .slice none 0 0, .slice none 0 0] [.bool false, .slice none 0 0, .slice none 0 0, .int .i64 d, .bool j, .int .u64 0, .slice none 0 0, .slice none 0 0] [.bool false, .slice none 0 0, .slice none 0 0, .int .i64 0, .bool true, .int .u64 0, .slice none 0 0, .slice none 0 0] 32 32 32
  go_enter Tryz.func125, Tryz.ntmps125
  cases i
  · cases j
    · by_cases hcd : 1099511627776 < c + d
      · have hV := Lib.hid (show true = V by rw [← HV]; simp [hcd])
        clear HV
        go_wp2_with fail
        refine ret_cs (l := [.bool false, .slice none 0 0, .slice none 0 0, .int .i64 0, .bool true, .int .u64 0, .slice none 0 0, .slice none 0 0]) Tryz.results125 Tryz.underlying32 (by kernel_rfl) rfl x1.2.2.2 rfl ?_
        cases hV.out
        exact ⟨rfl, x1.1⟩
      · have hV := Lib.hid (show false = V by rw [← HV]; simp [hcd])
        clear HV
        go_wp2_with fail
        refine ret_cs (l := [.bool false, .slice none 0 0, .slice none 0 0, .int .i64 (c + d), .bool false, .int .u64 0, .slice none 0 0, .slice none 0 0]) Tryz.results125 Tryz.underlying32 (by kernel_rfl) rfl x0.2.2.2 rfl ?_
        cases hV.out
        exact ⟨rfl, x0.1⟩
    · have hV := Lib.hid (show true = V by rw [← HV]; rfl)
      clear HV
      go_wp2_with fail
      refine ret_cs (l := [.bool false, .slice none 0 0, .slice none 0 0, .int .i64 0, .bool true, .int .u64 0, .slice none 0 0, .slice none 0 0]) Tryz.results125 Tryz.underlying32 (by kernel_rfl) rfl x1.2.2.2 rfl ?_
      cases hV.out
      exact ⟨rfl, x1.1⟩
  · have hV := Lib.hid (show true = V by rw [← HV]; rfl)
    clear HV
    go_wp2_with fail
    refine ret_cs (l := [.bool false, .slice none 0 0, .slice none 0 0, .int .i64 0, .bool true, .int .u64 0, .slice none 0 0, .slice none 0 0]) Tryz.results125 Tryz.underlying32 (by kernel_rfl) rfl x1.2.2.2 rfl ?_
    cases hV.out
    exact ⟨rfl, x1.1⟩

set_option maxRecDepth 20000 in
set_option maxHeartbeats 2000000 in
theorem checkCost_inf (w : World) : Calls Tryz.prog 122 #[tw 0 true] w (RetV w (.bool true)) := by
  obtain ⟨hb0, c1⟩ := blk1 w [.bool false, .slice none 0 0, .slice none 0 0, .int .i64 0, .bool true, .int .u64 0, .slice none 0 0, .slice none 0 0] 32
  have h0 := (blk1 w [.bool false, .slice none 0 0, .slice none 0 0, .int .i64 0, .bool false, .int .u64 0, .slice none 0 0, .slice none 0 0] 32).1
  go_enter Tryz.func122, Tryz.ntmps122
  go_wp2_with fail
  refine (blank_zero _).mono ?_
  rintro e w1 ⟨rfl, hb1⟩
  go_wp2_with fail
  go_ret
  exact ⟨rfl, h0.trans (hb1.mono h0.size)⟩

set_option maxRecDepth 20000 in
set_option maxHeartbeats 2000000 in
theorem checkCost_fin (c : Int) (w : World) (hc : 0 ≤ c ∧ c ≤ 1099511627776) : Calls Tryz.prog 122 #[tw c false] w (RetV w (.bool true)) := by
  obtain ⟨hb0, c1⟩ := blk1 w [.bool false, .slice none 0 0, .slice none 0 0, .int .i64 c, .bool false, .int .u64 0, .slice none 0 0, .slice none 0 0] 32
  have h0 := (blk1 w [.bool false, .slice none 0 0, .slice none 0 0, .int .i64 0, .bool false, .int .u64 0, .slice none 0 0, .slice none 0 0] 32).1
  obtain ⟨hc0, hc1⟩ := hc
  go_enter Tryz.func122, Tryz.ntmps122
  go_wp2_with fail
  refine (blank_zero _).mono ?_
  rintro e w1 ⟨rfl, hb1⟩
  go_wp2_with fail
  go_ret
  exact ⟨rfl, h0.trans (hb1.mono h0.size)⟩

/-- A cost, or Inf. -/
def Cost (c : Int) (i : Bool) : Prop := (i = true ∧ c = 0) ∨ (i = false ∧ 0 ≤ c ∧ c ≤ 1099511627776)
theorem Cost.le {c : Int} {i : Bool} (h : Cost c i) : 0 ≤ c ∧ c ≤ 1099511627776 := by
  rcases h with ⟨_, h⟩ | ⟨_, h1, h2⟩ <;> omega
theorem checkCost_ok (c : Int) (i : Bool) (w : World) (h : Cost c i) : Calls Tryz.prog 122 #[tw c i] w (RetV w (.bool true)) := by
  rcases h with ⟨rfl, rfl⟩ | ⟨rfl, h1⟩
  · exact checkCost_inf w
  · exact checkCost_fin c w h1

/-- A function of the text. -/
abbrev fv (k : Nat) : Value := .func (.func k) #[] #[]
/-- What cleaner returns. -/
abbrev cln (b1 b2 : Nat) : Value := .func (.func 171) #[] #[.pointer (some ⟨b1, 0, none⟩), .pointer (some ⟨b2, 0, none⟩)]
/-- .. and the functions that it has caught. -/
def Cl (w : World) (b1 b2 : Nat) (f g : Value) : Prop := Cs w b1 [f] 54 ∧ Cs w b2 [g] 59
theorem Cl.below {w w' : World} {b1 b2 : Nat} {f g : Value} (h : Cl w b1 b2 f g) (hb : Below w.heap.size w w') : Cl w' b1 b2 f g := ⟨h.1.below hb h.1.lt, h.2.below hb h.2.lt⟩
theorem Cl.alloc {w : World} {b1 b2 : Nat} {f g : Value} (h : Cl w b1 b2 f g) (o : Obj) : Cl (w.alloc o) b1 b2 f g := ⟨h.1.alloc o, h.2.alloc o⟩
theorem Cl.below' {w w' : World} {b1 b2 B : Nat} {f g : Value} (h : Cl w b1 b2 f g) (hb : Below B w w') (hB : w.heap.size ≤ B) : Cl w' b1 b2 f g := ⟨h.1.below hb (by have := h.1.lt; omega), h.2.below hb (by have := h.2.lt; omega)⟩
set_option maxRecDepth 20000 in
set_option maxHeartbeats 2000000 in
theorem cleaner_any (f g : Nat) (A B : Array Value) (w : World) : Calls Tryz.prog 99 #[.func (.func f) #[] A, .func (.func g) #[] B] w (fun e w' => ∃ b1 b2, e = .returned (cln b1 b2) ∧ Cl w' b1 b2 (.func (.func f) #[] A) (.func (.func g) #[] B) ∧ Below w.heap.size w w') := by
  obtain ⟨hb0, c1, c2⟩ := blk2 w [.func (.func f) #[] A] [.func (.func g) #[] B] 54 59
  go_enter Tryz.func99, Tryz.ntmps99
  go_wp2_with fail
  go_ret
  exact ⟨_, _, rfl, ⟨c1, c2⟩, hb0⟩

set_option maxRecDepth 20000 in
set_option maxHeartbeats 2000000 in
theorem cln_cost (c : Int) (i : Bool) (b1 b2 : Nat) (w : World) (h : Cost c i) (hC : Cl w b1 b2 (fv 122) (fv 121)) : Calls Tryz.prog 171 #[tw c i, .pointer (some ⟨b1, 0, none⟩), .pointer (some ⟨b2, 0, none⟩)] w (RetV w (tw c i)) := by
  obtain ⟨hb0, c1, c2⟩ := blk2 w [.bool false, .slice none 0 0, .slice none 0 0, .int .i64 c, .bool i, .int .u64 0, .slice none 0 0, .slice none 0 0] [.bool false, .slice none 0 0, .slice none 0 0, .int .i64 0, .bool false, .int .u64 0, .slice none 0 0, .slice none 0 0] 32 32
  have k1 := ((hC.1.alloc (W8t c i)).alloc (W8t 0 false)).cell (k := 0) rfl
  go_enter Tryz.func171, Tryz.ntmps171
  go_wp2_with (fail)
  go_at_call 122
  generalize ((w.alloc (W8t c i)).alloc (W8t 0 false)) = W0 at *
  refine (checkCost_ok c i _ h).mono ?_
  rintro e w1 ⟨rfl, hb1⟩
  replace hb0 := hb0.trans (hb1.mono hb0.size)
  replace c1 := c1.below hb1 c1.lt
  replace c2 := c2.below hb1 c2.lt
  clear hb1
  obtain ⟨a0, a1, a2, a3, a4, a5, a6, a7⟩ := c1.c8
  obtain ⟨g0, g1, g2, g3, g4, g5, g6, g7⟩ := c2.f8
  obtain ⟨e0, e1, e2, e3, e4, e5, e6, e7⟩ := c2.c8
  go_wp2_with fail
  refine ret_cs (l := [.bool false, .slice none 0 0, .slice none 0 0, .int .i64 c, .bool i, .int .u64 0, .slice none 0 0, .slice none 0 0]) Tryz.results171 Tryz.underlying32 (by kernel_rfl) rfl (cs_own8 c2 rfl _ _ _ _ _ _ _ _) rfl ?_
  exact ⟨rfl, below_s8 hb0 (by omega) _ _ _ _ _ _ _ _⟩
end Go.Proofs.YtohbelnfjomcdaaGreatDoor
