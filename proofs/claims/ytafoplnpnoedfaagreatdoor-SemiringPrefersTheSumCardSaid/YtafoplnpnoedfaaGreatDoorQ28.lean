/- made.Mod; the specification's Valid and Zero at Tropical. -/
import Derived.Test.YtafoplnpnoedfaaGreatDoorQ27
import Derived.LoopN
import Derived.Test.YtafoplnpnoedfaaGreatDoorQ25
set_option linter.unusedVariables false
set_option linter.unusedSimpArgs false
namespace Go.Proofs.YtafoplnpnoedfaaGreatDoor
open Go.RowKit

set_option maxRecDepth 20000 in
set_option maxHeartbeats 2000000 in
theorem Mod_any (k n : Int) (w : World) (hn : 0 < n) (hn2 : n ≤ 1000) (h1 : -9223372036854775808 ≤ k) (h2 : k ≤ 9223372036854775807) : Calls Tryz.prog 11 #[.int .i64 k, .int .i64 n] w (fun e0 w' => ∃ r : Int, e0 = .returned (.int .i64 r) ∧ 0 ≤ r ∧ r < n ∧ w' = w) := by
  obtain ⟨t, ht⟩ : ∃ t, k.tmod n = t := ⟨_, rfl⟩
  have t1 : t < n := by rw [← ht]; exact Int.tmod_lt_of_pos k hn
  have t2 : -n < t := by rw [← ht]; exact Int.lt_tmod_of_pos k hn
  have hn0 : ¬ n = 0 := by omega
  have hn1 : ¬ n = -1 := by omega
  by_cases h : t < 0
  · go_enter Tryz.func11, Tryz.ntmps11
    go_wp2_with fail
    go_ret
    exact ⟨_, rfl, by omega, by omega, rfl⟩
  · go_enter Tryz.func11, Tryz.ntmps11
    go_wp2_with fail
    go_ret
    exact ⟨_, rfl, by omega, by omega, rfl⟩
set_option maxRecDepth 20000 in
set_option maxHeartbeats 2000000 in
theorem r3_Valid_cost (w : World) : Calls Tryz.prog 23 #[.agg #[.int .i64 2, .slice none 0 0]] w (RetV w (.bool true)) := by
  obtain ⟨hb0, c1⟩ := blk1 w [.int .i64 2, .slice none 0 0] 24
  go_enter Tryz.func23, Tryz.ntmps23
  go_wp2_with fail
  go_ret
  exact ⟨rfl, hb0⟩

set_option maxRecDepth 20000 in
set_option maxHeartbeats 2000000 in
theorem r3_Zero_cost (w : World) : Calls Tryz.prog 12 #[.agg #[.int .i64 2, .slice none 0 0]] w (RetV w (tw 0 true)) := by
  obtain ⟨hb0, c1, c2, c3⟩ := blk3 w [.int .i64 2, .slice none 0 0] [.bool false, .slice none 0 0, .slice none 0 0, .int .i64 0, .bool false, .int .u64 0, .slice none 0 0, .slice none 0 0] [.bool false, .slice none 0 0, .slice none 0 0, .int .i64 0, .bool false, .int .u64 0, .slice none 0 0, .slice none 0 0] 24 32 32
  go_enter Tryz.func12, Tryz.ntmps12
  go_wp2_with fail
  generalize (((w.alloc (.cells #[.int .i64 2, .slice none 0 0] 24)).alloc (W8t 0 false)).alloc (W8t 0 false)) = W0 at *
  refine (r3_Valid_cost _).mono ?_
  rintro e0 w1 ⟨rfl, hb1⟩
  replace hb0 := hb0.trans (hb1.mono hb0.size)
  replace c1 := c1.below hb1 c1.lt
  replace c2 := c2.below hb1 c2.lt
  replace c3 := c3.below hb1 c3.lt
  clear hb1
  have r0 := c1.cell (k := 0) rfl
  have r1 := c1.cell (k := 1) rfl
  obtain ⟨a0, a1, a2, a3, a4, a5, a6, a7⟩ := c3.c8
  obtain ⟨f0, f1, f2, f3, f4, f5, f6, f7⟩ := c3.f8
  obtain ⟨b0, b1, b2, b3, b4, b5, b6, b7⟩ := c2.c8
  obtain ⟨g0, g1, g2, g3, g4, g5, g6, g7⟩ := c2.f8
  go_wp2_with fail
  refine wp_loop_rounds 1 ?_
  rw [rounds_succ]
  go_wp2_with fail
  have d2 := c2.far (p := ⟨w.heap.size + 1 + 1, 4, none⟩) (by simp) (.bool true)
  refine ret_cs (l := [.bool false, .slice none 0 0, .slice none 0 0, .int .i64 0, .bool true, .int .u64 0, .slice none 0 0, .slice none 0 0]) Tryz.results12 Tryz.underlying32 (by kernel_rfl) rfl (cs_own8 d2 rfl _ _ _ _ _ _ _ _) rfl ?_
  exact ⟨rfl, below_s8 (hb0.setCell (p := ⟨w.heap.size + 1 + 1, 4, none⟩) (by simp; omega) _) (by omega) _ _ _ _ _ _ _ _⟩

set_option maxRecDepth 20000 in
set_option maxHeartbeats 2000000 in
theorem Weight_cost (v : Int) (w : World) (h1 : -9223372036854775808 ≤ v) (h2 : v ≤ 9223372036854775807) : Calls Tryz.prog 4 #[.agg #[.int .i64 2, .slice none 0 0], .int .i64 v] w (fun e0 w' => ∃ c i, e0 = .returned (tw c i) ∧ Cost c i ∧ Below w.heap.size w w') := by
  obtain ⟨hb0, c1, c2⟩ := blk2 w [.int .i64 2, .slice none 0 0] [.bool false, .slice none 0 0, .slice none 0 0, .int .i64 0, .bool false, .int .u64 0, .slice none 0 0, .slice none 0 0] 24 32
  go_enter Tryz.func4, Tryz.ntmps4
  go_wp2_with fail
  generalize ((w.alloc (.cells #[.int .i64 2, .slice none 0 0] 24)).alloc (W8t 0 false)) = W0 at *
  refine (Mod_any v 11 _ (by omega) (by omega) h1 h2).mono ?_
  rintro e0 w1 ⟨r, rfl, hr0, hr1, rfl⟩
  have k0 := c1.cell (k := 0) rfl
  have k1 := c1.cell (k := 1) rfl
  obtain ⟨a0, a1, a2, a3, a4, a5, a6, a7⟩ := c2.c8
  obtain ⟨f0, f1, f2, f3, f4, f5, f6, f7⟩ := c2.f8
  by_cases h : r = 10
  · subst h
    clear a0 a1 a2 a3 a4 a5 a6 a7 f0 f1 f2 f3 f4 f5 f6 f7
    go_wp2_with fail
    refine (r3_Zero_cost _).mono ?_
    rintro e0 w2 ⟨rfl, hb1⟩
    have d2 := c2.below hb1 c2.lt
    replace hb0 := hb0.trans (hb1.mono hb0.size)
    obtain ⟨a0, a1, a2, a3, a4, a5, a6, a7⟩ := d2.c8
    obtain ⟨f0, f1, f2, f3, f4, f5, f6, f7⟩ := d2.f8
    go_wp2_with fail
    refine ret_cs (l := [.bool false, .slice none 0 0, .slice none 0 0, .int .i64 0, .bool true, .int .u64 0, .slice none 0 0, .slice none 0 0]) Tryz.results4 Tryz.underlying32 (by kernel_rfl) rfl (cs_own8 d2 rfl _ _ _ _ _ _ _ _) rfl ?_
    exact ⟨0, true, rfl, .inl ⟨rfl, rfl⟩, below_s8 hb0 (by omega) _ _ _ _ _ _ _ _⟩
  · have hb : (r == 10) = false := by simp [h]
    go_wp2_with fail
    refine (Mod_any v 11 _ (by omega) (by omega) h1 h2).mono ?_
    rintro e0 w2 ⟨r2, rfl, hs0, hs1, rfl⟩
    go_wp2_with fail
    refine ret_cs (l := [.bool false, .slice none 0 0, .slice none 0 0, .int .i64 r2, .bool false, .int .u64 0, .slice none 0 0, .slice none 0 0]) Tryz.results4 Tryz.underlying32 (by kernel_rfl) rfl (cs_own8 c2 rfl _ _ _ _ _ _ _ _) rfl ?_
    exact ⟨r2, false, rfl, .inr ⟨rfl, hs0, by omega⟩, below_s8 hb0 (by omega) _ _ _ _ _ _ _ _⟩
end Go.Proofs.YtafoplnpnoedfaaGreatDoor

namespace Go.Proofs.YtafoplnpnoedfaaGreatDoor
open Go.RowKit

set_option maxRecDepth 20000 in
set_option maxHeartbeats 2000000 in
theorem Valid_prod (br cr : Nat) (w : World) (hr : Cs w br [.int .i64 1, .int .i64 2] 3) : Calls Tryz.prog 30 #[.agg #[.int .i64 6, .slice (some ⟨br, 0, none⟩) 2 cr]] w (RetV w (.bool true)) := by
  obtain ⟨hb0, c1⟩ := blk1 w [.int .i64 6, .slice (some ⟨br, 0, none⟩) 2 cr] 24
  have h1 := Lib.hid (show (decide ((1 : Int) ≤ 1) && decide ((1 : Int) ≤ 5)) = true by decide)
  have h2 := Lib.hid (show (decide ((1 : Int) ≤ 2) && decide ((2 : Int) ≤ 5)) = true by decide)
  have cR := hr.alloc (.cells #[.int .i64 6, .slice (some ⟨br, 0, none⟩) 2 cr] 24)
  have r0 := cR.cell (k := 0) rfl
  have r1 := cR.cell (k := 1) rfl
  go_enter Tryz.func30, Tryz.ntmps30
  go_wp2_with fail
  refine wp_loop_rounds 3 ?_
  rw [rounds_succ]
  go_wp2_with fail
  refine (simple_any 1 true _ h1).mono ?_
  rintro e w1 ⟨rfl, hb1⟩
  replace hb0 := hb0.trans (hb1.mono hb0.size)
  replace c1 := c1.below hb1 c1.lt
  replace cR := cR.below hb1 cR.lt
  clear hb1
  clear r0 r1
  have r0 := cR.cell (k := 0) rfl
  have r1 := cR.cell (k := 1) rfl
  go_wp2_with fail
  rw [rounds_succ]
  go_wp2_with fail
  refine (simple_any 2 true _ h2).mono ?_
  rintro e w1 ⟨rfl, hb1⟩
  replace hb0 := hb0.trans (hb1.mono hb0.size)
  replace c1 := c1.below hb1 c1.lt
  replace cR := cR.below hb1 cR.lt
  clear hb1
  go_wp2_with fail
  rw [rounds_succ]
  go_wp2_with fail
  go_ret
  exact ⟨rfl, hb0⟩

/-- The operations of a product whose parts lie in the variable bp. -/
abbrev topsL (bp c1 c2 : Nat) : List Value := [.func (.func 50) #[] #[.pointer (some ⟨bp, 0, none⟩)], cln c1 c2, .func (.func 52) #[] #[.pointer (some ⟨bp, 0, none⟩)], .func (.func 56) #[] #[.pointer (some ⟨bp, 0, none⟩)], .func (.func 58) #[] #[.pointer (some ⟨bp, 0, none⟩)], .func (.func 60) #[] #[.pointer (some ⟨bp, 0, none⟩)], .func (.func 62) #[] #[.pointer (some ⟨bp, 0, none⟩)], fv 64, .func (.func 65) #[] #[.pointer (some ⟨bp, 0, none⟩)], .func (.func 67) #[] #[.pointer (some ⟨bp, 0, none⟩)]]
abbrev tops (bp c1 c2 : Nat) : Value := .agg #[.func (.func 50) #[] #[.pointer (some ⟨bp, 0, none⟩)], cln c1 c2, .func (.func 52) #[] #[.pointer (some ⟨bp, 0, none⟩)], .func (.func 56) #[] #[.pointer (some ⟨bp, 0, none⟩)], .func (.func 58) #[] #[.pointer (some ⟨bp, 0, none⟩)], .func (.func 60) #[] #[.pointer (some ⟨bp, 0, none⟩)], .func (.func 62) #[] #[.pointer (some ⟨bp, 0, none⟩)], fv 64, .func (.func 65) #[] #[.pointer (some ⟨bp, 0, none⟩)], .func (.func 67) #[] #[.pointer (some ⟨bp, 0, none⟩)]]
def TCl (w : World) (bp c1 c2 : Nat) : Prop := Cl w c1 c2 (.func (.func 50) #[] #[.pointer (some ⟨bp, 0, none⟩)]) (.func (.func 52) #[] #[.pointer (some ⟨bp, 0, none⟩)])
set_option maxRecDepth 20000 in
set_option maxHeartbeats 2000000 in
theorem tuples_any (A : Option Addr) (n c : Nat) (w : World) : Calls Tryz.prog 32 #[.slice A n c] w (fun e w' => ∃ bp c1 c2, e = .returned (tops bp c1 c2) ∧ Cs w' bp [.slice A n c] 75 ∧ TCl w' bp c1 c2 ∧ Below w.heap.size w w') := by
  obtain ⟨hb0, cp, cr⟩ := blk2 w [.slice A n c] [.nilFunc, .nilFunc, .nilFunc, .nilFunc, .nilFunc, .nilFunc, .nilFunc, .nilFunc, .nilFunc, .nilFunc] 75 55
  go_enter Tryz.func32, Tryz.ntmps32
  go_wp2_with fail
  refine (cleaner_any _ _ _ _ _).mono ?_
  rintro e w1 ⟨b1, b2, rfl, hC, hb1⟩
  replace hb0 := hb0.trans (hb1.mono hb0.size)
  replace cp := cp.below hb1 cp.lt
  replace cr := cr.below hb1 cr.lt
  clear hb1
  obtain ⟨a0, a1, a2, a3, a4, a5, a6, a7, a8, a9⟩ := cr.c10
  obtain ⟨f0, f1, f2, f3, f4, f5, f6, f7⟩ := cr.f8
  have f8 := cr.frozen 8
  have f9 := cr.frozen 9
  go_wp2_with fail
  refine ret_cs (l := topsL w.heap.size b1 b2) Tryz.results32 Tryz.underlying55 (by kernel_rfl) rfl (cs_own10 cr rfl _ _ _ _ _ _ _ _ _ _) rfl ?_
  exact ⟨w.heap.size, b1, b2, rfl, cs_far10 cp (by omega) _ _ _ _ _ _ _ _ _ _, hC.s10 cr (by decide) _ _ _ _ _ _ _ _ _ _, below_s10 hb0 (by omega) _ _ _ _ _ _ _ _ _ _⟩

end Go.Proofs.YtafoplnpnoedfaaGreatDoor

namespace Go.Proofs.YtafoplnpnoedfaaGreatDoor
open Go.RowKit

theorem info_ops : ∃ i, Tryz.prog.info? 55 = some i ∧ i.zero = some (.agg #[.nilFunc, .nilFunc, .nilFunc, .nilFunc, .nilFunc, .nilFunc, .nilFunc, .nilFunc, .nilFunc, .nilFunc]) ∧ i.size = 10 ∧ i.bytes = 80 := by
  have h : (Tryz.prog.info? 55).map (fun i => (i.zero, i.size, i.bytes)) = some (some (.agg #[.nilFunc, .nilFunc, .nilFunc, .nilFunc, .nilFunc, .nilFunc, .nilFunc, .nilFunc, .nilFunc, .nilFunc]), 10, 80) := by kernel_rfl
  obtain ⟨i, hi, hz⟩ := Option.map_eq_some_iff.1 h
  simp only [Prod.mk.injEq] at hz
  exact ⟨i, hi, hz.1, hz.2.1, hz.2.2⟩
/-- The call's own row of operations, which may grow. -/
def OwnO (w : World) (B : Nat) (v : Value) (n : Nat) (l : List Value) : Prop := w.ownsRow B 55 10 v n l
theorem appO_run (w : World) (B : Nat) (v : Value) (n : Nat) (l r : List Value) (hown : OwnO w B v n l) (g : Nat) (hg : Cs w g r 55) (hr : r.length = 10) (hr1 : ∀ u ∈ r, u.oneCell' = true) (hn : n ≤ 1000) (hB : B ≤ w.heap.size) :
    ∃ v' w', (Builtin.append_ #[75, 75] 75 #[v, .slice (some ⟨g, 0, none⟩) 1 1]).run Tryz.prog w = .ok v' w' ∧ OwnO w' B v' (n + 1) (l ++ r) ∧ w.grownBy w' v.ownBlock ∧ (v'.ownBlock = v.ownBlock ∨ v'.ownBlock = some w.heap.size) := by
  obtain ⟨i, hi, hz, hs, hb⟩ := info_ops
  have hu := Tryz.underlying75
  obtain ⟨v', w', h1, h2, h3, _, h5⟩ := run_append_own_at (P := Tryz.prog) w B 75 75 55 i (.agg #[.nilFunc, .nilFunc, .nilFunc, .nilFunc, .nilFunc, .nilFunc, .nilFunc, .nilFunc, .nilFunc, .nilFunc]) 10 80 hu hi hz hs hb rfl (by omega) v n l hown ⟨g, 0, none⟩ 1 1 r (by omega)
      (fun j u hju => by
        have e : (⟨g, 0, none⟩ : Addr).add j = ⟨g, j, none⟩ := by unfold Addr.add; split <;> simp_all
        rw [e]; exact hg.cell hju) hr1 (by unfold maxLen; omega) (by omega) hB
  exact ⟨v', w', h1, h2, h3, h5⟩
theorem wpList_appO {w : World} {ops : Array Oper} {rest : List Oper} {o : Oper} {a : Act} {Q : Exit → Act → World → Prop} (hgd : o.guard = none) (s x : Operand)
    (ho : o.op = .call { callee := .builtin .append, args := #[s, x], argTypes := #[75, 75] }) (hty : o.type = 75) (B : Nat) (v : Value) (n : Nat) (l r : List Value) (hs : a.eval s = v) (hown : OwnO w B v n l)
    (g : Nat) (hx : a.eval x = .slice (some ⟨g, 0, none⟩) 1 1) (hg : Cs w g r 55) (hr : r.length = 10) (hr1 : ∀ u ∈ r, u.oneCell' = true) (hn : n ≤ 1000) (hB : B ≤ w.heap.size)
    (h : ∀ v' w', OwnO w' B v' (n + 1) (l ++ r) → w.grownBy w' v.ownBlock → (v'.ownBlock = v.ownBlock ∨ v'.ownBlock = some w.heap.size) → wpList Tryz.prog ops Q rest (a.put o.dst v') w') : wpList Tryz.prog ops Q (o :: rest) a w := by
  refine wpList_plain hgd fun K hK => ?_
  obtain ⟨v', w', hrun, h1, h2, h3⟩ := appO_run w B v n l r hown g hg hr hr1 hn hB
  unfold Oper.wp
  simp [execOp, ho, hty, resolve, invoke, builtin, hs, hx, hrun, Result.andThen]
  exact hK _ _ (h v' w' h1 h2 h3)
/-- The parts of a product lie in the row v: ten cells each. -/
def Parts (w : World) (v : Value) (l : List Value) : Prop := ∃ g cap, v = .slice (some ⟨g, 0, none⟩) 2 cap ∧ 2 ≤ cap ∧ g < w.heap.size ∧ ∀ k x, l[k]? = some x → w.cell? ⟨g, k, none⟩ = some x
theorem OwnO.parts {w : World} {B : Nat} {v : Value} {l : List Value} (h : OwnO w B v 2 l) (hl : l.length = 20) : Parts w v l := by
  rcases h.2 with ⟨rfl, hn⟩ | ⟨g, cap, cur, rfl, hB, hh, hnc, _, _, hcur⟩
  · rw [hl] at *
    simp at hn
  · refine ⟨g, cap, rfl, hnc, heap_lt hh, fun k x hk => ?_⟩
    rw [cell_of_row w g k _ _ _ hh]
    have hk20 : k < 20 := by have := (List.getElem?_eq_some_iff.1 hk).1; omega
    rw [← hcur, List.getElem?_take, if_pos (by omega)] at hk
    simpa using hk
theorem Parts.below {w w' : World} {v : Value} {l : List Value} (h : Parts w v l) (hb : Below w.heap.size w w') : Parts w' v l := by
  obtain ⟨g, cap, rfl, hc, hg, hx⟩ := h
  have := hb.size
  exact ⟨g, cap, rfl, hc, by omega, fun k x hk => (World.cell?_of_block (w := w) (hb.block g hg)).trans (hx k x hk)⟩
theorem Cs.grown {w w' : World} {g : Nat} {l : List Value} {t : TypeId} {row : Option Nat} (h : Cs w g l t) (hg : w.grownBy w' row) (hne : some g ≠ row) : Cs w' g l t := (hg.block g h.lt hne).trans h
/-- A block of another type is not the own row's. -/
theorem OwnO.ne {w : World} {B n : Nat} {v : Value} {l l' : List Value} {g : Nat} {t : TypeId} (h : OwnO w B v n l) (hc : Cs w g l' t) (ht : t ≠ 55) : some g ≠ v.ownBlock := by
  intro e
  rcases h.2 with ⟨rfl, hn⟩ | ⟨g', cap, cur, rfl, hB, hh, hnc, _, _, hcur⟩
  · simp [Value.ownBlock] at e
  · simp [Value.ownBlock] at e
    subst e
    rw [hc] at hh
    injection hh with hh
    injection hh with h1 h2
    exact ht h2
theorem OwnO.ne_lt {w : World} {B n g : Nat} {v : Value} {l : List Value} (h : OwnO w B v n l) (hg : g < B) : some g ≠ v.ownBlock := fun e => by
  have := (World.ownsRow.lt h g e.symm).1
  omega
theorem cell_s10 {w : World} {b g k : Nat} {v : Value} (hne : b ≠ g) (h : w.cell? ⟨b, k, none⟩ = some v) (u0 u1 u2 u3 u4 u5 u6 u7 u8 u9 : Value) : ((((((((((w.setCell ⟨g, 0, none⟩ u0).setCell ⟨g, 1, none⟩ u1).setCell ⟨g, 2, none⟩ u2).setCell ⟨g, 3, none⟩ u3).setCell ⟨g, 4, none⟩ u4).setCell ⟨g, 5, none⟩ u5).setCell ⟨g, 6, none⟩ u6).setCell ⟨g, 7, none⟩ u7).setCell ⟨g, 8, none⟩ u8).setCell ⟨g, 9, none⟩ u9).cell? ⟨b, k, none⟩ = some v := by
  rw [show ((((((((((w.setCell ⟨g, 0, none⟩ u0).setCell ⟨g, 1, none⟩ u1).setCell ⟨g, 2, none⟩ u2).setCell ⟨g, 3, none⟩ u3).setCell ⟨g, 4, none⟩ u4).setCell ⟨g, 5, none⟩ u5).setCell ⟨g, 6, none⟩ u6).setCell ⟨g, 7, none⟩ u7).setCell ⟨g, 8, none⟩ u8).setCell ⟨g, 9, none⟩ u9) = setL w g 0 [u0, u1, u2, u3, u4, u5, u6, u7, u8, u9] from rfl]
  have key : ∀ (us : List Value) (j : Nat) (w : World), w.cell? ⟨b, k, none⟩ = some v → (setL w g j us).cell? ⟨b, k, none⟩ = some v := by
    intro us
    induction us with
    | nil => intro j w h; exact h
    | cons u us ih =>
      intro j w h
      refine ih (j + 1) _ ?_
      rw [World.cell?_setCell_other _ _ _ _ (fun e => hne (by injection e with e1; first | exact e1 | exact e1.symm))]; exact h
  exact key _ 0 w h
theorem Parts.s10 {w : World} {g cap g' : Nat} {l : List Value} (h : Parts w (.slice (some ⟨g, 0, none⟩) 2 cap) l) (hne : g ≠ g') (u0 u1 u2 u3 u4 u5 u6 u7 u8 u9 : Value) : Parts ((((((((((w.setCell ⟨g', 0, none⟩ u0).setCell ⟨g', 1, none⟩ u1).setCell ⟨g', 2, none⟩ u2).setCell ⟨g', 3, none⟩ u3).setCell ⟨g', 4, none⟩ u4).setCell ⟨g', 5, none⟩ u5).setCell ⟨g', 6, none⟩ u6).setCell ⟨g', 7, none⟩ u7).setCell ⟨g', 8, none⟩ u8).setCell ⟨g', 9, none⟩ u9) (.slice (some ⟨g, 0, none⟩) 2 cap) l := by
  obtain ⟨g1, cap1, e, hc, hg, hx⟩ := h
  injection e with e1 e2 e3
  injection e1 with e1
  injection e1 with e1
  subst e1 e3
  refine ⟨g, cap, rfl, hc, ?_, fun k x hk => cell_s10 hne (hx k x hk) _ _ _ _ _ _ _ _ _ _⟩
  have := size_setL g' [u0, u1, u2, u3, u4, u5, u6, u7, u8, u9] 0 w
  rw [show setL w g' 0 [u0, u1, u2, u3, u4, u5, u6, u7, u8, u9] = ((((((((((w.setCell ⟨g', 0, none⟩ u0).setCell ⟨g', 1, none⟩ u1).setCell ⟨g', 2, none⟩ u2).setCell ⟨g', 3, none⟩ u3).setCell ⟨g', 4, none⟩ u4).setCell ⟨g', 5, none⟩ u5).setCell ⟨g', 6, none⟩ u6).setCell ⟨g', 7, none⟩ u7).setCell ⟨g', 8, none⟩ u8).setCell ⟨g', 9, none⟩ u9) from rfl] at this
  omega
theorem OwnO.below {w w' : World} {B n : Nat} {v : Value} {l : List Value} (h : OwnO w B v n l) (hb : Below w.heap.size w w') : OwnO w' B v n l := by
  refine ⟨h.1, ?_⟩
  rcases h.2 with h2 | ⟨g, cap, cur, e, hB, hh, rest⟩
  · exact .inl h2
  · exact .inr ⟨g, cap, cur, e, hB, (hb.block g (heap_lt hh)).trans hh, rest⟩
theorem ops_one (b1 b2 : Nat) : ∀ u ∈ nopsL b1 b2, u.oneCell' = true := by
  intro u hu
  simp only [nopsL, List.mem_cons, List.not_mem_nil, or_false] at hu
  rcases hu with rfl | rfl | rfl | rfl | rfl | rfl | rfl | rfl | rfl | rfl <;> rfl
theorem ops_one' (b1 b2 : Nat) : ∀ u ∈ copsL b1 b2, u.oneCell' = true := by
  intro u hu
  simp only [copsL, List.mem_cons, List.not_mem_nil, or_false] at hu
  rcases hu with rfl | rfl | rfl | rfl | rfl | rfl | rfl | rfl | rfl | rfl <;> rfl
set_option maxRecDepth 20000 in
set_option maxHeartbeats 2000000 in
theorem find_prod (br cr : Nat) (w : World) (hr : Cs w br [.int .i64 1, .int .i64 2] 3) : Calls Tryz.prog 18 #[.agg #[.int .i64 6, .slice (some ⟨br, 0, none⟩) 2 cr]] w (fun e w' => ∃ bp c1 c2 v b1 b2 b3 b4, e = .returned (.tuple #[tops bp c1 c2, .bool true]) ∧ Cs w' bp [v] 75 ∧ Parts w' v (nopsL b1 b2 ++ copsL b3 b4) ∧ TCl w' bp c1 c2 ∧ Below w.heap.size w w') := by
  obtain ⟨hb0, c1, c2⟩ := blk2 w [.int .i64 6, .slice (some ⟨br, 0, none⟩) 2 cr] [.nilFunc, .nilFunc, .nilFunc, .nilFunc, .nilFunc, .nilFunc, .nilFunc, .nilFunc, .nilFunc, .nilFunc] 24 55
  have cR := (hr.alloc (.cells #[.int .i64 6, .slice (some ⟨br, 0, none⟩) 2 cr] 24)).alloc (.cells #[.nilFunc, .nilFunc, .nilFunc, .nilFunc, .nilFunc, .nilFunc, .nilFunc, .nilFunc, .nilFunc, .nilFunc] 55)
  go_enter Tryz.func18, Tryz.ntmps18
  go_wp2_with fail
  generalize ((w.alloc (.cells #[.int .i64 6, .slice (some ⟨br, 0, none⟩) 2 cr] 24)).alloc (.cells #[.nilFunc, .nilFunc, .nilFunc, .nilFunc, .nilFunc, .nilFunc, .nilFunc, .nilFunc, .nilFunc, .nilFunc] 55)) = W0 at *
  refine (Valid_prod br cr _ cR).mono ?_
  rintro e w1 ⟨rfl, hb1⟩
  replace hb0 := hb0.trans (hb1.mono hb0.size)
  replace c1 := c1.below hb1 c1.lt
  replace c2 := c2.below hb1 c2.lt
  replace cR := cR.below hb1 cR.lt
  clear hb1
  have a0 := c1.cell (k := 0) rfl
  have q0 := hb0.size
  have q2 := c2.lt
  have qR := cR.lt
  have a1 := c1.cell (k := 1) rfl
  have r0 := cR.cell (k := 0) rfl
  go_wp2_with fail
  refine wp_loop_rounds 3 ?_
  rw [rounds_succ]
  go_wp2_with fail
  refine (ofKind_num _).mono ?_
  rintro e w2 ⟨b1, b2, rfl, hC1, hb1⟩
  have q12 := hb1.size
  clear a0 a1 r0
  replace hb0 := hb0.trans (hb1.mono hb0.size)
  replace c1 := c1.below hb1 c1.lt
  replace c2 := c2.below hb1 c2.lt
  replace cR := cR.below hb1 cR.lt
  clear hb1
  have hz2 := hb0.size
  have hown0 : OwnO (w2.alloc (.cells (nopsL b1 b2).toArray 55)) w1.heap.size (.slice none 0 0) 0 [] := World.ownsRow_nil ..
  have hnew := Cs.new w2 (nopsL b1 b2) 55
  go_wp2_with (at_builtin; refine wpList_appO rfl (.tmp 24) (.tmp 27) rfl rfl w1.heap.size _ 0 [] (nopsL b1 b2) rfl hown0 _ rfl hnew rfl (ops_one b1 b2) (by omega) ?c1 ?_)
  case c1 => simp; omega
  rintro v1 w3 hown1 hgr hor
  replace hb0 := (hb0.alloc hz2 (.cells (nopsL b1 b2).toArray 55)).grown hgr (by simp; omega) (fun k hk => by simp [Value.ownBlock] at hk)
  replace c1 := (c1.alloc (.cells (nopsL b1 b2).toArray 55)).grown hgr (by simp [Value.ownBlock])
  replace c2 := (c2.alloc (.cells (nopsL b1 b2).toArray 55)).grown hgr (by simp [Value.ownBlock])
  replace cR := (cR.alloc (.cells (nopsL b1 b2).toArray 55)).grown hgr (by simp [Value.ownBlock])
  have q23 := hgr.size
  simp at q23
  clear hnew hown0 hgr hor hz2 hC1
  have r1 := cR.cell (k := 1) rfl
  go_wp2_with fail
  rw [rounds_succ]
  go_wp2_with fail
  refine (ofKind_cost _).mono ?_
  rintro e w4 ⟨b3, b4, rfl, hC2, hb1⟩
  clear r1
  have q34 := hb1.size
  replace hown1 := hown1.below hb1
  replace hb0 := hb0.trans (hb1.mono hb0.size)
  replace c1 := c1.below hb1 c1.lt
  replace c2 := c2.below hb1 c2.lt
  replace cR := cR.below hb1 cR.lt
  clear hb1
  have hz4 := hb0.size
  have n1 : some w.heap.size ≠ v1.ownBlock := OwnO.ne_lt hown1 (by omega)
  have nR : some br ≠ v1.ownBlock := OwnO.ne_lt hown1 qR
  have n2 : some (w.heap.size + 1) ≠ v1.ownBlock := OwnO.ne_lt hown1 q2
  replace hown1 : OwnO (w4.alloc (.cells (copsL b3 b4).toArray 55)) w1.heap.size v1 1 (nopsL b1 b2) := World.ownsRow.alloc hown1 _
  have hnew := Cs.new w4 (copsL b3 b4) 55
  go_wp2_with (at_builtin; refine wpList_appO rfl (.tmp 24) (.tmp 27) rfl rfl w1.heap.size v1 1 (nopsL b1 b2) (copsL b3 b4) rfl hown1 _ rfl hnew rfl (ops_one' b3 b4) (by omega) ?c2 ?_)
  case c2 => simp; omega
  rintro v2 w5 hown2 hgr hor
  replace hb0 := (hb0.alloc hz4 (.cells (copsL b3 b4).toArray 55)).grown hgr (by simp; omega) (fun k hk => Nat.le_trans q0 (World.ownsRow.lt hown1 k hk).1)
  replace c1 := (c1.alloc (.cells (copsL b3 b4).toArray 55)).grown hgr n1
  replace cR := (cR.alloc (.cells (copsL b3 b4).toArray 55)).grown hgr nR
  replace c2 := (c2.alloc (.cells (copsL b3 b4).toArray 55)).grown hgr n2
  have hP : Parts w5 v2 (nopsL b1 b2 ++ copsL b3 b4) := OwnO.parts hown2 rfl
  have hOB := fun k hk => (World.ownsRow.lt hown2 k hk).1
  clear hnew hown1 hgr hor hz4 hC2 n1 nR n2 hown2
  go_wp2_with fail
  rw [rounds_succ]
  obtain ⟨g, cap, rfl, hcap, hg, hx⟩ := hP
  have hgB : w1.heap.size ≤ g := hOB g rfl
  clear hOB
  have hP : Parts w5 (.slice (some ⟨g, 0, none⟩) 2 cap) (nopsL b1 b2 ++ copsL b3 b4) := ⟨g, cap, rfl, hcap, hg, hx⟩
  have HP := Lib.hid hP
  clear hP hx hcap
  go_wp2_with fail
  refine (tuples_any _ _ _ _).mono ?_
  rintro e w6 ⟨bp, k1, k2, rfl, cp, hC, hb1⟩
  have hP := HP.out.below hb1
  clear HP hg
  replace hb0 := hb0.trans (hb1.mono hb0.size)
  replace c2 := c2.below hb1 c2.lt
  clear hb1
  have HP := Lib.hid hP
  clear hP
  obtain ⟨a0, a1, a2, a3, a4, a5, a6, a7, a8, a9⟩ := c2.c10
  obtain ⟨f0, f1, f2, f3, f4, f5, f6, f7⟩ := c2.f8
  have f8 := c2.frozen 8
  have f9 := c2.frozen 9
  go_wp2_with fail
  refine ret_cs_tmp (l := topsL bp k1 k2) Tryz.results18 Tryz.underlying55 (by kernel_rfl) rfl rfl (cs_own10 c2 rfl _ _ _ _ _ _ _ _ _ _) rfl ?_
  exact ⟨bp, k1, k2, _, b1, b2, b3, b4, rfl, cs_far10 cp (cp.ne_len c2 (show (1 : Nat) ≠ 10 by decide)) _ _ _ _ _ _ _ _ _ _, HP.out.s10 (by omega) _ _ _ _ _ _ _ _ _ _, hC.s10 c2 (by decide) _ _ _ _ _ _ _ _ _ _, below_s10 hb0 (by omega) _ _ _ _ _ _ _ _ _ _⟩
end Go.Proofs.YtafoplnpnoedfaaGreatDoor

namespace Go.Proofs.YtafoplnpnoedfaaGreatDoor
open Go.RowKit

/-- A weight of two parts, which lie in block ge. -/
abbrev pw (ge : Nat) : Value := .agg #[.bool false, .slice none 0 0, .slice none 0 0, .int .i64 0, .bool false, .int .u64 0, .slice none 0 0, .slice (some ⟨ge, 0, none⟩) 2 2]
/-- A number and a cost lie in block ge. -/
abbrev pairL (nb : Bool) (A : Option Addr) (n c : Nat) (B : Option Addr) (m e : Nat) (d : Int) (j : Bool) : List Value := [.bool nb, .slice A n c, .slice B m e, .int .i64 0, .bool false, .int .u64 0, .slice none 0 0, .slice none 0 0, .bool false, .slice none 0 0, .slice none 0 0, .int .i64 d, .bool j, .int .u64 0, .slice none 0 0, .slice none 0 0]
theorem Parts.row {w : World} {v : Value} {l : List Value} (h : Parts w v l) : ∃ g cap, v = .slice (some ⟨g, 0, none⟩) 2 cap ∧ 2 ≤ cap ∧ g < w.heap.size := by
  obtain ⟨g, cap, e, h1, h2, _⟩ := h
  exact ⟨g, cap, e, h1, h2⟩
theorem Parts.at {w : World} {g cap : Nat} {l : List Value} (h : Parts w (.slice (some ⟨g, 0, none⟩) 2 cap) l) {k : Nat} {x : Value} (hk : l[k]? = some x) : w.cell? ⟨g, k, none⟩ = some x := by
  obtain ⟨g1, cap1, e, hc, hg, hx⟩ := h
  injection e with e1 e2 e3
  injection e1 with e1
  injection e1 with e1
  subst e1 e3
  exact hx k x hk
theorem Parts.drew {w : World} {v : Value} {l : List Value} (h : Parts w v l) : Parts w.drew v l := h
theorem Parts.alloc {w : World} {v : Value} {l : List Value} (h : Parts w v l) (o : Obj) : Parts (w.alloc o) v l := h.below ((Below.refl _ _).alloc (Nat.le_refl _) _)
theorem Cs.g8 {w : World} {g : Nat} {z0 z1 z2 z3 z4 z5 z6 z7 : Value} {r : List Value} {t : TypeId} (h : Cs w g (z0 :: z1 :: z2 :: z3 :: z4 :: z5 :: z6 :: z7 :: r) t) :
    w.cell? ⟨g, 0, none⟩ = some z0 ∧ w.cell? ⟨g, 1, none⟩ = some z1 ∧ w.cell? ⟨g, 2, none⟩ = some z2 ∧ w.cell? ⟨g, 3, none⟩ = some z3 ∧ w.cell? ⟨g, 4, none⟩ = some z4 ∧ w.cell? ⟨g, 5, none⟩ = some z5 ∧ w.cell? ⟨g, 6, none⟩ = some z6 ∧ w.cell? ⟨g, 7, none⟩ = some z7 :=
  ⟨h.cell rfl, h.cell rfl, h.cell rfl, h.cell rfl, h.cell rfl, h.cell rfl, h.cell rfl, h.cell rfl⟩
theorem Cs.h8 {w : World} {g : Nat} {y0 y1 y2 y3 y4 y5 y6 y7 z0 z1 z2 z3 z4 z5 z6 z7 : Value} {r : List Value} {t : TypeId} (h : Cs w g (y0 :: y1 :: y2 :: y3 :: y4 :: y5 :: y6 :: y7 :: z0 :: z1 :: z2 :: z3 :: z4 :: z5 :: z6 :: z7 :: r) t) :
    w.cell? ⟨g, 8, none⟩ = some z0 ∧ w.cell? ⟨g, 9, none⟩ = some z1 ∧ w.cell? ⟨g, 10, none⟩ = some z2 ∧ w.cell? ⟨g, 11, none⟩ = some z3 ∧ w.cell? ⟨g, 12, none⟩ = some z4 ∧ w.cell? ⟨g, 13, none⟩ = some z5 ∧ w.cell? ⟨g, 14, none⟩ = some z6 ∧ w.cell? ⟨g, 15, none⟩ = some z7 :=
  ⟨h.cell rfl, h.cell rfl, h.cell rfl, h.cell rfl, h.cell rfl, h.cell rfl, h.cell rfl, h.cell rfl⟩
set_option maxRecDepth 20000 in
set_option maxHeartbeats 4000000 in
theorem checkTuple_prod (g cap ge : Nat) (nb : Bool) (A B : Option Addr) (n c m e : Nat) (d : Int) (j : Bool) (q : Rat) (b1 b2 b3 b4 : Nat) (w : World) (hT : Tab w) (hP : Parts w (.slice (some ⟨g, 0, none⟩) 2 cap) (nopsL b1 b2 ++ copsL b3 b4)) (hE : Cs w ge (pairL nb A n c B m e d j) 32) (hq : RatQ w (.agg #[.bool nb, .slice A n c, .slice B m e]) q) (hS : Sz q 100000) (hc : Cost d j) :
    Calls Tryz.prog 51 #[.slice (some ⟨g, 0, none⟩) 2 cap, pw ge] w (RetV w (.bool true)) := by
  obtain ⟨h0, c1⟩ := blk1 w [.bool false, .slice none 0 0, .slice none 0 0, .int .i64 0, .bool false, .int .u64 0, .slice none 0 0, .slice none 0 0] 32
  have hb0 := h0
  replace hP := hP.below h0
  replace hE := hE.below h0 hE.lt
  replace hq := hq.below h0
  replace hT := hT.below h0
  clear h0
  obtain ⟨_, _, _, hcap, hgw⟩ := hP.row
  go_enter Tryz.func51, Tryz.ntmps51
  go_wp2_with fail
  generalize (w.alloc (W8t 0 false)) = W0 at *
  refine (blank_zero _).mono ?_
  rintro e w1 ⟨rfl, hb1⟩
  replace hb0 := hb0.trans (hb1.mono hb0.size)
  replace c1 := c1.below hb1 c1.lt
  replace hE := hE.below hb1 hE.lt
  replace hP := hP.below hb1
  replace hq := hq.below hb1
  replace hT := hT.below hb1
  clear hb1
  have p0 := hP.at (k := 0) rfl
  have p1 := hP.at (k := 1) rfl
  have p2 := hP.at (k := 2) rfl
  have p3 := hP.at (k := 3) rfl
  have p4 := hP.at (k := 4) rfl
  have p5 := hP.at (k := 5) rfl
  have p6 := hP.at (k := 6) rfl
  have p7 := hP.at (k := 7) rfl
  have p8 := hP.at (k := 8) rfl
  have p9 := hP.at (k := 9) rfl
  have hP9 := Lib.hid hP
  clear hP
  go_wp2_with fail
  refine wp_loop_rounds 3 ?_
  rw [rounds_succ]
  go_wp2_with fail
  have hP := hP9.out
  clear p0 p1 p2 p3 p4 p5 p6 p7 p8 p9
  clear hP9
  have c7 := Cs.new w1 (nopsL b1 b2) 55
  have hz := hb0.size
  replace hb0 := hb0.alloc hz (.cells (nopsL b1 b2).toArray 55)
  replace hP := hP.alloc (.cells (nopsL b1 b2).toArray 55)
  replace hE := hE.alloc (.cells (nopsL b1 b2).toArray 55)
  replace c1 := c1.alloc (.cells (nopsL b1 b2).toArray 55)
  replace hq := hq.below ((Below.refl _ _).alloc (Nat.le_refl _) (.cells (nopsL b1 b2).toArray 55))
  replace hT := hT.below ((Below.refl _ _).alloc (Nat.le_refl _) (.cells (nopsL b1 b2).toArray 55))
  clear hz
  generalize (w1.alloc (.cells #[fv 117, cln b1 b2, fv 80, fv 120, fv 121, fv 91, fv 123, fv 64, fv 124, fv 125] 55)) = X0 at *
  generalize w1.heap.size = b7 at *
  replace hb0 := hb0.drew
  replace hP := hP.drew
  replace hE := hE.drew
  replace c1 := c1.drew
  replace c7 := c7.drew
  replace hq : RatQ X0.drew _ q := hq.below (Below.refl _ _).drew
  replace hT := hT.drew
  have hrl : (X0.drew.cell? ⟨b7, 0, none⟩ = some (fv 117)) ∧ (X0.drew.cell? ⟨ge, 0, none⟩ = some (.bool nb) ∧ X0.drew.cell? ⟨ge, 1, none⟩ = some (.slice A n c) ∧ X0.drew.cell? ⟨ge, 2, none⟩ = some (.slice B m e) ∧ X0.drew.cell? ⟨ge, 3, none⟩ = some (.int .i64 0) ∧ X0.drew.cell? ⟨ge, 4, none⟩ = some (.bool false) ∧ X0.drew.cell? ⟨ge, 5, none⟩ = some (.int .u64 0) ∧ X0.drew.cell? ⟨ge, 6, none⟩ = some (.slice none 0 0) ∧ X0.drew.cell? ⟨ge, 7, none⟩ = some (.slice none 0 0)) := ⟨c7.cell rfl, hE.g8⟩
  go_region_held3 (fun w' => (w'.cell? ⟨b7, 0, none⟩ = some (fv 117)) ∧ (w'.cell? ⟨ge, 0, none⟩ = some (.bool nb) ∧ w'.cell? ⟨ge, 1, none⟩ = some (.slice A n c) ∧ w'.cell? ⟨ge, 2, none⟩ = some (.slice B m e) ∧ w'.cell? ⟨ge, 3, none⟩ = some (.int .i64 0) ∧ w'.cell? ⟨ge, 4, none⟩ = some (.bool false) ∧ w'.cell? ⟨ge, 5, none⟩ = some (.int .u64 0) ∧ w'.cell? ⟨ge, 6, none⟩ = some (.slice none 0 0) ∧ w'.cell? ⟨ge, 7, none⟩ = some (.slice none 0 0)))
    (first | with_reducible exact hrl | fail)
    (first | (go_at_call 117; refine (numbers1_ok nb A B n c m e q _ hT hq hS).mono ?_; rintro e w3 ⟨rfl, hb1⟩; have hrl : (w3.cell? ⟨b7, 0, none⟩ = some (fv 117)) ∧ (w3.cell? ⟨ge, 0, none⟩ = some (.bool nb) ∧ w3.cell? ⟨ge, 1, none⟩ = some (.slice A n c) ∧ w3.cell? ⟨ge, 2, none⟩ = some (.slice B m e) ∧ w3.cell? ⟨ge, 3, none⟩ = some (.int .i64 0) ∧ w3.cell? ⟨ge, 4, none⟩ = some (.bool false) ∧ w3.cell? ⟨ge, 5, none⟩ = some (.int .u64 0) ∧ w3.cell? ⟨ge, 6, none⟩ = some (.slice none 0 0) ∧ w3.cell? ⟨ge, 7, none⟩ = some (.slice none 0 0)) := ⟨(c7.below hb1 c7.lt).cell rfl, (hE.below hb1 hE.lt).g8⟩))
  clear hrl c7
  replace hb0 := hb0.trans (hb1.mono hb0.size)
  replace c1 := c1.below hb1 c1.lt
  replace hE := hE.below hb1 hE.lt
  replace hP := hP.below hb1
  replace hq := hq.below hb1
  replace hT := hT.below hb1
  clear hb1
  have p0 := hP.at (k := 10) rfl
  have p1 := hP.at (k := 11) rfl
  have p2 := hP.at (k := 12) rfl
  have p3 := hP.at (k := 13) rfl
  have p4 := hP.at (k := 14) rfl
  have p5 := hP.at (k := 15) rfl
  have p6 := hP.at (k := 16) rfl
  have p7 := hP.at (k := 17) rfl
  have p8 := hP.at (k := 18) rfl
  have p9 := hP.at (k := 19) rfl
  have hP9 := Lib.hid hP
  clear hP
  go_wp2_with fail
  rw [rounds_succ]
  go_wp2_with fail
  have hP := hP9.out
  clear p0 p1 p2 p3 p4 p5 p6 p7 p8 p9
  clear hP9
  have c7 := Cs.new w3 (copsL b3 b4) 55
  have hz := hb0.size
  replace hb0 := hb0.alloc hz (.cells (copsL b3 b4).toArray 55)
  replace hP := hP.alloc (.cells (copsL b3 b4).toArray 55)
  replace hE := hE.alloc (.cells (copsL b3 b4).toArray 55)
  replace c1 := c1.alloc (.cells (copsL b3 b4).toArray 55)
  replace hq := hq.below ((Below.refl _ _).alloc (Nat.le_refl _) (.cells (copsL b3 b4).toArray 55))
  replace hT := hT.below ((Below.refl _ _).alloc (Nat.le_refl _) (.cells (copsL b3 b4).toArray 55))
  clear hz
  generalize (w3.alloc (.cells #[fv 79, cln b3 b4, fv 78, fv 80, fv 81, fv 82, fv 83, fv 84, fv 85, fv 86] 55)) = X1 at *
  generalize w3.heap.size = b7 at *
  replace hb0 := hb0.drew
  replace hP := hP.drew
  replace hE := hE.drew
  replace c1 := c1.drew
  replace c7 := c7.drew
  replace hq : RatQ X1.drew _ q := hq.below (Below.refl _ _).drew
  replace hT := hT.drew
  have hrl : (X1.drew.cell? ⟨b7, 0, none⟩ = some (fv 79)) ∧ (X1.drew.cell? ⟨ge, 8, none⟩ = some (.bool false) ∧ X1.drew.cell? ⟨ge, 9, none⟩ = some (.slice none 0 0) ∧ X1.drew.cell? ⟨ge, 10, none⟩ = some (.slice none 0 0) ∧ X1.drew.cell? ⟨ge, 11, none⟩ = some (.int .i64 d) ∧ X1.drew.cell? ⟨ge, 12, none⟩ = some (.bool j) ∧ X1.drew.cell? ⟨ge, 13, none⟩ = some (.int .u64 0) ∧ X1.drew.cell? ⟨ge, 14, none⟩ = some (.slice none 0 0) ∧ X1.drew.cell? ⟨ge, 15, none⟩ = some (.slice none 0 0)) := ⟨c7.cell rfl, hE.h8⟩
  go_region_held3 (fun w' => (w'.cell? ⟨b7, 0, none⟩ = some (fv 79)) ∧ (w'.cell? ⟨ge, 8, none⟩ = some (.bool false) ∧ w'.cell? ⟨ge, 9, none⟩ = some (.slice none 0 0) ∧ w'.cell? ⟨ge, 10, none⟩ = some (.slice none 0 0) ∧ w'.cell? ⟨ge, 11, none⟩ = some (.int .i64 d) ∧ w'.cell? ⟨ge, 12, none⟩ = some (.bool j) ∧ w'.cell? ⟨ge, 13, none⟩ = some (.int .u64 0) ∧ w'.cell? ⟨ge, 14, none⟩ = some (.slice none 0 0) ∧ w'.cell? ⟨ge, 15, none⟩ = some (.slice none 0 0)))
    (first | with_reducible exact hrl | fail)
    (first | (go_at_call 79; refine (checkCost_ok d j _ hc).mono ?_; rintro e w4 ⟨rfl, hb1⟩; have hrl : (w4.cell? ⟨b7, 0, none⟩ = some (fv 79)) ∧ (w4.cell? ⟨ge, 8, none⟩ = some (.bool false) ∧ w4.cell? ⟨ge, 9, none⟩ = some (.slice none 0 0) ∧ w4.cell? ⟨ge, 10, none⟩ = some (.slice none 0 0) ∧ w4.cell? ⟨ge, 11, none⟩ = some (.int .i64 d) ∧ w4.cell? ⟨ge, 12, none⟩ = some (.bool j) ∧ w4.cell? ⟨ge, 13, none⟩ = some (.int .u64 0) ∧ w4.cell? ⟨ge, 14, none⟩ = some (.slice none 0 0) ∧ w4.cell? ⟨ge, 15, none⟩ = some (.slice none 0 0)) := ⟨(c7.below hb1 c7.lt).cell rfl, (hE.below hb1 hE.lt).h8⟩))
  clear hrl c7
  replace hb0 := hb0.trans (hb1.mono hb0.size)
  replace c1 := c1.below hb1 c1.lt
  replace hE := hE.below hb1 hE.lt
  replace hP := hP.below hb1
  replace hq := hq.below hb1
  replace hT := hT.below hb1
  clear hb1
  go_wp2_with fail
  rw [rounds_succ]
  go_wp2_with fail
  go_ret
  exact ⟨rfl, hb0⟩

/-- What a product's functions need: the parts in the variable bp, and the weight's two parts in block ge. -/
def PH (w : World) (bp g cap ge : Nat) (nb : Bool) (A B : Option Addr) (n c m e : Nat) (d : Int) (j : Bool) (q : Rat) (b1 b2 b3 b4 : Nat) : Prop := Cs w bp [.slice (some ⟨g, 0, none⟩) 2 cap] 75 ∧ Parts w (.slice (some ⟨g, 0, none⟩) 2 cap) (nopsL b1 b2 ++ copsL b3 b4) ∧ Cs w ge (pairL nb A n c B m e d j) 32 ∧ RatQ w (.agg #[.bool nb, .slice A n c, .slice B m e]) q ∧ Tab w
theorem PH.below {w w' : World} {bp g cap ge : Nat} {nb : Bool} {A B : Option Addr} {n c m e : Nat} {d : Int} {j : Bool} {q : Rat} {b1 b2 b3 b4 : Nat} (h : PH w bp g cap ge nb A B n c m e d j q b1 b2 b3 b4) (hb : Below w.heap.size w w') : PH w' bp g cap ge nb A B n c m e d j q b1 b2 b3 b4 :=
  ⟨h.1.below hb h.1.lt, h.2.1.below hb, h.2.2.1.below hb h.2.2.1.lt, h.2.2.2.1.below hb, h.2.2.2.2.below hb⟩
theorem PH.drew {w : World} {bp g cap ge : Nat} {nb : Bool} {A B : Option Addr} {n c m e : Nat} {d : Int} {j : Bool} {q : Rat} {b1 b2 b3 b4 : Nat} (h : PH w bp g cap ge nb A B n c m e d j q b1 b2 b3 b4) : PH w.drew bp g cap ge nb A B n c m e d j q b1 b2 b3 b4 := h.below (Below.refl _ _).drew
theorem TCl.below {w w' : World} {bp c1 c2 : Nat} (h : TCl w bp c1 c2) (hb : Below w.heap.size w w') : TCl w' bp c1 c2 := Cl.below h hb
theorem TCl.drew {w : World} {bp c1 c2 : Nat} (h : TCl w bp c1 c2) : TCl w.drew bp c1 c2 := h.below (Below.refl _ _).drew
set_option maxRecDepth 20000 in
set_option maxHeartbeats 2000000 in
theorem tuples1_prod (bp g cap ge : Nat) (nb : Bool) (A B : Option Addr) (n c m e : Nat) (d : Int) (j : Bool) (q : Rat) (b1 b2 b3 b4 : Nat) (w : World) (h : PH w bp g cap ge nb A B n c m e d j q b1 b2 b3 b4) (hS : Sz q 100000) (hc : Cost d j) : Calls Tryz.prog 50 #[pw ge, .pointer (some ⟨bp, 0, none⟩)] w (RetV w (.bool true)) := by
  obtain ⟨h0, c1⟩ := blk1 w [.bool false, .slice none 0 0, .slice none 0 0, .int .i64 0, .bool false, .int .u64 0, .slice none 0 0, .slice (some ⟨ge, 0, none⟩) 2 2] 32
  replace h := h.below h0
  have p0 := h.1.cell (k := 0) rfl
  go_enter Tryz.func50, Tryz.ntmps50
  go_wp2_with fail
  refine (checkTuple_prod g cap ge nb A B n c m e d j q b1 b2 b3 b4 _ h.2.2.2.2 h.2.1 h.2.2.1 h.2.2.2.1 hS hc).mono ?_
  rintro e w1 ⟨rfl, hb1⟩
  go_wp2_with fail
  go_ret
  exact ⟨rfl, h0.trans (hb1.mono h0.size)⟩

set_option maxRecDepth 20000 in
set_option maxHeartbeats 2000000 in
theorem cln_prod (bp c1 c2 g cap ge : Nat) (nb : Bool) (A B : Option Addr) (n c m e : Nat) (d : Int) (j : Bool) (q : Rat) (b1 b2 b3 b4 : Nat) (w : World) (h : PH w bp g cap ge nb A B n c m e d j q b1 b2 b3 b4) (hC : TCl w bp c1 c2) (hS : Sz q 100000) (hc : Cost d j) : Calls Tryz.prog 128 #[pw ge, .pointer (some ⟨c1, 0, none⟩), .pointer (some ⟨c2, 0, none⟩)] w (RetV w (pw ge)) := by
  obtain ⟨hb0, cv, cr⟩ := blk2 w [.bool false, .slice none 0 0, .slice none 0 0, .int .i64 0, .bool false, .int .u64 0, .slice none 0 0, .slice (some ⟨ge, 0, none⟩) 2 2] [.bool false, .slice none 0 0, .slice none 0 0, .int .i64 0, .bool false, .int .u64 0, .slice none 0 0, .slice none 0 0] 32 32
  replace h := h.below hb0
  have k1 := ((hC.1.alloc (.cells #[.bool false, .slice none 0 0, .slice none 0 0, .int .i64 0, .bool false, .int .u64 0, .slice none 0 0, .slice (some ⟨ge, 0, none⟩) 2 2] 32)).alloc (W8t 0 false)).cell (k := 0) rfl
  go_enter Tryz.func128, Tryz.ntmps128
  go_wp2_with (fail)
  go_at_call 50
  generalize ((w.alloc (.cells #[.bool false, .slice none 0 0, .slice none 0 0, .int .i64 0, .bool false, .int .u64 0, .slice none 0 0, .slice (some ⟨ge, 0, none⟩) 2 2] 32)).alloc (W8t 0 false)) = W0 at *
  refine (tuples1_prod bp g cap ge nb A B n c m e d j q b1 b2 b3 b4 _ h hS hc).mono ?_
  rintro e w1 ⟨rfl, hb1⟩
  replace hb0 := hb0.trans (hb1.mono hb0.size)
  replace cv := cv.below hb1 cv.lt
  replace cr := cr.below hb1 cr.lt
  clear hb1
  obtain ⟨a0, a1, a2, a3, a4, a5, a6, a7⟩ := cv.c8
  obtain ⟨g0, g1, g2, g3, g4, g5, g6, g7⟩ := cr.f8
  obtain ⟨e0, e1, e2, e3, e4, e5, e6, e7⟩ := cr.c8
  go_wp2_with fail
  refine ret_cs (l := [.bool false, .slice none 0 0, .slice none 0 0, .int .i64 0, .bool false, .int .u64 0, .slice none 0 0, .slice (some ⟨ge, 0, none⟩) 2 2]) Tryz.results128 Tryz.underlying32 (by kernel_rfl) rfl (cs_own8 cr rfl _ _ _ _ _ _ _ _) rfl ?_
  exact ⟨rfl, below_s8 hb0 (by omega) _ _ _ _ _ _ _ _⟩
end Go.Proofs.YtafoplnpnoedfaaGreatDoor

namespace Go.Proofs.YtafoplnpnoedfaaGreatDoor
open Go.RowKit

theorem grown_below' {w w' : World} {row : Option Nat} (h : Below w.heap.size w w') : w.grownBy w' row := ⟨h.os, h.tape, h.output, h.size, fun k hk _ => h.block k hk⟩
theorem grown_tr {a b c : World} {row : Option Nat} (h : a.grownBy b row) (k : b.grownBy c row) : a.grownBy c row :=
  ⟨k.os.trans h.os, k.tape.trans h.tape, k.output.trans h.output, Nat.le_trans h.size k.size, fun x hx hne => (k.block x (Nat.lt_of_lt_of_le hx h.size) hne).trans (h.block x hx hne)⟩
theorem grown_set {a b : World} {g : Nat} (h : a.grownBy b (some g)) (k : Nat) (u : Value) : a.grownBy (b.setCell ⟨g, k, none⟩ u) (some g) :=
  grown_tr h ⟨rfl, rfl, rfl, by simp, fun x _ hne => Below.heap_setCell b ⟨g, k, none⟩ u x (fun e => hne (by rw [e]))⟩
theorem grown_set' {a b : World} {row : Option Nat} {g : Nat} (h : a.grownBy b row) (hg : a.heap.size ≤ g) (k : Nat) (u : Value) : a.grownBy (b.setCell ⟨g, k, none⟩ u) row :=
  ⟨h.os, h.tape, h.output, by simpa using h.size, fun x hx hne => (Below.heap_setCell b ⟨g, k, none⟩ u x (fun e => by simp at e; omega)).trans (h.block x hx hne)⟩
theorem grown_sL {a : World} {row : Option Nat} {g : Nat} (hg : a.heap.size ≤ g) : ∀ (us : List Value) (k : Nat) {b : World}, a.grownBy b row → a.grownBy (setL b g k us) row
  | [], _, _, h => h
  | u :: us, k, _, h => grown_sL hg us (k + 1) (grown_set' h hg k u)
theorem grown_s8 {a b : World} {row : Option Nat} {g : Nat} (h : a.grownBy b row) (hg : a.heap.size ≤ g) (u0 u1 u2 u3 u4 u5 u6 u7 : Value) : a.grownBy ((((((((b.setCell ⟨g, 0, none⟩ u0).setCell ⟨g, 1, none⟩ u1).setCell ⟨g, 2, none⟩ u2).setCell ⟨g, 3, none⟩ u3).setCell ⟨g, 4, none⟩ u4).setCell ⟨g, 5, none⟩ u5).setCell ⟨g, 6, none⟩ u6).setCell ⟨g, 7, none⟩ u7) row := grown_sL hg [u0, u1, u2, u3, u4, u5, u6, u7] 0 h
theorem grown_h8 {a b : World} {row : Option Nat} {g : Nat} (h : a.grownBy b row) (hg : a.heap.size ≤ g) (u0 u1 u2 u3 u4 u5 u6 u7 : Value) : a.grownBy ((((((((b.setCell ⟨g, 8, none⟩ u0).setCell ⟨g, 9, none⟩ u1).setCell ⟨g, 10, none⟩ u2).setCell ⟨g, 11, none⟩ u3).setCell ⟨g, 12, none⟩ u4).setCell ⟨g, 13, none⟩ u5).setCell ⟨g, 14, none⟩ u6).setCell ⟨g, 15, none⟩ u7) row := grown_sL hg [u0, u1, u2, u3, u4, u5, u6, u7] 8 h
theorem grown_al {a b : World} {row : Option Nat} (h : a.grownBy b row) (o : Obj) : a.grownBy (b.alloc o) row := grown_tr h (grown_below' ((Below.refl _ _).alloc (Nat.le_refl _) _))
theorem RatQ.gr {w w' : World} {v : Value} {q : Rat} {g : Nat} {u : Value} {t : TypeId} (h : RatQ w v q) (hg : w.grownBy w' (some g)) (hr : Cs w g [u] t) (hu : ∀ x : Nat, u ≠ .int .u32 (x : Int)) : RatQ w' v q := by
  obtain ⟨A, n, c, A', m, c', e, h1, h2⟩ := h
  have key : ∀ {l : List Nat} {A : Option Addr} {n c : Nat}, Num w l A n c → Num w' l A n c := by
    intro l A n c hh
    have hne := hh.ne_cs hr (by intro v hv x; simp at hv; subst hv; exact hu x)
    refine ⟨hh.len, hh.cap, hh.lim, fun hn => ?_⟩
    obtain ⟨b, o, hA, hb, hc⟩ := hh.cells hn
    have h9 := hne hn _ hA
    have hs := hg.size
    exact ⟨b, o, hA, by omega, fun k x hx => (World.cell?_of_block (w := w) (hg.block b hb (fun e => h9 (Option.some.inj e)))).trans (hc k x hx)⟩
  exact ⟨A, n, c, A', m, c', e, key h1, key h2⟩
theorem Parts.gr {w w' : World} {g cap gk : Nat} {l : List Value} (h : Parts w (.slice (some ⟨g, 0, none⟩) 2 cap) l) (hg : w.grownBy w' (some gk)) (hne : g ≠ gk) : Parts w' (.slice (some ⟨g, 0, none⟩) 2 cap) l := by
  obtain ⟨g1, cap1, e, hc, hg1, hx⟩ := h
  injection e with e1 e2 e3
  injection e1 with e1
  injection e1 with e1
  subst e1 e3
  have hs := hg.size
  exact ⟨g, cap, rfl, hc, by omega, fun k x hk => (World.cell?_of_block (w := w) (hg.block g hg1 (fun e => hne (Option.some.inj e)))).trans (hx k x hk)⟩
theorem Cs.gr {w w' : World} {g gk : Nat} {l : List Value} {t : TypeId} (h : Cs w g l t) (hg : w.grownBy w' (some gk)) (hne : g ≠ gk) : Cs w' g l t := h.grown hg (fun e => hne (Option.some.inj e))
def SRelN (w0 : World) (r : Rat) (p b : Value) (wx : World) : Prop :=
  ∃ g nr Ar kr cr Br mr er, p = .pointer (some ⟨g, 0, none⟩) ∧ b = .bool true ∧ Cs wx g [.bool nr, .slice Ar kr cr, .slice Br mr er, .int .i64 0, .bool false, .int .u64 0, .slice none 0 0, .slice none 0 0] 32 ∧ w0.heap.size ≤ g ∧ RatQ wx (.agg #[.bool nr, .slice Ar kr cr, .slice Br mr er]) r ∧ Below w0.heap.size w0 wx
theorem srelN1 {w0 W : World} {r : Rat} {nr : Bool} {Ar Br : Option Addr} {kr cr mr er : Nat} (hb : Below w0.heap.size w0 W) (h : RatQ W (.agg #[.bool nr, .slice Ar kr cr, .slice Br mr er]) r) : SRelN w0 r (.pointer (some ⟨W.heap.size, 0, none⟩)) (.bool true) (W.alloc (.cells #[.bool nr, .slice Ar kr cr, .slice Br mr er, .int .i64 0, .bool false, .int .u64 0, .slice none 0 0, .slice none 0 0] 32)) := by
  have hx := blk1 W [.bool nr, .slice Ar kr cr, .slice Br mr er, .int .i64 0, .bool false, .int .u64 0, .slice none 0 0, .slice none 0 0] 32
  exact ⟨_, _, _, _, _, _, _, _, rfl, rfl, hx.2, hb.size, h.below hx.1, hb.trans (hx.1.mono hb.size)⟩
theorem srelN2 {w0 W : World} {r : Rat} {nr : Bool} {Ar Br : Option Addr} {kr cr mr er g : Nat} (hb : Below w0.heap.size w0 W) (hg : w0.heap.size ≤ g) (hA : Cs W g [.bool false, .slice none 0 0, .slice none 0 0, .int .i64 0, .bool false, .int .u64 0, .slice none 0 0, .slice none 0 0] 32) (h : RatQ W (.agg #[.bool nr, .slice Ar kr cr, .slice Br mr er]) r) : SRelN w0 r (.pointer (some ⟨g, 0, none⟩)) (.bool true) ((((((((W.setCell ⟨g, 0, none⟩ (.bool nr)).setCell ⟨g, 1, none⟩ (.slice Ar kr cr)).setCell ⟨g, 2, none⟩ (.slice Br mr er)).setCell ⟨g, 3, none⟩ (.int .i64 0)).setCell ⟨g, 4, none⟩ (.bool false)).setCell ⟨g, 5, none⟩ (.int .u64 0)).setCell ⟨g, 6, none⟩ (.slice none 0 0)).setCell ⟨g, 7, none⟩ (.slice none 0 0)) :=
  ⟨_, _, _, _, _, _, _, _, rfl, rfl, cs_own8 hA rfl _ _ _ _ _ _ _ _, hg, h.s8 hA (by simp) _ _ _ _ _ _ _ _, below_s8 hb hg _ _ _ _ _ _ _ _⟩
def SRelC (w0 : World) (p b : Value) (wx : World) : Prop :=
  ∃ g, p = .pointer (some ⟨g, 0, none⟩) ∧ b = .bool true ∧ Cs wx g [.bool false, .slice none 0 0, .slice none 0 0, .int .i64 0, .bool false, .int .u64 0, .slice none 0 0, .slice none 0 0] 32 ∧ w0.heap.size ≤ g ∧ Below w0.heap.size w0 wx
theorem srelC1 {w0 W : World} (hb : Below w0.heap.size w0 W) : SRelC w0 (.pointer (some ⟨W.heap.size, 0, none⟩)) (.bool true) (W.alloc (.cells #[.bool false, .slice none 0 0, .slice none 0 0, .int .i64 0, .bool false, .int .u64 0, .slice none 0 0, .slice none 0 0] 32)) := by
  have hx := blk1 W [.bool false, .slice none 0 0, .slice none 0 0, .int .i64 0, .bool false, .int .u64 0, .slice none 0 0, .slice none 0 0] 32
  exact ⟨_, rfl, rfl, hx.2, hb.size, hb.trans (hx.1.mono hb.size)⟩
theorem srelC2 {w0 W : World} {g : Nat} (hb : Below w0.heap.size w0 W) (hg : w0.heap.size ≤ g) (hA : Cs W g [.bool false, .slice none 0 0, .slice none 0 0, .int .i64 0, .bool false, .int .u64 0, .slice none 0 0, .slice none 0 0] 32) : SRelC w0 (.pointer (some ⟨g, 0, none⟩)) (.bool true) ((((((((W.setCell ⟨g, 0, none⟩ (.bool false)).setCell ⟨g, 1, none⟩ (.slice none 0 0)).setCell ⟨g, 2, none⟩ (.slice none 0 0)).setCell ⟨g, 3, none⟩ (.int .i64 0)).setCell ⟨g, 4, none⟩ (.bool false)).setCell ⟨g, 5, none⟩ (.int .u64 0)).setCell ⟨g, 6, none⟩ (.slice none 0 0)).setCell ⟨g, 7, none⟩ (.slice none 0 0)) :=
  ⟨_, rfl, rfl, cs_own8 hA rfl _ _ _ _ _ _ _ _, hg, below_s8 hb hg _ _ _ _ _ _ _ _⟩
set_option maxRecDepth 20000 in
set_option maxHeartbeats 8000000 in
theorem starElem_num (gw gk ge : Nat) (nb : Bool) (A B : Option Addr) (n c m e : Nat) (d : Int) (j : Bool) (q : Rat) (b1 b2 : Nat) (w : World) (cw : Cs w gw [.bool false, .slice none 0 0, .slice none 0 0, .int .i64 0, .bool false, .int .u64 0, .slice none 0 0, .slice (some ⟨ge, 0, none⟩) 2 2] 32) (ck : Cs w gk [.bool true] 4) (hE : Cs w ge (pairL nb A n c B m e d j) 32) (a s r : Rat) (hT : Tab w) (hq : RatQ w (.agg #[.bool nb, .slice A n c, .slice B m e]) q) (hS : Sz q 100000) (ha : Hid (qv false q.num.natAbs q.den = a)) (hSa : Sz a 100000) (HC : Hid (cmpQ a 1 = -1)) (HS : Hid (1 - q = s)) (hSs : Sz s 100000) (HS0 : Hid (s ≠ 0)) (HR : Hid (1 / s = r)) : Calls Tryz.prog 129 #[.int .i64 0, .agg #[fv 117, cln b1 b2, fv 80, fv 120, fv 121, fv 91, fv 123, fv 64, fv 124, fv 125], .pointer (some ⟨gw, 0, none⟩), .pointer (some ⟨gk, 0, none⟩)] w (fun e0 w' => ∃ nr Ar kr cr Br mr er, e0 = .returned (.agg #[.bool nr, .slice Ar kr cr, .slice Br mr er, .int .i64 0, .bool false, .int .u64 0, .slice none 0 0, .slice none 0 0]) ∧ RatQ w' (.agg #[.bool nr, .slice Ar kr cr, .slice Br mr er]) r ∧ w.grownBy w' (some gk) ∧ Cs w' gk [.bool true] 4) := by
  have kw := cw.lt
  have kk := ck.lt
  have ke := hE.lt
  obtain ⟨hb0, c5, c6⟩ := blk2 w (nopsL b1 b2) [.bool false, .slice none 0 0, .slice none 0 0, .int .i64 0, .bool false, .int .u64 0, .slice none 0 0, .slice none 0 0] 55 32
  replace cw := cw.below hb0 kw
  replace ck := ck.below hb0 kk
  replace hE := hE.below hb0 ke
  replace hq := hq.below hb0
  replace hT := hT.below hb0
  go_enter Tryz.func129, Tryz.ntmps129
  have hrl0 := c5.lt
  go_wp2_with fail
  generalize ((w.alloc (.cells #[fv 117, cln b1 b2, fv 80, fv 120, fv 121, fv 91, fv 123, fv 64, fv 124, fv 125] 55)).alloc (W8t 0 false)) = W0 at *
  replace c5 := c5.drew
  replace c6 := c6.drew
  replace cw := cw.drew
  replace ck := ck.drew
  replace hE := hE.drew
  replace hq : RatQ W0.drew _ q := hq.below (Below.refl _ _).drew
  replace hT := hT.drew
  have hb9 := hb0.drew
  replace hb0 : Below W0.drew.heap.size W0.drew W0.drew := Below.refl _ _
  have hz0 := hb9.size
  have hdz1 : W0.drew.heap.size ≤ W0.heap.size := Nat.le_refl _
  have hdz2 : W0.heap.size ≤ W0.drew.heap.size := Nat.le_refl _
  have l0c5 := c5.lt
  have l0cw := cw.lt
  have l0hE := hE.lt
  have hrl : (W0.drew.cell? ⟨w.heap.size, 6, none⟩ = some (fv 123)) ∧ (W0.drew.cell? ⟨gw, 7, none⟩ = some (.slice (some ⟨ge, 0, none⟩) 2 2)) ∧ (W0.drew.cell? ⟨ge, 0, none⟩ = some (.bool nb) ∧ W0.drew.cell? ⟨ge, 1, none⟩ = some (.slice A n c) ∧ W0.drew.cell? ⟨ge, 2, none⟩ = some (.slice B m e) ∧ W0.drew.cell? ⟨ge, 3, none⟩ = some (.int .i64 0) ∧ W0.drew.cell? ⟨ge, 4, none⟩ = some (.bool false) ∧ W0.drew.cell? ⟨ge, 5, none⟩ = some (.int .u64 0) ∧ W0.drew.cell? ⟨ge, 6, none⟩ = some (.slice none 0 0) ∧ W0.drew.cell? ⟨ge, 7, none⟩ = some (.slice none 0 0)) := ⟨c5.cell rfl, cw.cell rfl, hE.g8⟩
  have hcell : W0.drew.cell? ⟨ge, 0, none⟩ = some (.bool nb) := hE.cell rfl
  go_cut [7, 8] from 9 to 19 (fun p b wx => SRelN W0.drew r p b wx)
  case first =>
    go_region_held3 (fun w' => (w'.cell? ⟨w.heap.size, 6, none⟩ = some (fv 123)) ∧ (w'.cell? ⟨gw, 7, none⟩ = some (.slice (some ⟨ge, 0, none⟩) 2 2)) ∧ (w'.cell? ⟨ge, 0, none⟩ = some (.bool nb) ∧ w'.cell? ⟨ge, 1, none⟩ = some (.slice A n c) ∧ w'.cell? ⟨ge, 2, none⟩ = some (.slice B m e) ∧ w'.cell? ⟨ge, 3, none⟩ = some (.int .i64 0) ∧ w'.cell? ⟨ge, 4, none⟩ = some (.bool false) ∧ w'.cell? ⟨ge, 5, none⟩ = some (.int .u64 0) ∧ w'.cell? ⟨ge, 6, none⟩ = some (.slice none 0 0) ∧ w'.cell? ⟨ge, 7, none⟩ = some (.slice none 0 0)))
        (first | with_reducible exact hrl | ((with_reducible refine ⟨?_, ?_, ⟨?_, ?_, ?_, ?_, ?_, ?_, ?_, ?_⟩⟩) <;> (repeat' (first | (with_reducible exact hrl.1) | (with_reducible exact hrl.2.1) | (with_reducible exact hrl.2.2.1) | (with_reducible exact hrl.2.2.2.1) | (with_reducible exact hrl.2.2.2.2.1) | (with_reducible exact hrl.2.2.2.2.2.1) | (with_reducible exact hrl.2.2.2.2.2.2.1) | (with_reducible exact hrl.2.2.2.2.2.2.2.1) | (with_reducible exact hrl.2.2.2.2.2.2.2.2.1) | (with_reducible exact hrl.2.2.2.2.2.2.2.2.2) | (with_reducible refine cell_alc _ ?_) | (with_reducible refine cell_alc_d _ ?_) | (with_reducible refine cell_st ?_ ?_) | omega))) | fail)
        (first
          | ((with_reducible change Calls _ _ _ (W0.drew) _); go_at_call 123; refine (starOfNumber_in nb A B n c m e q a s r _ hT hq hS ha hSa HC HS hSs HS0 HR).mono ?_; rintro e x1 ⟨y1, rfl, hN, hbk⟩; replace hb0 := hb0.trans (hbk.mono hb0.size); replace c5 := c5.below hbk c5.lt; replace c6 := c6.below hbk c6.lt; replace cw := cw.below hbk cw.lt; replace ck := ck.below hbk ck.lt; replace hE := hE.below hbk hE.lt; replace hq := hq.below hbk; replace hT := hT.below hbk; (try replace rA := rA.below hbk rA.lt); have m1 := Lib.hid (rfl : 1 = 1); have hz1 := hb0.size; have l1c5 := c5.lt; have l1cw := cw.lt; have l1hE := hE.lt; have hrl : (x1.cell? ⟨w.heap.size, 6, none⟩ = some (fv 123)) ∧ (x1.cell? ⟨gw, 7, none⟩ = some (.slice (some ⟨ge, 0, none⟩) 2 2)) ∧ (x1.cell? ⟨ge, 0, none⟩ = some (.bool nb) ∧ x1.cell? ⟨ge, 1, none⟩ = some (.slice A n c) ∧ x1.cell? ⟨ge, 2, none⟩ = some (.slice B m e) ∧ x1.cell? ⟨ge, 3, none⟩ = some (.int .i64 0) ∧ x1.cell? ⟨ge, 4, none⟩ = some (.bool false) ∧ x1.cell? ⟨ge, 5, none⟩ = some (.int .u64 0) ∧ x1.cell? ⟨ge, 6, none⟩ = some (.slice none 0 0) ∧ x1.cell? ⟨ge, 7, none⟩ = some (.slice none 0 0)) := ⟨c5.cell rfl, cw.cell rfl, hE.g8⟩; obtain ⟨nr, Ar, kr, cr, Br, mr, er, rfl, hr⟩ := hN; (try (have e0 := rA.at 0 (by decide); have q0 := rA.frozen 0; have e1 := rA.at 1 (by decide); have q1 := rA.frozen 1; have e2 := rA.at 2 (by decide); have q2 := rA.frozen 2; have e3 := rA.at 3 (by decide); have q3 := rA.frozen 3; have e4 := rA.at 4 (by decide); have q4 := rA.frozen 4; have e5 := rA.at 5 (by decide); have q5 := rA.frozen 5; have e6 := rA.at 6 (by decide); have q6 := rA.frozen 6; have e7 := rA.at 7 (by decide); have q7 := rA.frozen 7; have lA := rA.lt)))
          | ((with_reducible change Calls _ _ _ ((W0.alloc (.cells #[.bool false, .slice none 0 0, .slice none 0 0, .int .i64 0, .bool false, .int .u64 0, .slice none 0 0, .slice none 0 0] 32)).drew) _); go_at_call 123; have hal : Below (W0.drew).heap.size (W0.drew) ((W0.alloc (.cells #[.bool false, .slice none 0 0, .slice none 0 0, .int .i64 0, .bool false, .int .u64 0, .slice none 0 0, .slice none 0 0] 32)).drew) := (Below.refl _ _).alloc (Nat.le_refl _) _; have rA : Cs ((W0.alloc (.cells #[.bool false, .slice none 0 0, .slice none 0 0, .int .i64 0, .bool false, .int .u64 0, .slice none 0 0, .slice none 0 0] 32)).drew) W0.heap.size [.bool false, .slice none 0 0, .slice none 0 0, .int .i64 0, .bool false, .int .u64 0, .slice none 0 0, .slice none 0 0] 32 := Cs.new W0 _ _; replace hb0 := hb0.trans (hal.mono hb0.size); replace c5 := c5.below hal c5.lt; replace c6 := c6.below hal c6.lt; replace cw := cw.below hal cw.lt; replace ck := ck.below hal ck.lt; replace hE := hE.below hal hE.lt; replace hq := hq.below hal; replace hT := hT.below hal; refine (starOfNumber_in nb A B n c m e q a s r _ hT hq hS ha hSa HC HS hSs HS0 HR).mono ?_; rintro e x1 ⟨y1, rfl, hN, hbk⟩; replace hb0 := hb0.trans (hbk.mono hb0.size); replace c5 := c5.below hbk c5.lt; replace c6 := c6.below hbk c6.lt; replace cw := cw.below hbk cw.lt; replace ck := ck.below hbk ck.lt; replace hE := hE.below hbk hE.lt; replace hq := hq.below hbk; replace hT := hT.below hbk; replace rA := rA.below hbk rA.lt; have m1 := Lib.hid (rfl : 1 = 1); have hz1 := hb0.size; have l1c5 := c5.lt; have l1cw := cw.lt; have l1hE := hE.lt; have hrl : (x1.cell? ⟨w.heap.size, 6, none⟩ = some (fv 123)) ∧ (x1.cell? ⟨gw, 7, none⟩ = some (.slice (some ⟨ge, 0, none⟩) 2 2)) ∧ (x1.cell? ⟨ge, 0, none⟩ = some (.bool nb) ∧ x1.cell? ⟨ge, 1, none⟩ = some (.slice A n c) ∧ x1.cell? ⟨ge, 2, none⟩ = some (.slice B m e) ∧ x1.cell? ⟨ge, 3, none⟩ = some (.int .i64 0) ∧ x1.cell? ⟨ge, 4, none⟩ = some (.bool false) ∧ x1.cell? ⟨ge, 5, none⟩ = some (.int .u64 0) ∧ x1.cell? ⟨ge, 6, none⟩ = some (.slice none 0 0) ∧ x1.cell? ⟨ge, 7, none⟩ = some (.slice none 0 0)) := ⟨c5.cell rfl, cw.cell rfl, hE.g8⟩; obtain ⟨nr, Ar, kr, cr, Br, mr, er, rfl, hr⟩ := hN; (try (have e0 := rA.at 0 (by decide); have q0 := rA.frozen 0; have e1 := rA.at 1 (by decide); have q1 := rA.frozen 1; have e2 := rA.at 2 (by decide); have q2 := rA.frozen 2; have e3 := rA.at 3 (by decide); have q3 := rA.frozen 3; have e4 := rA.at 4 (by decide); have q4 := rA.frozen 4; have e5 := rA.at 5 (by decide); have q5 := rA.frozen 5; have e6 := rA.at 6 (by decide); have q6 := rA.frozen 6; have e7 := rA.at 7 (by decide); have q7 := rA.frozen 7; have lA := rA.lt))))
    all_goals
      (try clear e0 e1 e2 e3 e4 e5 e6 e7 q0 q1 q2 q3 q4 q5 q6 q7)
      go_wp2_with fail
      go_meet
      case rel => first | with_reducible exact srelN1 hb0 hr | with_reducible exact srelN2 hb0 (by omega) rA hr | fail
  case rest =>
    obtain ⟨g, nr, Ar, kr, cr, Br, mr, er, rfl, rfl, rA, hg, hr, hbq⟩ := hcut
    have d6 := c6.below hbq c6.lt
    have dk := ck.below hbq ck.lt
    have lk := ck.lt
    have r0 := dk.cell (k := 0) rfl
    have r1 := dk.frozen 0
    have e6 := d6.far (p := ⟨gk, 0, none⟩) (by simp; omega) (.bool true)
    have eA := rA.far (p := ⟨gk, 0, none⟩) (by simp; omega) (.bool true)
    obtain ⟨u0, u1, u2, u3, u4, u5, u6, u7⟩ := e6.c8
    obtain ⟨v0, v1, v2, v3, v4, v5, v6, v7⟩ := e6.f8
    obtain ⟨y0, y1, y2, y3, y4, y5, y6, y7⟩ := eA.c8
    have hq1 : ¬ gk = g := by omega
    have hq2 : ¬ g = gk := by omega
    have hq3 : ¬ gk = w.heap.size + 1 := by omega
    have hq4 : ¬ w.heap.size + 1 = gk := by omega
    have hG := grown_set (grown_below' (row := some gk) (hb9.trans (hbq.mono hz0))) 0 (.bool true)
    have dk2 := dk.set 0 (.bool true)
    go_wp2_with fail
    refine ret_cs (l := [.bool nr, .slice Ar kr cr, .slice Br mr er, .int .i64 0, .bool false, .int .u64 0, .slice none 0 0, .slice none 0 0]) Tryz.results129 Tryz.underlying32 (by kernel_rfl) rfl (cs_own8 e6 rfl _ _ _ _ _ _ _ _) rfl ?_
    exact ⟨nr, Ar, kr, cr, Br, mr, er, rfl, ((hr.gr (grown_set (grown_below' (Below.refl _ _)) 0 (.bool true)) dk (by simp)).s8 e6 (by simp) _ _ _ _ _ _ _ _), grown_s8 hG (by omega) _ _ _ _ _ _ _ _, cs_far8 dk2 hq3 _ _ _ _ _ _ _ _⟩

set_option maxRecDepth 20000 in
set_option maxHeartbeats 8000000 in
theorem starElem_cost (gw gk ge : Nat) (nb : Bool) (A B : Option Addr) (n c m e : Nat) (d : Int) (j : Bool) (b3 b4 : Nat) (w : World) (cw : Cs w gw [.bool false, .slice none 0 0, .slice none 0 0, .int .i64 0, .bool false, .int .u64 0, .slice none 0 0, .slice (some ⟨ge, 0, none⟩) 2 2] 32) (ck : Cs w gk [.bool true] 4) (hE : Cs w ge (pairL nb A n c B m e d j) 32) : Calls Tryz.prog 129 #[.int .i64 1, .agg #[fv 79, cln b3 b4, fv 78, fv 80, fv 81, fv 82, fv 83, fv 84, fv 85, fv 86], .pointer (some ⟨gw, 0, none⟩), .pointer (some ⟨gk, 0, none⟩)] w (fun e0 w' => e0 = .returned (.agg #[.bool false, .slice none 0 0, .slice none 0 0, .int .i64 0, .bool false, .int .u64 0, .slice none 0 0, .slice none 0 0]) ∧ w.grownBy w' (some gk) ∧ Cs w' gk [.bool true] 4) := by
  have kw := cw.lt
  have kk := ck.lt
  have ke := hE.lt
  obtain ⟨hb0, c5, c6⟩ := blk2 w (copsL b3 b4) [.bool false, .slice none 0 0, .slice none 0 0, .int .i64 0, .bool false, .int .u64 0, .slice none 0 0, .slice none 0 0] 55 32
  replace cw := cw.below hb0 kw
  replace ck := ck.below hb0 kk
  replace hE := hE.below hb0 ke
  go_enter Tryz.func129, Tryz.ntmps129
  have hrl0 := c5.lt
  go_wp2_with fail
  generalize ((w.alloc (.cells #[fv 79, cln b3 b4, fv 78, fv 80, fv 81, fv 82, fv 83, fv 84, fv 85, fv 86] 55)).alloc (W8t 0 false)) = W0 at *
  replace c5 := c5.drew
  replace c6 := c6.drew
  replace cw := cw.drew
  replace ck := ck.drew
  replace hE := hE.drew
  have hb9 := hb0.drew
  replace hb0 : Below W0.drew.heap.size W0.drew W0.drew := Below.refl _ _
  have hz0 := hb9.size
  have hdz1 : W0.drew.heap.size ≤ W0.heap.size := Nat.le_refl _
  have hdz2 : W0.heap.size ≤ W0.drew.heap.size := Nat.le_refl _
  have l0c5 := c5.lt
  have l0cw := cw.lt
  have l0hE := hE.lt
  have hrl : (W0.drew.cell? ⟨w.heap.size, 6, none⟩ = some (fv 83)) ∧ (W0.drew.cell? ⟨gw, 7, none⟩ = some (.slice (some ⟨ge, 0, none⟩) 2 2)) ∧ (W0.drew.cell? ⟨ge, 8, none⟩ = some (.bool false) ∧ W0.drew.cell? ⟨ge, 9, none⟩ = some (.slice none 0 0) ∧ W0.drew.cell? ⟨ge, 10, none⟩ = some (.slice none 0 0) ∧ W0.drew.cell? ⟨ge, 11, none⟩ = some (.int .i64 d) ∧ W0.drew.cell? ⟨ge, 12, none⟩ = some (.bool j) ∧ W0.drew.cell? ⟨ge, 13, none⟩ = some (.int .u64 0) ∧ W0.drew.cell? ⟨ge, 14, none⟩ = some (.slice none 0 0) ∧ W0.drew.cell? ⟨ge, 15, none⟩ = some (.slice none 0 0)) := ⟨c5.cell rfl, cw.cell rfl, hE.h8⟩
  have hcell : W0.drew.cell? ⟨ge, 8, none⟩ = some (.bool false) := hE.cell rfl
  go_cut [7, 8] from 9 to 19 (fun p b wx => SRelC W0.drew p b wx)
  case first =>
    go_region_held3 (fun w' => (w'.cell? ⟨w.heap.size, 6, none⟩ = some (fv 83)) ∧ (w'.cell? ⟨gw, 7, none⟩ = some (.slice (some ⟨ge, 0, none⟩) 2 2)) ∧ (w'.cell? ⟨ge, 8, none⟩ = some (.bool false) ∧ w'.cell? ⟨ge, 9, none⟩ = some (.slice none 0 0) ∧ w'.cell? ⟨ge, 10, none⟩ = some (.slice none 0 0) ∧ w'.cell? ⟨ge, 11, none⟩ = some (.int .i64 d) ∧ w'.cell? ⟨ge, 12, none⟩ = some (.bool j) ∧ w'.cell? ⟨ge, 13, none⟩ = some (.int .u64 0) ∧ w'.cell? ⟨ge, 14, none⟩ = some (.slice none 0 0) ∧ w'.cell? ⟨ge, 15, none⟩ = some (.slice none 0 0)))
        (first | with_reducible exact hrl | ((with_reducible refine ⟨?_, ?_, ⟨?_, ?_, ?_, ?_, ?_, ?_, ?_, ?_⟩⟩) <;> (repeat' (first | (with_reducible exact hrl.1) | (with_reducible exact hrl.2.1) | (with_reducible exact hrl.2.2.1) | (with_reducible exact hrl.2.2.2.1) | (with_reducible exact hrl.2.2.2.2.1) | (with_reducible exact hrl.2.2.2.2.2.1) | (with_reducible exact hrl.2.2.2.2.2.2.1) | (with_reducible exact hrl.2.2.2.2.2.2.2.1) | (with_reducible exact hrl.2.2.2.2.2.2.2.2.1) | (with_reducible exact hrl.2.2.2.2.2.2.2.2.2) | (with_reducible refine cell_alc _ ?_) | (with_reducible refine cell_alc_d _ ?_) | (with_reducible refine cell_st ?_ ?_) | omega))) | fail)
        (first
          | ((with_reducible change Calls _ _ _ (W0.drew) _); go_at_call 83; refine (costs2_any d j _).mono ?_; rintro e x1 ⟨rfl, hbk⟩; replace hb0 := hb0.trans (hbk.mono hb0.size); replace c5 := c5.below hbk c5.lt; replace c6 := c6.below hbk c6.lt; replace cw := cw.below hbk cw.lt; replace ck := ck.below hbk ck.lt; replace hE := hE.below hbk hE.lt; (try replace rA := rA.below hbk rA.lt); have m1 := Lib.hid (rfl : 1 = 1); have hz1 := hb0.size; have l1c5 := c5.lt; have l1cw := cw.lt; have l1hE := hE.lt; have hrl : (x1.cell? ⟨w.heap.size, 6, none⟩ = some (fv 83)) ∧ (x1.cell? ⟨gw, 7, none⟩ = some (.slice (some ⟨ge, 0, none⟩) 2 2)) ∧ (x1.cell? ⟨ge, 8, none⟩ = some (.bool false) ∧ x1.cell? ⟨ge, 9, none⟩ = some (.slice none 0 0) ∧ x1.cell? ⟨ge, 10, none⟩ = some (.slice none 0 0) ∧ x1.cell? ⟨ge, 11, none⟩ = some (.int .i64 d) ∧ x1.cell? ⟨ge, 12, none⟩ = some (.bool j) ∧ x1.cell? ⟨ge, 13, none⟩ = some (.int .u64 0) ∧ x1.cell? ⟨ge, 14, none⟩ = some (.slice none 0 0) ∧ x1.cell? ⟨ge, 15, none⟩ = some (.slice none 0 0)) := ⟨c5.cell rfl, cw.cell rfl, hE.h8⟩; (try (have e0 := rA.at 0 (by decide); have q0 := rA.frozen 0; have e1 := rA.at 1 (by decide); have q1 := rA.frozen 1; have e2 := rA.at 2 (by decide); have q2 := rA.frozen 2; have e3 := rA.at 3 (by decide); have q3 := rA.frozen 3; have e4 := rA.at 4 (by decide); have q4 := rA.frozen 4; have e5 := rA.at 5 (by decide); have q5 := rA.frozen 5; have e6 := rA.at 6 (by decide); have q6 := rA.frozen 6; have e7 := rA.at 7 (by decide); have q7 := rA.frozen 7; have lA := rA.lt)))
          | ((with_reducible change Calls _ _ _ ((W0.alloc (.cells #[.bool false, .slice none 0 0, .slice none 0 0, .int .i64 0, .bool false, .int .u64 0, .slice none 0 0, .slice none 0 0] 32)).drew) _); go_at_call 83; have hal : Below (W0.drew).heap.size (W0.drew) ((W0.alloc (.cells #[.bool false, .slice none 0 0, .slice none 0 0, .int .i64 0, .bool false, .int .u64 0, .slice none 0 0, .slice none 0 0] 32)).drew) := (Below.refl _ _).alloc (Nat.le_refl _) _; have rA : Cs ((W0.alloc (.cells #[.bool false, .slice none 0 0, .slice none 0 0, .int .i64 0, .bool false, .int .u64 0, .slice none 0 0, .slice none 0 0] 32)).drew) W0.heap.size [.bool false, .slice none 0 0, .slice none 0 0, .int .i64 0, .bool false, .int .u64 0, .slice none 0 0, .slice none 0 0] 32 := Cs.new W0 _ _; replace hb0 := hb0.trans (hal.mono hb0.size); replace c5 := c5.below hal c5.lt; replace c6 := c6.below hal c6.lt; replace cw := cw.below hal cw.lt; replace ck := ck.below hal ck.lt; replace hE := hE.below hal hE.lt; refine (costs2_any d j _).mono ?_; rintro e x1 ⟨rfl, hbk⟩; replace hb0 := hb0.trans (hbk.mono hb0.size); replace c5 := c5.below hbk c5.lt; replace c6 := c6.below hbk c6.lt; replace cw := cw.below hbk cw.lt; replace ck := ck.below hbk ck.lt; replace hE := hE.below hbk hE.lt; replace rA := rA.below hbk rA.lt; have m1 := Lib.hid (rfl : 1 = 1); have hz1 := hb0.size; have l1c5 := c5.lt; have l1cw := cw.lt; have l1hE := hE.lt; have hrl : (x1.cell? ⟨w.heap.size, 6, none⟩ = some (fv 83)) ∧ (x1.cell? ⟨gw, 7, none⟩ = some (.slice (some ⟨ge, 0, none⟩) 2 2)) ∧ (x1.cell? ⟨ge, 8, none⟩ = some (.bool false) ∧ x1.cell? ⟨ge, 9, none⟩ = some (.slice none 0 0) ∧ x1.cell? ⟨ge, 10, none⟩ = some (.slice none 0 0) ∧ x1.cell? ⟨ge, 11, none⟩ = some (.int .i64 d) ∧ x1.cell? ⟨ge, 12, none⟩ = some (.bool j) ∧ x1.cell? ⟨ge, 13, none⟩ = some (.int .u64 0) ∧ x1.cell? ⟨ge, 14, none⟩ = some (.slice none 0 0) ∧ x1.cell? ⟨ge, 15, none⟩ = some (.slice none 0 0)) := ⟨c5.cell rfl, cw.cell rfl, hE.h8⟩; (try (have e0 := rA.at 0 (by decide); have q0 := rA.frozen 0; have e1 := rA.at 1 (by decide); have q1 := rA.frozen 1; have e2 := rA.at 2 (by decide); have q2 := rA.frozen 2; have e3 := rA.at 3 (by decide); have q3 := rA.frozen 3; have e4 := rA.at 4 (by decide); have q4 := rA.frozen 4; have e5 := rA.at 5 (by decide); have q5 := rA.frozen 5; have e6 := rA.at 6 (by decide); have q6 := rA.frozen 6; have e7 := rA.at 7 (by decide); have q7 := rA.frozen 7; have lA := rA.lt))))
    all_goals
      (try clear e0 e1 e2 e3 e4 e5 e6 e7 q0 q1 q2 q3 q4 q5 q6 q7)
      go_wp2_with fail
      go_meet
      case rel => first | with_reducible exact srelC1 hb0 | with_reducible exact srelC2 hb0 (by omega) rA | fail
  case rest =>
    obtain ⟨g, rfl, rfl, rA, hg, hbq⟩ := hcut
    have d6 := c6.below hbq c6.lt
    have dk := ck.below hbq ck.lt
    have lk := ck.lt
    have r0 := dk.cell (k := 0) rfl
    have r1 := dk.frozen 0
    have e6 := d6.far (p := ⟨gk, 0, none⟩) (by simp; omega) (.bool true)
    have eA := rA.far (p := ⟨gk, 0, none⟩) (by simp; omega) (.bool true)
    obtain ⟨u0, u1, u2, u3, u4, u5, u6, u7⟩ := e6.c8
    obtain ⟨v0, v1, v2, v3, v4, v5, v6, v7⟩ := e6.f8
    obtain ⟨y0, y1, y2, y3, y4, y5, y6, y7⟩ := eA.c8
    have hq1 : ¬ gk = g := by omega
    have hq2 : ¬ g = gk := by omega
    have hq3 : ¬ gk = w.heap.size + 1 := by omega
    have hq4 : ¬ w.heap.size + 1 = gk := by omega
    have hG := grown_set (grown_below' (row := some gk) (hb9.trans (hbq.mono hz0))) 0 (.bool true)
    have dk2 := dk.set 0 (.bool true)
    go_wp2_with fail
    refine ret_cs (l := [.bool false, .slice none 0 0, .slice none 0 0, .int .i64 0, .bool false, .int .u64 0, .slice none 0 0, .slice none 0 0]) Tryz.results129 Tryz.underlying32 (by kernel_rfl) rfl (cs_own8 e6 rfl _ _ _ _ _ _ _ _) rfl ?_
    exact ⟨rfl, grown_s8 hG (by omega) _ _ _ _ _ _ _ _, cs_far8 dk2 hq3 _ _ _ _ _ _ _ _⟩

end Go.Proofs.YtafoplnpnoedfaaGreatDoor
