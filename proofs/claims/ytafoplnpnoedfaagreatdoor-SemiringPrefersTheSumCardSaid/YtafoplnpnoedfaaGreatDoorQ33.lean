/- Times and Plus of Tropical by their results; the specification's Equal at one cost. -/
import Derived.Test.YtafoplnpnoedfaaGreatDoorQ26
import Derived.Test.YtafoplnpnoedfaaGreatDoorQ32
import Derived.LoopN
set_option linter.unusedVariables false
set_option linter.unusedSimpArgs false
namespace Go.Proofs.YtafoplnpnoedfaaGreatDoor
open Go.RowKit

/-- The sum of two costs, Inf above MaxCost. -/
def mulC (c : Int) (i : Bool) (d : Int) (j : Bool) : Int × Bool := if (i || (j || decide (1099511627776 < c + d))) = true then (0, true) else (c + d, false)
/-- The smaller of two costs. -/
def addC (c : Int) (i : Bool) (d : Int) (j : Bool) : Int × Bool := if (!j && (i || decide (d < c))) = true then (d, j) else (c, i)
theorem mulC_cost {c d e : Int} {i j k : Bool} (hc : Cost c i) (hd : Cost d j) (h : mulC c i d j = (e, k)) : Cost e k := by
  unfold mulC at h
  split at h
  · injection h with h1 h2; subst h1 h2; exact .inl ⟨rfl, rfl⟩
  · rename_i hn
    injection h with h1 h2; subst h1 h2
    simp at hn
    have := hc.le
    have := hd.le
    exact .inr ⟨rfl, by omega, by omega⟩
theorem addC_cost {c d e : Int} {i j k : Bool} (hc : Cost c i) (hd : Cost d j) (h : addC c i d j = (e, k)) : Cost e k := by
  unfold addC at h
  split at h
  · injection h with h1 h2; subst h1 h2; exact hd
  · injection h with h1 h2; subst h1 h2; exact hc
theorem Times_v (c d e : Int) (i j k : Bool) (w : World) (hc : Cost c i) (hd : Cost d j) (H : Hid (mulC c i d j = (e, k))) : Calls Tryz.prog 9 #[.agg #[.int .i64 2, .slice none 0 0], tw c i, tw d j] w (RetV w (tw e k)) := by
  have h := H.out
  unfold mulC at h
  split at h
  · rename_i hn
    injection h with h1 h2; subst h1 h2
    exact Times_cost_i c d i j w hc hd hn
  · rename_i hn
    injection h with h1 h2; subst h1 h2
    exact Times_cost_f c d i j w hc hd (show _ = false by simpa using hn)
theorem Plus_v (c d e : Int) (i j k : Bool) (w : World) (hc : Cost c i) (hd : Cost d j) (H : Hid (addC c i d j = (e, k))) : Calls Tryz.prog 5 #[.agg #[.int .i64 2, .slice none 0 0], tw c i, tw d j] w (RetV w (tw e k)) := by
  have h := H.out
  unfold addC at h
  split at h
  · rename_i hn
    injection h with h1 h2; subst h1 h2
    exact Plus_cost_r c d i j w hc hd hn
  · rename_i hn
    injection h with h1 h2; subst h1 h2
    exact Plus_cost_l c d i j w hc hd (show _ = false by simpa using hn)

set_option maxHeartbeats 1000000 in
theorem r2_same0 (w : World) : Calls Tryz.prog 22 #[.slice none 0 0, .slice none 0 0] w (RetV w (.bool true)) := by
  go_enter Tryz.func22, Tryz.ntmps22
  go_wp2_with fail
  refine wp_loop_rounds 1 ?_
  rw [rounds_succ]
  go_wp2_with fail
  go_ret
  exact ⟨rfl, Below.refl _ _⟩
theorem r1_same0 (w : World) : Calls Tryz.prog 21 #[.agg #[.bool false, .slice none 0 0, .slice none 0 0], .agg #[.bool false, .slice none 0 0, .slice none 0 0]] w (RetV w (.bool true)) :=
  (r_Same_any false false none none none none 0 0 0 0 0 0 0 0 [] [] [] [] w true (Num.nil _ _ _) (Num.nil _ _ _) (Num.nil _ _ _) (Num.nil _ _ _) (by omega) (by omega) (by omega) (by omega) (show decide _ = _ by decide)).mono (fun e w' h => h)
set_option maxRecDepth 20000 in
set_option maxHeartbeats 2000000 in
theorem r3_same (c : Int) (i : Bool) (w : World) : Calls Tryz.prog 8 #[tw c i, tw c i] w (RetV w (.bool true)) := by
  obtain ⟨hb0, c1, c2⟩ := blk2 w [.bool false, .slice none 0 0, .slice none 0 0, .int .i64 c, .bool i, .int .u64 0, .slice none 0 0, .slice none 0 0] [.bool false, .slice none 0 0, .slice none 0 0, .int .i64 c, .bool i, .int .u64 0, .slice none 0 0, .slice none 0 0] 32 32
  go_enter Tryz.func8, Tryz.ntmps8
  go_wp2_with fail
  generalize ((w.alloc (W8t c i)).alloc (W8t c i)) = W0 at *
  refine (r1_same0 _).mono ?_
  rintro e w1 ⟨rfl, hb1⟩
  replace hb0 := hb0.trans (hb1.mono hb0.size)
  replace c1 := c1.below hb1 c1.lt
  replace c2 := c2.below hb1 c2.lt
  clear hb1
  obtain ⟨a0, a1, a2, a3, a4, a5, a6, a7⟩ := c1.c8
  obtain ⟨b0, b1, b2, b3, b4, b5, b6, b7⟩ := c2.c8
  go_wp2_with fail
  refine (r2_same0 _).mono ?_
  rintro e w2 ⟨rfl, hb1⟩
  clear a0 a1 a2 a3 a4 a5 a6 a7 b0 b1 b2 b3 b4 b5 b6 b7
  replace hb0 := hb0.trans (hb1.mono hb0.size)
  replace c1 := c1.below hb1 c1.lt
  replace c2 := c2.below hb1 c2.lt
  clear hb1
  obtain ⟨a0, a1, a2, a3, a4, a5, a6, a7⟩ := c1.c8
  obtain ⟨b0, b1, b2, b3, b4, b5, b6, b7⟩ := c2.c8
  go_wp2_with fail
  refine wp_loop_rounds 1 ?_
  rw [rounds_succ]
  go_wp2_with fail
  go_ret
  exact ⟨rfl, hb0⟩
end Go.Proofs.YtafoplnpnoedfaaGreatDoor
