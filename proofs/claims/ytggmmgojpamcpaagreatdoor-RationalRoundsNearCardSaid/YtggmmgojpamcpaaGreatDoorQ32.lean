/- fair, and the law IsAField. -/
import Derived.Test.YtggmmgojpamcpaaGreatDoorQ28
import Derived.Test.YtggmmgojpamcpaaGreatDoorQ16
import Derived.Test.YtggmmgojpamcpaaGreatDoorQ31
import Derived.Deep.RegionHeld3
set_option linter.unusedVariables false
set_option linter.unusedSimpArgs false
namespace Go.Proofs.YtggmmgojpamcpaaGreatDoor
open Go.RowKit

def frr (x y z : Bool × List Nat × List Nat) : Bool := lgt x.2.1 x.2.2 && lgt y.2.1 y.2.2 && lgt z.2.1 z.2.2 && vld x.1 x.2.1 x.2.2 && vld y.1 y.2.1 y.2.2 && vld z.1 z.2.1 z.2.2
set_option maxRecDepth 20000 in
set_option maxHeartbeats 2000000 in
theorem fair_any (v1 v2 v3 : Value) (nx ny nz : Bool) (a1 d1 a2 d2 a3 d3 : List Nat) (w : World) (V : Bool) (h1 : Fld w v1 nx a1 d1) (h2 : Fld w v2 ny a2 d2) (h3 : Fld w v3 nz a3 d3) (H : Hid (frr (nx, a1, d1) (ny, a2, d2) (nz, a3, d3) = V)) :
    Calls Tryz.prog 44 #[v1, v2, v3] w (RetV w (.bool V)) := by
  obtain ⟨X1, x1, y1, Z1, z1, t1, rfl⟩ := h1.agg
  obtain ⟨X2, x2, y2, Z2, z2, t2, rfl⟩ := h2.agg
  obtain ⟨X3, x3, y3, Z3, z3, t3, rfl⟩ := h3.agg
  obtain ⟨hb0, r1, r2, r3⟩ := blocks3 w (.bool nx) (.slice X1 x1 y1) (.slice Z1 z1 t1) (.bool ny) (.slice X2 x2 y2) (.slice Z2 z2 t2) (.bool nz) (.slice X3 x3 y3) (.slice Z3 z3 t3)
  have g1 := h1.below hb0
  have g2 := h2.below hb0
  have g3 := h3.below hb0
  have hV := H.out
  unfold frr at hV
  obtain ⟨V1, e1⟩ : ∃ b, lgt a1 d1 = b := ⟨_, rfl⟩
  obtain ⟨V2, e2⟩ : ∃ b, lgt a2 d2 = b := ⟨_, rfl⟩
  obtain ⟨V3, e3⟩ : ∃ b, lgt a3 d3 = b := ⟨_, rfl⟩
  obtain ⟨V4, e4⟩ : ∃ b, vld nx a1 d1 = b := ⟨_, rfl⟩
  obtain ⟨V5, e5⟩ : ∃ b, vld ny a2 d2 = b := ⟨_, rfl⟩
  obtain ⟨V6, e6⟩ : ∃ b, vld nz a3 d3 = b := ⟨_, rfl⟩
  simp only [e1, e2, e3, e4, e5, e6] at hV
  have HV := Lib.hid hV
  have E1 := Lib.hid e1
  have E2 := Lib.hid e2
  have E3 := Lib.hid e3
  have E4 := Lib.hid e4
  have E5 := Lib.hid e5
  have E6 := Lib.hid e6
  clear H hV e1 e2 e3 e4 e5 e6
  go_enter Tryz.func44, Tryz.ntmps44
  go_wp2_with fail
  generalize (((w.alloc (R1 (.bool nx) (.slice X1 x1 y1) (.slice Z1 z1 t1))).alloc (R1 (.bool ny) (.slice X2 x2 y2) (.slice Z2 z2 t2))).alloc (R1 (.bool nz) (.slice X3 x3 y3) (.slice Z3 z3 t3))) = W0 at *
  refine (light_f _ _ _ _ _ V1 g1 E1).mono ?_
  rintro e w1 ⟨rfl, hb1⟩
  have hb0 := hb0.trans (hb1.mono hb0.size)
  replace g1 := g1.below hb1
  replace r1 := r1.below hb1 r1.lt
  replace g2 := g2.below hb1
  replace r2 := r2.below hb1 r2.lt
  replace g3 := g3.below hb1
  replace r3 := r3.below hb1 r3.lt
  obtain ⟨p0, p1, p2⟩ := r1.cells
  obtain ⟨q0, q1, q2⟩ := r2.cells
  obtain ⟨s0, s1, s2⟩ := r3.cells
  cases V1
  · have HW : Hid (V = false) := by show _ = _; rw [← HV.out]; simp
    go_wp2_with fail
    go_ret
    rw [HW.out]
    exact ⟨rfl, hb0⟩
  · go_wp2_with fail
    clear p0 p1 p2 q0 q1 q2 s0 s1 s2
    refine (light_f _ _ _ _ _ V2 g2 E2).mono ?_
    rintro e w1 ⟨rfl, hb2⟩
    have hb0 := hb0.trans (hb2.mono hb0.size)
    replace g1 := g1.below hb2
    replace r1 := r1.below hb2 r1.lt
    replace g2 := g2.below hb2
    replace r2 := r2.below hb2 r2.lt
    replace g3 := g3.below hb2
    replace r3 := r3.below hb2 r3.lt
    obtain ⟨p0, p1, p2⟩ := r1.cells
    obtain ⟨q0, q1, q2⟩ := r2.cells
    obtain ⟨s0, s1, s2⟩ := r3.cells
    cases V2
    · have HW : Hid (V = false) := by show _ = _; rw [← HV.out]; simp
      go_wp2_with fail
      go_ret
      rw [HW.out]
      exact ⟨rfl, hb0⟩
    · go_wp2_with fail
      clear p0 p1 p2 q0 q1 q2 s0 s1 s2
      refine (light_f _ _ _ _ _ V3 g3 E3).mono ?_
      rintro e w1 ⟨rfl, hb3⟩
      have hb0 := hb0.trans (hb3.mono hb0.size)
      replace g1 := g1.below hb3
      replace r1 := r1.below hb3 r1.lt
      replace g2 := g2.below hb3
      replace r2 := r2.below hb3 r2.lt
      replace g3 := g3.below hb3
      replace r3 := r3.below hb3 r3.lt
      obtain ⟨p0, p1, p2⟩ := r1.cells
      obtain ⟨q0, q1, q2⟩ := r2.cells
      obtain ⟨s0, s1, s2⟩ := r3.cells
      cases V3
      · have HW : Hid (V = false) := by show _ = _; rw [← HV.out]; simp
        go_wp2_with fail
        go_ret
        rw [HW.out]
        exact ⟨rfl, hb0⟩
      · go_wp2_with fail
        clear p0 p1 p2 q0 q1 q2 s0 s1 s2
        refine (valid_f _ _ _ _ _ V4 g1 E1.out E4).mono ?_
        rintro e w1 ⟨rfl, hb4⟩
        have hb0 := hb0.trans (hb4.mono hb0.size)
        replace g1 := g1.below hb4
        replace r1 := r1.below hb4 r1.lt
        replace g2 := g2.below hb4
        replace r2 := r2.below hb4 r2.lt
        replace g3 := g3.below hb4
        replace r3 := r3.below hb4 r3.lt
        obtain ⟨p0, p1, p2⟩ := r1.cells
        obtain ⟨q0, q1, q2⟩ := r2.cells
        obtain ⟨s0, s1, s2⟩ := r3.cells
        cases V4
        · have HW : Hid (V = false) := by show _ = _; rw [← HV.out]; simp
          go_wp2_with fail
          go_ret
          rw [HW.out]
          exact ⟨rfl, hb0⟩
        · go_wp2_with fail
          clear p0 p1 p2 q0 q1 q2 s0 s1 s2
          refine (valid_f _ _ _ _ _ V5 g2 E2.out E5).mono ?_
          rintro e w1 ⟨rfl, hb5⟩
          have hb0 := hb0.trans (hb5.mono hb0.size)
          replace g1 := g1.below hb5
          replace r1 := r1.below hb5 r1.lt
          replace g2 := g2.below hb5
          replace r2 := r2.below hb5 r2.lt
          replace g3 := g3.below hb5
          replace r3 := r3.below hb5 r3.lt
          obtain ⟨p0, p1, p2⟩ := r1.cells
          obtain ⟨q0, q1, q2⟩ := r2.cells
          obtain ⟨s0, s1, s2⟩ := r3.cells
          cases V5
          · have HW : Hid (V = false) := by show _ = _; rw [← HV.out]; simp
            go_wp2_with fail
            go_ret
            rw [HW.out]
            exact ⟨rfl, hb0⟩
          · go_wp2_with fail
            clear p0 p1 p2 q0 q1 q2 s0 s1 s2
            refine (valid_f _ _ _ _ _ V6 g3 E3.out E6).mono ?_
            rintro e w1 ⟨rfl, hb6⟩
            have hb0 := hb0.trans (hb6.mono hb0.size)
            replace g1 := g1.below hb6
            replace r1 := r1.below hb6 r1.lt
            replace g2 := g2.below hb6
            replace r2 := r2.below hb6 r2.lt
            replace g3 := g3.below hb6
            replace r3 := r3.below hb6 r3.lt
            obtain ⟨p0, p1, p2⟩ := r1.cells
            obtain ⟨q0, q1, q2⟩ := r2.cells
            obtain ⟨s0, s1, s2⟩ := r3.cells
            cases V6
            · have HW : Hid (V = false) := by show _ = _; rw [← HV.out]; simp
              go_wp2_with fail
              go_ret
              rw [HW.out]
              exact ⟨rfl, hb0⟩
            · have HW : Hid (V = true) := by show _ = _; rw [← HV.out]; rfl
              go_wp2_with fail
              go_ret
              rw [HW.out]
              exact ⟨rfl, hb0⟩
end Go.Proofs.YtggmmgojpamcpaaGreatDoor
