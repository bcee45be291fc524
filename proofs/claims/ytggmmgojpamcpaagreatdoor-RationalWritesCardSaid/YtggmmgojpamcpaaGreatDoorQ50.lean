/- The law RationalWrites. -/
import Derived.Test.YtggmmgojpamcpaaGreatDoorQ49
import Derived.Test.YtggmmgojpamcpaaGreatDoorQ39
set_option linter.unusedVariables false
set_option linter.unusedSimpArgs false
namespace Go.Proofs.YtggmmgojpamcpaaGreatDoor
open Go.RowKit

theorem parseT_sz (neg : Bool) (l : List UInt8) : Sz ((parseT neg l).getD 0) 2000 := by
  have h1 : ∀ {n : Nat}, readDec (Lib.cut l [47]).1 = some n → (limbs n).length ≤ 2000 := fun h => readDec_length h
  have h2 : ∀ {n : Nat}, readDec (Lib.cut l [47]).2.1 = some n → (limbs n).length ≤ 2000 := fun h => readDec_length h
  unfold parseT
  cases e1 : readDec (Lib.cut l [47]).1 with
  | none => exact sz_zero 2000 (by decide)
  | some n =>
    simp only
    split
    · cases e2 : readDec (Lib.cut l [47]).2.1 with
      | none => exact sz_zero 2000 (by decide)
      | some d =>
        simp only
        split
        · exact sz_zero 2000 (by decide)
        · next hd =>
          show Sz (qv neg n d) 2000
          unfold qv
          exact sz_le hd (by rw [sgn_abs]; exact h1 e1) (h2 e2)
    · show Sz (qv neg n 1) 2000
      unfold qv
      exact sz_le (by decide) (by rw [sgn_abs]; exact h1 e1) (by rw [limbs_one]; decide)
theorem parseQ_sz (l : List UInt8) : Sz ((parseQ l).getD 0) 2000 := parseT_sz (Lib.hasPrefix l [45]) (Lib.trimPrefix l [45])
theorem r_Format_v (v : Value) (q : Rat) (T : ByteArray) (w : World) (h : Inr w v q) (hS : Sz q 10000) (HT : Hid (⟨(fmtQ q).toArray⟩ = T)) : Calls Tryz.prog 43 #[v] w (RetV w (.string T)) := by
  rw [← HT.out]; exact r_Format v q w h hS
theorem Format_v (v : Value) (q : Rat) (L : Nat) (T : ByteArray) (w : World) (hT : Txt w) (h : Inp w v q L) (hS : Sz q 10000) (HT : Hid (⟨(fmtQ q).toArray⟩ = T)) : Calls Tryz.prog 42 #[v] w (RetV w (.string T)) := by
  rw [← HT.out]; exact Format_any v q L w hT h hS

set_option maxRecDepth 20000 in
set_option maxHeartbeats 4000000 in
theorem writes_law (v1 : Value) (nx : Bool) (a1 d1 : List Nat) (s : ByteArray) (w : World) (hT : Txt w) (h1 : Fld w v1 nx a1 d1) (hsm : s.size ≤ maxLen) :
    Calls Tryz.prog 6 #[v1, .string s] w (Yes w) := by
  obtain ⟨X1, x1, y1, Z1, z1, t1, rfl⟩ := h1.agg
  have hb0 : Below w.heap.size w (w.alloc (R1 (.bool nx) (.slice X1 x1 y1) (.slice Z1 z1 t1))) := (Below.refl _ _).alloc (Nat.le_refl _) _
  have r1 := Rc.new w (.bool nx) (.slice X1 x1 y1) (.slice Z1 z1 t1)
  have g1 := h1.below hb0
  obtain ⟨V1, hV1⟩ : ∃ V, lgt a1 d1 = V := ⟨_, rfl⟩
  have HV1 := Lib.hid hV1
  clear hV1 h1
  go_enter Tryz.func6, Tryz.ntmps6
  go_wp2_with fail
  generalize (w.alloc (R1 (.bool nx) (.slice X1 x1 y1) (.slice Z1 z1 t1))) = W0 at *
  refine (light_f _ nx a1 d1 _ V1 g1 HV1).mono ?_
  rintro e w1 ⟨rfl, hb1⟩
  replace hb0 := hb0.trans (hb1.mono hb0.size)
  replace r1 := r1.below hb1 r1.lt
  replace g1 := g1.below hb1
  clear hb1
  cases V1
  · go_wp2_with fail
    refine (awake_any _ (hT.below hb0)).mono ?_
    rintro e w2 ⟨rfl, hb2⟩
    go_wp2_with fail
    go_ret
    exact ⟨rfl, hb0.trans (hb2.mono hb0.size)⟩
  by_cases hs100 : 100 < s.size
  · have hd : decide ((100 : Int) < (s.size : Int)) = true := decide_eq_true (by omega)
    go_wp2_with fail
    refine (awake_any _ (hT.below hb0)).mono ?_
    rintro e w2 ⟨rfl, hb2⟩
    go_wp2_with fail
    go_ret
    exact ⟨rfl, hb0.trans (hb2.mono hb0.size)⟩
  have hd : decide ((100 : Int) < (s.size : Int)) = false := decide_eq_false (by omega)
  obtain ⟨x, _, ix, jx, sx⟩ := fld_in g1 HV1.out
  replace hT := hT.below hb0
  obtain ⟨r, hr⟩ : ∃ r, parseQ s.data.toList = r := ⟨_, rfl⟩
  have sr : Sz (r.getD 0) 2000 := by rw [← hr]; exact parseQ_sz _
  have HR := Lib.hid hr
  obtain ⟨T, hTT⟩ : ∃ T : ByteArray, ⟨(fmtQ x).toArray⟩ = T := ⟨_, rfl⟩
  have HT := Lib.hid hTT
  have kgx := r1.lt
  clear hr hTT g1 HV1 hsm
  go_wp2_with fail
  refine (Parse_any s _ hT (by omega) r HR.out).mono ?_
  rintro e w3 ⟨v3, rfl, h3, hb3⟩
  obtain ⟨na, A, n, c, B, m, ce, rfl⟩ := h3.agg
  go_upto_region 4 with (fail)
  have hbo : Below w3.heap.size w3 (w3.alloc (R1 (.bool na) (.slice A n c) (.slice B m ce))) := (Below.refl _ _).alloc (Nat.le_refl _) _
  have ra := Rc.new w3 (.bool na) (.slice A n c) (.slice B m ce)
  have hc3 := hb3.trans (hbo.mono hb3.size)
  have ha := h3.below hbo
  have kga := ra.lt
  clear h3
  generalize w3.heap.size = ga at *
  generalize w3.alloc (R1 (.bool na) (.slice A n c) (.slice B m ce)) = W4 at *
  go_wp2_with fail
  refine (r_Parse s _ (by omega) r HR).mono ?_
  rintro e w5 ⟨v5, rfl, h5, hb5⟩
  obtain ⟨nb, A', n', c', B', m', ce', rfl⟩ := h5.agg
  go_upto_region 5 with (fail)
  have hbo2 : Below w5.heap.size w5 (w5.alloc (R1 (.bool nb) (.slice A' n' c') (.slice B' m' ce'))) := (Below.refl _ _).alloc (Nat.le_refl _) _
  have rrb := (Rc.new w5 (.bool nb) (.slice A' n' c') (.slice B' m' ce')).drewN 1
  have hc5 := hb5.trans (hbo2.mono hb5.size)
  have qb := (h5.below hbo2).drew1
  have qa := (ha.below hc5).drew1
  have rra := (ra.below hc5 kga).drewN 1
  have hc6 := hc3.trans (hc5.mono hc3.size)
  have rr1 := (r1.below hc6 kgx).drewN 1
  have hc6d := hc6.drew
  have ix6 := (ix.below hc6d).mono (M := 64) (by decide)
  have jx6 := jx.below hc6d
  have TT := hT.below hc6d
  have hbb := hb0.trans (hc6d.mono hb0.size)
  have tx : Sz x 64 := sx.mono (by decide)
  obtain ⟨R, hRR⟩ : ∃ R, r.getD 0 = R := ⟨_, rfl⟩
  obtain ⟨ok, hok⟩ : ∃ ok, r.isSome = ok := ⟨_, rfl⟩
  rw [hRR] at qa qb sr
  try rw [hok]
  clear hRR hok HR r1 ra ha h5 ix jx hT hb0 hb3 hb5 hbo hbo2 hc3 hc5 hc6 hc6d kgx kga hd hs100
  generalize w5.heap.size = gb at *
  generalize w5.alloc (R1 (.bool nb) (.slice A' n' c') (.slice B' m' ce')) = W6 at *
  have kgx := rr1.lt
  have kga := rra.lt
  have kgb := rrb.lt
  have hs := And.intro rr1.cells (And.intro rra.cells rrb.cells)
  have hc0 := Below.refl W6.drew.heap.size W6.drew
  go_region_held3 (fun w' => (w'.cell? ⟨w.heap.size, 0, none⟩ = some (.bool nx) ∧ w'.cell? ⟨w.heap.size, 1, none⟩ = some (.slice X1 x1 y1) ∧ w'.cell? ⟨w.heap.size, 2, none⟩ = some (.slice Z1 z1 t1)) ∧ (w'.cell? ⟨ga, 0, none⟩ = some (.bool na) ∧ w'.cell? ⟨ga, 1, none⟩ = some (.slice A n c) ∧ w'.cell? ⟨ga, 2, none⟩ = some (.slice B m ce)) ∧ (w'.cell? ⟨gb, 0, none⟩ = some (.bool nb) ∧ w'.cell? ⟨gb, 1, none⟩ = some (.slice A' n' c') ∧ w'.cell? ⟨gb, 2, none⟩ = some (.slice B' m' ce')))
    (exact hs)
    (first
        | (have _g := hc3; go_at_call 19; refine (r_Same_true _ _ R R _ 2000 (qa.below hc3) (qb.below hc3) sr (by decide) rfl).mono ?_; rintro e w14 ⟨rfl, hb14⟩; have hc4 := hc3.trans (hb14.mono hc3.size); have hs := And.intro (rr1.below hc4 kgx).cells (And.intro (rra.below hc4 kga).cells (rrb.below hc4 kgb).cells))
        | (have _g := hc2; go_at_call 43; refine (r_Format_v _ x T _ (jx6.below hc2) (tx.mono (by decide)) HT).mono ?_; rintro e w13 ⟨rfl, hb13⟩; have hc3 := hc2.trans (hb13.mono hc2.size); have hs := And.intro (rr1.below hc3 kgx).cells (And.intro (rra.below hc3 kga).cells (rrb.below hc3 kgb).cells))
        | (have _g := hc1; go_at_call 42; refine (Format_v _ x 64 T _ (TT.below hc1) (ix6.below hc1) (tx.mono (by decide)) HT).mono ?_; rintro e w12 ⟨rfl, hb12⟩; have hc2 := hc1.trans (hb12.mono hc1.size); have hs := And.intro (rr1.below hc2 kgx).cells (And.intro (rra.below hc2 kga).cells (rrb.below hc2 kgb).cells))
        | (go_at_call 12; refine (awake_any _ (TT.below hc0)).mono ?_; rintro e w11 ⟨rfl, hb11⟩; have hc1 := hc0.trans (hb11.mono hc0.size); have hs := And.intro (rr1.below hc1 kgx).cells (And.intro (rra.below hc1 kga).cells (rrb.below hc1 kgb).cells)))
  go_wp2_with fail
  go_ret
  exact ⟨rfl, hbb.trans (hc4.mono hbb.size)⟩
end Go.Proofs.YtggmmgojpamcpaaGreatDoor
