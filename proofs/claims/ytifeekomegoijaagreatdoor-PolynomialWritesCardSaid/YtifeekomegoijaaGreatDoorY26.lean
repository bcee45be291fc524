import Derived.Test.YtifeekomegoijaaGreatDoorY25
import Derived.Laws.EntriesVeiled
set_option linter.unusedVariables false
set_option linter.unusedSimpArgs false
set_option maxRecDepth 20000
set_option maxHeartbeats 4000000
namespace Go.Proofs.YtifeekomegoijaaGreatDoor
open Go.RowKit
theorem ret_cs_tmp {fn : Func} {p u : Tmp} {t : TypeId} {l : List Value} {fs : Array Field} (hres : fn.results = #[.cell p t, .tmp u]) (hu : Tryz.prog.underlying t = some (.struct fs)) (hn : (Tryz.prog.info? t).map (·.size) = some l.length) {R : Ending -> World -> Prop} {a : Act} {w : World} {g : Nat} {x : Value} (hp : a.tmps.getD p undef = .pointer (some ⟨g, 0, none⟩)) (hx : a.tmps.getD u undef = x) (h : Cs w g l t) (hd : a.defers = [])
 (hR : R (.returned (.tuple #[.agg l.toArray, x])) w) : bodyPost Tryz.prog fn R .ret a w := by
 refine bodyPost_ret (v := .tuple #[.agg l.toArray, x]) ?_ hd hR
 have hp' : a.tmps[p]?.getD undef = .pointer (some ⟨g, 0, none⟩) := by simpa using hp
 have hx' : a.tmps[u]?.getD undef = x := by simpa using hx
 simp [results, hres, hp', hx', asAddr, run_loadVar_row w g t t l.toArray (0, 0) _ h hu rfl hn]
theorem ret_ca {fn : Func} {p : Tmp} {t : TypeId} {l : List Value} {n : Nat} {e : TypeId} (hres : fn.results = #[.cell p t]) (hu : Tryz.prog.underlying t = some (.array n e)) (hn : (Tryz.prog.info? t).map (·.size) = some l.length) {R : Ending -> World -> Prop} {a : Act} {w : World} {g : Nat} (hp : a.tmps.getD p undef = .pointer (some ⟨g, 0, none⟩)) (h : Cs w g l t) (hd : a.defers = [])
 (hR : R (.returned (.agg l.toArray)) w) : bodyPost Tryz.prog fn R .ret a w :=
 bodyPost_ret (results_cell_row (P := Tryz.prog) hres _ _ g t _ (0, 0) _ hp h hu rfl hn) hd hR
theorem ret_ca_tmp {fn : Func} {p u : Tmp} {t : TypeId} {l : List Value} {n : Nat} {e : TypeId} (hres : fn.results = #[.cell p t, .tmp u]) (hu : Tryz.prog.underlying t = some (.array n e)) (hn : (Tryz.prog.info? t).map (·.size) = some l.length) {R : Ending -> World -> Prop} {a : Act} {w : World} {g : Nat} {x : Value} (hp : a.tmps.getD p undef = .pointer (some ⟨g, 0, none⟩)) (hx : a.tmps.getD u undef = x) (h : Cs w g l t) (hd : a.defers = [])
 (hR : R (.returned (.tuple #[.agg l.toArray, x])) w) : bodyPost Tryz.prog fn R .ret a w := by
 refine bodyPost_ret (v := .tuple #[.agg l.toArray, x]) ?_ hd hR
 have hp' : a.tmps[p]?.getD undef = .pointer (some ⟨g, 0, none⟩) := by simpa using hp
 have hx' : a.tmps[u]?.getD undef = x := by simpa using hx
 simp [results, hres, hp', hx', asAddr, run_loadVar_row w g t t l.toArray (0, 0) _ h hu rfl hn]
abbrev e3 (a b c : Int) : List Value := [.int .i64 a, .int .i64 b, .int .i64 c]
theorem idx_exps (a b c : Int) : (∀ w : World, (Instr.index 73 (.agg #[.int .i64 a, .int .i64 b, .int .i64 c]) (.int .i64 0)).run Tryz.prog w = .ok (.int .i64 a) w) /\
 (∀ w : World, (Instr.index 73 (.agg #[.int .i64 a, .int .i64 b, .int .i64 c]) (.int .i64 1)).run Tryz.prog w = .ok (.int .i64 b) w) /\
 (∀ w : World, (Instr.index 73 (.agg #[.int .i64 a, .int .i64 b, .int .i64 c]) (.int .i64 2)).run Tryz.prog w = .ok (.int .i64 c) w) :=
 ⟨fun _ => by kernel_rfl, fun _ => by kernel_rfl, fun _ => by kernel_rfl⟩
theorem join_any (a b c a' b' c' : Int) (w : World) (h1 : 0 <= a /\ a <= 100) (h2 : 0 <= b /\ b <= 100) (h3 : 0 <= c /\ c <= 100) (k1 : 0 <= a' /\ a' <= 100) (k2 : 0 <= b' /\ b' <= 100) (k3 : 0 <= c' /\ c' <= 100) :
 Calls Tryz.prog 100 #[eV a b c, eV a' b' c'] w (RetV w (eV (a + a') (b + b') (c + c'))) := by
 obtain ⟨hbA, c1, c2, c3⟩ := blk3 w (e3 a b c) (e3 a' b' c') (e3 0 0 0) 73 73 73
 obtain ⟨i0, i1, i2⟩ := idx_exps a' b' c'
 have w0 : IntKind.i64.wrap (a + a') = a + a' := IntWalk.i64_in _ (by omega)
 have w1 : IntKind.i64.wrap (b + b') = b + b' := IntWalk.i64_in _ (by omega)
 have w2 : IntKind.i64.wrap (c + c') = c + c' := IntWalk.i64_in _ (by omega)
 have hne1 : w.heap.size ≠ w.heap.size + 1 + 1 := by omega
 clear h1 h2 h3 k1 k2 k3
 go_enter Tryz.func100, Tryz.ntmps100
 go_wp2_with fail
 generalize (((w.alloc (E3 a b c)).alloc (E3 a' b' c')).alloc (E3 0 0 0)) = W at *
 have n2 : w.heap.size + 1 ≠ w.heap.size := by omega
 have n3 : w.heap.size + 1 + 1 ≠ w.heap.size := by omega
 have r0 : W.cell? ⟨w.heap.size + 1, 0, none⟩ = some (.int .i64 a') := c2.cell rfl
 have r1 : W.cell? ⟨w.heap.size + 1, 1, none⟩ = some (.int .i64 b') := c2.cell rfl
 have r2 : W.cell? ⟨w.heap.size + 1, 2, none⟩ = some (.int .i64 c') := c2.cell rfl
 have y0 : W.cell? ⟨w.heap.size, 0, none⟩ = some (.int .i64 a) := c1.cell rfl
 have f0 := c1.frozen 0
 go_wp2_with fail
 refine wp_loop_rounds 4 ?_
 rw [rounds_succ]
 go_wp2_with fail
 replace c1 := c1.set 0 (.int .i64 (a + a'))
 replace c3 := c3.far (p := ⟨w.heap.size, 0, none⟩) n3 (.int .i64 (a + a'))
 replace hbA := hbA.setCell (p := ⟨w.heap.size, 0, none⟩) (Nat.le_refl _) (.int .i64 (a + a'))
 clear y0 f0 r0 r1 r2 c2
 generalize W.setCell ⟨w.heap.size, 0, none⟩ (.int .i64 (a + a')) = W1 at *
 have y0 : W1.cell? ⟨w.heap.size, 1, none⟩ = some (.int .i64 b) := c1.cell rfl
 have f0 := c1.frozen 1
 rw [rounds_succ]
 go_wp2_with fail
 replace c1 := c1.set 1 (.int .i64 (b + b'))
 replace c3 := c3.far (p := ⟨w.heap.size, 1, none⟩) n3 (.int .i64 (b + b'))
 replace hbA := hbA.setCell (p := ⟨w.heap.size, 1, none⟩) (Nat.le_refl _) (.int .i64 (b + b'))
 clear y0 f0
 generalize W1.setCell ⟨w.heap.size, 1, none⟩ (.int .i64 (b + b')) = W2 at *
 have y0 : W2.cell? ⟨w.heap.size, 2, none⟩ = some (.int .i64 c) := c1.cell rfl
 have f0 := c1.frozen 2
 rw [rounds_succ]
 go_wp2_with fail
 replace c1 := c1.set 2 (.int .i64 (c + c'))
 replace c3 := c3.far (p := ⟨w.heap.size, 2, none⟩) n3 (.int .i64 (c + c'))
 replace hbA := hbA.setCell (p := ⟨w.heap.size, 2, none⟩) (Nat.le_refl _) (.int .i64 (c + c'))
 clear y0 f0
 generalize W2.setCell ⟨w.heap.size, 2, none⟩ (.int .i64 (c + c')) = W3 at *
 have s0 : W3.cell? ⟨w.heap.size, 0, none⟩ = some (.int .i64 (a + a')) := c1.cell rfl
 have s1 : W3.cell? ⟨w.heap.size, 1, none⟩ = some (.int .i64 (b + b')) := c1.cell rfl
 have s2 : W3.cell? ⟨w.heap.size, 2, none⟩ = some (.int .i64 (c + c')) := c1.cell rfl
 have g0 := c3.frozen 0
 have g1 := c3.frozen 1
 have g2 := c3.frozen 2
 have q0 : W3.cell? ⟨w.heap.size + 1 + 1, 0, none⟩ = some (.int .i64 0) := c3.cell rfl
 have q1 : W3.cell? ⟨w.heap.size + 1 + 1, 1, none⟩ = some (.int .i64 0) := c3.cell rfl
 have q2 : W3.cell? ⟨w.heap.size + 1 + 1, 2, none⟩ = some (.int .i64 0) := c3.cell rfl
 rw [rounds_succ]
 go_wp2_with fail
 refine ret_ca Tryz.results100 Tryz.underlying73 (by kernel_rfl) rfl (cs_own3 c3 rfl _ _ _) rfl ?_
 exact ⟨rfl, below_s3 hbA (by omega) _ _ _⟩
theorem knownI_nat {a b c : Nat} : knownI ((a : Int), (b : Int), (c : Int)) = decide (a + b + c <= 5) := by
 unfold knownI
 exact decide_eq_decide.2 (by simp only; omega)
theorem next_nat (a b c : Nat) (w : World) (h : a + b + c <= 5) (x0 x1 x2 : Nat) (V : Bool) (H : Hid (nextE (a, b, c) = ((x0, x1, x2), V))) :
 Calls Tryz.prog 70 #[eV a b c] w (RetV w (.tuple #[eV x0 x1 x2, .bool V])) := by
 obtain ⟨hbA, c1, c3⟩ := blk2 w (e3 a b c) (e3 0 0 0) 73 73
 have w0 : IntKind.i64.wrap ((a : Int) + 1) = (a : Int) + 1 := IntWalk.i64_in _ (by omega)
 have w1 : IntKind.i64.wrap ((b : Int) + 1) = (b : Int) + 1 := IntWalk.i64_in _ (by omega)
 have w2 : IntKind.i64.wrap ((c : Int) + 1) = (c : Int) + 1 := IntWalk.i64_in _ (by omega)
 have n3 : w.heap.size + 1 ≠ w.heap.size := by omega
 have HH := Lib.hid h
 clear h
 go_enter Tryz.func70, Tryz.ntmps70
 go_wp2_with fail
 generalize (w.alloc (E3 (a : Int) (b : Int) (c : Int))).alloc (E3 0 0 0) = W at *
 refine wp_loop_rounds 4 ?_
 have y0 : W.cell? ⟨w.heap.size, 2, none⟩ = some (.int .i64 (c : Int)) := c1.cell rfl
 have f0 := c1.frozen 2
 have d1 := c1.set 2 (.int .i64 ((c : Int) + 1))
 have s0 : (W.setCell ⟨w.heap.size, 2, none⟩ (.int .i64 ((c : Int) + 1))).cell? ⟨w.heap.size, 0, none⟩ = some (.int .i64 (a : Int)) := d1.cell rfl
 have s1 : (W.setCell ⟨w.heap.size, 2, none⟩ (.int .i64 ((c : Int) + 1))).cell? ⟨w.heap.size, 1, none⟩ = some (.int .i64 (b : Int)) := d1.cell rfl
 have s2 : (W.setCell ⟨w.heap.size, 2, none⟩ (.int .i64 ((c : Int) + 1))).cell? ⟨w.heap.size, 2, none⟩ = some (.int .i64 ((c : Int) + 1)) := d1.cell rfl
 rw [rounds_succ]
 by_cases hk : a + b + c + 1 <= 5
 ·have HK := Lib.hid hk
  have hkn : Hid (knownI ((a : Int), (b : Int), (c : Int) + 1) = true) := by show _ = _; have e := knownI_nat (a := a) (b := b) (c := c + 1); push_cast at e; rw [e]; exact decide_eq_true (by omega)
  clear hk
  go_wp2_with fail
  replace c3 := c3.far (p := ⟨w.heap.size, 2, none⟩) n3 (.int .i64 ((c : Int) + 1))
  replace hbA := hbA.setCell (p := ⟨w.heap.size, 2, none⟩) (Nat.le_refl _) (.int .i64 ((c : Int) + 1))
  clear y0 f0 s0 s1 s2 c1
  generalize W.setCell ⟨w.heap.size, 2, none⟩ (.int .i64 ((c : Int) + 1)) = W1 at *
  refine (known_any (a : Int) (b : Int) ((c : Int) + 1) _ true hkn).mono ?_
  rintro e W1b ⟨rfl, hb1⟩
  replace hbA := hbA.trans (hb1.mono hbA.size)
  have c1 := d1.below hb1 d1.lt
  replace c3 := c3.below hb1 c3.lt
  clear d1 hb1
  have s0 : W1b.cell? ⟨w.heap.size, 0, none⟩ = some (.int .i64 (a : Int)) := c1.cell rfl
  have s1 : W1b.cell? ⟨w.heap.size, 1, none⟩ = some (.int .i64 (b : Int)) := c1.cell rfl
  have s2 : W1b.cell? ⟨w.heap.size, 2, none⟩ = some (.int .i64 ((c : Int) + 1)) := c1.cell rfl
  have g0 := c3.frozen 0
  have q0 : W1b.cell? ⟨w.heap.size + 1, 0, none⟩ = some (.int .i64 0) := c3.cell rfl
  have g1 := c3.frozen 1
  have q1 : W1b.cell? ⟨w.heap.size + 1, 1, none⟩ = some (.int .i64 0) := c3.cell rfl
  have g2 := c3.frozen 2
  have q2 : W1b.cell? ⟨w.heap.size + 1, 2, none⟩ = some (.int .i64 0) := c3.cell rfl
  go_wp2_with fail
  refine ret_ca_tmp Tryz.results70 Tryz.underlying73 (by kernel_rfl) rfl rfl (cs_own3 c3 rfl _ _ _) rfl ?_
  have hx : ((x0, x1, x2), V) = ((a, b, c + 1), true) := by rw [<- H.out]; unfold nextE deg; simp only; rw [if_pos HK.out]
  simp only [Prod.mk.injEq] at hx
  obtain ⟨⟨rfl, rfl, rfl⟩, rfl⟩ := hx
  exact ⟨by push_cast; rfl, below_s3 hbA (by omega) _ _ _⟩
 ·have HK := Lib.hid hk
  have hkn : Hid (knownI ((a : Int), (b : Int), (c : Int) + 1) = false) := by show _ = _; have e := knownI_nat (a := a) (b := b) (c := c + 1); push_cast at e; rw [e]; exact decide_eq_false (by omega)
  clear hk
  go_wp2_with fail
  replace c3 := c3.far (p := ⟨w.heap.size, 2, none⟩) n3 (.int .i64 ((c : Int) + 1))
  replace hbA := hbA.setCell (p := ⟨w.heap.size, 2, none⟩) (Nat.le_refl _) (.int .i64 ((c : Int) + 1))
  clear y0 f0 s0 s1 s2 c1
  generalize W.setCell ⟨w.heap.size, 2, none⟩ (.int .i64 ((c : Int) + 1)) = W1 at *
  refine (known_any (a : Int) (b : Int) ((c : Int) + 1) _ false hkn).mono ?_
  rintro e W1b ⟨rfl, hb1⟩
  replace hbA := hbA.trans (hb1.mono hbA.size)
  have c1 := d1.below hb1 d1.lt
  replace c3 := c3.below hb1 c3.lt
  clear d1 hb1
  have z0 := c1.frozen 2
  have z1 : W1b.cell? ⟨w.heap.size, 2, none⟩ = some (.int .i64 ((c : Int) + 1)) := c1.cell rfl
  go_wp2_with fail
  replace c3 := c3.far (p := ⟨w.heap.size, 2, none⟩) n3 (.int .i64 0)
  replace hbA := hbA.setCell (p := ⟨w.heap.size, 2, none⟩) (Nat.le_refl _) (.int .i64 0)
  replace c1 := c1.set 2 (.int .i64 0)
  clear z0 z1
  have N2 := HK
  clear HK hkn
  generalize W1b.setCell ⟨w.heap.size, 2, none⟩ (.int .i64 0) = W1z at *
  have y0 : W1z.cell? ⟨w.heap.size, 1, none⟩ = some (.int .i64 (b : Int)) := c1.cell rfl
  have f0 := c1.frozen 1
  have d1 := c1.set 1 (.int .i64 ((b : Int) + 1))
  have s0 : (W1z.setCell ⟨w.heap.size, 1, none⟩ (.int .i64 ((b : Int) + 1))).cell? ⟨w.heap.size, 0, none⟩ = some (.int .i64 (a : Int)) := d1.cell rfl
  have s1 : (W1z.setCell ⟨w.heap.size, 1, none⟩ (.int .i64 ((b : Int) + 1))).cell? ⟨w.heap.size, 1, none⟩ = some (.int .i64 ((b : Int) + 1)) := d1.cell rfl
  have s2 : (W1z.setCell ⟨w.heap.size, 1, none⟩ (.int .i64 ((b : Int) + 1))).cell? ⟨w.heap.size, 2, none⟩ = some (.int .i64 0) := d1.cell rfl
  rw [rounds_succ]
  by_cases hk : a + b + 1 <= 5
  ·have HK := Lib.hid hk
   have hkn : Hid (knownI ((a : Int), (b : Int) + 1, 0) = true) := by show _ = _; have e := knownI_nat (a := a) (b := b + 1) (c := 0); push_cast at e; rw [e]; exact decide_eq_true (by omega)
   clear hk
   go_wp2_with fail
   replace c3 := c3.far (p := ⟨w.heap.size, 1, none⟩) n3 (.int .i64 ((b : Int) + 1))
   replace hbA := hbA.setCell (p := ⟨w.heap.size, 1, none⟩) (Nat.le_refl _) (.int .i64 ((b : Int) + 1))
   clear y0 f0 s0 s1 s2 c1
   generalize W1z.setCell ⟨w.heap.size, 1, none⟩ (.int .i64 ((b : Int) + 1)) = W2 at *
   refine (known_any (a : Int) ((b : Int) + 1) 0 _ true hkn).mono ?_
   rintro e W2b ⟨rfl, hb1⟩
   replace hbA := hbA.trans (hb1.mono hbA.size)
   have c1 := d1.below hb1 d1.lt
   replace c3 := c3.below hb1 c3.lt
   clear d1 hb1
   have s0 : W2b.cell? ⟨w.heap.size, 0, none⟩ = some (.int .i64 (a : Int)) := c1.cell rfl
   have s1 : W2b.cell? ⟨w.heap.size, 1, none⟩ = some (.int .i64 ((b : Int) + 1)) := c1.cell rfl
   have s2 : W2b.cell? ⟨w.heap.size, 2, none⟩ = some (.int .i64 0) := c1.cell rfl
   have g0 := c3.frozen 0
   have q0 : W2b.cell? ⟨w.heap.size + 1, 0, none⟩ = some (.int .i64 0) := c3.cell rfl
   have g1 := c3.frozen 1
   have q1 : W2b.cell? ⟨w.heap.size + 1, 1, none⟩ = some (.int .i64 0) := c3.cell rfl
   have g2 := c3.frozen 2
   have q2 : W2b.cell? ⟨w.heap.size + 1, 2, none⟩ = some (.int .i64 0) := c3.cell rfl
   go_wp2_with fail
   refine ret_ca_tmp Tryz.results70 Tryz.underlying73 (by kernel_rfl) rfl rfl (cs_own3 c3 rfl _ _ _) rfl ?_
   have hx : ((x0, x1, x2), V) = ((a, b + 1, 0), true) := by rw [<- H.out]; unfold nextE deg; simp only; rw [if_neg N2.out, if_pos HK.out]
   simp only [Prod.mk.injEq] at hx
   obtain ⟨⟨rfl, rfl, rfl⟩, rfl⟩ := hx
   exact ⟨by push_cast; rfl, below_s3 hbA (by omega) _ _ _⟩
  ·have HK := Lib.hid hk
   have hkn : Hid (knownI ((a : Int), (b : Int) + 1, 0) = false) := by show _ = _; have e := knownI_nat (a := a) (b := b + 1) (c := 0); push_cast at e; rw [e]; exact decide_eq_false (by omega)
   clear hk
   go_wp2_with fail
   replace c3 := c3.far (p := ⟨w.heap.size, 1, none⟩) n3 (.int .i64 ((b : Int) + 1))
   replace hbA := hbA.setCell (p := ⟨w.heap.size, 1, none⟩) (Nat.le_refl _) (.int .i64 ((b : Int) + 1))
   clear y0 f0 s0 s1 s2 c1
   generalize W1z.setCell ⟨w.heap.size, 1, none⟩ (.int .i64 ((b : Int) + 1)) = W2 at *
   refine (known_any (a : Int) ((b : Int) + 1) 0 _ false hkn).mono ?_
   rintro e W2b ⟨rfl, hb1⟩
   replace hbA := hbA.trans (hb1.mono hbA.size)
   have c1 := d1.below hb1 d1.lt
   replace c3 := c3.below hb1 c3.lt
   clear d1 hb1
   have z0 := c1.frozen 1
   have z1 : W2b.cell? ⟨w.heap.size, 1, none⟩ = some (.int .i64 ((b : Int) + 1)) := c1.cell rfl
   go_wp2_with fail
   replace c3 := c3.far (p := ⟨w.heap.size, 1, none⟩) n3 (.int .i64 0)
   replace hbA := hbA.setCell (p := ⟨w.heap.size, 1, none⟩) (Nat.le_refl _) (.int .i64 0)
   replace c1 := c1.set 1 (.int .i64 0)
   clear z0 z1
   have N1 := HK
   clear HK hkn
   generalize W2b.setCell ⟨w.heap.size, 1, none⟩ (.int .i64 0) = W2z at *
   have y0 : W2z.cell? ⟨w.heap.size, 0, none⟩ = some (.int .i64 (a : Int)) := c1.cell rfl
   have f0 := c1.frozen 0
   have d1 := c1.set 0 (.int .i64 ((a : Int) + 1))
   have s0 : (W2z.setCell ⟨w.heap.size, 0, none⟩ (.int .i64 ((a : Int) + 1))).cell? ⟨w.heap.size, 0, none⟩ = some (.int .i64 ((a : Int) + 1)) := d1.cell rfl
   have s1 : (W2z.setCell ⟨w.heap.size, 0, none⟩ (.int .i64 ((a : Int) + 1))).cell? ⟨w.heap.size, 1, none⟩ = some (.int .i64 0) := d1.cell rfl
   have s2 : (W2z.setCell ⟨w.heap.size, 0, none⟩ (.int .i64 ((a : Int) + 1))).cell? ⟨w.heap.size, 2, none⟩ = some (.int .i64 0) := d1.cell rfl
   rw [rounds_succ]
   by_cases hk : a + 1 <= 5
   ·have HK := Lib.hid hk
    have hkn : Hid (knownI ((a : Int) + 1, 0, 0) = true) := by show _ = _; have e := knownI_nat (a := a + 1) (b := 0) (c := 0); push_cast at e; rw [e]; exact decide_eq_true (by omega)
    clear hk
    go_wp2_with fail
    replace c3 := c3.far (p := ⟨w.heap.size, 0, none⟩) n3 (.int .i64 ((a : Int) + 1))
    replace hbA := hbA.setCell (p := ⟨w.heap.size, 0, none⟩) (Nat.le_refl _) (.int .i64 ((a : Int) + 1))
    clear y0 f0 s0 s1 s2 c1
    generalize W2z.setCell ⟨w.heap.size, 0, none⟩ (.int .i64 ((a : Int) + 1)) = W3 at *
    refine (known_any ((a : Int) + 1) 0 0 _ true hkn).mono ?_
    rintro e W3b ⟨rfl, hb1⟩
    replace hbA := hbA.trans (hb1.mono hbA.size)
    have c1 := d1.below hb1 d1.lt
    replace c3 := c3.below hb1 c3.lt
    clear d1 hb1
    have s0 : W3b.cell? ⟨w.heap.size, 0, none⟩ = some (.int .i64 ((a : Int) + 1)) := c1.cell rfl
    have s1 : W3b.cell? ⟨w.heap.size, 1, none⟩ = some (.int .i64 0) := c1.cell rfl
    have s2 : W3b.cell? ⟨w.heap.size, 2, none⟩ = some (.int .i64 0) := c1.cell rfl
    have g0 := c3.frozen 0
    have q0 : W3b.cell? ⟨w.heap.size + 1, 0, none⟩ = some (.int .i64 0) := c3.cell rfl
    have g1 := c3.frozen 1
    have q1 : W3b.cell? ⟨w.heap.size + 1, 1, none⟩ = some (.int .i64 0) := c3.cell rfl
    have g2 := c3.frozen 2
    have q2 : W3b.cell? ⟨w.heap.size + 1, 2, none⟩ = some (.int .i64 0) := c3.cell rfl
    go_wp2_with fail
    refine ret_ca_tmp Tryz.results70 Tryz.underlying73 (by kernel_rfl) rfl rfl (cs_own3 c3 rfl _ _ _) rfl ?_
    have hx : ((x0, x1, x2), V) = ((a + 1, 0, 0), true) := by rw [<- H.out]; unfold nextE deg; simp only; rw [if_neg N2.out, if_neg N1.out, if_pos HK.out]
    simp only [Prod.mk.injEq] at hx
    obtain ⟨⟨rfl, rfl, rfl⟩, rfl⟩ := hx
    exact ⟨by push_cast; rfl, below_s3 hbA (by omega) _ _ _⟩
   ·have HK := Lib.hid hk
    have hkn : Hid (knownI ((a : Int) + 1, 0, 0) = false) := by show _ = _; have e := knownI_nat (a := a + 1) (b := 0) (c := 0); push_cast at e; rw [e]; exact decide_eq_false (by omega)
    clear hk
    go_wp2_with fail
    replace c3 := c3.far (p := ⟨w.heap.size, 0, none⟩) n3 (.int .i64 ((a : Int) + 1))
    replace hbA := hbA.setCell (p := ⟨w.heap.size, 0, none⟩) (Nat.le_refl _) (.int .i64 ((a : Int) + 1))
    clear y0 f0 s0 s1 s2 c1
    generalize W2z.setCell ⟨w.heap.size, 0, none⟩ (.int .i64 ((a : Int) + 1)) = W3 at *
    refine (known_any ((a : Int) + 1) 0 0 _ false hkn).mono ?_
    rintro e W3b ⟨rfl, hb1⟩
    replace hbA := hbA.trans (hb1.mono hbA.size)
    have c1 := d1.below hb1 d1.lt
    replace c3 := c3.below hb1 c3.lt
    clear d1 hb1
    have z0 := c1.frozen 0
    have z1 : W3b.cell? ⟨w.heap.size, 0, none⟩ = some (.int .i64 ((a : Int) + 1)) := c1.cell rfl
    go_wp2_with fail
    replace c3 := c3.far (p := ⟨w.heap.size, 0, none⟩) n3 (.int .i64 0)
    replace hbA := hbA.setCell (p := ⟨w.heap.size, 0, none⟩) (Nat.le_refl _) (.int .i64 0)
    replace c1 := c1.set 0 (.int .i64 0)
    clear z0 z1
    have N0 := HK
    clear HK hkn
    generalize W3b.setCell ⟨w.heap.size, 0, none⟩ (.int .i64 0) = W3z at *
    have s0 : W3z.cell? ⟨w.heap.size, 0, none⟩ = some (.int .i64 0) := c1.cell rfl
    have s1 : W3z.cell? ⟨w.heap.size, 1, none⟩ = some (.int .i64 0) := c1.cell rfl
    have s2 : W3z.cell? ⟨w.heap.size, 2, none⟩ = some (.int .i64 0) := c1.cell rfl
    have g0 := c3.frozen 0
    have q0 : W3z.cell? ⟨w.heap.size + 1, 0, none⟩ = some (.int .i64 0) := c3.cell rfl
    have g1 := c3.frozen 1
    have q1 : W3z.cell? ⟨w.heap.size + 1, 1, none⟩ = some (.int .i64 0) := c3.cell rfl
    have g2 := c3.frozen 2
    have q2 : W3z.cell? ⟨w.heap.size + 1, 2, none⟩ = some (.int .i64 0) := c3.cell rfl
    rw [rounds_succ]
    go_wp2_with fail
    refine ret_ca_tmp Tryz.results70 Tryz.underlying73 (by kernel_rfl) rfl rfl (cs_own3 c3 rfl _ _ _) rfl ?_
    have hx : ((x0, x1, x2), V) = ((0, 0, 0), false) := by rw [<- H.out]; unfold nextE deg; simp only; rw [if_neg N2.out, if_neg N1.out, if_neg N0.out]
    simp only [Prod.mk.injEq] at hx
    obtain ⟨⟨rfl, rfl, rfl⟩, rfl⟩ := hx
    exact ⟨rfl, below_s3 hbA (by omega) _ _ _⟩
end Go.Proofs.YtifeekomegoijaaGreatDoor
