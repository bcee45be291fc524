/- starOfTuple and Star of the product of Rational and Tropical. -/
import Derived.Test.YtafoplnpnoedfaaGreatDoorQ29
set_option linter.unusedVariables false
set_option linter.unusedSimpArgs false
namespace Go.Proofs.YtafoplnpnoedfaaGreatDoor
open Go.RowKit

theorem RatQ.set1 {w : World} {v : Value} {q : Rat} (h : RatQ w v q) {g : Nat} {l : List Value} {t : TypeId} (hr : Cs w g l t) (hl : ∀ v ∈ l, ∀ x : Nat, v ≠ .int .u32 (x : Int)) (u : Value) : RatQ (w.setCell ⟨g, 0, none⟩ u) v q := h.sL hr hl [u] 0
theorem loadVar_bool {w : World} {g : Nat} {x : Bool} (h : Cs w g [.bool x] 4) : (loadVar 4 ⟨g, 0, none⟩).run Tryz.prog w = .ok (.bool x) w := by
  have hc := h.cell (k := 0) rfl
  simp [loadVar, Tryz.isAgg4, hc, go_sem]
theorem ret_cs_bool {fn : Func} {p u : Tmp} {t : TypeId} {l : List Value} {fs : Array Field} (hres : fn.results = #[.cell p t, .cell u 4]) (hu : Tryz.prog.underlying t = some (.struct fs)) (hn : (Tryz.prog.info? t).map (·.size) = some l.length) {R : Ending → World → Prop} {a : Act} {w : World} {g gk : Nat} {x : Bool} (hp : a.tmps.getD p undef = .pointer (some ⟨g, 0, none⟩)) (hx : a.tmps.getD u undef = .pointer (some ⟨gk, 0, none⟩)) (h : Cs w g l t) (hk : Cs w gk [.bool x] 4) (hd : a.defers = [])
    (hR : R (.returned (.tuple #[.agg l.toArray, .bool x])) w) : bodyPost Tryz.prog fn R .ret a w := by
  refine bodyPost_ret (v := .tuple #[.agg l.toArray, .bool x]) ?_ hd hR
  have hp' : a.tmps[p]?.getD undef = .pointer (some ⟨g, 0, none⟩) := by simpa using hp
  have hx' : a.tmps[u]?.getD undef = .pointer (some ⟨gk, 0, none⟩) := by simpa using hx
  simp [results, hres, hp', hx', asAddr, run_loadVar_row w g t t l.toArray (0, 0) _ h hu rfl hn, loadVar_bool hk]
set_option maxRecDepth 20000 in
set_option maxHeartbeats 1000000 in
theorem starOfTuple_prod (g cap ge : Nat) (nb : Bool) (A B : Option Addr) (n c m e : Nat) (d : Int) (j : Bool) (q : Rat) (b1 b2 b3 b4 : Nat) (w : World) (hE : Cs w ge (pairL nb A n c B m e d j) 32) (hP : Parts w (.slice (some ⟨g, 0, none⟩) 2 cap) (nopsL b1 b2 ++ copsL b3 b4)) (hT : Tab w) (hq : RatQ w (.agg #[.bool nb, .slice A n c, .slice B m e]) q) (a s r : Rat) (hS : Sz q 100000) (ha : Hid (qv false q.num.natAbs q.den = a)) (hSa : Sz a 100000) (HC : Hid (cmpQ a 1 = -1)) (HS : Hid (1 - q = s)) (hSs : Sz s 100000) (HS0 : Hid (s ≠ 0)) (HR : Hid (1 / s = r)) :
    Calls Tryz.prog 63 #[.slice (some ⟨g, 0, none⟩) 2 cap, pw ge] w (fun e0 w' => ∃ go nr Ar kr cr Br mr er, e0 = .returned (.tuple #[pw go, .bool true]) ∧ Cs w' go (pairL nr Ar kr cr Br mr er 0 false) 32 ∧ RatQ w' (.agg #[.bool nr, .slice Ar kr cr, .slice Br mr er]) r ∧ Below w.heap.size w w') := by
  have ke := hE.lt
  have kg : g < w.heap.size := by obtain ⟨_, _, e, _, h⟩ := hP.row; cases e; exact h
  obtain ⟨hb0, cw, cs, ck⟩ := blk3 w [.bool false, .slice none 0 0, .slice none 0 0, .int .i64 0, .bool false, .int .u64 0, .slice none 0 0, .slice (some ⟨ge, 0, none⟩) 2 2] [.bool false, .slice none 0 0, .slice none 0 0, .int .i64 0, .bool false, .int .u64 0, .slice none 0 0, .slice none 0 0] [.bool true] 32 32 4
  replace hE := hE.below hb0 ke
  replace hP := hP.below hb0
  replace hq := hq.below hb0
  replace hT := hT.below hb0
  go_enter Tryz.func63, Tryz.ntmps63
  go_wp2_with fail
  generalize (((w.alloc (.cells #[.bool false, .slice none 0 0, .slice none 0 0, .int .i64 0, .bool false, .int .u64 0, .slice none 0 0, .slice (some ⟨ge, 0, none⟩) 2 2] 32)).alloc (W8t 0 false)).alloc (.cells #[.bool true] 4)) = W0 at *
  refine (build_star w.heap.size (w.heap.size + 1 + 1) g cap ge nb A B n c m e d j q b1 b2 b3 b4 _ cw ck hE hP hT hq a s r hS ha hSa HC HS hSs HS0 HR (by omega) (by omega) (by omega)).mono ?_
  rintro e0 w1 ⟨go, nr, Ar, kr, cr, Br, mr, er, rfl, cO, hgo, hr, hg1, ck1⟩
  have hz1 := hb0.size
  replace hb0 := hb0.grown hg1 hz1 (fun k hk => by have := Option.some.inj hk; omega)
  replace cs := cs.gr hg1 (by omega)
  have hlk := ck1.lt
  have hls := cs.lt
  have hz2 := ck.lt
  obtain ⟨x0, x1, x2, x3, x4, x5, x6, x7⟩ := cs.c8
  obtain ⟨z0, z1, z2, z3, z4, z5, z6, z7⟩ := cs.f8
  go_wp2_with fail
  clear x0 x1 x2 x3 x4 x5 x6 x7 z0 z1 z2 z3 z4 z5 z6 z7
  replace cO := (show Cs ((((((((w1.setCell ⟨w.heap.size + 1, 0, none⟩ (.bool false)).setCell ⟨w.heap.size + 1, 1, none⟩ (.slice none 0 0)).setCell ⟨w.heap.size + 1, 2, none⟩ (.slice none 0 0)).setCell ⟨w.heap.size + 1, 3, none⟩ (.int .i64 0)).setCell ⟨w.heap.size + 1, 4, none⟩ (.bool false)).setCell ⟨w.heap.size + 1, 5, none⟩ (.int .u64 0)).setCell ⟨w.heap.size + 1, 6, none⟩ (.slice none 0 0)).setCell ⟨w.heap.size + 1, 7, none⟩ (.slice (some ⟨go, 0, none⟩) 2 2)) go _ _ from cs_far8 cO (by omega) _ _ _ _ _ _ _ _)
  replace hr := (show RatQ ((((((((w1.setCell ⟨w.heap.size + 1, 0, none⟩ (.bool false)).setCell ⟨w.heap.size + 1, 1, none⟩ (.slice none 0 0)).setCell ⟨w.heap.size + 1, 2, none⟩ (.slice none 0 0)).setCell ⟨w.heap.size + 1, 3, none⟩ (.int .i64 0)).setCell ⟨w.heap.size + 1, 4, none⟩ (.bool false)).setCell ⟨w.heap.size + 1, 5, none⟩ (.int .u64 0)).setCell ⟨w.heap.size + 1, 6, none⟩ (.slice none 0 0)).setCell ⟨w.heap.size + 1, 7, none⟩ (.slice (some ⟨go, 0, none⟩) 2 2)) _ r from hr.s8 cs (by simp) _ _ _ _ _ _ _ _)
  replace hb0 := (show Below w.heap.size w ((((((((w1.setCell ⟨w.heap.size + 1, 0, none⟩ (.bool false)).setCell ⟨w.heap.size + 1, 1, none⟩ (.slice none 0 0)).setCell ⟨w.heap.size + 1, 2, none⟩ (.slice none 0 0)).setCell ⟨w.heap.size + 1, 3, none⟩ (.int .i64 0)).setCell ⟨w.heap.size + 1, 4, none⟩ (.bool false)).setCell ⟨w.heap.size + 1, 5, none⟩ (.int .u64 0)).setCell ⟨w.heap.size + 1, 6, none⟩ (.slice none 0 0)).setCell ⟨w.heap.size + 1, 7, none⟩ (.slice (some ⟨go, 0, none⟩) 2 2)) from below_s8 hb0 (by omega) _ _ _ _ _ _ _ _)
  have ck := (show Cs ((((((((w1.setCell ⟨w.heap.size + 1, 0, none⟩ (.bool false)).setCell ⟨w.heap.size + 1, 1, none⟩ (.slice none 0 0)).setCell ⟨w.heap.size + 1, 2, none⟩ (.slice none 0 0)).setCell ⟨w.heap.size + 1, 3, none⟩ (.int .i64 0)).setCell ⟨w.heap.size + 1, 4, none⟩ (.bool false)).setCell ⟨w.heap.size + 1, 5, none⟩ (.int .u64 0)).setCell ⟨w.heap.size + 1, 6, none⟩ (.slice none 0 0)).setCell ⟨w.heap.size + 1, 7, none⟩ (.slice (some ⟨go, 0, none⟩) 2 2)) (w.heap.size + 1 + 1) _ _ from cs_far8 ck1 (by omega) _ _ _ _ _ _ _ _)
  replace cs := (show Cs ((((((((w1.setCell ⟨w.heap.size + 1, 0, none⟩ (.bool false)).setCell ⟨w.heap.size + 1, 1, none⟩ (.slice none 0 0)).setCell ⟨w.heap.size + 1, 2, none⟩ (.slice none 0 0)).setCell ⟨w.heap.size + 1, 3, none⟩ (.int .i64 0)).setCell ⟨w.heap.size + 1, 4, none⟩ (.bool false)).setCell ⟨w.heap.size + 1, 5, none⟩ (.int .u64 0)).setCell ⟨w.heap.size + 1, 6, none⟩ (.slice none 0 0)).setCell ⟨w.heap.size + 1, 7, none⟩ (.slice (some ⟨go, 0, none⟩) 2 2)) (w.heap.size + 1) [.bool false, .slice none 0 0, .slice none 0 0, .int .i64 0, .bool false, .int .u64 0, .slice none 0 0, .slice (some ⟨go, 0, none⟩) 2 2] 32 from cs_own8 cs rfl _ _ _ _ _ _ _ _)
  clear ck1
  generalize ((((((((w1.setCell ⟨w.heap.size + 1, 0, none⟩ (.bool false)).setCell ⟨w.heap.size + 1, 1, none⟩ (.slice none 0 0)).setCell ⟨w.heap.size + 1, 2, none⟩ (.slice none 0 0)).setCell ⟨w.heap.size + 1, 3, none⟩ (.int .i64 0)).setCell ⟨w.heap.size + 1, 4, none⟩ (.bool false)).setCell ⟨w.heap.size + 1, 5, none⟩ (.int .u64 0)).setCell ⟨w.heap.size + 1, 6, none⟩ (.slice none 0 0)).setCell ⟨w.heap.size + 1, 7, none⟩ (.slice (some ⟨go, 0, none⟩) 2 2)) = V0 at *
  obtain ⟨x0, x1, x2, x3, x4, x5, x6, x7⟩ := cs.c8
  obtain ⟨z0, z1, z2, z3, z4, z5, z6, z7⟩ := cs.f8
  have y0 := ck.cell (k := 0) rfl
  have y1 := ck.frozen 0
  go_region
  go_wp2_with fail
  have cs2 := cs_own8 cs rfl (.bool false) (.slice none 0 0) (.slice none 0 0) (.int .i64 0) (.bool false) (.int .u64 0) (.slice none 0 0) (.slice (some ⟨go, 0, none⟩) 2 2)
  refine ret_cs_bool (l := [.bool false, .slice none 0 0, .slice none 0 0, .int .i64 0, .bool false, .int .u64 0, .slice none 0 0, .slice (some ⟨go, 0, none⟩) 2 2]) Tryz.results63 Tryz.underlying32 (by kernel_rfl) rfl rfl (cs2.far (p := ⟨w.heap.size + 1 + 1, 0, none⟩) (by simp) (.bool true)).drew (Cs.drew (l := [.bool true]) ((cs_far8 ck (by omega) (.bool false) (.slice none 0 0) (.slice none 0 0) (.int .i64 0) (.bool false) (.int .u64 0) (.slice none 0 0) (.slice (some ⟨go, 0, none⟩) 2 2)).set 0 (.bool true))) rfl ?_
  refine ⟨go, nr, Ar, kr, cr, Br, mr, er, rfl, ?_, ?_, ?_⟩
  · exact ((cs_far8 cO (by omega) _ _ _ _ _ _ _ _).far (p := ⟨w.heap.size + 1 + 1, 0, none⟩) (by simp; omega) (.bool true)).drew
  · exact (((hr.s8 cs (by simp) (.bool false) (.slice none 0 0) (.slice none 0 0) (.int .i64 0) (.bool false) (.int .u64 0) (.slice none 0 0) (.slice (some ⟨go, 0, none⟩) 2 2)).set1 (cs_far8 ck (by omega) (.bool false) (.slice none 0 0) (.slice none 0 0) (.int .i64 0) (.bool false) (.int .u64 0) (.slice none 0 0) (.slice (some ⟨go, 0, none⟩) 2 2)) (by simp) (.bool true)).below (Below.refl _ _).drew)
  · exact ((below_s8 hb0 (by omega) (.bool false) (.slice none 0 0) (.slice none 0 0) (.int .i64 0) (.bool false) (.int .u64 0) (.slice none 0 0) (.slice (some ⟨go, 0, none⟩) 2 2)).setCell (p := ⟨w.heap.size + 1 + 1, 0, none⟩) (by simp; omega) (.bool true)).drew

set_option maxRecDepth 20000 in
set_option maxHeartbeats 2000000 in
theorem tuples6_prod (bp g cap ge : Nat) (nb : Bool) (A B : Option Addr) (n c m e : Nat) (d : Int) (j : Bool) (q : Rat) (b1 b2 b3 b4 : Nat) (w : World) (h : PH w bp g cap ge nb A B n c m e d j q b1 b2 b3 b4) (a s r : Rat) (hS : Sz q 100000) (ha : Hid (qv false q.num.natAbs q.den = a)) (hSa : Sz a 100000) (HC : Hid (cmpQ a 1 = -1)) (HS : Hid (1 - q = s)) (hSs : Sz s 100000) (HS0 : Hid (s ≠ 0)) (HR : Hid (1 / s = r)) :
    Calls Tryz.prog 62 #[pw ge, .pointer (some ⟨bp, 0, none⟩)] w (fun e0 w' => ∃ go nr Ar kr cr Br mr er, e0 = .returned (.tuple #[pw go, .bool true]) ∧ Cs w' go (pairL nr Ar kr cr Br mr er 0 false) 32 ∧ RatQ w' (.agg #[.bool nr, .slice Ar kr cr, .slice Br mr er]) r ∧ Below w.heap.size w w') := by
  obtain ⟨hb0, c1, c2⟩ := blk2 w [.bool false, .slice none 0 0, .slice none 0 0, .int .i64 0, .bool false, .int .u64 0, .slice none 0 0, .slice (some ⟨ge, 0, none⟩) 2 2] [.bool false, .slice none 0 0, .slice none 0 0, .int .i64 0, .bool false, .int .u64 0, .slice none 0 0, .slice none 0 0] 32 32
  replace h := h.below hb0
  have p0 := h.1.cell (k := 0) rfl
  go_enter Tryz.func62, Tryz.ntmps62
  go_wp2_with fail
  refine (starOfTuple_prod g cap ge nb A B n c m e d j q b1 b2 b3 b4 _ h.2.2.1 h.2.1 h.2.2.2.2 h.2.2.2.1 a s r hS ha hSa HC HS hSs HS0 HR).mono ?_
  rintro e0 w1 ⟨go, nr, Ar, kr, cr, Br, mr, er, rfl, cO, hr, hb1⟩
  replace c2 := c2.below hb1 c2.lt
  replace hb0 := hb0.trans (hb1.mono hb0.size)
  obtain ⟨x0, x1, x2, x3, x4, x5, x6, x7⟩ := c2.c8
  obtain ⟨z0, z1, z2, z3, z4, z5, z6, z7⟩ := c2.f8
  go_wp2_with fail
  refine ret_cs_tmp (l := [.bool false, .slice none 0 0, .slice none 0 0, .int .i64 0, .bool false, .int .u64 0, .slice none 0 0, .slice (some ⟨go, 0, none⟩) 2 2]) Tryz.results62 Tryz.underlying32 (by kernel_rfl) rfl rfl (cs_own8 c2 rfl _ _ _ _ _ _ _ _) rfl ?_
  exact ⟨go, nr, Ar, kr, cr, Br, mr, er, rfl, cs_far8 cO (cO.ne_len c2 (by simp)) _ _ _ _ _ _ _ _, hr.s8 c2 (by simp) _ _ _ _ _ _ _ _, below_s8 hb0 (by omega) _ _ _ _ _ _ _ _⟩

def TRel (w0 : World) (r : Rat) (b p : Value) (wx : World) : Prop :=
  ∃ g go nr Ar kr cr Br mr er, p = .pointer (some ⟨g, 0, none⟩) ∧ b = .bool true ∧ Cs wx g [.bool false, .slice none 0 0, .slice none 0 0, .int .i64 0, .bool false, .int .u64 0, .slice none 0 0, .slice (some ⟨go, 0, none⟩) 2 2] 32 ∧ w0.heap.size ≤ g ∧ Cs wx go (pairL nr Ar kr cr Br mr er 0 false) 32 ∧ RatQ wx (.agg #[.bool nr, .slice Ar kr cr, .slice Br mr er]) r ∧ Below w0.heap.size w0 wx
theorem trel1 {w0 W : World} {r : Rat} {go : Nat} {nr : Bool} {Ar Br : Option Addr} {kr cr mr er : Nat} (hb : Below w0.heap.size w0 W) (hO : Cs W go (pairL nr Ar kr cr Br mr er 0 false) 32) (h : RatQ W (.agg #[.bool nr, .slice Ar kr cr, .slice Br mr er]) r) : TRel w0 r (.bool true) (.pointer (some ⟨W.heap.size, 0, none⟩)) (W.alloc (.cells #[.bool false, .slice none 0 0, .slice none 0 0, .int .i64 0, .bool false, .int .u64 0, .slice none 0 0, .slice (some ⟨go, 0, none⟩) 2 2] 32)) := by
  have hx := blk1 W [.bool false, .slice none 0 0, .slice none 0 0, .int .i64 0, .bool false, .int .u64 0, .slice none 0 0, .slice (some ⟨go, 0, none⟩) 2 2] 32
  exact ⟨_, _, _, _, _, _, _, _, _, rfl, rfl, hx.2, hb.size, hO.alloc _, h.below hx.1, hb.trans (hx.1.mono hb.size)⟩
theorem trel2 {w0 W : World} {r : Rat} {go g : Nat} {nr : Bool} {Ar Br : Option Addr} {kr cr mr er : Nat} (hb : Below w0.heap.size w0 W) (hg : w0.heap.size ≤ g) (hA : Cs W g [.bool false, .slice none 0 0, .slice none 0 0, .int .i64 0, .bool false, .int .u64 0, .slice none 0 0, .slice none 0 0] 32) (hO : Cs W go (pairL nr Ar kr cr Br mr er 0 false) 32) (h : RatQ W (.agg #[.bool nr, .slice Ar kr cr, .slice Br mr er]) r) : TRel w0 r (.bool true) (.pointer (some ⟨g, 0, none⟩)) ((((((((W.setCell ⟨g, 0, none⟩ (.bool false)).setCell ⟨g, 1, none⟩ (.slice none 0 0)).setCell ⟨g, 2, none⟩ (.slice none 0 0)).setCell ⟨g, 3, none⟩ (.int .i64 0)).setCell ⟨g, 4, none⟩ (.bool false)).setCell ⟨g, 5, none⟩ (.int .u64 0)).setCell ⟨g, 6, none⟩ (.slice none 0 0)).setCell ⟨g, 7, none⟩ (.slice (some ⟨go, 0, none⟩) 2 2)) :=
  ⟨_, _, _, _, _, _, _, _, _, rfl, rfl, cs_own8 hA rfl _ _ _ _ _ _ _ _, hg, cs_far8 hO (hO.ne_len hA (by simp)) _ _ _ _ _ _ _ _, h.s8 hA (by simp) _ _ _ _ _ _ _ _, below_s8 hb hg _ _ _ _ _ _ _ _⟩
set_option maxRecDepth 20000 in
set_option maxHeartbeats 4000000 in
theorem Star_prod (br cr0 ge : Nat) (nb : Bool) (A B : Option Addr) (n c m e : Nat) (d : Int) (j : Bool) (q : Rat) (w : World) (hR : Cs w br [.int .i64 1, .int .i64 2] 3) (hE : Cs w ge (pairL nb A n c B m e d j) 32) (hq : RatQ w (.agg #[.bool nb, .slice A n c, .slice B m e]) q) (hT : Tab w) (hc : Cost d j) (a s r : Rat) (hS : Sz q 100000) (ha : Hid (qv false q.num.natAbs q.den = a)) (hSa : Sz a 100000) (HC : Hid (cmpQ a 1 = -1)) (HS : Hid (1 - q = s)) (hSs : Sz s 100000) (HS0 : Hid (s ≠ 0)) (HR : Hid (1 / s = r)) :
    Calls Tryz.prog 19 #[.agg #[.int .i64 6, .slice (some ⟨br, 0, none⟩) 2 cr0], pw ge] w (fun e0 w' => ∃ go nr Ar kr cr Br mr er, e0 = .returned (.tuple #[pw go, .int .i64 0]) ∧ Cs w' go (pairL nr Ar kr cr Br mr er 0 false) 32 ∧ RatQ w' (.agg #[.bool nr, .slice Ar kr cr, .slice Br mr er]) r ∧ Below w.heap.size w w') := by
  have ke := hE.lt
  have kR := hR.lt
  obtain ⟨hb0, c0, cv, cr⟩ := blk3 w [.int .i64 6, .slice (some ⟨br, 0, none⟩) 2 cr0] [.bool false, .slice none 0 0, .slice none 0 0, .int .i64 0, .bool false, .int .u64 0, .slice none 0 0, .slice (some ⟨ge, 0, none⟩) 2 2] [.bool false, .slice none 0 0, .slice none 0 0, .int .i64 0, .bool false, .int .u64 0, .slice none 0 0, .slice none 0 0] 24 32 32
  replace hE := hE.below hb0 ke
  replace hR := hR.below hb0 kR
  replace hq := hq.below hb0
  replace hT := hT.below hb0
  go_enter Tryz.func19, Tryz.ntmps19
  go_wp2_with fail
  generalize (((w.alloc (.cells #[.int .i64 6, .slice (some ⟨br, 0, none⟩) 2 cr0] 24)).alloc (.cells #[.bool false, .slice none 0 0, .slice none 0 0, .int .i64 0, .bool false, .int .u64 0, .slice none 0 0, .slice (some ⟨ge, 0, none⟩) 2 2] 32)).alloc (W8t 0 false)) = V0 at *
  refine (find_prod br cr0 _ hR).mono ?_
  rintro e0 w1 ⟨bp, k1, k2, v, b1, b2, b3, b4, rfl, cp, hP, hC, hb1⟩
  replace hb0 := hb0.trans (hb1.mono hb0.size)
  replace cv := cv.below hb1 cv.lt
  replace cr := cr.below hb1 cr.lt
  replace hE := hE.below hb1 hE.lt
  replace hq := hq.below hb1
  replace hT := hT.below hb1
  clear hb1 hR c0
  have n6 := cr.lt
  obtain ⟨g, cap, rfl, hcap, hg⟩ := hP.row
  have hH : PH w1 bp g cap ge nb A B n c m e d j q b1 b2 b3 b4 := ⟨cp, hP, hE, hq, hT⟩
  clear cp hP hE hq hT hcap hg
  have HH := Lib.hid hH
  clear hH
  go_wp2_with fail
  have hH := HH.out
  clear HH
  have c6 := Cs.new w1 (topsL bp k1 k2) 55
  have hal : Below w1.heap.size w1 (w1.alloc (.cells (topsL bp k1 k2).toArray 55)) := (Below.refl _ _).alloc (Nat.le_refl _) _
  replace hb0 := hb0.trans (hal.mono hb0.size)
  replace cv := cv.below hal cv.lt
  replace cr := cr.below hal cr.lt
  replace hH := hH.below hal
  replace hC := hC.below hal
  clear hal
  generalize (w1.alloc (.cells #[.func (.func 50) #[] #[.pointer (some ⟨bp, 0, none⟩)], cln k1 k2, .func (.func 52) #[] #[.pointer (some ⟨bp, 0, none⟩)], .func (.func 56) #[] #[.pointer (some ⟨bp, 0, none⟩)], .func (.func 58) #[] #[.pointer (some ⟨bp, 0, none⟩)], .func (.func 60) #[] #[.pointer (some ⟨bp, 0, none⟩)], .func (.func 62) #[] #[.pointer (some ⟨bp, 0, none⟩)], fv 64, .func (.func 65) #[] #[.pointer (some ⟨bp, 0, none⟩)], .func (.func 67) #[] #[.pointer (some ⟨bp, 0, none⟩)]] 55)) = W0 at *
  generalize w1.heap.size = g6 at *
  replace c6 := c6.drew
  replace cv := cv.drew
  replace cr := cr.drew
  replace hH := hH.drew
  replace hC := hC.drew
  have hb9 := hb0.drew
  replace hb0 : Below W0.drew.heap.size W0.drew W0.drew := Below.refl _ _
  have hz0 := hb9.size
  have hdz1 : W0.drew.heap.size ≤ W0.heap.size := Nat.le_refl _
  have hdz2 : W0.heap.size ≤ W0.drew.heap.size := Nat.le_refl _
  have l0c6 := c6.lt
  have l0cv := cv.lt
  have l0cr := cr.lt
  have hrl : (W0.drew.cell? ⟨g6, 6, none⟩ = some (.func (.func 62) #[] #[.pointer (some ⟨bp, 0, none⟩)]) ∧ W0.drew.cell? ⟨g6, 1, none⟩ = some (cln k1 k2)) ∧ (W0.drew.cell? ⟨w.heap.size + 1, 0, none⟩ = some (.bool false) ∧ W0.drew.cell? ⟨w.heap.size + 1, 1, none⟩ = some (.slice none 0 0) ∧ W0.drew.cell? ⟨w.heap.size + 1, 2, none⟩ = some (.slice none 0 0) ∧ W0.drew.cell? ⟨w.heap.size + 1, 3, none⟩ = some (.int .i64 0) ∧ W0.drew.cell? ⟨w.heap.size + 1, 4, none⟩ = some (.bool false) ∧ W0.drew.cell? ⟨w.heap.size + 1, 5, none⟩ = some (.int .u64 0) ∧ W0.drew.cell? ⟨w.heap.size + 1, 6, none⟩ = some (.slice none 0 0) ∧ W0.drew.cell? ⟨w.heap.size + 1, 7, none⟩ = some (.slice (some ⟨ge, 0, none⟩) 2 2)) := ⟨⟨c6.cell rfl, c6.cell rfl⟩, cv.c8⟩
  go_cut [7, 8] from 17 to 26 (fun b p wx => TRel W0.drew r b p wx)
  case first =>
    go_region_held3 (fun w' => (w'.cell? ⟨g6, 6, none⟩ = some (.func (.func 62) #[] #[.pointer (some ⟨bp, 0, none⟩)]) ∧ w'.cell? ⟨g6, 1, none⟩ = some (cln k1 k2)) ∧ (w'.cell? ⟨w.heap.size + 1, 0, none⟩ = some (.bool false) ∧ w'.cell? ⟨w.heap.size + 1, 1, none⟩ = some (.slice none 0 0) ∧ w'.cell? ⟨w.heap.size + 1, 2, none⟩ = some (.slice none 0 0) ∧ w'.cell? ⟨w.heap.size + 1, 3, none⟩ = some (.int .i64 0) ∧ w'.cell? ⟨w.heap.size + 1, 4, none⟩ = some (.bool false) ∧ w'.cell? ⟨w.heap.size + 1, 5, none⟩ = some (.int .u64 0) ∧ w'.cell? ⟨w.heap.size + 1, 6, none⟩ = some (.slice none 0 0) ∧ w'.cell? ⟨w.heap.size + 1, 7, none⟩ = some (.slice (some ⟨ge, 0, none⟩) 2 2)))
        (first | with_reducible exact hrl | ((with_reducible refine ⟨⟨?_, ?_⟩, ⟨?_, ?_, ?_, ?_, ?_, ?_, ?_, ?_⟩⟩) <;> (repeat' (first | (with_reducible exact hrl.1.1) | (with_reducible exact hrl.1.2) | (with_reducible exact hrl.2.1) | (with_reducible exact hrl.2.2.1) | (with_reducible exact hrl.2.2.2.1) | (with_reducible exact hrl.2.2.2.2.1) | (with_reducible exact hrl.2.2.2.2.2.1) | (with_reducible exact hrl.2.2.2.2.2.2.1) | (with_reducible exact hrl.2.2.2.2.2.2.2.1) | (with_reducible exact hrl.2.2.2.2.2.2.2.2) | (with_reducible refine cell_alc _ ?_) | (with_reducible refine cell_alc_d _ ?_) | (with_reducible refine cell_st ?_ ?_) | omega))) | fail)
        (first
          | (have _g := m1; (with_reducible change Calls _ _ _ (x1) _); go_at_call 62; refine (tuples6_prod bp g cap ge nb A B n c m e d j q b1 b2 b3 b4 _ hH a s r hS ha hSa HC HS hSs HS0 HR).mono ?_; rintro e x2 ⟨go, nr, Ar, kr, cr1, Br, mr, er, rfl, cO, hr, hbk⟩; replace hb0 := hb0.trans (hbk.mono hb0.size); replace c6 := c6.below hbk c6.lt; replace cv := cv.below hbk cv.lt; replace cr := cr.below hbk cr.lt; replace hH := hH.below hbk; replace hC := hC.below hbk; (try replace rA := rA.below hbk rA.lt); have m2 := Lib.hid (rfl : 1 = 1); have hz2 := hb0.size; have l2c6 := c6.lt; have l2cv := cv.lt; have hrl : (x2.cell? ⟨g6, 6, none⟩ = some (.func (.func 62) #[] #[.pointer (some ⟨bp, 0, none⟩)]) ∧ x2.cell? ⟨g6, 1, none⟩ = some (cln k1 k2)) ∧ (x2.cell? ⟨w.heap.size + 1, 0, none⟩ = some (.bool false) ∧ x2.cell? ⟨w.heap.size + 1, 1, none⟩ = some (.slice none 0 0) ∧ x2.cell? ⟨w.heap.size + 1, 2, none⟩ = some (.slice none 0 0) ∧ x2.cell? ⟨w.heap.size + 1, 3, none⟩ = some (.int .i64 0) ∧ x2.cell? ⟨w.heap.size + 1, 4, none⟩ = some (.bool false) ∧ x2.cell? ⟨w.heap.size + 1, 5, none⟩ = some (.int .u64 0) ∧ x2.cell? ⟨w.heap.size + 1, 6, none⟩ = some (.slice none 0 0) ∧ x2.cell? ⟨w.heap.size + 1, 7, none⟩ = some (.slice (some ⟨ge, 0, none⟩) 2 2)) := ⟨⟨c6.cell rfl, c6.cell rfl⟩, cv.c8⟩; (try (have e0 := rA.at 0 (by decide); have q0 := rA.frozen 0; have e1 := rA.at 1 (by decide); have q1 := rA.frozen 1; have e2 := rA.at 2 (by decide); have q2 := rA.frozen 2; have e3 := rA.at 3 (by decide); have q3 := rA.frozen 3; have e4 := rA.at 4 (by decide); have q4 := rA.frozen 4; have e5 := rA.at 5 (by decide); have q5 := rA.frozen 5; have e6 := rA.at 6 (by decide); have q6 := rA.frozen 6; have e7 := rA.at 7 (by decide); have q7 := rA.frozen 7; have lA := rA.lt)))
          | (have _g := m1; (with_reducible change Calls _ _ _ ((x1.alloc (.cells #[.bool false, .slice none 0 0, .slice none 0 0, .int .i64 0, .bool false, .int .u64 0, .slice none 0 0, .slice none 0 0] 32))) _); go_at_call 62; have hal : Below (x1).heap.size (x1) ((x1.alloc (.cells #[.bool false, .slice none 0 0, .slice none 0 0, .int .i64 0, .bool false, .int .u64 0, .slice none 0 0, .slice none 0 0] 32))) := (Below.refl _ _).alloc (Nat.le_refl _) _; have rA : Cs ((x1.alloc (.cells #[.bool false, .slice none 0 0, .slice none 0 0, .int .i64 0, .bool false, .int .u64 0, .slice none 0 0, .slice none 0 0] 32))) x1.heap.size [.bool false, .slice none 0 0, .slice none 0 0, .int .i64 0, .bool false, .int .u64 0, .slice none 0 0, .slice none 0 0] 32 := Cs.new x1 _ _; replace hb0 := hb0.trans (hal.mono hb0.size); replace c6 := c6.below hal c6.lt; replace cv := cv.below hal cv.lt; replace cr := cr.below hal cr.lt; replace hH := hH.below hal; replace hC := hC.below hal; refine (tuples6_prod bp g cap ge nb A B n c m e d j q b1 b2 b3 b4 _ hH a s r hS ha hSa HC HS hSs HS0 HR).mono ?_; rintro e x2 ⟨go, nr, Ar, kr, cr1, Br, mr, er, rfl, cO, hr, hbk⟩; replace hb0 := hb0.trans (hbk.mono hb0.size); replace c6 := c6.below hbk c6.lt; replace cv := cv.below hbk cv.lt; replace cr := cr.below hbk cr.lt; replace hH := hH.below hbk; replace hC := hC.below hbk; replace rA := rA.below hbk rA.lt; have m2 := Lib.hid (rfl : 1 = 1); have hz2 := hb0.size; have l2c6 := c6.lt; have l2cv := cv.lt; have hrl : (x2.cell? ⟨g6, 6, none⟩ = some (.func (.func 62) #[] #[.pointer (some ⟨bp, 0, none⟩)]) ∧ x2.cell? ⟨g6, 1, none⟩ = some (cln k1 k2)) ∧ (x2.cell? ⟨w.heap.size + 1, 0, none⟩ = some (.bool false) ∧ x2.cell? ⟨w.heap.size + 1, 1, none⟩ = some (.slice none 0 0) ∧ x2.cell? ⟨w.heap.size + 1, 2, none⟩ = some (.slice none 0 0) ∧ x2.cell? ⟨w.heap.size + 1, 3, none⟩ = some (.int .i64 0) ∧ x2.cell? ⟨w.heap.size + 1, 4, none⟩ = some (.bool false) ∧ x2.cell? ⟨w.heap.size + 1, 5, none⟩ = some (.int .u64 0) ∧ x2.cell? ⟨w.heap.size + 1, 6, none⟩ = some (.slice none 0 0) ∧ x2.cell? ⟨w.heap.size + 1, 7, none⟩ = some (.slice (some ⟨ge, 0, none⟩) 2 2)) := ⟨⟨c6.cell rfl, c6.cell rfl⟩, cv.c8⟩; (try (have e0 := rA.at 0 (by decide); have q0 := rA.frozen 0; have e1 := rA.at 1 (by decide); have q1 := rA.frozen 1; have e2 := rA.at 2 (by decide); have q2 := rA.frozen 2; have e3 := rA.at 3 (by decide); have q3 := rA.frozen 3; have e4 := rA.at 4 (by decide); have q4 := rA.frozen 4; have e5 := rA.at 5 (by decide); have q5 := rA.frozen 5; have e6 := rA.at 6 (by decide); have q6 := rA.frozen 6; have e7 := rA.at 7 (by decide); have q7 := rA.frozen 7; have lA := rA.lt)))
          | ((with_reducible change Calls _ _ _ (W0.drew) _); go_at_call 128; refine (cln_prod bp k1 k2 g cap ge nb A B n c m e d j q b1 b2 b3 b4 _ hH hC hS hc).mono ?_; rintro e x1 ⟨rfl, hbk⟩; replace hb0 := hb0.trans (hbk.mono hb0.size); replace c6 := c6.below hbk c6.lt; replace cv := cv.below hbk cv.lt; replace cr := cr.below hbk cr.lt; replace hH := hH.below hbk; replace hC := hC.below hbk; (try replace rA := rA.below hbk rA.lt); have m1 := Lib.hid (rfl : 1 = 1); have hz1 := hb0.size; have l1c6 := c6.lt; have l1cv := cv.lt; have hrl : (x1.cell? ⟨g6, 6, none⟩ = some (.func (.func 62) #[] #[.pointer (some ⟨bp, 0, none⟩)]) ∧ x1.cell? ⟨g6, 1, none⟩ = some (cln k1 k2)) ∧ (x1.cell? ⟨w.heap.size + 1, 0, none⟩ = some (.bool false) ∧ x1.cell? ⟨w.heap.size + 1, 1, none⟩ = some (.slice none 0 0) ∧ x1.cell? ⟨w.heap.size + 1, 2, none⟩ = some (.slice none 0 0) ∧ x1.cell? ⟨w.heap.size + 1, 3, none⟩ = some (.int .i64 0) ∧ x1.cell? ⟨w.heap.size + 1, 4, none⟩ = some (.bool false) ∧ x1.cell? ⟨w.heap.size + 1, 5, none⟩ = some (.int .u64 0) ∧ x1.cell? ⟨w.heap.size + 1, 6, none⟩ = some (.slice none 0 0) ∧ x1.cell? ⟨w.heap.size + 1, 7, none⟩ = some (.slice (some ⟨ge, 0, none⟩) 2 2)) := ⟨⟨c6.cell rfl, c6.cell rfl⟩, cv.c8⟩)
          | ((with_reducible change Calls _ _ _ ((W0.alloc (.cells #[.bool false, .slice none 0 0, .slice none 0 0, .int .i64 0, .bool false, .int .u64 0, .slice none 0 0, .slice none 0 0] 32)).drew) _); go_at_call 128; have hal : Below (W0.drew).heap.size (W0.drew) ((W0.alloc (.cells #[.bool false, .slice none 0 0, .slice none 0 0, .int .i64 0, .bool false, .int .u64 0, .slice none 0 0, .slice none 0 0] 32)).drew) := (Below.refl _ _).alloc (Nat.le_refl _) _; have rA : Cs ((W0.alloc (.cells #[.bool false, .slice none 0 0, .slice none 0 0, .int .i64 0, .bool false, .int .u64 0, .slice none 0 0, .slice none 0 0] 32)).drew) W0.heap.size [.bool false, .slice none 0 0, .slice none 0 0, .int .i64 0, .bool false, .int .u64 0, .slice none 0 0, .slice none 0 0] 32 := Cs.new W0 _ _; replace hb0 := hb0.trans (hal.mono hb0.size); replace c6 := c6.below hal c6.lt; replace cv := cv.below hal cv.lt; replace cr := cr.below hal cr.lt; replace hH := hH.below hal; replace hC := hC.below hal; refine (cln_prod bp k1 k2 g cap ge nb A B n c m e d j q b1 b2 b3 b4 _ hH hC hS hc).mono ?_; rintro e x1 ⟨rfl, hbk⟩; replace hb0 := hb0.trans (hbk.mono hb0.size); replace c6 := c6.below hbk c6.lt; replace cv := cv.below hbk cv.lt; replace cr := cr.below hbk cr.lt; replace hH := hH.below hbk; replace hC := hC.below hbk; replace rA := rA.below hbk rA.lt; have m1 := Lib.hid (rfl : 1 = 1); have hz1 := hb0.size; have l1c6 := c6.lt; have l1cv := cv.lt; have hrl : (x1.cell? ⟨g6, 6, none⟩ = some (.func (.func 62) #[] #[.pointer (some ⟨bp, 0, none⟩)]) ∧ x1.cell? ⟨g6, 1, none⟩ = some (cln k1 k2)) ∧ (x1.cell? ⟨w.heap.size + 1, 0, none⟩ = some (.bool false) ∧ x1.cell? ⟨w.heap.size + 1, 1, none⟩ = some (.slice none 0 0) ∧ x1.cell? ⟨w.heap.size + 1, 2, none⟩ = some (.slice none 0 0) ∧ x1.cell? ⟨w.heap.size + 1, 3, none⟩ = some (.int .i64 0) ∧ x1.cell? ⟨w.heap.size + 1, 4, none⟩ = some (.bool false) ∧ x1.cell? ⟨w.heap.size + 1, 5, none⟩ = some (.int .u64 0) ∧ x1.cell? ⟨w.heap.size + 1, 6, none⟩ = some (.slice none 0 0) ∧ x1.cell? ⟨w.heap.size + 1, 7, none⟩ = some (.slice (some ⟨ge, 0, none⟩) 2 2)) := ⟨⟨c6.cell rfl, c6.cell rfl⟩, cv.c8⟩))
    all_goals
      (try clear e0 e1 e2 e3 e4 e5 e6 e7 q0 q1 q2 q3 q4 q5 q6 q7)
      go_wp2_with fail
      go_meet
      case rel => first | with_reducible exact trel1 hb0 cO hr | with_reducible exact trel2 hb0 (by omega) rA cO hr | fail
  case rest =>
    obtain ⟨g8, go, nr, Ar, kr, cr1, Br, mr, er, rfl, rfl, rA, hg8, cO, hr, hbq⟩ := hcut
    have d4 := cr.below hbq cr.lt
    obtain ⟨x0, x1, x2, x3, x4, x5, x6, x7⟩ := rA.c8
    obtain ⟨u0, u1, u2, u3, u4, u5, u6, u7⟩ := d4.c8
    obtain ⟨v0, v1, v2, v3, v4, v5, v6, v7⟩ := d4.f8
    go_wp2_with fail
    refine ret_cs_tmp (l := [.bool false, .slice none 0 0, .slice none 0 0, .int .i64 0, .bool false, .int .u64 0, .slice none 0 0, .slice (some ⟨go, 0, none⟩) 2 2]) Tryz.results19 Tryz.underlying32 (by kernel_rfl) rfl rfl (cs_own8 d4 rfl _ _ _ _ _ _ _ _) rfl ?_
    exact ⟨go, nr, Ar, kr, cr1, Br, mr, er, rfl, cs_far8 cO (cO.ne_len d4 (by simp)) _ _ _ _ _ _ _ _, hr.s8 d4 (by simp) _ _ _ _ _ _ _ _, below_s8 (hb9.trans (hbq.mono hz0)) (by omega) _ _ _ _ _ _ _ _⟩
end Go.Proofs.YtafoplnpnoedfaaGreatDoor
