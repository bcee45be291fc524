/- build with starOfTuple$1; starOfTuple. -/
import Derived.Test.YtafoplnpnoedfaaGreatDoorQ28
set_option linter.unusedVariables false
set_option linter.unusedSimpArgs false
namespace Go.Proofs.YtafoplnpnoedfaaGreatDoor
open Go.RowKit

theorem Cs.setM {g : Nat} {t : TypeId} : ∀ (us : List Value) (k : Nat) (w : World) (l : List Value), Cs w g l t → k + us.length ≤ l.length → Cs (Go.Proofs.YtafoplnpnoedfaaGreatDoor.setL w g k us) g (l.take k ++ us ++ l.drop (k + us.length)) t
  | [], k, w, l, h, hk => by
    simp only [List.append_nil, List.length_nil, Nat.add_zero, List.take_append_drop]; exact h
  | u :: us, k, w, l, h, hk => by
    have := Cs.setM us (k + 1) _ _ (h.set k u) (by simp at hk ⊢; omega)
    have hlt : k < (l.set k u).length := by simp at hk ⊢; omega
    have e : (l.set k u).take (k + 1) ++ us ++ (l.set k u).drop (k + 1 + us.length) = l.take k ++ (u :: us) ++ l.drop (k + (u :: us).length) := by
      rw [List.take_succ_eq_append_getElem hlt, List.getElem_set_self, List.take_set_of_le (Nat.le_refl _), List.drop_set_of_lt (by omega), List.length_cons, show k + 1 + us.length = k + (us.length + 1) by omega]
      simp
    rw [e] at this
    exact this
theorem Parts.sL {w : World} {g cap g' : Nat} {l : List Value} (h : Parts w (.slice (some ⟨g, 0, none⟩) 2 cap) l) (hne : g ≠ g') (us : List Value) (k : Nat) : Parts (setL w g' k us) (.slice (some ⟨g, 0, none⟩) 2 cap) l := by
  obtain ⟨g1, cap1, e, hc, hg, hx⟩ := h
  injection e with e1 e2 e3
  injection e1 with e1
  injection e1 with e1
  subst e1 e3
  have key : ∀ (us : List Value) (j : Nat) (w : World) (i : Nat) (x : Value), w.cell? ⟨g, i, none⟩ = some x → (setL w g' j us).cell? ⟨g, i, none⟩ = some x := by
    intro us
    induction us with
    | nil => intro j w i x h; exact h
    | cons u us ih =>
      intro j w i x h
      exact ih (j + 1) _ i x (cell_st hne h)
  exact ⟨g, cap, rfl, hc, by rw [size_setL]; exact hg, fun i x hk => key us k w i x (hx i x hk)⟩
theorem RatQ.sL {w : World} {v : Value} {q : Rat} (h : RatQ w v q) {g : Nat} {l : List Value} {t : TypeId} (hr : Cs w g l t) (hl : ∀ v ∈ l, ∀ x : Nat, v ≠ .int .u32 (x : Int)) (us : List Value) (k : Nat) : RatQ (setL w g k us) v q := by
  obtain ⟨A, n, c, A', m, c', e, h1, h2⟩ := h
  exact ⟨A, n, c, A', m, c', e, Num.setL (h1.ne_cs hr hl) us k h1, Num.setL (h2.ne_cs hr hl) us k h2⟩
theorem Cs.f16 {w : World} {g : Nat} {l : List Value} {t : TypeId} (h : Cs w g l t) :
    w.frozen? ⟨g, 8, none⟩ = false ∧ w.frozen? ⟨g, 9, none⟩ = false ∧ w.frozen? ⟨g, 10, none⟩ = false ∧ w.frozen? ⟨g, 11, none⟩ = false ∧ w.frozen? ⟨g, 12, none⟩ = false ∧ w.frozen? ⟨g, 13, none⟩ = false ∧ w.frozen? ⟨g, 14, none⟩ = false ∧ w.frozen? ⟨g, 15, none⟩ = false :=
  ⟨h.frozen 8, h.frozen 9, h.frozen 10, h.frozen 11, h.frozen 12, h.frozen 13, h.frozen 14, h.frozen 15⟩
theorem mk16 (W : World) : (Instr.makeSlice 30 (.int .i64 2) (.int .i64 2)).run Tryz.prog W = .ok (.slice (some ⟨W.heap.size, 0, none⟩) 2 2) (W.alloc (.cells #[.bool false, .slice none 0 0, .slice none 0 0, .int .i64 0, .bool false, .int .u64 0, .slice none 0 0, .slice none 0 0, .bool false, .slice none 0 0, .slice none 0 0, .int .i64 0, .bool false, .int .u64 0, .slice none 0 0, .slice none 0 0] 32)) := by
  have h : (Tryz.prog.info? 32).map (fun i => (i.zero, i.size, decide (i.bytes ≤ 1000))) = some (some (.agg #[.bool false, .slice none 0 0, .slice none 0 0, .int .i64 0, .bool false, .int .u64 0, .slice none 0 0, .slice none 0 0]), 8, true) := by kernel_rfl
  obtain ⟨i, hi, hz⟩ := Option.map_eq_some_iff.1 h
  simp only [Prod.mk.injEq, decide_eq_true_eq] at hz
  have hm := run_make (P := Tryz.prog) W 30 32 i (.agg #[.bool false, .slice none 0 0, .slice none 0 0, .int .i64 0, .bool false, .int .u64 0, .slice none 0 0, .slice none 0 0]) Tryz.underlying30 hi hz.1 .i64 .i64 2 2 (by omega) (by omega) (by have := hz.2.2; omega) (by omega)
  rw [hz.2.1] at hm
  have e : madeCells (Value.agg #[.bool false, .slice none 0 0, .slice none 0 0, .int .i64 0, .bool false, .int .u64 0, .slice none 0 0, .slice none 0 0]).cells ((2 : Int).toNat * 8) = #[.bool false, .slice none 0 0, .slice none 0 0, .int .i64 0, .bool false, .int .u64 0, .slice none 0 0, .slice none 0 0, .bool false, .slice none 0 0, .slice none 0 0, .int .i64 0, .bool false, .int .u64 0, .slice none 0 0, .slice none 0 0] := by kernel_rfl
  rw [e] at hm
  exact hm
set_option maxRecDepth 20000 in
set_option maxHeartbeats 6000000 in
theorem build_star (gw gk g cap ge : Nat) (nb : Bool) (A B : Option Addr) (n c m e : Nat) (d : Int) (j : Bool) (q : Rat) (b1 b2 b3 b4 : Nat) (w : World) (cw : Cs w gw [.bool false, .slice none 0 0, .slice none 0 0, .int .i64 0, .bool false, .int .u64 0, .slice none 0 0, .slice (some ⟨ge, 0, none⟩) 2 2] 32) (ck : Cs w gk [.bool true] 4) (hE : Cs w ge (pairL nb A n c B m e d j) 32) (hP : Parts w (.slice (some ⟨g, 0, none⟩) 2 cap) (nopsL b1 b2 ++ copsL b3 b4)) (hT : Tab w) (hq : RatQ w (.agg #[.bool nb, .slice A n c, .slice B m e]) q) (a s r : Rat) (hS : Sz q 100000) (ha : Hid (qv false q.num.natAbs q.den = a)) (hSa : Sz a 100000) (HC : Hid (cmpQ a 1 = -1)) (HS : Hid (1 - q = s)) (hSs : Sz s 100000) (HS0 : Hid (s ≠ 0)) (HR : Hid (1 / s = r)) (hgg : g ≠ gk) (hek : ge ≠ gk) (hwk : gw ≠ gk) :
    Calls Tryz.prog 53 #[.slice (some ⟨g, 0, none⟩) 2 cap, .func (.func 129) #[] #[.pointer (some ⟨gw, 0, none⟩), .pointer (some ⟨gk, 0, none⟩)]] w (fun e0 w' => ∃ go nr Ar kr cr Br mr er, e0 = .returned (pw go) ∧ Cs w' go (pairL nr Ar kr cr Br mr er 0 false) 32 ∧ w.heap.size ≤ go ∧ RatQ w' (.agg #[.bool nr, .slice Ar kr cr, .slice Br mr er]) r ∧ w.grownBy w' (some gk) ∧ Cs w' gk [.bool true] 4) := by
  have kw := cw.lt
  have kk := ck.lt
  have ke := hE.lt
  have kg : g < w.heap.size := by obtain ⟨_, _, e, _, h⟩ := hP.row; cases e; exact h
  obtain ⟨hb0, c4, cO⟩ := blk2 w [.bool false, .slice none 0 0, .slice none 0 0, .int .i64 0, .bool false, .int .u64 0, .slice none 0 0, .slice none 0 0] [.bool false, .slice none 0 0, .slice none 0 0, .int .i64 0, .bool false, .int .u64 0, .slice none 0 0, .slice none 0 0, .bool false, .slice none 0 0, .slice none 0 0, .int .i64 0, .bool false, .int .u64 0, .slice none 0 0, .slice none 0 0] 32 32
  replace cw := cw.below hb0 kw
  replace ck := ck.below hb0 kk
  replace hE := hE.below hb0 ke
  replace hP := hP.below hb0
  replace hq := hq.below hb0
  replace hT := hT.below hb0
  have hG : w.grownBy ((w.alloc (W8t 0 false)).alloc (.cells #[.bool false, .slice none 0 0, .slice none 0 0, .int .i64 0, .bool false, .int .u64 0, .slice none 0 0, .slice none 0 0, .bool false, .slice none 0 0, .slice none 0 0, .int .i64 0, .bool false, .int .u64 0, .slice none 0 0, .slice none 0 0] 32)) (some gk) := grown_below' hb0
  have p0 := hP.at (k := 0) rfl
  have p1 := hP.at (k := 1) rfl
  have p2 := hP.at (k := 2) rfl
  have p3 := hP.at (k := 3) rfl
  have p4 := hP.at (k := 4) rfl
  have p5 := hP.at (k := 5) rfl
  have p6 := hP.at (k := 6) rfl
  have p7 := hP.at (k := 7) rfl
  have p8 := hP.at (k := 8) rfl
  have p9 := hP.at (k := 9) rfl
  have hmk := mk16
  go_enter Tryz.func53, Tryz.ntmps53
  go_wp2_with fail
  refine wp_loop_rounds 3 ?_
  rw [rounds_succ]
  go_wp2_with fail
  clear p0 p1 p2 p3 p4 p5 p6 p7 p8 p9
  have hal : Below ((w.alloc (W8t 0 false)).alloc (.cells #[.bool false, .slice none 0 0, .slice none 0 0, .int .i64 0, .bool false, .int .u64 0, .slice none 0 0, .slice none 0 0, .bool false, .slice none 0 0, .slice none 0 0, .int .i64 0, .bool false, .int .u64 0, .slice none 0 0, .slice none 0 0] 32)).heap.size ((w.alloc (W8t 0 false)).alloc (.cells #[.bool false, .slice none 0 0, .slice none 0 0, .int .i64 0, .bool false, .int .u64 0, .slice none 0 0, .slice none 0 0, .bool false, .slice none 0 0, .slice none 0 0, .int .i64 0, .bool false, .int .u64 0, .slice none 0 0, .slice none 0 0] 32)) (((w.alloc (W8t 0 false)).alloc (.cells #[.bool false, .slice none 0 0, .slice none 0 0, .int .i64 0, .bool false, .int .u64 0, .slice none 0 0, .slice none 0 0, .bool false, .slice none 0 0, .slice none 0 0, .int .i64 0, .bool false, .int .u64 0, .slice none 0 0, .slice none 0 0] 32)).alloc (.cells (nopsL b1 b2).toArray 55)) := (Below.refl _ _).alloc (Nat.le_refl _) _
  replace c4 := c4.alloc (.cells (nopsL b1 b2).toArray 55)
  replace cO := cO.alloc (.cells (nopsL b1 b2).toArray 55)
  replace cw := cw.alloc (.cells (nopsL b1 b2).toArray 55)
  replace ck := ck.alloc (.cells (nopsL b1 b2).toArray 55)
  replace hE := hE.alloc (.cells (nopsL b1 b2).toArray 55)
  replace hP := hP.below hal
  replace hG := grown_al hG (.cells (nopsL b1 b2).toArray 55)
  replace hq := hq.below hal
  replace hT := hT.below hal
  clear hal hb0
  generalize (((w.alloc (W8t 0 false)).alloc (.cells #[.bool false, .slice none 0 0, .slice none 0 0, .int .i64 0, .bool false, .int .u64 0, .slice none 0 0, .slice none 0 0, .bool false, .slice none 0 0, .slice none 0 0, .int .i64 0, .bool false, .int .u64 0, .slice none 0 0, .slice none 0 0] 32)).alloc (.cells #[fv 117, cln b1 b2, fv 80, fv 120, fv 121, fv 91, fv 123, fv 64, fv 124, fv 125] 55)) = Y0 at *
  refine (starElem_num gw gk ge nb A B n c m e d j q b1 b2 _ cw ck hE a s r hT hq hS ha hSa HC HS hSs HS0 HR).mono ?_
  rintro e0 w1 ⟨nr, Ar, kr, cr, Br, mr, er, rfl, hr, hg1, ck1⟩
  clear hT hq
  replace c4 := c4.gr hg1 (by omega)
  replace cO := cO.gr hg1 (by omega)
  replace cw := cw.gr hg1 hwk
  replace hE := hE.gr hg1 hek
  replace hP := hP.gr hg1 hgg
  replace hG := grown_tr hG hg1
  clear ck hg1
  have ck := ck1
  clear ck1
  obtain ⟨x0, x1, x2, x3, x4, x5, x6, x7⟩ := cO.g8
  obtain ⟨z0, z1, z2, z3, z4, z5, z6, z7⟩ := cO.f8
  go_wp2_with fail
  clear x0 x1 x2 x3 x4 x5 x6 x7 z0 z1 z2 z3 z4 z5 z6 z7
  replace hr := (show RatQ ((((((((w1.setCell ⟨w.heap.size + 1, 0, none⟩ (.bool nr)).setCell ⟨w.heap.size + 1, 1, none⟩ (.slice Ar kr cr)).setCell ⟨w.heap.size + 1, 2, none⟩ (.slice Br mr er)).setCell ⟨w.heap.size + 1, 3, none⟩ (.int .i64 0)).setCell ⟨w.heap.size + 1, 4, none⟩ (.bool false)).setCell ⟨w.heap.size + 1, 5, none⟩ (.int .u64 0)).setCell ⟨w.heap.size + 1, 6, none⟩ (.slice none 0 0)).setCell ⟨w.heap.size + 1, 7, none⟩ (.slice none 0 0)) _ r from hr.sL cO (by simp) [.bool nr, .slice Ar kr cr, .slice Br mr er, .int .i64 0, .bool false, .int .u64 0, .slice none 0 0, .slice none 0 0] 0)
  replace cO := (show Cs ((((((((w1.setCell ⟨w.heap.size + 1, 0, none⟩ (.bool nr)).setCell ⟨w.heap.size + 1, 1, none⟩ (.slice Ar kr cr)).setCell ⟨w.heap.size + 1, 2, none⟩ (.slice Br mr er)).setCell ⟨w.heap.size + 1, 3, none⟩ (.int .i64 0)).setCell ⟨w.heap.size + 1, 4, none⟩ (.bool false)).setCell ⟨w.heap.size + 1, 5, none⟩ (.int .u64 0)).setCell ⟨w.heap.size + 1, 6, none⟩ (.slice none 0 0)).setCell ⟨w.heap.size + 1, 7, none⟩ (.slice none 0 0)) (w.heap.size + 1) [.bool nr, .slice Ar kr cr, .slice Br mr er, .int .i64 0, .bool false, .int .u64 0, .slice none 0 0, .slice none 0 0, .bool false, .slice none 0 0, .slice none 0 0, .int .i64 0, .bool false, .int .u64 0, .slice none 0 0, .slice none 0 0] 32 from Cs.setM [.bool nr, .slice Ar kr cr, .slice Br mr er, .int .i64 0, .bool false, .int .u64 0, .slice none 0 0, .slice none 0 0] 0 _ _ cO (by simp))
  replace c4 := (show Cs ((((((((w1.setCell ⟨w.heap.size + 1, 0, none⟩ (.bool nr)).setCell ⟨w.heap.size + 1, 1, none⟩ (.slice Ar kr cr)).setCell ⟨w.heap.size + 1, 2, none⟩ (.slice Br mr er)).setCell ⟨w.heap.size + 1, 3, none⟩ (.int .i64 0)).setCell ⟨w.heap.size + 1, 4, none⟩ (.bool false)).setCell ⟨w.heap.size + 1, 5, none⟩ (.int .u64 0)).setCell ⟨w.heap.size + 1, 6, none⟩ (.slice none 0 0)).setCell ⟨w.heap.size + 1, 7, none⟩ (.slice none 0 0)) w.heap.size _ _ from Cs.farL (by omega) [.bool nr, .slice Ar kr cr, .slice Br mr er, .int .i64 0, .bool false, .int .u64 0, .slice none 0 0, .slice none 0 0] 0 c4)
  replace cw := (show Cs ((((((((w1.setCell ⟨w.heap.size + 1, 0, none⟩ (.bool nr)).setCell ⟨w.heap.size + 1, 1, none⟩ (.slice Ar kr cr)).setCell ⟨w.heap.size + 1, 2, none⟩ (.slice Br mr er)).setCell ⟨w.heap.size + 1, 3, none⟩ (.int .i64 0)).setCell ⟨w.heap.size + 1, 4, none⟩ (.bool false)).setCell ⟨w.heap.size + 1, 5, none⟩ (.int .u64 0)).setCell ⟨w.heap.size + 1, 6, none⟩ (.slice none 0 0)).setCell ⟨w.heap.size + 1, 7, none⟩ (.slice none 0 0)) gw _ _ from Cs.farL (by omega) [.bool nr, .slice Ar kr cr, .slice Br mr er, .int .i64 0, .bool false, .int .u64 0, .slice none 0 0, .slice none 0 0] 0 cw)
  replace ck := (show Cs ((((((((w1.setCell ⟨w.heap.size + 1, 0, none⟩ (.bool nr)).setCell ⟨w.heap.size + 1, 1, none⟩ (.slice Ar kr cr)).setCell ⟨w.heap.size + 1, 2, none⟩ (.slice Br mr er)).setCell ⟨w.heap.size + 1, 3, none⟩ (.int .i64 0)).setCell ⟨w.heap.size + 1, 4, none⟩ (.bool false)).setCell ⟨w.heap.size + 1, 5, none⟩ (.int .u64 0)).setCell ⟨w.heap.size + 1, 6, none⟩ (.slice none 0 0)).setCell ⟨w.heap.size + 1, 7, none⟩ (.slice none 0 0)) gk _ _ from Cs.farL (by omega) [.bool nr, .slice Ar kr cr, .slice Br mr er, .int .i64 0, .bool false, .int .u64 0, .slice none 0 0, .slice none 0 0] 0 ck)
  replace hE := (show Cs ((((((((w1.setCell ⟨w.heap.size + 1, 0, none⟩ (.bool nr)).setCell ⟨w.heap.size + 1, 1, none⟩ (.slice Ar kr cr)).setCell ⟨w.heap.size + 1, 2, none⟩ (.slice Br mr er)).setCell ⟨w.heap.size + 1, 3, none⟩ (.int .i64 0)).setCell ⟨w.heap.size + 1, 4, none⟩ (.bool false)).setCell ⟨w.heap.size + 1, 5, none⟩ (.int .u64 0)).setCell ⟨w.heap.size + 1, 6, none⟩ (.slice none 0 0)).setCell ⟨w.heap.size + 1, 7, none⟩ (.slice none 0 0)) ge _ _ from Cs.farL (by omega) [.bool nr, .slice Ar kr cr, .slice Br mr er, .int .i64 0, .bool false, .int .u64 0, .slice none 0 0, .slice none 0 0] 0 hE)
  replace hP := (show Parts ((((((((w1.setCell ⟨w.heap.size + 1, 0, none⟩ (.bool nr)).setCell ⟨w.heap.size + 1, 1, none⟩ (.slice Ar kr cr)).setCell ⟨w.heap.size + 1, 2, none⟩ (.slice Br mr er)).setCell ⟨w.heap.size + 1, 3, none⟩ (.int .i64 0)).setCell ⟨w.heap.size + 1, 4, none⟩ (.bool false)).setCell ⟨w.heap.size + 1, 5, none⟩ (.int .u64 0)).setCell ⟨w.heap.size + 1, 6, none⟩ (.slice none 0 0)).setCell ⟨w.heap.size + 1, 7, none⟩ (.slice none 0 0)) _ _ from hP.sL (by omega) [.bool nr, .slice Ar kr cr, .slice Br mr er, .int .i64 0, .bool false, .int .u64 0, .slice none 0 0, .slice none 0 0] 0)
  replace hG := (show w.grownBy ((((((((w1.setCell ⟨w.heap.size + 1, 0, none⟩ (.bool nr)).setCell ⟨w.heap.size + 1, 1, none⟩ (.slice Ar kr cr)).setCell ⟨w.heap.size + 1, 2, none⟩ (.slice Br mr er)).setCell ⟨w.heap.size + 1, 3, none⟩ (.int .i64 0)).setCell ⟨w.heap.size + 1, 4, none⟩ (.bool false)).setCell ⟨w.heap.size + 1, 5, none⟩ (.int .u64 0)).setCell ⟨w.heap.size + 1, 6, none⟩ (.slice none 0 0)).setCell ⟨w.heap.size + 1, 7, none⟩ (.slice none 0 0)) _ from grown_sL (by omega) [.bool nr, .slice Ar kr cr, .slice Br mr er, .int .i64 0, .bool false, .int .u64 0, .slice none 0 0, .slice none 0 0] 0 hG)
  generalize ((((((((w1.setCell ⟨w.heap.size + 1, 0, none⟩ (.bool nr)).setCell ⟨w.heap.size + 1, 1, none⟩ (.slice Ar kr cr)).setCell ⟨w.heap.size + 1, 2, none⟩ (.slice Br mr er)).setCell ⟨w.heap.size + 1, 3, none⟩ (.int .i64 0)).setCell ⟨w.heap.size + 1, 4, none⟩ (.bool false)).setCell ⟨w.heap.size + 1, 5, none⟩ (.int .u64 0)).setCell ⟨w.heap.size + 1, 6, none⟩ (.slice none 0 0)).setCell ⟨w.heap.size + 1, 7, none⟩ (.slice none 0 0)) = V0 at *
  have p0 := hP.at (k := 10) rfl
  have p1 := hP.at (k := 11) rfl
  have p2 := hP.at (k := 12) rfl
  have p3 := hP.at (k := 13) rfl
  have p4 := hP.at (k := 14) rfl
  have p5 := hP.at (k := 15) rfl
  have p6 := hP.at (k := 16) rfl
  have p7 := hP.at (k := 17) rfl
  have p8 := hP.at (k := 18) rfl
  have p9 := hP.at (k := 19) rfl
  rw [rounds_succ]
  go_wp2_with fail
  clear p0 p1 p2 p3 p4 p5 p6 p7 p8 p9
  have hal : Below V0.heap.size V0 (V0.alloc (.cells (copsL b3 b4).toArray 55)) := (Below.refl _ _).alloc (Nat.le_refl _) _
  replace c4 := c4.alloc (.cells (copsL b3 b4).toArray 55)
  replace cO := cO.alloc (.cells (copsL b3 b4).toArray 55)
  replace cw := cw.alloc (.cells (copsL b3 b4).toArray 55)
  replace ck := ck.alloc (.cells (copsL b3 b4).toArray 55)
  replace hE := hE.alloc (.cells (copsL b3 b4).toArray 55)
  replace hP := hP.below hal
  replace hG := grown_al hG (.cells (copsL b3 b4).toArray 55)
  replace hr := hr.below hal
  clear hal
  generalize (V0.alloc (.cells #[fv 79, cln b3 b4, fv 78, fv 80, fv 81, fv 82, fv 83, fv 84, fv 85, fv 86] 55)) = Y1 at *
  refine (starElem_cost gw gk ge nb A B n c m e d j b3 b4 _ cw ck hE).mono ?_
  rintro e0 w2 ⟨rfl, hg1, ck1⟩
  replace hr := hr.gr hg1 ck (by simp)
  replace c4 := c4.gr hg1 (by omega)
  replace cO := cO.gr hg1 (by omega)
  replace cw := cw.gr hg1 hwk
  replace hE := hE.gr hg1 hek
  replace hP := hP.gr hg1 hgg
  replace hG := grown_tr hG hg1
  clear ck hg1
  have ck := ck1
  clear ck1
  obtain ⟨x0, x1, x2, x3, x4, x5, x6, x7⟩ := cO.h8
  obtain ⟨z0, z1, z2, z3, z4, z5, z6, z7⟩ := cO.f16
  go_wp2_with fail
  clear x0 x1 x2 x3 x4 x5 x6 x7 z0 z1 z2 z3 z4 z5 z6 z7
  replace hr := (show RatQ ((((((((w2.setCell ⟨w.heap.size + 1, 8, none⟩ (.bool false)).setCell ⟨w.heap.size + 1, 9, none⟩ (.slice none 0 0)).setCell ⟨w.heap.size + 1, 10, none⟩ (.slice none 0 0)).setCell ⟨w.heap.size + 1, 11, none⟩ (.int .i64 0)).setCell ⟨w.heap.size + 1, 12, none⟩ (.bool false)).setCell ⟨w.heap.size + 1, 13, none⟩ (.int .u64 0)).setCell ⟨w.heap.size + 1, 14, none⟩ (.slice none 0 0)).setCell ⟨w.heap.size + 1, 15, none⟩ (.slice none 0 0)) _ r from hr.sL cO (by simp) [.bool false, .slice none 0 0, .slice none 0 0, .int .i64 0, .bool false, .int .u64 0, .slice none 0 0, .slice none 0 0] 8)
  replace cO := (show Cs ((((((((w2.setCell ⟨w.heap.size + 1, 8, none⟩ (.bool false)).setCell ⟨w.heap.size + 1, 9, none⟩ (.slice none 0 0)).setCell ⟨w.heap.size + 1, 10, none⟩ (.slice none 0 0)).setCell ⟨w.heap.size + 1, 11, none⟩ (.int .i64 0)).setCell ⟨w.heap.size + 1, 12, none⟩ (.bool false)).setCell ⟨w.heap.size + 1, 13, none⟩ (.int .u64 0)).setCell ⟨w.heap.size + 1, 14, none⟩ (.slice none 0 0)).setCell ⟨w.heap.size + 1, 15, none⟩ (.slice none 0 0)) (w.heap.size + 1) [.bool nr, .slice Ar kr cr, .slice Br mr er, .int .i64 0, .bool false, .int .u64 0, .slice none 0 0, .slice none 0 0, .bool false, .slice none 0 0, .slice none 0 0, .int .i64 0, .bool false, .int .u64 0, .slice none 0 0, .slice none 0 0] 32 from Cs.setM [.bool false, .slice none 0 0, .slice none 0 0, .int .i64 0, .bool false, .int .u64 0, .slice none 0 0, .slice none 0 0] 8 _ _ cO (by simp))
  replace c4 := (show Cs ((((((((w2.setCell ⟨w.heap.size + 1, 8, none⟩ (.bool false)).setCell ⟨w.heap.size + 1, 9, none⟩ (.slice none 0 0)).setCell ⟨w.heap.size + 1, 10, none⟩ (.slice none 0 0)).setCell ⟨w.heap.size + 1, 11, none⟩ (.int .i64 0)).setCell ⟨w.heap.size + 1, 12, none⟩ (.bool false)).setCell ⟨w.heap.size + 1, 13, none⟩ (.int .u64 0)).setCell ⟨w.heap.size + 1, 14, none⟩ (.slice none 0 0)).setCell ⟨w.heap.size + 1, 15, none⟩ (.slice none 0 0)) w.heap.size _ _ from Cs.farL (by omega) [.bool false, .slice none 0 0, .slice none 0 0, .int .i64 0, .bool false, .int .u64 0, .slice none 0 0, .slice none 0 0] 8 c4)
  replace cw := (show Cs ((((((((w2.setCell ⟨w.heap.size + 1, 8, none⟩ (.bool false)).setCell ⟨w.heap.size + 1, 9, none⟩ (.slice none 0 0)).setCell ⟨w.heap.size + 1, 10, none⟩ (.slice none 0 0)).setCell ⟨w.heap.size + 1, 11, none⟩ (.int .i64 0)).setCell ⟨w.heap.size + 1, 12, none⟩ (.bool false)).setCell ⟨w.heap.size + 1, 13, none⟩ (.int .u64 0)).setCell ⟨w.heap.size + 1, 14, none⟩ (.slice none 0 0)).setCell ⟨w.heap.size + 1, 15, none⟩ (.slice none 0 0)) gw _ _ from Cs.farL (by omega) [.bool false, .slice none 0 0, .slice none 0 0, .int .i64 0, .bool false, .int .u64 0, .slice none 0 0, .slice none 0 0] 8 cw)
  replace ck := (show Cs ((((((((w2.setCell ⟨w.heap.size + 1, 8, none⟩ (.bool false)).setCell ⟨w.heap.size + 1, 9, none⟩ (.slice none 0 0)).setCell ⟨w.heap.size + 1, 10, none⟩ (.slice none 0 0)).setCell ⟨w.heap.size + 1, 11, none⟩ (.int .i64 0)).setCell ⟨w.heap.size + 1, 12, none⟩ (.bool false)).setCell ⟨w.heap.size + 1, 13, none⟩ (.int .u64 0)).setCell ⟨w.heap.size + 1, 14, none⟩ (.slice none 0 0)).setCell ⟨w.heap.size + 1, 15, none⟩ (.slice none 0 0)) gk _ _ from Cs.farL (by omega) [.bool false, .slice none 0 0, .slice none 0 0, .int .i64 0, .bool false, .int .u64 0, .slice none 0 0, .slice none 0 0] 8 ck)
  replace hE := (show Cs ((((((((w2.setCell ⟨w.heap.size + 1, 8, none⟩ (.bool false)).setCell ⟨w.heap.size + 1, 9, none⟩ (.slice none 0 0)).setCell ⟨w.heap.size + 1, 10, none⟩ (.slice none 0 0)).setCell ⟨w.heap.size + 1, 11, none⟩ (.int .i64 0)).setCell ⟨w.heap.size + 1, 12, none⟩ (.bool false)).setCell ⟨w.heap.size + 1, 13, none⟩ (.int .u64 0)).setCell ⟨w.heap.size + 1, 14, none⟩ (.slice none 0 0)).setCell ⟨w.heap.size + 1, 15, none⟩ (.slice none 0 0)) ge _ _ from Cs.farL (by omega) [.bool false, .slice none 0 0, .slice none 0 0, .int .i64 0, .bool false, .int .u64 0, .slice none 0 0, .slice none 0 0] 8 hE)
  replace hP := (show Parts ((((((((w2.setCell ⟨w.heap.size + 1, 8, none⟩ (.bool false)).setCell ⟨w.heap.size + 1, 9, none⟩ (.slice none 0 0)).setCell ⟨w.heap.size + 1, 10, none⟩ (.slice none 0 0)).setCell ⟨w.heap.size + 1, 11, none⟩ (.int .i64 0)).setCell ⟨w.heap.size + 1, 12, none⟩ (.bool false)).setCell ⟨w.heap.size + 1, 13, none⟩ (.int .u64 0)).setCell ⟨w.heap.size + 1, 14, none⟩ (.slice none 0 0)).setCell ⟨w.heap.size + 1, 15, none⟩ (.slice none 0 0)) _ _ from hP.sL (by omega) [.bool false, .slice none 0 0, .slice none 0 0, .int .i64 0, .bool false, .int .u64 0, .slice none 0 0, .slice none 0 0] 8)
  replace hG := (show w.grownBy ((((((((w2.setCell ⟨w.heap.size + 1, 8, none⟩ (.bool false)).setCell ⟨w.heap.size + 1, 9, none⟩ (.slice none 0 0)).setCell ⟨w.heap.size + 1, 10, none⟩ (.slice none 0 0)).setCell ⟨w.heap.size + 1, 11, none⟩ (.int .i64 0)).setCell ⟨w.heap.size + 1, 12, none⟩ (.bool false)).setCell ⟨w.heap.size + 1, 13, none⟩ (.int .u64 0)).setCell ⟨w.heap.size + 1, 14, none⟩ (.slice none 0 0)).setCell ⟨w.heap.size + 1, 15, none⟩ (.slice none 0 0)) _ from grown_sL (by omega) [.bool false, .slice none 0 0, .slice none 0 0, .int .i64 0, .bool false, .int .u64 0, .slice none 0 0, .slice none 0 0] 8 hG)
  generalize ((((((((w2.setCell ⟨w.heap.size + 1, 8, none⟩ (.bool false)).setCell ⟨w.heap.size + 1, 9, none⟩ (.slice none 0 0)).setCell ⟨w.heap.size + 1, 10, none⟩ (.slice none 0 0)).setCell ⟨w.heap.size + 1, 11, none⟩ (.int .i64 0)).setCell ⟨w.heap.size + 1, 12, none⟩ (.bool false)).setCell ⟨w.heap.size + 1, 13, none⟩ (.int .u64 0)).setCell ⟨w.heap.size + 1, 14, none⟩ (.slice none 0 0)).setCell ⟨w.heap.size + 1, 15, none⟩ (.slice none 0 0)) = V1 at *
  rw [rounds_succ]
  obtain ⟨x0, x1, x2, x3, x4, x5, x6, x7⟩ := c4.c8
  obtain ⟨z0, z1, z2, z3, z4, z5, z6, z7⟩ := c4.f8
  go_wp2_with fail
  refine ret_cs (l := [.bool false, .slice none 0 0, .slice none 0 0, .int .i64 0, .bool false, .int .u64 0, .slice none 0 0, .slice (some ⟨w.heap.size + 1, 0, none⟩) 2 2]) Tryz.results53 Tryz.underlying32 (by kernel_rfl) rfl (cs_own8 c4 rfl _ _ _ _ _ _ _ _) rfl ?_
  exact ⟨w.heap.size + 1, nr, Ar, kr, cr, Br, mr, er, rfl, cs_far8 cO (by omega) _ _ _ _ _ _ _ _, by omega, hr.s8 c4 (by simp) _ _ _ _ _ _ _ _, grown_s8 hG (Nat.le_refl _) _ _ _ _ _ _ _ _, cs_far8 ck (by omega) _ _ _ _ _ _ _ _⟩
end Go.Proofs.YtafoplnpnoedfaaGreatDoor
