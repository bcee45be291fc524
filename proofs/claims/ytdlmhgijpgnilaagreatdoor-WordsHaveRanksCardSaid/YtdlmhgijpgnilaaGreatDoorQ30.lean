/- words.Unrank. -/
import Derived.Test.YtdlmhgijpgnilaaGreatDoorQ27
import Derived.Test.YtdlmhgijpgnilaaGreatDoorQ26
import Derived.Test.YtdlmhgijpgnilaaGreatDoorQ29
import Derived.Deep.CutRange
set_option linter.unusedVariables false
set_option linter.unusedSimpArgs false
namespace Go.Proofs.YtdlmhgijpgnilaaGreatDoor
open Go.RowKit Go.Shelf
attribute [local go_sem] Oper.semAt_some

theorem lft_le (s N : Nat) : ∀ k, lft s N k ≤ N
  | 0 => Nat.le_refl _
  | k + 1 => Nat.le_trans (Nat.div_le_self _ _) (Nat.le_trans (Nat.sub_le _ _) (lft_le s N k))
/-- The answer of Unrank, for a whole rank. -/
def unrA (s N : Nat) : List Int × Int := if N < cnt s 256 then (unr s N, 0) else ([], 1)
/-- Between two rounds: the last k letters stand, and what is left of the rank. -/
structure UnI (w0 : World) (gb gw gk : Nat) (bv : Bool × Option Addr × Nat × Nat × Option Addr × Nat × Nat) (v : Value) (s N n k : Nat) (W : World) : Prop where
  rank : ∃ nb A n c B m d, Rc W w0.heap.size (.bool nb) (.slice A n c) (.slice B m d) ∧ RatQ W (.agg #[.bool nb, .slice A n c, .slice B m d]) ((lft s N k : Int) : Rat)
  base : Rc W gb (.bool bv.1) (.slice bv.2.1 bv.2.2.1 bv.2.2.2.1) (.slice bv.2.2.2.2.1 bv.2.2.2.2.2.1 bv.2.2.2.2.2.2) ∧ RatQ W (.agg #[.bool bv.1, .slice bv.2.1 bv.2.2.1 bv.2.2.2.1, .slice bv.2.2.2.2.1 bv.2.2.2.2.2.1 bv.2.2.2.2.2.2]) ((s : Int) : Rat)
  bw : Cs W gw [v] 22
  bk : Cs W gk [v] 22
  own : ∃ r, OwnI W w0.heap.size v r ∧ r.length = n ∧ ∀ j, n - k ≤ j → j < n → r.getD j 0 = (unr s N).getD j 0
  below : Below w0.heap.size w0 W
theorem num_round {w w' : World} {B : Nat} {l : List Nat} {A : Option Addr} {n c : Nat} {row : Option Nat} (h : Num w l A n c) (hg : w.grownBy w' row) (hr : ∀ r, row = some r → B ≤ r ∧ ∃ o : Obj, w.heap[r]? = some o ∧ o.isCells = false) : Num w' l A n c :=
  ⟨h.len, h.cap, h.lim, fun hn => by
    obtain ⟨b, o, hA, hb, hc⟩ := h.cells hn
    have hk : w'.heap[b]? = w.heap[b]? := by
      refine hg.block b hb (fun e => ?_)
      obtain ⟨_, ob, ho, hcl⟩ := hr b e.symm
      have hpos : 0 < l.length := by have := h.len; omega
      have hc0 := hc 0 _ (List.getElem?_eq_getElem hpos)
      obtain ⟨ob2, h1, h2⟩ := cells_of_cell hc0
      rw [show (⟨b, o + 0, none⟩ : Addr).block = b from rfl, ho] at h1
      cases h1
      rw [hcl] at h2
      cases h2
    refine ⟨b, o, hA, Nat.lt_of_lt_of_le hb hg.size, fun k x hx => ?_⟩
    exact (World.cell?_of_block (w := w) hk).trans (hc k x hx)⟩
theorem ratq_round {w w' : World} {B : Nat} {v : Value} {q : Rat} {row : Option Nat} (h : RatQ w v q) (hg : w.grownBy w' row) (hr : ∀ r, row = some r → B ≤ r ∧ ∃ o : Obj, w.heap[r]? = some o ∧ o.isCells = false) : RatQ w' v q := by
  obtain ⟨A, n, c, A', m, c', e, h1, h2⟩ := h
  exact ⟨A, n, c, A', m, c', e, num_round h1 hg hr, num_round h2 hg hr⟩
theorem rc_round {w w' : World} {B g : Nat} {z0 z1 z2 : Value} {row : Option Nat} (h : Rc w g z0 z1 z2) (hg : w.grownBy w' row) (hr : ∀ r, row = some r → B ≤ r ∧ ∃ o : Obj, w.heap[r]? = some o ∧ o.isCells = false) : Rc w' g z0 z1 z2 := cs_round (l := [z0, z1, z2]) h hg hr
theorem unI_from (w0 : World) (gb gw gk : Nat) (bv : Bool × Option Addr × Nat × Nat × Option Addr × Nat × Nat) (v : Value) (s N n : Nat) (B : Nat) (hB : w0.heap.size ≤ B) : OwnFrom B (UnI w0 gb gw gk bv v s N n) := fun k W W' row h hg hr => by
  obtain ⟨nb, A, n1, c, B1, m, d, h1, h2⟩ := h.rank
  obtain ⟨r, h3, h4, h5⟩ := h.own
  exact ⟨⟨nb, A, n1, c, B1, m, d, rc_round h1 hg hr, ratq_round h2 hg hr⟩, ⟨rc_round h.base.1 hg hr, ratq_round h.base.2 hg hr⟩, cs_round h.bw hg hr, cs_round h.bk hg hr, ⟨r, own_round h3 hg hr, h4, h5⟩, below_round h.below hg hB h.below.size hr⟩
theorem madeI (n : Nat) : (madeCells (Value.int .i64 0).cells (n * 1)).toList = ints (List.replicate n 0) := by
  rw [Nat.mul_one, show (Value.int .i64 0).cells = #[.int .i64 0] from rfl, toList_madeCells_one]
  simp [ints]
abbrev T7 := Bool × Option Addr × Nat × Nat × Option Addr × Nat × Nat
abbrev ag (t : T7) : Value := .agg #[.bool t.1, .slice t.2.1 t.2.2.1 t.2.2.2.1, .slice t.2.2.2.2.1 t.2.2.2.2.2.1 t.2.2.2.2.2.2]
abbrev S3 (W : World) (g : Nat) (t : T7) : World := ((W.setCell ⟨g, 0, none⟩ (.bool t.1)).setCell ⟨g, 1, none⟩ (.slice t.2.1 t.2.2.1 t.2.2.2.1)).setCell ⟨g, 2, none⟩ (.slice t.2.2.2.2.1 t.2.2.2.2.2.1 t.2.2.2.2.2.2)
def valU (row rk bs : Value) (j : Nat) (c : Int) (pt : Value) (t : T7) : Nat → Value
  | 0 => row
  | 1 => .int .i64 (j : Int)
  | 2 => rk
  | 3 => bs
  | 4 => .tuple #[ag t, .int .i64 c]
  | 5 => .tuple #[ag t, .int .i64 c]
  | 6 => ag t
  | 7 => .int .i64 c
  | 9 => pt
  | _ => undef
def slotU : Nat → Nat
  | 0 => 35
  | 1 => 36
  | 2 => 37
  | 3 => 38
  | 4 => 39
  | 5 => 34
  | 6 => 40
  | 7 => 41
  | 9 => 42
  | _ => 0
def DU : List Nat := [34, 35, 36, 37, 38, 39, 40, 41, 42]
theorem not_yet {b : Bool} (h : ¬ b = true) : b = false := by
  cases b with
  | true => exact absurd rfl h
  | false => rfl
theorem none_in (k : Nat) : ¬ (Array.replicate 11 false).getD k false = true := by
  by_cases h : k < 11 <;> simp [h]
theorem slotU_in : ∀ i, i < 11 → i ≠ 8 → i ≠ 10 → slotU i ∈ DU := by decide
theorem slotU_all : ((List.range 11).all fun i => (List.range 11).all fun k => i == 8 || i == 10 || k == 8 || k == 10 || slotU k != slotU i || k == i) = true := by decide
theorem slotU_inj (i : Nat) (hi : i < 11) (k : Nat) (hk : k < 11) (i8 : i ≠ 8) (i10 : i ≠ 10) (k8 : k ≠ 8) (k10 : k ≠ 10) (e : slotU k = slotU i) : k = i := by
  have h1 := List.all_eq_true.1 (List.all_eq_true.1 slotU_all i (List.mem_range.2 hi)) k (List.mem_range.2 hk)
  simpa [i8, i10, k8, k10, e] using h1
/-- While the round's operations run, in whatever order: what has run, and the world. -/
structure UnJ (a0 : Act) (Wd : World) (Good : World → T7 → Prop) (row rk bs : Value) (j : Nat) (c : Int) (pt : Value) (g gr : Nat) (L : Array Bool) (a : Act) (wx : World) (f : Nat → Value) (x1 : World) (t : T7) : Prop where
  act : a = frontAct a0 DU f
  slots : ∀ k, k < 11 → k ≠ 8 → k ≠ 10 → L.getD k false = true → f (slotU k) = valU row rk bs j c pt t k
  w1 : L.getD 4 false = false → wx = Wd
  w2 : L.getD 4 false = true → Good x1 t
  w3 : L.getD 4 false = true → L.getD 8 false = false → wx = x1
  w4 : L.getD 8 false = true → L.getD 10 false = false → wx = S3 x1 g t
  w5 : L.getD 10 false = true → wx = (S3 x1 g t).setCell ⟨gr, j, none⟩ (.int .i64 c)
def UnK (a0 : Act) (Wd : World) (Good : World → T7 → Prop) (row rk bs : Value) (j : Nat) (c : Int) (pt : Value) (g gr : Nat) (L : Array Bool) (a : Act) (wx : World) : Prop := ∃ f x1 t, UnJ a0 Wd Good row rk bs j c pt g gr L a wx f x1 t
section
variable {a0 : Act} {Wd : World} {Good : World → T7 → Prop} {row rk bs : Value} {j : Nat} {c : Int} {pt : Value} {g gr : Nat} {L : Array Bool} {a : Act} {wx : World} {f : Nat → Value} {x1 : World} {t : T7}
theorem UnJ.keep (h : UnJ a0 Wd Good row rk bs j c pt g gr L a wx f x1 t) (hL : L.size = 11) (i : Nat) (hi : i < 11) (h4 : i ≠ 4) (h8 : i ≠ 8) (h10 : i ≠ 10) :
    UnK a0 Wd Good row rk bs j c pt g gr (L.setIfInBounds i true) ((frontAct a0 DU f).put (some (slotU i)) (valU row rk bs j c pt t i)) wx := by
  refine ⟨upd f (slotU i) (valU row rk bs j c pt t i), x1, t, frontAct_put _ _ _ _ _ (slotU_in i hi h8 h10), fun k hk k8 k10 hl => ?_, fun hl => ?_, fun hl => ?_, fun hl hl2 => ?_, fun hl hl2 => ?_, fun hl => ?_⟩
  · by_cases hki : k = i
    · subst hki
      unfold upd; rw [if_pos rfl]
    · rw [bset_ne (Ne.symm hki)] at hl
      unfold upd
      rw [if_neg (fun e => hki (slotU_inj i hi k hk h8 h10 k8 k10 e))]
      exact h.slots k hk k8 k10 hl
  · rw [bset_ne h4] at hl; exact h.w1 hl
  · rw [bset_ne h4] at hl; exact h.w2 hl
  · rw [bset_ne h4] at hl; rw [bset_ne h8] at hl2; exact h.w3 hl hl2
  · rw [bset_ne h8] at hl; rw [bset_ne h10] at hl2; exact h.w4 hl hl2
  · rw [bset_ne h10] at hl; exact h.w5 hl
theorem UnJ.call (h : UnJ a0 Wd Good row rk bs j c pt g gr L a wx f x1 t) (hL : L.size = 11) (hn : ∀ k, 5 ≤ k → k < 11 → L.getD k false = false) {x2 : World} {t2 : T7} (hg : Good x2 t2) :
    UnK a0 Wd Good row rk bs j c pt g gr (L.setIfInBounds 4 true) ((frontAct a0 DU f).put (some 39) (.tuple #[ag t2, .int .i64 c])) x2 := by
  have h8 : (L.setIfInBounds 4 true).getD 8 false = false := by rw [bset_ne (by decide)]; exact hn 8 (by decide) (by decide)
  have h10 : (L.setIfInBounds 4 true).getD 10 false = false := by rw [bset_ne (by decide)]; exact hn 10 (by decide) (by decide)
  have h4 : (L.setIfInBounds 4 true).getD 4 false = true := by simp [hL]
  refine ⟨upd f 39 (.tuple #[ag t2, .int .i64 c]), x2, t2, frontAct_put _ _ _ _ _ (by decide), fun k hk k8 k10 hl => ?_, fun hl => ?_, fun _ => hg, fun _ _ => rfl, fun hl => ?_, fun hl => ?_⟩
  · by_cases hki : k = 4
    · subst hki
      rfl
    · rw [bset_ne (Ne.symm hki)] at hl
      have hk5 : k < 5 := by
        rcases Nat.lt_or_ge k 5 with h5 | h5
        · exact h5
        · rw [hn k h5 hk] at hl; cases hl
      have e := h.slots k hk k8 k10 hl
      obtain rfl | rfl | rfl | rfl : k = 0 ∨ k = 1 ∨ k = 2 ∨ k = 3 := by omega
      · exact e
      · exact e
      · exact e
      · exact e
  · rw [h4] at hl; cases hl
  · rw [h8] at hl; cases hl
  · rw [h10] at hl; cases hl
theorem UnJ.st8 (h : UnJ a0 Wd Good row rk bs j c pt g gr L a wx f x1 t) (hL : L.size = 11) (h4 : L.getD 4 false = true) (h10 : L.getD 10 false = false) :
    UnK a0 Wd Good row rk bs j c pt g gr (L.setIfInBounds 8 true) (frontAct a0 DU f) (S3 x1 g t) := by
  have e4 : (L.setIfInBounds 8 true).getD 4 false = true := by rw [bset_ne (by decide)]; exact h4
  have e8 : (L.setIfInBounds 8 true).getD 8 false = true := by simp [hL]
  have e10 : (L.setIfInBounds 8 true).getD 10 false = false := by rw [bset_ne (by decide)]; exact h10
  refine ⟨f, x1, t, rfl, fun k hk k8 k10 hl => ?_, fun hl => ?_, fun _ => h.w2 h4, fun _ hl => ?_, fun _ _ => rfl, fun hl => ?_⟩
  · rw [bset_ne (Ne.symm k8)] at hl
    exact h.slots k hk k8 k10 hl
  · rw [e4] at hl; cases hl
  · rw [e8] at hl; cases hl
  · rw [e10] at hl; cases hl
theorem UnJ.st10 (h : UnJ a0 Wd Good row rk bs j c pt g gr L a wx f x1 t) (hL : L.size = 11) (h4 : L.getD 4 false = true) (h8 : L.getD 8 false = true) :
    UnK a0 Wd Good row rk bs j c pt g gr (L.setIfInBounds 10 true) (frontAct a0 DU f) ((S3 x1 g t).setCell ⟨gr, j, none⟩ (.int .i64 c)) := by
  have e4 : (L.setIfInBounds 10 true).getD 4 false = true := by rw [bset_ne (by decide)]; exact h4
  have e8 : (L.setIfInBounds 10 true).getD 8 false = true := by rw [bset_ne (by decide)]; exact h8
  have e10 : (L.setIfInBounds 10 true).getD 10 false = true := by simp [hL]
  refine ⟨f, x1, t, rfl, fun k hk k8 k10 hl => ?_, fun hl => ?_, fun _ => h.w2 h4, fun _ hl => ?_, fun _ hl => ?_, fun _ => rfl⟩
  · rw [bset_ne (Ne.symm k10)] at hl
    exact h.slots k hk k8 k10 hl
  · rw [e4] at hl; cases hl
  · rw [e8] at hl; cases hl
  · rw [e10] at hl; cases hl
end
theorem others_all5 {w W : World} (h : Below w.heap.size w W) : KeepsOthers w W := ⟨h.size, fun k o hk _ => (h.block k (heap_lt hk)).trans hk⟩
theorem others_set3 (W : World) (g : Nat) (u0 u1 u2 : Value) : KeepsOthers W (((W.setCell ⟨g, 0, none⟩ u0).setCell ⟨g, 1, none⟩ u1).setCell ⟨g, 2, none⟩ u2) := ((KeepsOthers.setCell W _ u0).trans (KeepsOthers.setCell _ _ u1)).trans (KeepsOthers.setCell _ _ u2)
theorem own_set3 {W : World} {B g b n c : Nat} {l : List Int} (h : OwnI W B (.slice (some ⟨b, 0, none⟩) n c) l) (hne : b ≠ g) (u0 u1 u2 : Value) : OwnI (((W.setCell ⟨g, 0, none⟩ u0).setCell ⟨g, 1, none⟩ u1).setCell ⟨g, 2, none⟩ u2) B (.slice (some ⟨b, 0, none⟩) n c) l := by
  have hne2 : ∀ k, (Value.slice (some ⟨b, 0, none⟩) n c).ownBlock ≠ some (⟨g, k, none⟩ : Addr).block := fun k e => hne (Option.some.inj e)
  exact ((h.set (hne2 0) u0).set (hne2 1) u1).set (hne2 2) u2
/-- What the call of split has left. -/
structure UnGood (w0 Wd : World) (gb gw gk : Nat) (bv : T7) (v : Value) (s N k : Nat) (x : List Int) (x1 : World) (t : T7) : Prop where
  rank : ∃ nb A n c B m d, Rc x1 w0.heap.size (.bool nb) (.slice A n c) (.slice B m d)
  new : RatQ x1 (ag t) ((lft s N (k + 1) : Int) : Rat)
  base : Rc x1 gb (.bool bv.1) (.slice bv.2.1 bv.2.2.1 bv.2.2.2.1) (.slice bv.2.2.2.2.1 bv.2.2.2.2.2.1 bv.2.2.2.2.2.2) ∧ RatQ x1 (ag bv) ((s : Int) : Rat)
  bw : Cs x1 gw [v] 22
  bk : Cs x1 gk [v] 22
  own : OwnI x1 w0.heap.size v x
  below : Below w0.heap.size w0 x1
  keeps : KeepsOthers Wd x1
theorem own_full {W : World} {B g n : Nat} {l : List Int} (h : OwnI W B (.slice (some ⟨g, 0, none⟩) n n) l) : Cs W g (ints l) 3 := by
  have hn := h.n_eq
  rcases h.2 with ⟨h1, _⟩ | ⟨g', cap, cur, h1, _, h3, _, _, h6, h7⟩
  · cases h1
  · simp only [Value.slice.injEq, Option.some.injEq, Addr.mk.injEq, and_true] at h1
    obtain ⟨rfl, h2, rfl⟩ := h1
    have hcur : cur.toList = ints l := by
      rw [← h7]
      symm
      apply List.take_of_length_le
      rw [Array.length_toList, h6, ints_length]
      omega
    show _ = _
    rw [h3, ← hcur]
theorem ints_no (l : List Int) : ∀ v ∈ ints l, ∀ x : Nat, v ≠ .int .u32 (x : Int) := by
  intro v hv x e
  obtain ⟨y, _, rfl⟩ := List.mem_map.1 hv
  injection e with e1 _
  cases e1
theorem RatQ.set1v {w : World} {v : Value} {q : Rat} (h : RatQ w v q) {g k : Nat} {l : List Value} {t : TypeId} (hr : Cs w g l t) (hl : ∀ v ∈ l, ∀ x : Nat, v ≠ .int .u32 (x : Int)) (u : Value) : RatQ (w.setCell ⟨g, k, none⟩ u) v q := by
  obtain ⟨A, n, c, A', m, c', e, h1, h2⟩ := h
  exact ⟨A, n, c, A', m, c', e, h1.set1k (h1.ne_cs hr hl) _, h2.set1k (h2.ne_cs hr hl) _⟩
def unrQ (q : Rat) (s : Nat) : List Int × Int := if q.num < 0 ∨ q.den ≠ 1 then ([], 1) else unrA s q.num.toNat
def RankBox (w0 : World) (q : Rat) (wx : World) : Prop := ∃ nb A n c B m d, Rc wx w0.heap.size (.bool nb) (.slice A n c) (.slice B m d) ∧ RatQ wx (.agg #[.bool nb, .slice A n c, .slice B m d]) q ∧ Below w0.heap.size w0 wx
set_option maxRecDepth 20000 in
set_option maxHeartbeats 4000000 in
theorem unrank_in (v : Value) (q : Rat) (s : Nat) (w : World) (hT : Tab w) (h : Inp w v q 900) (hs1 : 1 ≤ s) (hs2 : s ≤ 32) (r : List Int × Int) (H : Hid (unrQ q s = r)) :
    Calls Tryz.prog 11 #[v, .int .i64 (s : Int)] w (RetIE w r.1 r.2) := by
  obtain ⟨nb, A, n, c, B, m, e, ln, ld, rfl, hx, hy, hnl, hml, hfq, hz⟩ := h
  have HT := Lib.hid hT
  have HZ := Lib.hid hz
  have HF := Lib.hid hfq
  obtain ⟨hb0, c0⟩ := blk1 w [.bool nb, .slice A n c, .slice B m e] 25
  have hx1 := hx.below hb0
  have hy1 := hy.below hb0
  have hal : decide (1 ≤ (s : Int) ∧ (s : Int) ≤ 32) = true := decide_eq_true (by omega)
  obtain ⟨VV, hVV⟩ : ∃ b, vld nb ln ld = b := ⟨_, rfl⟩
  have HV := Lib.hid hVV
  refine (callsIn_wide (n := 6)).1 ?_
  refine callsIn_of_wp_marks Tryz.func11 rfl trivial ?_ rfl
  simp only [Tryz.ntmps11, List.size_toArray, List.length_cons, List.length_nil, Nat.reduceAdd, Nat.reduceSub, Array.replicate_succ, Array.replicate_zero, List.push_toArray, List.append_toArray, List.nil_append, List.cons_append]
  refine wpIn_wide.2 ?_
  clear hx hy hT hz hfq hVV
  go_wp2_with fail
  generalize w.alloc (.cells #[.bool nb, .slice A n c, .slice B m e] 25) = W0 at *
  refine (isAlphabet_any (s : Int) _ true (Lib.hid hal)).mono ?_
  rintro e0 w' ⟨rfl, rfl⟩
  obtain ⟨k0, k1, k2⟩ := (show Rc W0 _ _ _ _ from c0).cells
  clear hal
  go_wp2_with fail
  refine (valid_any nb A B n c m e ln ld _ VV (HT.out.below hb0) hx1 hy1 hnl hml HV).mono ?_
  rintro e0 w1 ⟨rfl, hb1⟩
  replace hx1 := hx1.below hb1
  replace hy1 := hy1.below hb1
  replace c0 := c0.below hb1 c0.lt
  replace hb0 := hb0.trans (hb1.mono hb0.size)
  clear hb1 k0 k1 k2
  go_upto_if 16 with (fail)
  go_cut [] from 17 to 17 (fun wx => RankBox w q wx)
  case first =>
    cases VV with
    | true =>
      have hq : RatQ w1 (.agg #[.bool nb, .slice A n c, .slice B m e]) q := by rw [← HF.out]; exact ratq_of HV.out hx1 hy1
      go_wp2_with fail
      go_meet
      case rel => exact ⟨_, _, _, _, _, _, _, c0, hq, hb0⟩
    | false =>
      have hq0 : (0 : Rat) = q := by rw [← HF.out]; unfold fq; rw [if_neg (by rw [HV.out]; decide)]
      obtain ⟨k0, k1, k2⟩ := (show Rc w1 _ _ _ _ from c0).cells
      obtain ⟨f0, f1, f2⟩ := (show Rc w1 _ _ _ _ from c0).frozen
      have HEND : Hid (RankBox w q _) := Lib.hid ⟨_, _, _, _, _, _, _, (show Rc w1 _ _ _ _ from c0).set (.bool false) (.slice none 0 0) (.slice none 0 0), by rw [← hq0]; exact ratq_zero _, below_set3 hb0 (Nat.le_refl _) (.bool false) (.slice none 0 0) (.slice none 0 0)⟩
      clear hq0
      go_wp2_with fail
      go_meet
      case rel => exact HEND.out
  case rest =>
    obtain ⟨nb, A, n, c, B, m, e, c1, hq, hb1⟩ := hcut
    clear c0 hx1 hy1 hb0 hnl hml HV HF
    go_wp2_with fail
    refine (number_any (s : Int) _ (HT.out.below hb1) (by omega) (by omega)).mono ?_
    rintro e0 w2 ⟨vb, rfl, hb, hb2⟩
    obtain ⟨b0, bA, bn, bc, bB, bm, bd, rfl⟩ := hb.agg
    replace hq := hq.below hb2
    replace c1 := c1.below hb2 c1.lt
    replace hb1 := hb1.trans (hb2.mono hb1.size)
    clear hb2
    obtain ⟨ha1, cb⟩ := blk1 w2 [.bool b0, .slice bA bn bc, .slice bB bm bd] 25
    replace hq := hq.below ha1
    replace hb := hb.below ha1
    have hn0 : w.heap.size < w2.heap.size := c1.lt
    replace c1 := c1.below ha1 c1.lt
    replace hb1 := hb1.trans (ha1.mono hb1.size)
    obtain ⟨k0, k1, k2⟩ := c1.cells
    obtain ⟨j0, j1, j2⟩ := (show Rc _ _ _ _ _ from cb).cells
    clear ha1
    go_wp2_with fail
    generalize w2.alloc (.cells #[.bool b0, .slice bA bn bc, .slice bB bm bd] 25) = W3 at *
    by_cases hw : q.num < 0 ∨ q.den ≠ 1
    · have HR : Hid (r = ([], 1)) := by rw [← H.out]; unfold unrQ; rw [if_pos hw]; exact Lib.hid rfl
      refine (lengthAt_no _ _ q s _ hq hb hw).mono ?_
      rintro e0 w4 ⟨rfl, hb2⟩
      have HB := Lib.hid (hb1.trans (hb2.mono hb1.size))
      clear hb1 hb2 hq hb c1 cb k0 k1 k2 j0 j1 j2 hw
      go_wp2_with fail
      refine ⟨_, results_tmp2 rfl _ _ _, ?_⟩
      rw [HR.out]
      exact ⟨_, rfl, OwnI.nil _ _, HB.out⟩
    · obtain ⟨N, hN⟩ : ∃ N : Nat, q.num.toNat = N := ⟨_, rfl⟩
      have hqN : q = ((N : Int) : Rat) := by
        have h1 : q.den = 1 := Classical.byContradiction fun h => hw (.inr h)
        have h2 : ¬ q.num < 0 := fun h => hw (.inl h)
        have := whole_of_den h1
        rw [this]
        congr 1
        omega
      have HR : Hid (r = unrA s N) := by rw [← H.out]; unfold unrQ; rw [if_neg hw, hN]; exact Lib.hid rfl
      subst hqN
      clear hw hN H
      obtain ⟨L, hL⟩ : ∃ L, lenA s N = L := ⟨_, rfl⟩
      obtain ⟨V, O⟩ := L
      have HLA := Lib.hid hL
      clear hL
      refine (lengthAt_ok _ _ N s _ (HT.out.below hb1) hq hb hs1 hs2 HZ.out V O HLA).mono ?_
      rintro e0 w4 ⟨rfl, hb2⟩
      replace hq := hq.below hb2
      replace hb := hb.below hb2
      replace c1 := c1.below hb2 c1.lt
      replace cb := cb.below hb2 cb.lt
      replace hb1 := hb1.trans (hb2.mono hb1.size)
      clear hb2 k0 k1 k2 j0 j1 j2
      by_cases hN : N < cnt s 256
      · have hA := HLA.out
        unfold lenA at hA
        rw [if_pos hN] at hA
        injection hA with hA1 hA2
        subst hA2
        obtain ⟨p, hp⟩ : ∃ p, (unr s N).length = p := ⟨_, rfl⟩
        have hp256 : p ≤ 256 := by rw [← hp]; exact (unr_len hs1 256 N).2 hN
        rw [hp] at hA1
        subst hA1
        have HP := Lib.hid hp
        have HU : Hid (r = (unr s N, 0)) := by rw [HR.out]; unfold unrA; rw [if_pos hN]; exact Lib.hid rfl
        clear hp hN HR HLA
        obtain ⟨ii, hii, hiz⟩ := Option.map_eq_some_iff.1 info_int
        simp only [Prod.mk.injEq] at hiz
        obtain ⟨hz1, hz2, hz3⟩ := hiz
        go_wp2_with (at_make; refine wpList_make_full w4 rfl (.tmp 28) (.tmp 28) 22 rfl w.heap.size 3 ii (.int .i64 0) 1 Tryz.underlying22 hii hz1 hz2 .i64 .i64 _ _ p rfl rfl rfl rfl (by rw [hz3]; omega) (by unfold maxLen; omega) hb1.size ?_)
        intro w5 hown hg5
        have hbm : Below w4.heap.size w4 w5 := (Below.refl _ _).grown hg5 (Nat.le_refl _) (fun k e => by cases e)
        have ho : OwnI w5 w.heap.size (.slice (some ⟨w4.heap.size, 0, none⟩) p p) (List.replicate p 0) := by
          rw [toList_madeCells_one] at hown
          unfold OwnI
          rw [ints_length, List.length_replicate]
          have e : ints (List.replicate p 0) = List.replicate p (.int .i64 0) := by simp [ints]
          rw [e]; exact hown
        clear hown hg5
        have hgb : w2.heap.size < w4.heap.size := cb.lt
        replace hq := hq.below hbm
        replace hb := hb.below hbm
        replace c1 := c1.below hbm c1.lt
        replace cb := cb.below hbm cb.lt
        replace hb1 := hb1.trans (hbm.mono hb1.size)
        have hz45 := hbm.size
        clear hbm
        obtain ⟨hbn, hcn⟩ := blk1 w5 [.slice (some ⟨w4.heap.size, 0, none⟩) p p] 22
        replace hq := hq.below hbn
        replace hb := hb.below hbn
        replace c1 := c1.below hbn c1.lt
        replace cb := cb.below hbn cb.lt
        replace ho := own_below ho hbn
        have hz5 := hb1.size
        replace hb1 := hb1.trans (hbn.mono hb1.size)
        have hnew : w5.heap.size < (w5.alloc (.cells #[.slice (some ⟨w4.heap.size, 0, none⟩) p p] 22)).heap.size := by simp
        clear hbn
        go_wp2_with fail
        generalize w5.alloc (.cells #[.slice (some ⟨w4.heap.size, 0, none⟩) p p] 22) = W6 at *
        refine (backI_any (.slice (some ⟨w4.heap.size, 0, none⟩) p p) _ ⟨_, _, _, rfl⟩).mono ?_
        rintro e0 w7 ⟨rfl, rfl⟩
        obtain ⟨hbk, hck⟩ := blk1 W6 [.slice (some ⟨w4.heap.size, 0, none⟩) p p] 22
        have hI0 : UnI w w2.heap.size w5.heap.size W6.heap.size (b0, bA, bn, bc, bB, bm, bd) (.slice (some ⟨w4.heap.size, 0, none⟩) p p) s N p 0 (W6.alloc (.cells #[.slice (some ⟨w4.heap.size, 0, none⟩) p p] 22)) :=
          ⟨⟨_, _, _, _, _, _, _, c1.below hbk c1.lt, hq.below hbk⟩, ⟨(show Rc _ _ _ _ _ from cb).below hbk (Cs.lt cb), hb.below hbk⟩, hcn.below hbk hcn.lt, hck, ⟨_, own_below ho hbk, List.length_replicate .., fun j h1 h2 => absurd h1 (by omega)⟩, hb1.trans (hbk.mono hb1.size)⟩
        have hzw : w.heap.size ≤ (W6.alloc (.cells #[.slice (some ⟨w4.heap.size, 0, none⟩) p p] 22)).heap.size := hI0.below.size
        clear hq hb c1 cb ho hb1 hbk hcn hck
        generalize W6.alloc (.cells #[.slice (some ⟨w4.heap.size, 0, none⟩) p p] 22) = W7 at *
        go_wp2_with fail
        refine (wpIn_wide (n := 6)).1 ?_
        refine wpIn_back rfl (by omega) W6.heap.size w4.heap.size p p (some ⟨w4.heap.size, 0, none⟩) (by omega) (fun _ => rfl) rfl trivial rfl
          (UnI w w2.heap.size w5.heap.size W6.heap.size (b0, bA, bn, bc, bB, bm, bd) (.slice (some ⟨w4.heap.size, 0, none⟩) p p) s N p) (fun _ _ => False)
          (unI_from _ _ _ _ _ _ _ _ _ _ hzw) (fun _ _ _ _ h _ _ => h)
          (fun k W h => h.bk.cell rfl) ?cells hI0 ?a1 ?assign ?body ?done ?stop
        case cells =>
          intro k W hk h
          obtain ⟨x, h1, h2, _⟩ := h.own
          exact ⟨_, h1.cell h2.symm (by omega)⟩
        case assign =>
          intro lr k x W K hK
          gi_wp2
          exact hK
        case stop =>
          rintro D cd W hD h hK
          exact h.elim
        case done =>
          intro D W hD hI hK
          obtain ⟨x, h1, h2, h3⟩ := hI.own
          have hx : x = unr s N := ints_eq (by rw [h2, HP.out]) (fun j hj => h3 j (by omega) (by omega))
          subst hx
          have q1 := hI.bw.cell (k := 0) rfl
          have HE := Lib.hid (And.intro h1 hI.below)
          have hDB : w.heap.size ≤ D := by omega
          clear hI h1 h3 hI0
          gi_wp2
          go_wp2_with fail
          refine ⟨by simp, .inl ⟨_, _, rfl, run_takeDeferred hK, ?_⟩⟩
          refine ⟨_, results_tmp2 rfl _ _ _, ?_⟩
          rw [HU.out]
          exact ⟨_, rfl, own_put HE.out.1 hK _, below_put HE.out.2 hDB HE.out.2.size _⟩
        case body =>
          intro lr k x W hk hI hc
          have hmx : Tryz.prog.follows .mixedOrders = true := by kernel_rfl
          have hfn : Fence.wide.fn 38 := trivial
          obtain ⟨j, hj⟩ : ∃ j, p - 1 - k = j := ⟨_, rfl⟩
          rw [hj] at hc ⊢
          obtain ⟨hl0, hl1⟩ := (unr_left (s := s) N k (by rw [HP.out]; omega)).2 (by rw [HP.out]; exact hk)
          rw [HP.out, hj] at hl1
          obtain ⟨rb, rA, rn, rc, rB, rm, rd, hrr, hrq⟩ := hI.rank
          obtain ⟨x0, ho, hxl, hxe⟩ := hI.own
          have hj0 : (0 : Int) ≤ (j : Int) := by omega
          have hjp : j < p := by omega
          have hjp2 : (j : Int) < (p : Int) := by omega
          have hzl : Sz ((lft s N k : Int) : Rat) 900 := sz_mono (lft_le s N k) HZ.out
          have c0 : Rc W.drew w.heap.size (.bool rb) (.slice rA rn rc) (.slice rB rm rd) := hrr
          have c1 : Rc W.drew w2.heap.size (.bool b0) (.slice bA bn bc) (.slice bB bm bd) := hI.base.1
          have c2 : Cs W.drew w5.heap.size [.slice (some ⟨w4.heap.size, 0, none⟩) p p] 22 := hI.bw
          have c3 : Cs W.drew W6.heap.size [.slice (some ⟨w4.heap.size, 0, none⟩) p p] 22 := hI.bk
          have r0 := hrq.drew1
          have r1 := hI.base.2.drew1
          have o0 : OwnI W.drew w.heap.size (.slice (some ⟨w4.heap.size, 0, none⟩) p p) x0 := ho
          have hT0 : Tab W.drew := (HT.out.below hI.below).drew
          have hB0 : Below w.heap.size w W.drew := hI.below.drew
          have hK0 : KeepsOthers W W.drew := KeepsOthers.drew W
          obtain ⟨k0, k1, k2⟩ := c0.cells
          obtain ⟨j0, j1, j2⟩ := c1.cells
          have g0 := c2.cell (k := 0) rfl
          have HLL := Lib.hid (And.intro hl0 hl1)
          have HJ := Lib.hid hj
          have HXE := Lib.hid hxe
          have HXL := Lib.hid hxl
          have nw : w4.heap.size ≠ w.heap.size := by omega
          have nb2 : w2.heap.size ≠ w.heap.size := by omega
          have n5 : w5.heap.size ≠ w.heap.size := by omega
          have n6 : W6.heap.size ≠ w.heap.size := by omega
          have n7 : w.heap.size ≠ w4.heap.size := by omega
          obtain ⟨cc, hcc⟩ : ∃ cc : Int, (((lft s N k - 1) % s + 1 : Nat) : Int) = cc := ⟨_, rfl⟩
          have HCC := Lib.hid hcc
          clear hcc
          have HC := Lib.hid (And.intro c0 (And.intro c1 (And.intro c2 (And.intro c3 (And.intro r0 (And.intro r1 (And.intro o0 (And.intro hT0 (And.intro hB0 hK0)))))))))
          clear hI hrr hrq ho hl0 hl1 hj hc hI0 hxe hxl c0 c1 c2 c3 r0 r1 o0 hT0 hB0 hK0
          gi_wp2
          refine wpIn_region_inv0 hmx (by kernel_rfl) (fun a0 => UnK a0 W.drew (UnGood w W.drew w2.heap.size w5.heap.size W6.heap.size (b0, bA, bn, bc, bB, bm, bd) (.slice (some ⟨w4.heap.size, 0, none⟩) p p) s N k x0) (.slice (some ⟨w4.heap.size, 0, none⟩) p p) (ag (rb, rA, rn, rc, rB, rm, rd)) (ag (b0, bA, bn, bc, bB, bm, bd)) j cc (.pointer (some ⟨w4.heap.size, j, none⟩)) w.heap.size w4.heap.size) ?start ?step ?fin
          case start =>
            exact ⟨_, W.drew, (b0, bA, bn, bc, bB, bm, bd), frontAct_self _ DU, fun k hk _ _ hl => absurd hl (none_in k), fun _ => rfl, fun hl => absurd hl (none_in 4), fun hl => absurd hl (none_in 4), fun hl => absurd hl (none_in 8), fun hl => absurd hl (none_in 10)⟩
          case step =>
            rintro L a wx i o hs sh ⟨f, x1, t, hJ⟩ ho hl hdep K hK
            have hs11 : L.size = 11 := hs
            have hi : i < 11 := (Array.getElem?_eq_some_iff.1 ho).1
            obtain rfl := hJ.act
            obtain rfl | rfl | rfl | rfl | rfl | rfl | rfl | rfl | rfl | rfl | rfl : i = 0 ∨ i = 1 ∨ i = 2 ∨ i = 3 ∨ i = 4 ∨ i = 5 ∨ i = 6 ∨ i = 7 ∨ i = 8 ∨ i = 9 ∨ i = 10 := by omega
            · obtain rfl := Option.some.inj ho
              have hcw : wx.cell? ⟨w5.heap.size, 0, none⟩ = some (.slice (some ⟨w4.heap.size, 0, none⟩) p p) := by
                have h10 : L.getD 10 false = false := not_yet (fun h => by
                  have h9 := sh 10 _ rfl h ⟨9, .data⟩ (by simp) (by rfl)
                  have h0 := sh 9 _ rfl h9 ⟨0, .data⟩ (by simp) (by rfl)
                  rw [hl] at h0; cases h0)
                by_cases h4 : L.getD 4 false = true
                · have hg := hJ.w2 h4
                  by_cases h8 : L.getD 8 false = true
                  · rw [hJ.w4 h8 h10]
                    exact (cs_far3 hg.bw n5 _ _ _).cell rfl
                  · rw [hJ.w3 h4 (by simpa using h8)]
                    exact hg.bw.cell rfl
                · rw [hJ.w1 (by simpa using h4)]
                  exact g0
              have HQ := Lib.hid (hK _ _ (hJ.keep hs11 0 (by decide) (by decide) (by decide) (by decide)))
              clear hK hdep
              simp only [slotU, valU, frontAct, DU, Act.put, List.foldl_cons, List.foldl_nil, List.setIfInBounds_toArray, List.set_cons_succ, List.set_cons_zero] at HQ ⊢
              go_simp
              exact HQ.out
            · obtain rfl := Option.some.inj ho
              have HQ := Lib.hid (hK _ _ (hJ.keep hs11 1 (by decide) (by decide) (by decide) (by decide)))
              clear hK hdep
              simp only [slotU, valU, frontAct, DU, Act.put, List.foldl_cons, List.foldl_nil, List.setIfInBounds_toArray, List.set_cons_succ, List.set_cons_zero] at HQ ⊢
              go_simp
              exact HQ.out
            · obtain rfl := Option.some.inj ho
              have h4 : L.getD 4 false = false := not_yet (fun h => by
                have h0 := sh 4 _ rfl h ⟨2, .data⟩ (by simp) (by rfl)
                rw [hl] at h0; cases h0)
              obtain rfl := hJ.w1 h4
              have HQ := Lib.hid (hK _ _ (hJ.keep hs11 2 (by decide) (by decide) (by decide) (by decide)))
              clear hK hdep
              simp only [slotU, valU, frontAct, DU, Act.put, List.foldl_cons, List.foldl_nil, List.setIfInBounds_toArray, List.set_cons_succ, List.set_cons_zero] at HQ ⊢
              go_simp
              exact HQ.out
            · obtain rfl := Option.some.inj ho
              have h4 : L.getD 4 false = false := not_yet (fun h => by
                have h0 := sh 4 _ rfl h ⟨3, .data⟩ (by simp) (by rfl)
                rw [hl] at h0; cases h0)
              obtain rfl := hJ.w1 h4
              have HQ := Lib.hid (hK _ _ (hJ.keep hs11 3 (by decide) (by decide) (by decide) (by decide)))
              clear hK hdep
              simp only [slotU, valU, frontAct, DU, Act.put, List.foldl_cons, List.foldl_nil, List.setIfInBounds_toArray, List.set_cons_succ, List.set_cons_zero] at HQ ⊢
              go_simp
              exact HQ.out
            · obtain rfl := Option.some.inj ho
              have e37 := hJ.slots 2 (by decide) (by decide) (by decide) (hdep ⟨2, .data⟩ (by simp) (by rfl))
              have e38 := hJ.slots 3 (by decide) (by decide) (by decide) (hdep ⟨3, .data⟩ (by simp) (by rfl))
              obtain rfl := hJ.w1 hl
              have hn5 : ∀ q, 5 ≤ q → q < 11 → L.getD q false = false := by
                intro q h5 h11
                refine not_yet (fun h => ?_)
                have b5 : L.getD 5 false = false := not_yet (fun h => by
                  have h0 := sh 5 _ rfl h ⟨4, .data⟩ (by simp) (by rfl)
                  rw [hl] at h0; cases h0)
                have b8 : L.getD 8 false = false := not_yet (fun h => by
                  have h0 := sh 8 _ rfl h ⟨4, .chain⟩ (by simp) (by rfl)
                  rw [hl] at h0; cases h0)
                have hq : q = 5 ∨ q = 6 ∨ q = 7 ∨ q = 8 ∨ q = 9 ∨ q = 10 := by omega
                rcases hq with rfl | rfl | rfl | rfl | rfl | rfl
                · rw [b5] at h; cases h
                · have h0 := sh 6 _ rfl h ⟨5, .data⟩ (by simp) (by rfl)
                  rw [b5] at h0; cases h0
                · have h0 := sh 7 _ rfl h ⟨5, .data⟩ (by simp) (by rfl)
                  rw [b5] at h0; cases h0
                · rw [b8] at h; cases h
                · have h0 := sh 9 _ rfl h ⟨8, .phase⟩ (by simp) (by rfl)
                  rw [b8] at h0; cases h0
                · have h0 := sh 10 _ rfl h ⟨8, .chain⟩ (by simp) (by rfl)
                  rw [b8] at h0; cases h0
              have HQ : Hid (∀ (x2 : World) (t2 : T7), UnGood w W.drew w2.heap.size w5.heap.size W6.heap.size (b0, bA, bn, bc, bB, bm, bd) (.slice (some ⟨w4.heap.size, 0, none⟩) p p) s N k x0 x2 t2 → K ((frontAct _ DU f).put (some 39) (.tuple #[ag t2, .int .i64 cc])) x2) := Lib.hid (fun x2 t2 hg => hK _ _ (hJ.call hs11 hn5 hg))
              clear hK hdep
              simp only [slotU, valU, frontAct, DU, Act.put, List.foldl_cons, List.foldl_nil, List.setIfInBounds_toArray, List.set_cons_succ, List.set_cons_zero] at HQ ⊢
              replace e37 : f 37 = .agg #[.bool rb, .slice rA rn rc, .slice rB rm rd] := e37
              replace e38 : f 38 = .agg #[.bool b0, .slice bA bn bc, .slice bB bm bd] := e38
              generalize f 37 = f37 at *
              generalize f 38 = f38 at *
              subst e37 e38
              go_simp
              obtain ⟨c0, c1, c2, c3, r0, r1, o0, hT0, hB0, hK0⟩ := HC.out
              refine (CallsIn.inRound lr (callsIn_wide.2 (split_any _ _ (lft s N k) s _ hT0 r0 r1 HLL.out.1 hs1 hs2 hzl))).mono ?_
              rintro e0 x2 ⟨v1, he, hns, hbk⟩
              rw [HCC.out] at he
              subst he
              obtain ⟨t0, tA, tn, tc, tB, tm, td, rfl⟩ := hns.agg
              exact HQ.out x2 (t0, tA, tn, tc, tB, tm, td) ⟨⟨_, _, _, _, _, _, _, c0.below hbk c0.lt⟩, hns, ⟨c1.below hbk c1.lt, r1.below hbk⟩, c2.below hbk c2.lt, c3.below hbk c3.lt, own_below o0 hbk, hB0.trans (hbk.mono hB0.size), others_all5 hbk⟩
            · obtain rfl := Option.some.inj ho
              have e39 := hJ.slots 4 (by decide) (by decide) (by decide) (hdep ⟨4, .data⟩ (by simp) (by rfl))
              have HQ := Lib.hid (hK _ _ (hJ.keep hs11 5 (by decide) (by decide) (by decide) (by decide)))
              clear hK hdep
              simp only [slotU, valU, frontAct, DU, Act.put, List.foldl_cons, List.foldl_nil, List.setIfInBounds_toArray, List.set_cons_succ, List.set_cons_zero] at HQ ⊢
              replace e39 : f 39 = .tuple #[.agg #[.bool t.1, .slice t.2.1 t.2.2.1 t.2.2.2.1, .slice t.2.2.2.2.1 t.2.2.2.2.2.1 t.2.2.2.2.2.2], .int .i64 cc] := e39
              generalize f 39 = f39 at *
              subst e39
              go_simp
              exact HQ.out
            · obtain rfl := Option.some.inj ho
              have e34 := hJ.slots 5 (by decide) (by decide) (by decide) (hdep ⟨5, .data⟩ (by simp) (by rfl))
              have HQ := Lib.hid (hK _ _ (hJ.keep hs11 6 (by decide) (by decide) (by decide) (by decide)))
              clear hK hdep
              simp only [slotU, valU, frontAct, DU, Act.put, List.foldl_cons, List.foldl_nil, List.setIfInBounds_toArray, List.set_cons_succ, List.set_cons_zero] at HQ ⊢
              replace e34 : f 34 = .tuple #[.agg #[.bool t.1, .slice t.2.1 t.2.2.1 t.2.2.2.1, .slice t.2.2.2.2.1 t.2.2.2.2.2.1 t.2.2.2.2.2.2], .int .i64 cc] := e34
              generalize f 34 = f34 at *
              subst e34
              go_simp
              exact HQ.out
            · obtain rfl := Option.some.inj ho
              have e34 := hJ.slots 5 (by decide) (by decide) (by decide) (hdep ⟨5, .data⟩ (by simp) (by rfl))
              have HQ := Lib.hid (hK _ _ (hJ.keep hs11 7 (by decide) (by decide) (by decide) (by decide)))
              clear hK hdep
              simp only [slotU, valU, frontAct, DU, Act.put, List.foldl_cons, List.foldl_nil, List.setIfInBounds_toArray, List.set_cons_succ, List.set_cons_zero] at HQ ⊢
              replace e34 : f 34 = .tuple #[.agg #[.bool t.1, .slice t.2.1 t.2.2.1 t.2.2.2.1, .slice t.2.2.2.2.1 t.2.2.2.2.2.1 t.2.2.2.2.2.2], .int .i64 cc] := e34
              generalize f 34 = f34 at *
              subst e34
              go_simp
              exact HQ.out
            · obtain rfl := Option.some.inj ho
              have e40 := hJ.slots 6 (by decide) (by decide) (by decide) (hdep ⟨6, .data⟩ (by simp) (by rfl))
              have h4 : L.getD 4 false = true := hdep ⟨4, .chain⟩ (by simp) (by rfl)
              have h10 : L.getD 10 false = false := not_yet (fun h => by
                have h0 := sh 10 _ rfl h ⟨8, .chain⟩ (by simp) (by rfl)
                rw [hl] at h0; cases h0)
              obtain rfl := hJ.w3 h4 hl
              obtain ⟨z0, z1, z2, z3, z4, z5, z6, hz⟩ := (hJ.w2 h4).rank
              obtain ⟨y0, y1, y2⟩ := hz.cells
              obtain ⟨f0, f1, f2⟩ := hz.frozen
              have HQ := Lib.hid (hK _ _ (hJ.st8 hs11 h4 h10))
              clear hK hdep hz
              simp only [slotU, valU, frontAct, DU, Act.put, List.foldl_cons, List.foldl_nil, List.setIfInBounds_toArray, List.set_cons_succ, List.set_cons_zero] at HQ ⊢
              replace e40 : f 40 = .agg #[.bool t.1, .slice t.2.1 t.2.2.1 t.2.2.2.1, .slice t.2.2.2.2.1 t.2.2.2.2.2.1 t.2.2.2.2.2.2] := e40
              generalize f 40 = f40 at *
              subst e40
              go_simp
              exact HQ.out
            · obtain rfl := Option.some.inj ho
              have e35 := hJ.slots 0 (by decide) (by decide) (by decide) (hdep ⟨0, .data⟩ (by simp) (by rfl))
              have e36 := hJ.slots 1 (by decide) (by decide) (by decide) (hdep ⟨1, .data⟩ (by simp) (by rfl))
              have HQ := Lib.hid (hK _ _ (hJ.keep hs11 9 (by decide) (by decide) (by decide) (by decide)))
              clear hK hdep
              simp only [slotU, valU, frontAct, DU, Act.put, List.foldl_cons, List.foldl_nil, List.setIfInBounds_toArray, List.set_cons_succ, List.set_cons_zero] at HQ ⊢
              replace e35 : f 35 = .slice (some ⟨w4.heap.size, 0, none⟩) p p := e35
              generalize f 35 = f35 at *
              subst e35
              replace e36 : f 36 = .int .i64 (j : Int) := e36
              generalize f 36 = f36 at *
              subst e36
              go_simp
              exact HQ.out
            · obtain rfl := Option.some.inj ho
              have e42 := hJ.slots 9 (by decide) (by decide) (by decide) (hdep ⟨9, .data⟩ (by simp) (by rfl))
              have e41 := hJ.slots 7 (by decide) (by decide) (by decide) (hdep ⟨7, .data⟩ (by simp) (by rfl))
              have h8 : L.getD 8 false = true := hdep ⟨8, .chain⟩ (by simp) (by rfl)
              have h4 : L.getD 4 false = true := sh 8 _ rfl h8 ⟨4, .chain⟩ (by simp) (by rfl)
              obtain rfl := hJ.w4 h8 hl
              have hg := hJ.w2 h4
              have ho' := own_set3 hg.own nw (.bool t.1) (.slice t.2.1 t.2.2.1 t.2.2.2.1) (.slice t.2.2.2.2.1 t.2.2.2.2.2.1 t.2.2.2.2.2.2)
              have u1 := ho'.cell HXL.out.symm hjp
              have u2 := ho'.unfrozen HXL.out.symm j
              have HQ := Lib.hid (hK _ _ (hJ.st10 hs11 h4 h8))
              clear hK hdep hg ho'
              simp only [slotU, valU, frontAct, DU, Act.put, List.foldl_cons, List.foldl_nil, List.setIfInBounds_toArray, List.set_cons_succ, List.set_cons_zero] at HQ ⊢
              replace e42 : f 42 = .pointer (some ⟨w4.heap.size, j, none⟩) := e42
              replace e41 : f 41 = .int .i64 cc := e41
              generalize f 42 = f42 at *
              generalize f 41 = f41 at *
              subst e42 e41
              go_simp
              exact HQ.out
          case fin =>
            rintro L a wx ⟨f, x1, t, hJ⟩ hall
            have h4 := hall 4 (by decide)
            have h10 := hall 10 (by decide)
            obtain rfl := hJ.w5 h10
            have hg := hJ.w2 h4
            obtain ⟨t0, tA, tn, tc, tB, tm, td⟩ := t
            obtain ⟨z0, z1, z2, z3, z4, z5, z6, hz⟩ := hg.rank
            have hfull := own_full hg.own
            have hb5 := own_ne_cs hg.own hg.bw (by decide)
            have hb6 := own_ne_cs hg.own hg.bk (by decide)
            have hfull3 : Cs (((x1.setCell ⟨w.heap.size, 0, none⟩ (.bool t0)).setCell ⟨w.heap.size, 1, none⟩ (.slice tA tn tc)).setCell ⟨w.heap.size, 2, none⟩ (.slice tB tm td)) w4.heap.size (ints x0) 3 := cs_far3 hfull nw _ _ _
            have ho3 := own_set3 hg.own nw (.bool t0) (.slice tA tn tc) (.slice tB tm td)
            refine ⟨((HC.out.2.2.2.2.2.2.2.2.2.trans hg.keeps).trans (others_set3 x1 w.heap.size _ _ _)).trans (KeepsOthers.setCell _ _ _), ⟨_, _, _, _, _, _, _, (hz.set (.bool t0) (.slice tA tn tc) (.slice tB tm td)).far (p := ⟨w4.heap.size, j, none⟩) n7 _, (hg.new.set3 hz _ _ _).set1v hfull3 (ints_no _) _⟩,
              ⟨(hg.base.1.far3 nb2 _ _ _).far (p := ⟨w4.heap.size, j, none⟩) (by show w2.heap.size ≠ w4.heap.size; omega) _, (hg.base.2.set3 hz _ _ _).set1v hfull3 (ints_no _) _⟩, (cs_far3 hg.bw n5 _ _ _).far (p := ⟨w4.heap.size, j, none⟩) hb5 _, (cs_far3 hg.bk n6 _ _ _).far (p := ⟨w4.heap.size, j, none⟩) hb6 _,
              ⟨x0.set j cc, ho3.stored HXL.out.symm j cc, by rw [List.length_set, HXL.out], fun i h1 h2 => ?_⟩, (below_set3 hg.below (Nat.le_refl _) _ _ _).setCell (p := ⟨w4.heap.size, j, none⟩) (by show w.heap.size ≤ w4.heap.size; omega) _⟩
            rw [List.getD_eq_getElem?_getD]
            by_cases hij : j = i
            · subst hij
              rw [List.getElem?_set_self (by rw [HXL.out]; exact hjp), HLL.out.2, HCC.out]
              rfl
            · rw [List.getElem?_set_ne hij, ← List.getD_eq_getElem?_getD]
              exact HXE.out i (by have := HJ.out; omega) h2
      · have hA := HLA.out
        unfold lenA at hA
        rw [if_neg hN] at hA
        injection hA with hA1 hA2
        subst hA1 hA2
        have HU : Hid (r = ([], 1)) := by rw [HR.out]; unfold unrA; rw [if_neg hN]; exact Lib.hid rfl
        have HB := Lib.hid hb1
        clear hb1 hq hb c1 cb hN HR HLA
        go_wp2_with fail
        refine ⟨_, results_tmp2 rfl _ _ _, ?_⟩
        rw [HU.out]
        exact ⟨_, rfl, OwnI.nil _ _, HB.out⟩
end Go.Proofs.YtdlmhgijpgnilaaGreatDoor
