/- slices.Clone at numbers; rows of numbers that are written; two results that lie in variables. -/
import Derived.Test.YtdlmhgijpgnilaaGreatDoorQ09
import Derived.Test.YtdlmhgijpgnilaaGreatDoorQ25
import Derived.Test.YtdlmhgijpgnilaaGreatDoorQ08
import Derived.Deep.AppendLies
import Derived.Test.YtdlmhgijpgnilaaGreatDoorQ06
set_option linter.unusedVariables false
set_option linter.unusedSimpArgs false
namespace Go.Proofs.YtdlmhgijpgnilaaGreatDoor
open Go.RowKit

/-- What a function hands back that makes a row of numbers; with an error. -/
def RetI (w0 : World) (l : List Int) (e : Ending) (w' : World) : Prop := ∃ v, e = .returned v ∧ OwnI w' w0.heap.size v l ∧ Below w0.heap.size w0 w'
def RetIE (w0 : World) (l : List Int) (E : Int) (e : Ending) (w' : World) : Prop := ∃ v, e = .returned (.tuple #[v, .int .i64 E]) ∧ OwnI w' w0.heap.size v l ∧ Below w0.heap.size w0 w'
theorem OwnI.form {w : World} {B : Nat} {v : Value} {l : List Int} (h : OwnI w B v l) (h0 : 0 < l.length) : ∃ g c, v = .slice (some ⟨g, 0, none⟩) l.length c ∧ B ≤ g ∧ g < w.heap.size := by
  have h' := h
  unfold OwnI at h'
  obtain ⟨g, c, h1, h2, h3⟩ := World.ownsRow.form h' (by rw [ints_length]; exact h0)
  rw [ints_length] at h1
  exact ⟨g, c, h1, h2, h3⟩
theorem OwnI.shape {w : World} {B : Nat} {v : Value} {l : List Int} (h : OwnI w B v l) : ∃ A c, v = .slice A l.length c ∧ (0 < l.length → ∃ g, A = some ⟨g, 0, none⟩ ∧ B ≤ g ∧ g < w.heap.size) := by
  obtain ⟨A, c, hv, _⟩ := h.reads
  refine ⟨A, c, hv, fun h0 => ?_⟩
  obtain ⟨g, c', h1, h2, h3⟩ := h.form h0
  rw [hv] at h1
  injection h1 with h4
  exact ⟨g, h4, h2, h3⟩
theorem OwnI.cell {w : World} {B g n c : Nat} {l : List Int} (h : OwnI w B (.slice (some ⟨g, 0, none⟩) n c) l) (hn : n = l.length) {j : Nat} (hj : j < n) : w.cell? ⟨g, j, none⟩ = some (.int .i64 (l.getD j 0)) := by
  subst hn
  unfold OwnI at h
  rw [ints_length] at h
  rw [World.ownsRow.cellAt h j (by omega), ints_get, List.getD_eq_getElem?_getD, List.getElem?_eq_getElem hj]
  rfl
theorem OwnI.unfrozen {w : World} {B g n c : Nat} {l : List Int} (h : OwnI w B (.slice (some ⟨g, 0, none⟩) n c) l) (hn : n = l.length) (j : Nat) : w.frozen? ⟨g, j, none⟩ = false := by
  subst hn
  unfold OwnI at h
  rw [ints_length] at h
  exact World.ownsRow.frozenAt h j
theorem OwnI.stored {w : World} {B g n c : Nat} {l : List Int} (h : OwnI w B (.slice (some ⟨g, 0, none⟩) n c) l) (hn : n = l.length) (j : Nat) (x : Int) : OwnI (w.setCell ⟨g, j, none⟩ (.int .i64 x)) B (.slice (some ⟨g, 0, none⟩) n c) (l.set j x) := by
  subst hn
  unfold OwnI at h ⊢
  rw [ints_length] at h
  rw [ints_length, List.length_set, ints_set]
  exact (World.ownsRow.stored h j _).1
theorem OwnI.heap {w w' : World} {B : Nat} {v : Value} {l : List Int} (h : OwnI w B v l) (hk : ∀ g, v.ownBlock = some g → g < w.heap.size → w'.heap[g]? = w.heap[g]?) : OwnI w' B v l := own_heap h hk
theorem OwnI.mono {w : World} {B B' : Nat} {v : Value} {l : List Int} (h : OwnI w B v l) (hb : B' ≤ B) : OwnI w B' v l := by
  refine ⟨h.1, ?_⟩
  rcases h.2 with h1 | ⟨g, cap, cur, h1, h2, h3⟩
  · exact .inl h1
  · exact .inr ⟨g, cap, cur, h1, Nat.le_trans hb h2, h3⟩
theorem OwnI.set {w : World} {B : Nat} {v : Value} {l : List Int} (h : OwnI w B v l) {p : Addr} (hne : v.ownBlock ≠ some p.block) (u : Value) : OwnI (w.setCell p u) B v l :=
  h.heap fun g hv _ => Below.heap_setCell w p u g (fun e => hne (by rw [hv, e]))
/-- Rounds of a range leave blocks of cells be. -/
theorem cs_round {w w' : World} {B g : Nat} {l : List Value} {t : TypeId} {row : Option Nat} (h : Cs w g l t) (hg : w.grownBy w' row) (hr : ∀ r, row = some r → B ≤ r ∧ ∃ o : Obj, w.heap[r]? = some o ∧ o.isCells = false) : Cs w' g l t := by
  refine (hg.block g h.lt (fun e => ?_)).trans h
  obtain ⟨_, o, ho, hc⟩ := hr g e.symm
  have h' : w.heap[g]? = some (.cells l.toArray t (0, 0)) := h
  rw [h'] at ho
  cases ho
  cases hc
theorem own_round {w w' : World} {B0 B : Nat} {v : Value} {l : List Int} {row : Option Nat} (h : OwnI w B0 v l) (hg : w.grownBy w' row) (hr : ∀ r, row = some r → B ≤ r ∧ ∃ o : Obj, w.heap[r]? = some o ∧ o.isCells = false) : OwnI w' B0 v l := by
  refine h.heap fun g hv hlt => hg.block g hlt fun e => ?_
  obtain ⟨_, o, ho, hc⟩ := hr g e.symm
  obtain ⟨_, _, cur, hcur⟩ := own_new h g hv
  rw [hcur] at ho
  cases ho
  cases hc
theorem below_round {w0 w w' : World} {B0 B : Nat} {row : Option Nat} (h : Below B0 w0 w) (hg : w.grownBy w' row) (hB : B0 ≤ B) (hs : B0 ≤ w.heap.size) (hr : ∀ r, row = some r → B ≤ r ∧ ∃ o : Obj, w.heap[r]? = some o ∧ o.isCells = false) : Below B0 w0 w' :=
  h.grown hg hs (fun k e => Nat.le_trans hB (hr k e).1)
theorem cs_put {W : World} {D g : Nat} {l : List Value} {t : TypeId} {d : Option (List Deferred)} (h : Cs W g l t) (hK : W.heap[D]? = some (.deferred d)) (o : Obj) : Cs (W.putObj D o) g l t := by
  refine (World.putObj_heap_other (fun e => ?_)).trans h
  have h' : W.heap[g]? = some (.cells l.toArray t (0, 0)) := h
  rw [e, hK] at h'
  cases h'
theorem own_put {W : World} {B D : Nat} {v : Value} {l : List Int} {d : Option (List Deferred)} (h : OwnI W B v l) (hK : W.heap[D]? = some (.deferred d)) (o : Obj) : OwnI (W.putObj D o) B v l := by
  refine h.heap fun g hv hlt => World.putObj_heap_other (fun e => ?_)
  obtain ⟨_, _, cur, hcur⟩ := own_new h g hv
  rw [e, hK] at hcur
  cases hcur
theorem below_put {w0 W : World} {B D : Nat} (h : Below B w0 W) (hD : B ≤ D) (hs : B ≤ W.heap.size) (o : Obj) : Below B w0 (W.putObj D o) :=
  h.grown (grownBy_putObj' _ D _) hs (fun k e => by have := Option.some.inj e; omega)
theorem OwnI.n_eq {w : World} {B n c : Nat} {A : Option Addr} {l : List Int} (h : OwnI w B (.slice A n c) l) : n = l.length := by
  obtain ⟨A', c', hv, _⟩ := h.reads
  injection hv
/-- A row that grew leaves blocks of another type be. -/
theorem cs_grown {W W' : World} {B g n : Nat} {l : List Value} {t e : TypeId} {v : Value} {xs : List Value} (h : Cs W g l t) (ho : W.ownsRow B e 1 v n xs) (hg : W.grownBy W' v.ownBlock) (ht : t ≠ e) : Cs W' g l t := by
  refine (hg.block g h.lt (fun he => ?_)).trans h
  obtain ⟨_, _, cur, hcur⟩ := own_new ho g he.symm
  have h' : W.heap[g]? = some (.cells l.toArray t (0, 0)) := h
  rw [h'] at hcur
  injection hcur with hcur
  injection hcur with _ hcur
  exact ht hcur
theorem dfr_grown {W W' : World} {B D n : Nat} {e : TypeId} {v : Value} {xs : List Value} {d : Option (List Deferred)} (hK : W.heap[D]? = some (.deferred d)) (ho : W.ownsRow B e 1 v n xs) (hg : W.grownBy W' v.ownBlock) : W'.heap[D]? = some (.deferred d) := by
  refine (hg.block D (heap_lt hK) (fun he => ?_)).trans hK
  obtain ⟨_, _, cur, hcur⟩ := own_new ho D he.symm
  rw [hK] at hcur
  cases hcur
theorem run_loadVar_plain {t : TypeId} {d : TypeDesc} {w : World} {p : Addr} {x : Value} (hu : Tryz.prog.underlying t = some d) (hd : (match d with | .struct _ | .array _ _ => true | _ => false) = false) (hc : w.cell? p = some x) : (loadVar t p).run Tryz.prog w = .ok x w := by
  have hagg : (isAgg t).run Tryz.prog w = .ok false w := by
    unfold isAgg
    rw [Sem.run_bind, run_underlying hu w]
    cases d <;> simp_all
  simp [loadVar, Sem.run_bind, hagg, hc]
theorem results_cells2 {fn : Func} {p q : Tmp} {t t' : TypeId} {d d' : TypeDesc} (hres : fn.results = #[.cell p t, .cell q t']) (hu : Tryz.prog.underlying t = some d) (hd1 : (match d with | .struct _ | .array _ _ => true | _ => false) = false) (hu' : Tryz.prog.underlying t' = some d') (hd2 : (match d' with | .struct _ | .array _ _ => true | _ => false) = false)
    {tmps : Array Value} {w : World} {g g' : Addr} {x y : Value} (hp : tmps.getD p undef = .pointer (some g)) (hq : tmps.getD q undef = .pointer (some g')) (h : w.cell? g = some x) (h' : w.cell? g' = some y) : (results fn tmps).run Tryz.prog w = .ok (.tuple #[x, y]) w := by
  have hp' : tmps[p]?.getD undef = .pointer (some g) := by simpa using hp
  have hq' : tmps[q]?.getD undef = .pointer (some g') := by simpa using hq
  simp [results, hres, hp', hq', asAddr, run_loadVar_plain hu hd1 h, run_loadVar_plain hu' hd2 h']
theorem ret_cells2 {fn : Func} {p q : Tmp} {t t' : TypeId} {d d' : TypeDesc} (hres : fn.results = #[.cell p t, .cell q t']) (hu : Tryz.prog.underlying t = some d) (hd1 : (match d with | .struct _ | .array _ _ => true | _ => false) = false) (hu' : Tryz.prog.underlying t' = some d') (hd2 : (match d' with | .struct _ | .array _ _ => true | _ => false) = false)
    {R : Ending → World → Prop} {a : Act} {w : World} {g g' : Addr} {x y : Value} (hp : a.tmps.getD p undef = .pointer (some g)) (hq : a.tmps.getD q undef = .pointer (some g')) (h : w.cell? g = some x) (h' : w.cell? g' = some y) (hd : a.defers = [])
    (hR : R (.returned (.tuple #[x, y])) w) : bodyPost Tryz.prog fn R .ret a w := by
  exact bodyPost_ret (v := .tuple #[x, y]) (results_cells2 hres hu hd1 hu' hd2 hp hq h h') hd hR
set_option maxHeartbeats 1000000 in
theorem cloneI_any (A : Option Addr) (n c : Nat) (l : List Int) (w : World) (h : Ints w l A n c) (hn : n ≤ 1073741824) :
    Calls Tryz.prog 54 #[.slice A n c] w (RetI w l) := by
  have hq : ∀ w : World, (binOp .eql 22 (.slice A n c) (.slice none 0 0)).run Tryz.prog w = .ok (.bool A.isNone) w := fun w => Lib.run_eql_slice_nil w _ _ _ n c 0 0 Tryz.underlying22
  cases hA : A with
  | none =>
    subst hA
    have hl : l = [] := by
      rcases h.form with ⟨_, h1⟩ | ⟨b, o, h1, _⟩
      · exact h1
      · cases h1
    subst hl
    clear h
    go_enter Tryz.func54, Tryz.ntmps54
    go_wp2_with fail
    go_ret
    exact ⟨_, rfl, OwnI.nil _ _, Below.refl _ _⟩
  | some a =>
    subst hA
    have hb : Below w.heap.size w (w.alloc (.cells #[] 3)) := (Below.refl _ _).alloc (Nat.le_refl _) _
    have HR := Lib.hid (h.below hb)
    have hown : OwnI (w.alloc (.cells #[] 3)) w.heap.size (.slice (some ⟨w.heap.size, 0, none⟩) 0 0) [] := World.ownsRow_made w #[] 0 (Nat.le_refl _) (Nat.zero_le _) rfl
    have HO := Lib.hid hown
    have hsz := hb.size
    clear hown h
    go_enter Tryz.func54, Tryz.ntmps54
    go_wp2_with (at_builtin; refine wpList_appV rfl (.tmp 5) (.tmp 6) 22 3 rfl rfl _ 8 Tryz.underlying22 info_int rfl (by omega) w.heap.size _ [] rfl HO.out _ _ _ (ints l) rfl HR.out (ints_one l) ?c1 hsz ?_)
    case c1 => simp; omega
    intro v' w1 hv hg _
    have hb1 : Below w.heap.size w w1 := below_grown hb HO.out hg hsz
    have HV := Lib.hid (show OwnI w1 w.heap.size v' l from hv)
    clear hv hg
    go_wp2_with fail
    go_ret
    exact ⟨_, rfl, HV.out, hb1⟩
end Go.Proofs.YtdlmhgijpgnilaaGreatDoor

namespace Go.Proofs.YtdlmhgijpgnilaaGreatDoor
open Go.RowKit Go.Shelf
attribute [local go_sem] Oper.semAt_some

/-- Between two rounds: the last k symbols have been set to 1. -/
structure NxI (w0 : World) (Bs Br Be Bn Bk : Nat) (v : Value) (s : Int) (l : List Int) (k : Nat) (W : World) : Prop where
  bs : Cs W Bs [.int .i64 s] 3
  br : Cs W Br [.slice none 0 0] 22
  be : Cs W Be [.int .i64 0] 29
  bn : Cs W Bn [v] 22
  bk : Cs W Bk [v] 22
  own : OwnI W w0.heap.size v (rolled l (l.length - k))
  below : Below w0.heap.size w0 W
  bx : 0 < l.length → v.ownBlock ≠ some Bs
  all : k ≤ l.length ∧ ∀ j, l.length - k ≤ j → j < l.length → ¬ l.getD j 0 < s
structure NxR (w0 : World) (Br Be : Nat) (v : Value) (s : Int) (l : List Int) (W : World) : Prop where
  br : Cs W Br [v] 22
  be : Cs W Be [.int .i64 0] 29
  own : OwnI W w0.heap.size v (nxt s l)
  below : Below w0.heap.size w0 W
theorem nxI_from (w0 : World) (Bs Br Be Bn Bk : Nat) (v : Value) (s : Int) (l : List Int) (B : Nat) (hB : w0.heap.size ≤ B) : OwnFrom B (NxI w0 Bs Br Be Bn Bk v s l) := fun k W W' row h hg hr =>
  ⟨cs_round h.bs hg hr, cs_round h.br hg hr, cs_round h.be hg hr, cs_round h.bn hg hr, cs_round h.bk hg hr, own_round h.own hg hr, below_round h.below hg hB h.below.size hr, h.bx, h.all⟩
theorem nxR_from (w0 : World) (Br Be : Nat) (v : Value) (s : Int) (l : List Int) (B : Nat) (hB : w0.heap.size ≤ B) : OwnFrom B (fun (c : Code) W => c = .ret ∧ NxR w0 Br Be v s l W) := fun c W W' row h hg hr =>
  ⟨h.1, cs_round h.2.br hg hr, cs_round h.2.be hg hr, own_round h.2.own hg hr, below_round h.2.below hg hB h.2.below.size hr⟩
/-- A written row is at no block of another type. -/
theorem own_ne_cs {w : World} {B g n c : Nat} {l : List Int} (h : OwnI w B (.slice (some ⟨g, 0, none⟩) n c) l) {g' : Nat} {l' : List Value} {t : TypeId} (hc : Cs w g' l' t) (ht : t ≠ 3) : g' ≠ g := by
  intro e
  subst e
  obtain ⟨_, _, cur, h1⟩ := own_new h g' rfl
  have h2 : w.heap[g']? = some (.cells l'.toArray t (0, 0)) := hc
  rw [h1] at h2
  injection h2 with h2
  injection h2 with _ h2
  exact ht h2.symm
theorem own_ne2 {w : World} {B g : Nat} {v : Value} {l : List Int} (h : OwnI w B v l) {l' : List Value} {t : TypeId} (hc : Cs w g l' t) (ht : t ≠ 3) : v.ownBlock ≠ some g := by
  intro e
  obtain ⟨_, _, cur, h1⟩ := own_new h g e
  have h2 : w.heap[g]? = some (.cells l'.toArray t (0, 0)) := hc
  rw [h1] at h2
  injection h2 with h2
  injection h2 with _ h2
  exact ht h2.symm
theorem backI_any (v : Value) (w : World) (H : ∃ A n c, v = .slice A n c) :
    Calls Tryz.prog 37 #[v] w fun e w' => e = .returned (.func (.func 75) #[] #[.pointer (some ⟨w.heap.size, 0, none⟩)]) ∧ w' = w.alloc (.cells #[v] 22) := by
  obtain ⟨A, n, c, rfl⟩ := H
  go_enter Tryz.func37, Tryz.ntmps37
  go_wp2
  go_ret
  exact ⟨rfl, rfl⟩
theorem nextA_ok {l : List Int} {s : Int} (h : wok l s = true) (hn : (nxt s l).length ≤ 256) : nextA l s = (nxt s l, 0) := by unfold nextA; rw [if_pos h, if_pos hn]
theorem nextA_lim {l : List Int} {s : Int} (h : wok l s = true) (hn : ¬ (nxt s l).length ≤ 256) : nextA l s = ([], 2) := by unfold nextA; rw [if_pos h, if_neg hn]
theorem nextA_bad {l : List Int} {s : Int} (h : wok l s = false) : nextA l s = ([], 9) := by unfold nextA; rw [if_neg (by rw [h]; decide)]
theorem others_set1 (W : World) (p : Addr) (u : Value) : KeepsOthers W (W.setCell p u) := KeepsOthers.setCell W p u

set_option maxRecDepth 20000 in
set_option maxHeartbeats 2000000 in
theorem wNext_ok (A : Option Addr) (n c : Nat) (l : List Int) (s : Int) (w : World) (h : Ints w l A n c) (hok : wok l s = true) :
    Calls Tryz.prog 22 #[.slice A n c, .int .i64 s] w (RetIE w (nextA l s).1 (nextA l s).2) := by
  obtain ⟨hs1, hs2, hl, hm⟩ := wok_out hok
  have hn := h.len
  obtain ⟨hb0, cs0, cr0, ce0⟩ := blk3 w [.int .i64 s] [.slice none 0 0] [.int .i64 0] 3 22 29
  have h0 := h.below hb0
  refine (callsIn_wide (n := 6)).1 ?_
  refine callsIn_of_wp_marks Tryz.func22 rfl trivial ?_ rfl
  simp only [Tryz.ntmps22, List.size_toArray, List.length_cons, List.length_nil, Nat.reduceAdd, Nat.reduceSub, Array.replicate_succ, Array.replicate_zero, List.push_toArray, List.append_toArray, List.nil_append, List.cons_append]
  refine wpIn_wide.2 ?_
  have HL := Lib.hid hl; have HM := Lib.hid hm; have HN := Lib.hid hn; have HOK := Lib.hid hok
  clear h hl hm hn hok
  go_wp2_with fail
  generalize (((w.alloc (.cells #[.int .i64 s] 3)).alloc (.cells #[.slice none 0 0] 22)).alloc (.cells #[.int .i64 0] 29)) = W0 at *
  have HC0 := Lib.hid cs0.lt
  refine (wValid_any A n c l s _ h0 true HOK).mono ?_
  rintro e w' ⟨rfl, rfl⟩
  go_wp2_with fail
  refine (cloneI_any A n c l _ h0 (by have := HL.out; have := HN.out; omega)).mono ?_
  rintro e w1 ⟨v, rfl, ho, hb1⟩
  clear h0
  replace cs0 := cs0.below hb1 cs0.lt
  replace cr0 := cr0.below hb1 cr0.lt
  replace ce0 := ce0.below hb1 ce0.lt
  have hz0 := hb0.size
  have hl0 : w.heap.size < W0.heap.size := HC0.out
  replace hb0 := hb0.trans (hb1.mono hz0)
  obtain ⟨A1, c1, hv, hA1⟩ := ho.shape
  replace ho : OwnI w1 w.heap.size v l := ho.mono hz0
  clear hb1 hz0
  have HN2 : Hid (n = l.length) := HN
  rw [← HN.out] at hv hA1
  subst hv
  obtain ⟨b, hAb⟩ : ∃ b, 0 < n → A1 = some ⟨b, 0, none⟩ := by
    rcases Nat.eq_zero_or_pos n with h0 | h0
    · exact ⟨0, fun h => absurd h (by omega)⟩
    · obtain ⟨g, hg, _⟩ := hA1 h0
      exact ⟨g, fun _ => hg⟩
  obtain ⟨hbn, hcn⟩ := blk1 w1 [.slice A1 n c1] 22
  have cs1 := cs0.below hbn cs0.lt
  have cr1 := cr0.below hbn cr0.lt
  have ce1 := ce0.below hbn ce0.lt
  have ho1 := own_below ho hbn
  have hb2 := hb0.trans (hbn.mono hb0.size)
  have hne0 : w.heap.size ≤ w1.heap.size := hb0.size
  have hnew : w1.heap.size < (w1.alloc (.cells #[.slice A1 n c1] 22)).heap.size := by simp
  clear hbn cs0 cr0 ce0 ho
  go_wp2_with fail
  generalize w1.alloc (.cells #[.slice A1 n c1] 22) = W2 at *
  refine (backI_any (.slice A1 n c1) _ ⟨_, _, _, rfl⟩).mono ?_
  rintro e w3 ⟨rfl, rfl⟩
  obtain ⟨hbk, hck⟩ := blk1 W2 [.slice A1 n c1] 22
  replace cs1 := cs1.below hbk cs1.lt
  replace cr1 := cr1.below hbk cr1.lt
  replace ce1 := ce1.below hbk ce1.lt
  replace hcn := hcn.below hbk hcn.lt
  replace ho1 := own_below ho1 hbk
  replace hb2 := hb2.trans (hbk.mono hb2.size)
  have hbx : 0 < l.length → (Value.slice A1 n c1).ownBlock ≠ some w.heap.size := by
    intro h0 e
    obtain ⟨g, h1, h2, _⟩ := hA1 (by have := HN.out; omega)
    rw [h1] at e
    have e2 : g = w.heap.size := Option.some.inj e
    omega
  have hce3 : w.heap.size + 1 + 1 < (W2.alloc (.cells #[.slice A1 n c1] 22)).heap.size := ce1.lt
  have hI0 : NxI w w.heap.size (w.heap.size + 1) (w.heap.size + 1 + 1) w1.heap.size W2.heap.size (.slice A1 n c1) s l 0 (W2.alloc (.cells #[.slice A1 n c1] 22)) :=
    ⟨cs1, cr1, ce1, hcn, hck, by rw [Nat.sub_zero, rolled_all]; exact ho1, hb2, hbx, Nat.zero_le _, fun j h1 h2 => absurd h1 (by omega)⟩
  have hzw := hb2.size
  clear cs1 cr1 ce1 hcn hck ho1 hb2 hbk
  generalize W2.alloc (.cells #[.slice A1 n c1] 22) = W3 at *
  go_wp2_with fail
  refine (wpIn_wide (n := 6)).1 ?_
  refine wpIn_back rfl (by omega) W2.heap.size b n c1 A1 (by have := HL.out; have := HN.out; omega) hAb rfl trivial rfl
    (NxI w w.heap.size (w.heap.size + 1) (w.heap.size + 1 + 1) w1.heap.size W2.heap.size (.slice A1 n c1) s l) (fun cd W => cd = .ret ∧ NxR w (w.heap.size + 1) (w.heap.size + 1 + 1) (.slice A1 n c1) s l W)
    (nxI_from _ _ _ _ _ _ _ _ _ _ hzw) (nxR_from _ _ _ _ _ _ _ hzw)
    (fun k W h => h.bk.cell rfl) ?cells hI0 ?a1 ?assign ?body ?done ?stop
  case cells =>
    intro k W hk h
    have ho := h.own
    rw [hAb (by omega)] at ho
    exact ⟨_, ho.cell (by rw [rolled_length _ _ (by omega)]; exact HN.out) (by omega)⟩
  case assign =>
    intro lr k x W K hK
    gi_wp2
    exact hK
  case body =>
    intro lr k x W hk hI hc
    obtain ⟨j, hj⟩ : ∃ j, n - 1 - k = j := ⟨_, rfl⟩
    obtain rfl : A1 = some ⟨b, 0, none⟩ := hAb (by omega)
    have hnl := HN.out
    have hll := HL.out
    have hrl : n = (rolled l (l.length - k)).length := by rw [rolled_length _ _ (by omega)]; exact hnl
    have hx : x = l.getD j 0 := by
      have := hI.own.cell hrl (j := j) (by omega)
      rw [← hj, hc, hj, rolled_get l (by omega) (by omega)] at this
      simpa using this
    have hj0 : (0 : Int) ≤ (j : Int) := by omega
    have hjn : j < n := by omega
    have hfz := hI.own.unfrozen hrl j
    have hcs := hI.bs.cell (k := 0) rfl
    have hcn := hI.bn.cell (k := 0) rfl
    have hcr := hI.br.cell (k := 0) rfl
    have hce := hI.be.cell (k := 0) rfl
    have n1 := own_ne_cs hI.own hI.bn (by decide)
    have n2 := own_ne_cs hI.own hI.br (by decide)
    have n3 := own_ne_cs hI.own hI.be (by decide)
    have n5 := own_ne_cs hI.own hI.bk (by decide)
    have n6 : w.heap.size ≠ b := fun e => hI.bx (by omega) (by rw [← e]; rfl)
    rw [hj] at hc ⊢
    have hxm := HM.out _ (mem_getD (l := l) (k := j) (by omega))
    rw [← hx] at hxm
    have HX := Lib.hid hx
    have HI := Lib.hid hI
    have HJ := Lib.hid hj
    have HR := Lib.hid hrl
    clear hx hI hj hrl hnl hll
    by_cases hlt : x < s
    · have hw1 : IntKind.i64.wrap (x + 1) = x + 1 := IntWalk.i64_in _ (by omega)
      have hown := HI.out.own.stored HR.out j (x + 1)
      have hb := HI.out.below.setCell (p := ⟨b, j, none⟩) (by have := (own_new HI.out.own b rfl).1; exact this) (.int .i64 (x + 1))
      have hn' := HI.out.bn.far (p := ⟨b, j, none⟩) n1 (.int .i64 (x + 1))
      have hr' := HI.out.br.far (p := ⟨b, j, none⟩) n2 (.int .i64 (x + 1))
      have he' := HI.out.be.far (p := ⟨b, j, none⟩) n3 (.int .i64 (x + 1))
      have q1 := hn'.cell (k := 0) rfl
      have q2 := hr'.frozen 0
      have n4 : w.heap.size + 1 ≠ w.heap.size + 1 + 1 := by omega
      have hr2 := hr'.set 0 (.slice (some ⟨b, 0, none⟩) n c1)
      have he2 := he'.far (p := ⟨w.heap.size + 1, 0, none⟩) (fun e => n4 e.symm) (.slice (some ⟨b, 0, none⟩) n c1)
      have q3 := he2.frozen 0
      have hown2 := (hown.set (p := ⟨w.heap.size + 1, 0, none⟩) (by intro e; injection e with e; exact n2 e.symm) (.slice (some ⟨b, 0, none⟩) n c1)).set (p := ⟨w.heap.size + 1 + 1, 0, none⟩) (by intro e; injection e with e; exact n3 e.symm) (.int .i64 0)
      have hb2 := (hb.setCell (p := ⟨w.heap.size + 1, 0, none⟩) (by show w.heap.size ≤ w.heap.size + 1; omega) (.slice (some ⟨b, 0, none⟩) n c1)).setCell (p := ⟨w.heap.size + 1 + 1, 0, none⟩) (by show w.heap.size ≤ w.heap.size + 1 + 1; omega) (.int .i64 0)
      have hk1 := ((KeepsOthers.setCell W ⟨b, j, none⟩ (.int .i64 (x + 1))).trans (KeepsOthers.setCell _ ⟨w.heap.size + 1, 0, none⟩ (.slice (some ⟨b, 0, none⟩) n c1))).trans (KeepsOthers.setCell _ ⟨w.heap.size + 1 + 1, 0, none⟩ (.int .i64 0))
      have hr3 := hr2.far (p := ⟨w.heap.size + 1 + 1, 0, none⟩) n4 (.int .i64 0)
      have he3 := he2.set 0 (.int .i64 0)
      have hnx : nxt s l = (rolled l (l.length - k)).set j (x + 1) := by
        have hjl : l.length - k = j + 1 := by have := HJ.out; have := HN.out; omega
        rw [hjl, HX.out]
        exact nxt_at (by have := HN.out; omega) (fun i h1 h2 => HI.out.all.2 i (by omega) h2) (by rw [← HX.out]; exact hlt)
      rw [← hnx] at hown2
      have HE := Lib.hid (And.intro hk1 (NxR.mk hr3 he3 hown2 hb2))
      clear hk1 hr3 he3 hown2 hb2 hown hb hn' hr' he' hr2 he2 hnx
      gi_wp2
      exact ⟨HE.out.1, rfl, HE.out.2⟩
    · have hown := HI.out.own.stored HR.out j 1
      have hb := HI.out.below.setCell (p := ⟨b, j, none⟩) (by have := (own_new HI.out.own b rfl).1; exact this) (.int .i64 1)
      have hn' := HI.out.bn.far (p := ⟨b, j, none⟩) n1 (.int .i64 1)
      have hr' := HI.out.br.far (p := ⟨b, j, none⟩) n2 (.int .i64 1)
      have he' := HI.out.be.far (p := ⟨b, j, none⟩) n3 (.int .i64 1)
      have hs' := HI.out.bs
      have hk' := HI.out.bk.far (p := ⟨b, j, none⟩) n5 (.int .i64 1)
      have hrs : (rolled l (l.length - k)).set j 1 = rolled l (l.length - (k + 1)) := by
        have hjl : l.length - k = j + 1 := by have := HJ.out; have := HN.out; omega
        have hjl2 : l.length - (k + 1) = j := by omega
        rw [hjl, hjl2]
        exact rolled_step l (by have := HN.out; omega)
      rw [hrs] at hown
      have hs2 := hs'.far (p := ⟨b, j, none⟩) n6 (.int .i64 1)
      have hal : k + 1 ≤ l.length ∧ ∀ i, l.length - (k + 1) ≤ i → i < l.length → ¬ l.getD i 0 < s := by
        refine ⟨by have := HN.out; omega, fun i h1 h2 => ?_⟩
        rcases Nat.lt_or_ge i (l.length - k) with h3 | h3
        · have : i = j := by have := HJ.out; have := HN.out; omega
          rw [this, ← HX.out]; exact hlt
        · exact HI.out.all.2 i h3 h2
      have HE := Lib.hid (And.intro (KeepsOthers.setCell W ⟨b, j, none⟩ (.int .i64 1)) (NxI.mk hs2 hr' he' hn' hk' hown hb HI.out.bx hal))
      clear hown hb hn' hr' he' hs' hk' hrs hs2 hal
      gi_wp2
      exact HE.out
  case done =>
    intro D W hD hI hK
    have hnl := HN.out
    have hll := HL.out
    have hall : nxt s l = rolled l 0 ++ [1] := nxt_all fun j h => hI.all.2 j (by omega) h
    have hrl : (rolled l 0).length = n := by rw [rolled_length _ _ (by omega)]; exact hnl.symm
    have hown := hI.own
    rw [show l.length - n = 0 by omega] at hown
    have hDB : w.heap.size ≤ D := by omega
    by_cases h256 : n = 256
    · have hA := nextA_lim HOK.out (by rw [hall, List.length_append, hrl]; simp; omega)
      have HA := Lib.hid hA
      have hb256 : ((n : Int) == 256) = true := by simp; omega
      have q2 := hI.br.frozen 0
      have q4 := hI.br.cell (k := 0) rfl
      have hr1 := hI.br.set 0 (.slice none 0 0)
      have n4 : w.heap.size + 1 ≠ w.heap.size + 1 + 1 := by omega
      have he1 := hI.be.far (p := ⟨w.heap.size + 1, 0, none⟩) (fun e => n4 e.symm) (.slice none 0 0)
      have q3 := he1.frozen 0
      have q5 := he1.cell (k := 0) rfl
      have hr2 := hr1.far (p := ⟨w.heap.size + 1 + 1, 0, none⟩) n4 (.int .i64 2)
      have he2 := he1.set 0 (.int .i64 2)
      have hb2 := (hI.below.setCell (p := ⟨w.heap.size + 1, 0, none⟩) (by show w.heap.size ≤ w.heap.size + 1; omega) (.slice none 0 0)).setCell (p := ⟨w.heap.size + 1 + 1, 0, none⟩) (by show w.heap.size ≤ w.heap.size + 1 + 1; omega) (.int .i64 2)
      have hKl := heap_lt hK
      have hK2 : ((W.setCell ⟨w.heap.size + 1, 0, none⟩ (.slice none 0 0)).setCell ⟨w.heap.size + 1 + 1, 0, none⟩ (.int .i64 2)).heap[D]? = some (.deferred (some [])) :=
        (Below.heap_setCell _ ⟨w.heap.size + 1 + 1, 0, none⟩ _ D (fun e => by have e2 : D = w.heap.size + 1 + 1 := e; omega)).trans ((Below.heap_setCell _ ⟨w.heap.size + 1, 0, none⟩ _ D (fun e => by have e2 : D = w.heap.size + 1 := e; omega)).trans hK)
      have HE := Lib.hid (And.intro hr2 (And.intro he2 (And.intro hb2 hK2)))
      clear hr1 he1 hr2 he2 hb2 hK2 hI hown hall hrl hA hnl hll
      gi_wp2
      go_wp2_with fail
      refine ⟨by simp, .inl ⟨_, _, rfl, run_takeDeferred HE.out.2.2.2, ?_⟩⟩
      refine ⟨_, results_cells2 rfl Tryz.underlying22 rfl Tryz.underlying29 rfl rfl rfl ((cs_put HE.out.1 HE.out.2.2.2 _).cell rfl) ((cs_put HE.out.2.1 HE.out.2.2.2 _).cell rfl), ?_⟩
      rw [HA.out]
      exact ⟨_, rfl, OwnI.nil _ _, below_put HE.out.2.2.1 (by omega) HE.out.2.2.1.size _⟩
    · have hln : (rolled l 0 ++ [1]).length ≤ 256 := by rw [List.length_append, hrl]; simp; omega
      have HA := Lib.hid (nextA_ok HOK.out (by rw [hall]; exact hln))
      have HALL := Lib.hid hall
      have hb256 : ((n : Int) == 256) = false := by simp; omega
      have q1 := hI.bn.cell (k := 0) rfl
      have q2 := hI.br.frozen 0
      have q4 := hI.br.cell (k := 0) rfl
      have HI := Lib.hid hI
      have HO := Lib.hid hown
      have hKl := heap_lt hK
      have hr1 : Rd (W.alloc (.cells #[.int .i64 1] 3)) (ints [1]) (some ⟨W.heap.size, 0, none⟩) 1 1 := Rd.one W _ _
      have ho1 : OwnI (W.alloc (.cells #[.int .i64 1] 3)) w.heap.size (.slice A1 n c1) (rolled l 0) := own_alloc hown _
      have hbl : Below w.heap.size w (W.alloc (.cells #[.int .i64 1] 3)) := hI.below.alloc hI.below.size _
      have hn256 : n ≤ 256 := by omega
      have hrn : (ints (rolled l 0)).length = n := by rw [ints_length]; exact hrl
      clear hI hown hall hrl hnl hll hln
      gi_wp2
      go_wp2_with (at_builtin; refine wpList_appV rfl (.tmp 35) (.tmp 36) 22 3 rfl rfl _ 8 Tryz.underlying22 info_int rfl (by omega) w.heap.size _ (ints (rolled l 0)) rfl ho1 _ _ _ (ints [1]) rfl hr1 (ints_one _) ?c1 hbl.size ?_)
      case c1 => rw [hrn]; omega
      intro v' w4 hv hg _
      have ho4 : OwnI w4 w.heap.size v' (rolled l 0 ++ [1]) := by
        unfold OwnI
        rw [ints_append, List.length_append, hrn]; exact hv
      have hb4 : Below w.heap.size w w4 := below_grown hbl ho1 hg hbl.size
      have hr4 : Cs w4 (w.heap.size + 1) _ 22 := cs_grown (HI.out.br.alloc _) ho1 hg (by decide)
      have he4 : Cs w4 (w.heap.size + 1 + 1) _ 29 := cs_grown (HI.out.be.alloc _) ho1 hg (by decide)
      have hK4 : w4.heap[D]? = some (.deferred (some [])) := dfr_grown ((Below.heap_alloc W _ D hKl).trans hK) ho1 hg
      obtain ⟨A2, n2, c2, rfl⟩ : ∃ A n c, v' = .slice A n c := by
        obtain ⟨A2, c2, h, _⟩ := ho4.reads
        exact ⟨_, _, _, h⟩
      have n4 : w.heap.size + 1 ≠ w.heap.size + 1 + 1 := by omega
      have q5 := hr4.cell (k := 0) rfl
      have q6 := hr4.frozen 0
      have hr5 := hr4.set 0 (.slice A2 n2 c2)
      have he5 := he4.far (p := ⟨w.heap.size + 1, 0, none⟩) (fun e => n4 e.symm) (.slice A2 n2 c2)
      have q7 := he5.cell (k := 0) rfl
      have q8 := he5.frozen 0
      have hr6 := hr5.far (p := ⟨w.heap.size + 1 + 1, 0, none⟩) n4 (.int .i64 0)
      have he6 := he5.set 0 (.int .i64 0)
      have hb6 := (hb4.setCell (p := ⟨w.heap.size + 1, 0, none⟩) (by show w.heap.size ≤ w.heap.size + 1; omega) (.slice A2 n2 c2)).setCell (p := ⟨w.heap.size + 1 + 1, 0, none⟩) (by show w.heap.size ≤ w.heap.size + 1 + 1; omega) (.int .i64 0)
      have ho6 := (ho4.set (p := ⟨w.heap.size + 1, 0, none⟩) (own_ne2 ho4 hr4 (by decide)) (.slice A2 n2 c2)).set (p := ⟨w.heap.size + 1 + 1, 0, none⟩) (own_ne2 ho4 he4 (by decide)) (.int .i64 0)
      have hK6 : ((w4.setCell ⟨w.heap.size + 1, 0, none⟩ (.slice A2 n2 c2)).setCell ⟨w.heap.size + 1 + 1, 0, none⟩ (.int .i64 0)).heap[D]? = some (.deferred (some [])) :=
        (Below.heap_setCell _ ⟨w.heap.size + 1 + 1, 0, none⟩ _ D (fun e => by have e2 : D = w.heap.size + 1 + 1 := e; omega)).trans ((Below.heap_setCell _ ⟨w.heap.size + 1, 0, none⟩ _ D (fun e => by have e2 : D = w.heap.size + 1 := e; omega)).trans hK4)
      have HE := Lib.hid (And.intro hr6 (And.intro he6 (And.intro hb6 (And.intro ho6 hK6))))
      clear hr4 he4 hr5 he5 hr6 he6 hb6 ho6 hK6 hb4 hv hg ho4 hK4 ho1 hbl hr1
      go_wp2_with fail
      refine ⟨by simp, .inl ⟨_, _, rfl, run_takeDeferred HE.out.2.2.2.2, ?_⟩⟩
      refine ⟨_, results_cells2 rfl Tryz.underlying22 rfl Tryz.underlying29 rfl rfl rfl ((cs_put HE.out.1 HE.out.2.2.2.2 _).cell rfl) ((cs_put HE.out.2.1 HE.out.2.2.2.2 _).cell rfl), ?_⟩
      rw [HA.out, HALL.out]
      exact ⟨_, rfl, own_put HE.out.2.2.2.1 HE.out.2.2.2.2 _, below_put HE.out.2.2.1 (by omega) HE.out.2.2.1.size _⟩
  case stop =>
    rintro D cd W hD ⟨rfl, hR⟩ hK
    have hl2 : (nxt s l).length ≤ 256 := by
      rw [← hR.own.n_eq]
      have := HN.out; have := HL.out
      omega
    rw [nextA_ok HOK.out hl2]
    gi_wp2
    refine ⟨by simp, .inl ⟨_, _, rfl, run_takeDeferred hK, ?_⟩⟩
    refine ⟨_, results_cells2 rfl Tryz.underlying22 rfl Tryz.underlying29 rfl rfl rfl ((cs_put hR.br hK _).cell rfl) ((cs_put hR.be hK _).cell rfl), _, rfl, own_put hR.own hK _, below_put hR.below (by omega) hR.below.size _⟩
set_option maxHeartbeats 1000000 in
theorem wNext_any (A : Option Addr) (n c : Nat) (l : List Int) (s : Int) (w : World) (h : Ints w l A n c) :
    Calls Tryz.prog 22 #[.slice A n c, .int .i64 s] w (RetIE w (nextA l s).1 (nextA l s).2) := by
  by_cases hok : wok l s = true
  · exact wNext_ok A n c l s w h hok
  · have hok2 : wok l s = false := by simpa using hok
    rw [nextA_bad hok2]
    obtain ⟨hb0, cs0, cr0, ce0⟩ := blk3 w [.int .i64 s] [.slice none 0 0] [.int .i64 0] 3 22 29
    have h0 := h.below hb0
    have HOK := Lib.hid hok2
    clear h hok hok2
    have hr1 := cr0.set 0 (.slice none 0 0)
    have q1 := cr0.cell (k := 0) rfl
    have q2 := cr0.frozen 0
    have n4 : w.heap.size + 1 ≠ w.heap.size + 1 + 1 := by omega
    have he1 := ce0.far (p := ⟨w.heap.size + 1, 0, none⟩) (fun e => n4 e.symm) (.slice none 0 0)
    have q3 := he1.cell (k := 0) rfl
    have q4 := he1.frozen 0
    have hr2 := hr1.far (p := ⟨w.heap.size + 1 + 1, 0, none⟩) n4 (.int .i64 9)
    have he2 := he1.set 0 (.int .i64 9)
    have hb2 := (hb0.setCell (p := ⟨w.heap.size + 1, 0, none⟩) (by show w.heap.size ≤ w.heap.size + 1; omega) (.slice none 0 0)).setCell (p := ⟨w.heap.size + 1 + 1, 0, none⟩) (by show w.heap.size ≤ w.heap.size + 1 + 1; omega) (.int .i64 9)
    have HE := Lib.hid (And.intro hr2 (And.intro he2 hb2))
    clear hr1 he1 hr2 he2 hb2 cr0 ce0 hb0
    go_enter Tryz.func22, Tryz.ntmps22
    go_wp2_with fail
    generalize (((w.alloc (.cells #[.int .i64 s] 3)).alloc (.cells #[.slice none 0 0] 22)).alloc (.cells #[.int .i64 0] 29)) = W0 at *
    refine (wValid_any A n c l s _ h0 false HOK).mono ?_
    rintro e w' ⟨rfl, rfl⟩
    go_wp2_with fail
    exact ret_cells2 rfl Tryz.underlying22 rfl Tryz.underlying29 rfl rfl rfl (HE.out.1.cell rfl) (HE.out.2.1.cell rfl) rfl ⟨_, rfl, OwnI.nil _ _, HE.out.2.2⟩
end Go.Proofs.YtdlmhgijpgnilaaGreatDoor

namespace Go.Proofs.YtdlmhgijpgnilaaGreatDoor
open Go.RowKit

/-- What made.Word hands back: a word of its own over s symbols, of at most 20 letters. -/
def RetWd (w0 : World) (s : Nat) (e : Ending) (w' : World) : Prop := ∃ v r, e = .returned v ∧ OwnI w' w0.heap.size v r ∧ r.length ≤ 20 ∧ (∀ x ∈ r, 1 ≤ x ∧ x ≤ (s : Int)) ∧ Below w0.heap.size w0 w'
set_option maxRecDepth 20000 in
set_option maxHeartbeats 2000000 in
theorem Word_any (A : Option Addr) (n c : Nat) (l : List Int) (s : Nat) (w : World) (h : Ints w l A n c) (hr : ∀ x ∈ l, -9223372036854775808 ≤ x ∧ x ≤ 9223372036854775807) (hs1 : 1 ≤ s) (hs2 : s ≤ 32) :
    Calls Tryz.prog 21 #[.slice A n c, .int .i64 (s : Int), .int .i64 20] w (RetWd w s) := by
  have HL := Lib.hid h
  have HR := Lib.hid hr
  have HN := Lib.hid h.len
  clear h hr
  go_enter Tryz.func21, Tryz.ntmps21
  go_wp2_with fail
  go_loopw [7, 8] (fun v i wr => ∃ (k : Nat) (r : List Int), k ≤ n ∧ k ≤ 20 ∧ i = .int .i64 (k : Int) ∧ OwnI wr w.heap.size v r ∧ r.length = k ∧ Hid (∀ x ∈ r, 1 ≤ x ∧ x ≤ (s : Int)) ∧ Below w.heap.size w wr) (fun _ i _ => (n - intOf i).toNat)
  case atStart => exact ⟨0, [], Nat.zero_le _, Nat.zero_le _, rfl, OwnI.nil _ _, rfl, show Hid _ from fun x hx => (by cases hx), Below.refl _ _⟩
  case round =>
    obtain ⟨k, r, hk, hk20, rfl, ho, hrl, HM, hb⟩ := hrel
    obtain ⟨A1, c1, rfl, -⟩ := ho.shape
    rw [hrl] at ho ⊢
    by_cases hkn : (k : Int) < (n : Int)
    · by_cases h20 : (k : Int) < 20
      · obtain ⟨b, o, rfl, _, hcx⟩ := (HL.out.below hb).at_ (k := k) (by omega)
        obtain ⟨x, hx⟩ : ∃ x, l.getD k 0 = x := ⟨_, rfl⟩
        have hxr := HR.out _ (mem_getD (l := l) (k := k) (by have := HN.out; omega))
        rw [hx] at hcx hxr
        clear hx
        have HO := Lib.hid ho
        have HB := Lib.hid hb
        have hrl2 : (ints r).length = k := by rw [ints_length]; exact hrl
        clear ho hb
        go_wp2_with fail
        refine (Mod_in x s _ hxr.1 hxr.2 (by omega) (by omega)).mono ?_
        rintro e w' ⟨y, hy, rfl, rfl⟩
        have hw1 : IntKind.i64.wrap (1 + (y : Int)) = 1 + (y : Int) := IntWalk.i64_in _ (by omega)
        have hr1 : Rd (wr.alloc (.cells #[.int .i64 (1 + (y : Int))] 3)) (ints [1 + (y : Int)]) (some ⟨wr.heap.size, 0, none⟩) 1 1 := Rd.one wr _ _
        have ho1 : OwnI (wr.alloc (.cells #[.int .i64 (1 + (y : Int))] 3)) w.heap.size (.slice A1 k c1) r := own_alloc HO.out _
        have hbl : Below w.heap.size w (wr.alloc (.cells #[.int .i64 (1 + (y : Int))] 3)) := HB.out.alloc HB.out.size _
        go_wp2_with (at_builtin; refine wpList_appV rfl (.tmp 20) (.tmp 28) 22 3 rfl rfl _ 8 Tryz.underlying22 info_int rfl (by omega) w.heap.size _ (ints r) rfl ho1 _ _ _ (ints [1 + (y : Int)]) rfl hr1 (ints_one _) ?c1 hbl.size ?_)
        case c1 => omega
        intro v' w4 hv hg _
        have ho4 : OwnI w4 w.heap.size v' (r ++ [1 + (y : Int)]) := by
          unfold OwnI
          rw [ints_append, List.length_append, hrl2]; exact hv
        have hb4 : Below w.heap.size w w4 := below_grown hbl ho1 hg hbl.size
        have hm4 : Hid (∀ z ∈ r ++ [1 + (y : Int)], 1 ≤ z ∧ z ≤ (s : Int)) := by
          intro z hz
          rcases List.mem_append.1 hz with h1 | h1
          · exact HM.out z h1
          · rw [List.mem_singleton.1 h1]; omega
        have hl4 : (r ++ [1 + (y : Int)]).length = k + 1 := by rw [List.length_append, hrl]; rfl
        have HEND := Lib.hid (And.intro ho4 (And.intro hl4 hb4))
        clear hv hg ho4 hb4 hl4 hbl ho1 hr1
        go_wp2_with fail
        go_roundw
        case rel => exact ⟨k + 1, _, by omega, by omega, by go_num, HEND.out.1, HEND.out.2.1, hm4, HEND.out.2.2⟩
        case measure => simp [intOf]; omega
      · have HEND := Lib.hid (And.intro ho hb)
        clear ho hb
        go_wp2_with fail
        go_ret
        exact ⟨_, r, rfl, HEND.out.1, by omega, HM.out, HEND.out.2⟩
    · have HEND := Lib.hid (And.intro ho hb)
      clear ho hb
      go_wp2_with fail
      go_ret
      exact ⟨_, r, rfl, HEND.out.1, by omega, HM.out, HEND.out.2⟩
end Go.Proofs.YtdlmhgijpgnilaaGreatDoor

namespace Go.Proofs.YtdlmhgijpgnilaaGreatDoor
open Go.RowKit

theorem nextA_ok5 {l : List Int} {s : Int} (h : wok l s = true) (hn : (nxt s l).length ≤ 256) : nextA l s = (nxt s l, 0) := by unfold nextA; rw [if_pos h, if_pos hn]
theorem nextA_lim5 {l : List Int} {s : Int} (h : wok l s = true) (hn : ¬ (nxt s l).length ≤ 256) : nextA l s = ([], 2) := by unfold nextA; rw [if_pos h, if_neg hn]
theorem nextA_bad5 {l : List Int} {s : Int} (h : wok l s = false) : nextA l s = ([], 9) := by unfold nextA; rw [if_neg (by rw [h]; decide)]
end Go.Proofs.YtdlmhgijpgnilaaGreatDoor
