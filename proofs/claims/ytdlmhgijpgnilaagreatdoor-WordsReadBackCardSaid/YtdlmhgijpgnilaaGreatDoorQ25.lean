/- A range over slices.Backward of a row of numbers that the body itself writes: the iterator, and the law for its caller. -/
import Derived.RangeFuncNested
import Derived.RangeFuncBound
import Derived.RangeFuncCalls
import Derived.RangeFuncLeaves
import Derived.Shelf.Abstract
import Derived.Shelf.RegionOpen
import Derived.WalkKit
import Derived.OwnWalkIn
import Derived.TacticsInMore
import Derived.LoopNIn
import Derived.LoopIn
import Derived.Test.YtdlmhgijpgnilaaGreatDoorQ01
import Derived.Test.YtdlmhgijpgnilaaGreatDoorQ08
set_option linter.unusedVariables false
set_option linter.unusedSimpArgs false
namespace Go.Proofs.YtdlmhgijpgnilaaGreatDoor
open Go.RowKit Go.Shelf
attribute [local go_sem] Oper.semAt_some

set_option maxRecDepth 100000 in
set_option maxHeartbeats 2000000 in
/-- The iterator, where what its rounds keep says what it will read. -/
theorem backI_in (F : Fence) (m : Nat) (hF : F.fn 75) (hro : F.round = none) (hm : 1 ≤ m) (l Bs b n cap : Nat) (A : Option Addr) (hn : n ≤ 4000000) (hA : 0 < n → A = some ⟨b, 0, none⟩) (J : Nat → World → Prop) (Jx : World → Prop)
    (hJs : ∀ k W, J k W → W.cell? ⟨Bs, 0, none⟩ = some (.slice A n cap))
    (hJc : ∀ k W, k < n → J k W → ∃ v : Int, W.cell? ⟨b, n - 1 - k, none⟩ = some (.int .i64 v))
    (hY : ∀ k v W, k < n → J k W → W.cell? ⟨b, n - 1 - k, none⟩ = some (.int .i64 v) → YieldAt F (m - 1) Tryz.prog l #[.int .i64 ((n - 1 - k : Nat) : Int), .int .i64 v] W fun e W' =>
      (e = .returned (.bool true) ∧ J (k + 1) W') ∨ (e = .returned (.bool false) ∧ Jx W'))
    (W : World) (h0 : J 0 W) :
    CallsIn F m Tryz.prog 75 #[.func (.yield l) #[] #[], .pointer (some ⟨Bs, 0, none⟩)] W fun e W' => (∃ v, e = .returned v) ∧ (J n W' ∨ Jx W') := by
  refine callsIn_of_wp Tryz.func75 rfl hF ?_ hro
  simp only [Tryz.ntmps75, List.size_toArray, List.length_cons, List.length_nil, Nat.reduceAdd, Nat.reduceSub, Array.replicate_succ, Array.replicate_zero, List.push_toArray, List.append_toArray, List.nil_append, List.cons_append]
  have hw1 : IntKind.i64.wrap ((n : Int) - 1) = (n : Int) - 1 := IntWalk.i64_in _ (by omega)
  have hBs := hJs 0 W h0
  gi_wp2
  gi_loopw [3] (fun i wr => ∃ k : Nat, k ≤ n ∧ i = .int .i64 ((n : Int) - 1 - (k : Int)) ∧ J k wr) (fun i _ => (intOf i + 1).toNat)
  case atStart => exact ⟨0, Nat.zero_le _, by simp, h0⟩
  case round =>
    obtain ⟨k, hk, rfl, hJk⟩ := hrel
    by_cases hlt : k < n
    · obtain ⟨v, hcx⟩ := hJc k wr hlt hJk
      have hBs' := hJs k wr hJk
      obtain ⟨fn, tmps, assign, body, hy, hR⟩ := hY k v wr hlt hJk hcx
      have hAb := hA (by omega)
      subst hAb
      obtain ⟨j, hj⟩ : ∃ j, n - 1 - k = j := ⟨_, rfl⟩
      have hji : (n : Int) - 1 - (k : Int) = (j : Int) := by omega
      rw [hj] at hcx hy
      have hjn : j < n := by omega
      have hj0 : (0 : Int) ≤ (j : Int) := by omega
      rw [hji]
      have HJ := Lib.hid hj
      clear hj hji hBs
      gi_wp2
      refine hR.mono ?_
      rintro e W3 (⟨rfl, hJ3⟩ | ⟨rfl, hJx3⟩)
      · have hw2 : IntKind.i64.wrap ((j : Int) - 1) = (j : Int) - 1 := IntWalk.i64_in _ (by omega)
        gi_wp2
        go_roundw
        case rel => exact ⟨k + 1, by omega, congrArg (Value.int _) (by have := HJ.out; omega), hJ3⟩
        case measure => simp [intOf]
      · gi_wp2
        refine bodyPost_ret (results_none rfl _ _ _) rfl ?_
        exact ⟨⟨_, rfl⟩, .inr hJx3⟩
    · obtain rfl : k = n := by omega
      have hneg : ¬ (0 : Int) ≤ (k : Int) - 1 - (k : Int) := by omega
      gi_wp2
      go_end0
      exact ⟨⟨_, rfl⟩, .inl hJk⟩

/-- How a round of mine may be left. -/
def roundP (I : World → Prop) (Ix : Code → World → Prop) (W : World) : Exit → Act → World → Prop
  | .normal, _, W' => KeepsOthers W W' ∧ I W'
  | .ret, _, W' => KeepsOthers W W' ∧ Ix .ret W'
  | .exit id, _, W' => KeepsOthers W W' ∧ Ix (.exit id) W'
  | .goto t, _, W' => KeepsOthers W W' ∧ Ix (.goto t) W'
  | .panic _, _, _ => False
  | .outgrown, _, _ => False
/-- The loop's record, as the range lays it. -/
def lpRec (fn : FuncId) (tmps : Array Value) (ps : Array Tmp) (assign body : Code) (D : Nat) (st : LoopState) (pe : Option Code) : Loop :=
  { state := st, pending := pe, fn := fn, tmps := tmps, params := ps, assign := assign, body := body, defers := D }
/-- What stands between two rounds beside the caller's own word. -/
structure Kept (I : World → Prop) (L D : Nat) (r : Loop) (W : World) : Prop where
  own : I W
  lp : W.heap[L]? = some (.loop r)
  dfr : W.heap[D]? = some (.deferred (some []))

theorem Kept.turn {β : Type} {I : β → World → Prop} {B : Nat} (hI : OwnFrom B I) {k : β} {L D : Nat} {r r' : Loop} {W : World} (h : Kept (I k) L D r W) (hB : B ≤ L) (hne : L ≠ D) : Kept (I k) L D r' (W.putObj L (.loop r')) :=
  ⟨hI.putObj _ h.own hB h.lp rfl, World.putObj_heap_same (Array.getElem?_eq_some_iff.1 h.lp).1, (World.putObj_heap_other (fun e => hne e.symm)).trans h.dfr⟩
theorem Kept.over {I I' : World → Prop} {L D : Nat} {r : Loop} {W W' : World} (h : Kept I L D r W) (hk : KeepsOthers W W') (hI : I' W') : Kept I' L D r W' :=
  ⟨hI, hk.same _ _ h.lp rfl, hk.same _ _ h.dfr rfl⟩

set_option maxHeartbeats 2000000 in
/-- The law: a range over Backward of a row that the body may write. -/
theorem wpIn_back {F : Fence} {n : Nat} {g : Operand} {ps : Array Tmp} {assign body : Code} {Q : Exit → Act → World → Prop} {a : Act} {w : World}
    (hro : F.round = none) (h1 : 2 ≤ n) (Bs b N cap : Nat) (A : Option Addr) (hN : N ≤ 4000000) (hA : 0 < N → A = some ⟨b, 0, none⟩)
    (hg : a.eval g = .func (.func 75) #[] #[.pointer (some ⟨Bs, 0, none⟩)]) (hF : F.fn 75) (hps : ps.size = 2)
    (I : Nat → World → Prop) (Ix : Code → World → Prop) (hI : OwnFrom w.heap.size I) (hIx : OwnFrom w.heap.size Ix)
    (hIs : ∀ k W, I k W → W.cell? ⟨Bs, 0, none⟩ = some (.slice A N cap))
    (hIc : ∀ k W, k < N → I k W → ∃ v : Int, W.cell? ⟨b, N - 1 - k, none⟩ = some (.int .i64 v))
    (h0 : I 0 w) (a₁ : Nat → Int → Act)
    (hassign : ∀ (l k : Nat) (v : Int) (W : World) (K : Act → World → Prop), K (a₁ k v) W →
      assign.wpIn (F.inRound l) (n - 1 - 1) Tryz.prog (Exit.then K (fun _ _ _ => False)) { tmps := (ps.zip #[.int .i64 ((N - 1 - k : Nat) : Int), .int .i64 v]).foldl (fun t (p, v) => t.setIfInBounds p v) a.tmps, defers := [] } W)
    (hbody : ∀ (l k : Nat) (v : Int) (W : World), k < N → I k W → W.cell? ⟨b, N - 1 - k, none⟩ = some (.int .i64 v) → body.wpIn (F.inRound l) (n - 1 - 1) Tryz.prog (roundP (I (k + 1)) Ix W) (a₁ k v) W)
    (hdone : ∀ (D : Nat) (W : World), w.heap.size ≤ D → I N W → W.heap[D]? = some (.deferred (some [])) → Q .normal { a with defers := { target := .collected D, args := #[] } :: a.defers } W)
    (hstop : ∀ (D : Nat) (c : Code) (W : World), w.heap.size ≤ D → Ix c W → W.heap[D]? = some (.deferred (some [])) → c.wpIn F n Tryz.prog Q { a with defers := { target := .collected D, args := #[] } :: a.defers } W) :
    (Code.rangeFunc g ps assign body).wpIn F n Tryz.prog Q a w := by
  refine wpIn_rangeFunc fun fn hfn => ?_
  rw [hro]
  obtain ⟨D, hD⟩ : ∃ D, w.heap.size = D := ⟨_, rfl⟩
  rw [hD] at hI hIx hdone hstop
  obtain ⟨rec, hrec⟩ : ∃ rec : LoopState → Option Code → Loop, lpRec fn a.tmps ps assign body D = rec := ⟨_, rfl⟩
  obtain ⟨W1, hW1⟩ : ∃ W1, (w.alloc (.deferred (some []))).alloc (.loop (rec .ready none)) = W1 := ⟨_, rfl⟩
  have hK1 : Kept (I 0) (D + 1) D (rec .ready none) W1 := by
    subst hW1 hD
    refine ⟨hI.alloc _ (hI.alloc _ h0), ?_, (Below.heap_alloc _ _ _ (by simp)).trans (World.alloc_heap_new w _)⟩
    have := World.alloc_heap_new (w.alloc (.deferred (some []))) (.loop (rec .ready none))
    rwa [World.size_alloc] at this
  have hpar : ∀ st pe, (rec st pe).params = ps := fun _ _ => by rw [← hrec]; rfl
  refine ⟨D + 1, [{ target := .collected D, args := #[] }], W1, { target := .fn (.func 75) #[.pointer (some ⟨Bs, 0, none⟩)], args := #[.func (.yield (D + 1)) #[] #[]] }, W1, 75,
    #[.func (.yield (D + 1)) #[] #[]] ++ #[.pointer (some ⟨Bs, 0, none⟩)], W1, ?_, ?_, ?_, ?_, fun _ => by omega, ?_⟩
  · rw [← hW1, ← hrec, ← hD]; exact run_enterLoop_outer _ _ _ _ _
  · simp only [resolve, hg]
    simp [go_sem]
  · intro f' hf'
    simp [Target.leads] at hf'
    subst hf'
    exact hF
  · have eg : ∀ args w, (callFunc 75 args).run Tryz.prog w = .ok (.enter 75 args) w := enters_of Tryz.func75 (by kernel_rfl) rfl
    simp [invoke, go_sem, eg]
  have hround : ∀ (k : Nat) (v : Int) (W : World), k < N → Kept (I k) (D + 1) D (rec .ready none) W → W.cell? ⟨b, N - 1 - k, none⟩ = some (.int .i64 v) →
      YieldAt F (n - 1 - 1) Tryz.prog (D + 1) #[.int .i64 ((N - 1 - k : Nat) : Int), .int .i64 v] W fun e W' =>
        (e = .returned (.bool true) ∧ Kept (I (k + 1)) (D + 1) D (rec .ready none) W') ∨ (e = .returned (.bool false) ∧ ∃ c, Kept (Ix c) (D + 1) D (rec .done (some c)) W') := by
    intro k v W hk hW hv
    have hy := run_yield (P := Tryz.prog) (args := #[.int .i64 ((N - 1 - k : Nat) : Int), .int .i64 v]) hW.lp (by rw [hpar, hps]; rfl)
    rw [← hrec] at hy
    refine ⟨fn, _, assign, body, hy, roundIn_of_wpIn hfn (hassign _ k v W _ ⟨_, run_beginRound hW.lp (by rw [← hrec]; rfl), ?_⟩)⟩
    have hB := Kept.turn hI (r' := { rec .ready none with state := .busy }) hW (by omega) (by omega)
    have hne : ∀ o : Obj, (W.putObj (D + 1) o).cell? ⟨b, N - 1 - k, none⟩ = W.cell? ⟨b, N - 1 - k, none⟩ := fun o => by
      obtain ⟨ob, h1, h2⟩ := cells_of_cell hv
      have hbD : b ≠ D + 1 := fun e => by
        rw [show (⟨b, N - 1 - k, none⟩ : Addr).block = b from rfl, e, hW.lp] at h1
        cases h1
        cases h2
      exact World.cell?_of_block (World.putObj_heap_other hbD)
    refine wpIn_mono (hbody _ k v _ hk hB.own ((hne _).trans hv)) ?_
    have fin : ∀ (I' : World → Prop) (jump : Option Code) (W3 : World), Kept I' (D + 1) D { rec .ready none with state := .busy } W3 →
        (Instr.endRound (D + 1) jump).run Tryz.prog W3 = .ok (.bool jump.isNone) (W3.putObj (D + 1) (.loop (rec (if jump.isNone then .ready else .done) jump))) := fun I' jump W3 h3 => by
      have := run_endRound (P := Tryz.prog) jump h3.lp
      rw [← hrec] at this ⊢
      exact this
    rintro e a3 W3 hp
    cases e with
    | normal =>
      have h3 := hB.over hp.1 hp.2
      exact ⟨_, _, fin _ none W3 h3, .inl ⟨rfl, Kept.turn hI h3 (by omega) (by omega)⟩⟩
    | ret =>
      have h3 := hB.over hp.1 hp.2
      exact ⟨_, _, fin _ (some .ret) W3 h3, .inr ⟨rfl, _, Kept.turn hIx h3 (by omega) (by omega)⟩⟩
    | exit id =>
      have h3 := hB.over hp.1 hp.2
      exact ⟨_, _, fin _ (some (.exit id)) W3 h3, .inr ⟨rfl, _, Kept.turn hIx h3 (by omega) (by omega)⟩⟩
    | goto t =>
      have h3 := hB.over hp.1 hp.2
      exact ⟨_, _, fin _ (some (.goto t)) W3 h3, .inr ⟨rfl, _, Kept.turn hIx h3 (by omega) (by omega)⟩⟩
    | panic ch => exact hp.elim
    | outgrown => exact hp.elim
  refine (backI_in F (n - 1) hF hro (by omega) (D + 1) Bs b N cap A hN hA (fun k W => Kept (I k) (D + 1) D (rec .ready none) W) (fun W => ∃ c, Kept (Ix c) (D + 1) D (rec .done (some c)) W)
    (fun k W h => hIs k W h.own) (fun k W hk h => hIc k W hk h.own) hround W1 hK1).mono ?_
  rintro e W2 ⟨⟨v, rfl⟩, (h2 | ⟨c, h2⟩)⟩
  · have hend := run_endLoop (P := Tryz.prog) h2.lp (by rw [← hrec]; simp [lpRec])
    have h3 := Kept.turn hI (r' := { rec .ready none with state := .exhausted }) h2 (by omega) (by omega)
    refine ⟨none, _, ?_, hdone D _ (Nat.le_refl _) h3.own h3.dfr⟩
    rw [← hrec] at hend ⊢
    exact hend
  · have hend := run_endLoop (P := Tryz.prog) h2.lp (by rw [← hrec]; simp [lpRec])
    have h3 := Kept.turn hIx (r' := { rec .done (some c) with state := .exhausted }) h2 (by omega) (by omega)
    refine ⟨some c, _, ?_, hstop D c _ (Nat.le_refl _) h3.own h3.dfr⟩
    rw [← hrec] at hend ⊢
    exact hend
end Go.Proofs.YtdlmhgijpgnilaaGreatDoor
