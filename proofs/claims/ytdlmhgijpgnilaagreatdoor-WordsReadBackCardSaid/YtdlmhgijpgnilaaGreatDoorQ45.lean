/- A range over strings.SplitSeq at one space: the iterator, and the law for its caller. -/
import Derived.Test.YtdlmhgijpgnilaaGreatDoorQ25
import Derived.Lib.IndexLaws
import Derived.Test.YtdlmhgijpgnilaaGreatDoorQ44
import Derived.Test.YtdlmhgijpgnilaaGreatDoorQ26
import Derived.Test.YtdlmhgijpgnilaaGreatDoorQ04
set_option linter.unusedVariables false
set_option linter.unusedSimpArgs false
namespace Go.Proofs.YtdlmhgijpgnilaaGreatDoor
open Go.RowKit Go.Shelf
attribute [local go_sem] Oper.semAt_some

/-- What the iterator's own cells hold. -/
structure SpC (Be Bs Bv : Nat) (t : ByteArray) (W : World) : Prop where
  s : W.cell? ⟨Bs, 0, none⟩ = some (.string t)
  f : W.frozen? ⟨Bs, 0, none⟩ = false
  e : W.cell? ⟨Be, 0, none⟩ = some (.string ⟨#[32]⟩)
  v : W.cell? ⟨Bv, 0, none⟩ = some (.int .i64 0)
  z : t.size ≤ 1000000
def leftS (W : World) (Bs : Nat) : Nat := match W.cell? ⟨Bs, 0, none⟩ with
  | some (.string t) => t.size
  | _ => 0
theorem leftS_of {W : World} {Bs : Nat} {t : ByteArray} (h : W.cell? ⟨Bs, 0, none⟩ = some (.string t)) : leftS W Bs = t.size := by unfold leftS; rw [h]
set_option maxRecDepth 100000 in
set_option maxHeartbeats 4000000 in
/-- The iterator. -/
theorem splitI_in (m l Be Bs Bv : Nat) (J : ByteArray → World → Prop) (Jd Jx : World → Prop) (hm : 1 ≤ m)
    (hJs : ∀ t W, J t W → SpC Be Bs Bv t W)
    (hY : ∀ (t : ByteArray) (k : Nat) W, J t W → Lib.indexByte t.data.toList 32 = (k : Int) → k < t.size → YieldAt Fence.wide (m - 1) Tryz.prog l #[.string (t.extract 0 k)] W fun e W' =>
      (e = .returned (.bool true) ∧ SpC Be Bs Bv t W' ∧ J (t.extract (k + 1) t.size) (W'.setCell ⟨Bs, 0, none⟩ (.string (t.extract (k + 1) t.size)))) ∨ (e = .returned (.bool false) ∧ Jx W'))
    (hZ : ∀ (t : ByteArray) W, J t W → Lib.indexByte t.data.toList 32 = -1 → YieldAt Fence.wide (m - 1) Tryz.prog l #[.string t] W fun e W' =>
      (e = .returned (.bool true) ∧ Jd W') ∨ (e = .returned (.bool false) ∧ Jx W'))
    (W : World) (t0 : ByteArray) (h0 : J t0 W) :
    CallsIn Fence.wide m Tryz.prog 119 #[.func (.yield l) #[] #[], .pointer (some ⟨Be, 0, none⟩), .pointer (some ⟨Bs, 0, none⟩), .pointer (some ⟨Bv, 0, none⟩)] W fun e W' => (∃ v, e = .returned v) ∧ (Jd W' ∨ Jx W') := by
  refine callsIn_of_wp Tryz.func119 rfl trivial ?_ rfl
  simp only [Tryz.ntmps119, List.size_toArray, List.length_cons, List.length_nil, Nat.reduceAdd, Nat.reduceSub, Array.replicate_succ, Array.replicate_zero, List.push_toArray, List.append_toArray, List.nil_append, List.cons_append]
  obtain ⟨k1, k2, k3, k4, k5⟩ := hJs t0 W h0
  gi_wp2
  gi_loopw [7, 8] (fun _ _ wr => ∃ t, J t wr) (fun _ _ wr => leftS wr Bs)
  case atStart => exact ⟨t0, h0⟩
  case round =>
    obtain ⟨t, ht⟩ := hrel
    obtain ⟨c1, c2, c3, c4, c5⟩ := hJs t wr ht
    have hl1 := leftS_of c1
    obtain ⟨i, hi⟩ : ∃ i, Lib.indexByte t.data.toList 32 = i := ⟨_, rfl⟩
    have HI := Lib.hid hi
    have HT := Lib.hid ht
    clear k1 k2 k3 k4 k5 ht
    by_cases hneg : i < 0
    · obtain rfl : i = -1 := by have := Lib.indexByte_ge t.data.toList 32; omega
      obtain ⟨fn, tmps, assign, body, hy, hR⟩ := hZ t wr HT.out HI.out
      clear hi hneg
      gi_wp2_with fail
      refine ⟨trivial, (callsIn_wide.2 (index_space t wr c5)).mono ?_⟩
      rintro e w1 ⟨rfl, rfl⟩
      rw [HI.out]
      gi_wp2
      refine hR.mono ?_
      rintro e W3 (⟨rfl, hJ3⟩ | ⟨rfl, hJ3⟩)
      · gi_wp2
        go_end0
        exact ⟨⟨_, rfl⟩, .inl hJ3⟩
      · gi_wp2
        go_end0
        exact ⟨⟨_, rfl⟩, .inr hJ3⟩
    · obtain ⟨k, rfl⟩ : ∃ k : Nat, i = (k : Int) := ⟨i.toNat, by omega⟩
      have hkt : k < t.size := by
        have := (Lib.indexByte_some hi).1
        have h2 := List.getElem?_eq_some_iff.1 this
        have := h2.1
        simpa using this
      obtain ⟨fn, tmps, assign, body, hy, hR⟩ := hY t k wr HT.out HI.out hkt
      clear hi hneg
      gi_wp2_with fail
      refine ⟨trivial, (callsIn_wide.2 (index_space t wr c5)).mono ?_⟩
      rintro e w1 ⟨rfl, rfl⟩
      rw [HI.out]
      gi_wp2
      refine hR.mono ?_
      rintro e W3 (⟨rfl, hS3, hJ3⟩ | ⟨rfl, hJ3⟩)
      · obtain ⟨d1, d2, d3, d4, _⟩ := hS3
        have HJ3 := Lib.hid hJ3
        have hw1 : IntKind.i64.wrap ((k : Int) + 1) = (k : Int) + 1 := IntWalk.i64_in _ (by omega)
        have hl3 : leftS (W3.setCell ⟨Bs, 0, none⟩ (.string (t.extract (k + 1) t.size))) Bs < t.size := by
          rw [leftS_of (hJs _ _ HJ3.out).s, ByteArray.size_extract]
          omega
        have HL3 := Lib.hid hl3
        clear hJ3 hl3 c1 c2 c3 c4
        gi_wp2
        go_roundw
        case rel => exact ⟨_, HJ3.out⟩
        case measure => rw [hl1]; exact HL3.out
      · gi_wp2
        refine bodyPost_ret (results_none rfl _ _ _) rfl ?_
        exact ⟨⟨_, rfl⟩, .inr hJ3⟩
end Go.Proofs.YtdlmhgijpgnilaaGreatDoor

namespace Go.Proofs.YtdlmhgijpgnilaaGreatDoor
open Go.RowKit Go.Shelf
attribute [local go_sem] Oper.semAt_some

set_option maxHeartbeats 2000000 in
theorem wpIn_split {n : Nat} {g : Operand} {ps : Array Tmp} {assign body : Code} {Q : Exit → Act → World → Prop} {a : Act} {w : World}
    (h1 : 2 ≤ n) (Be Bs Bv : Nat)
    (hg : a.eval g = .func (.func 119) #[] #[.pointer (some ⟨Be, 0, none⟩), .pointer (some ⟨Bs, 0, none⟩), .pointer (some ⟨Bv, 0, none⟩)]) (hps : ps.size = 1)
    (I : ByteArray → World → Prop) (M : ByteArray × Nat → World → Prop) (Id : Unit → World → Prop) (Ix : Code → World → Prop)
    (hI : OwnFrom w.heap.size I) (hM : OwnFrom w.heap.size M) (hId : OwnFrom w.heap.size Id) (hIx : OwnFrom w.heap.size Ix)
    (hIs : ∀ t W, I t W → SpC Be Bs Bv t W)
    (hMs : ∀ t k W, M (t, k) W → SpC Be Bs Bv t W ∧ I (t.extract (k + 1) t.size) (W.setCell ⟨Bs, 0, none⟩ (.string (t.extract (k + 1) t.size))))
    (t0 : ByteArray) (h0 : I t0 w) (a₁ : ByteArray → Act)
    (hassign : ∀ (l : Nat) (x : ByteArray) (W : World) (K : Act → World → Prop), K (a₁ x) W →
      assign.wpIn (Fence.wide.inRound l) (n - 1 - 1) Tryz.prog (Exit.then K (fun _ _ _ => False)) { tmps := (ps.zip #[.string x]).foldl (fun t (p, v) => t.setIfInBounds p v) a.tmps, defers := [] } W)
    (hbody : ∀ (l : Nat) (t : ByteArray) (k : Nat) (W : World), I t W → Lib.indexByte t.data.toList 32 = (k : Int) → k < t.size → body.wpIn (Fence.wide.inRound l) (n - 1 - 1) Tryz.prog (roundP (M (t, k)) Ix W) (a₁ (t.extract 0 k)) W)
    (hlast : ∀ (l : Nat) (t : ByteArray) (W : World), I t W → Lib.indexByte t.data.toList 32 = -1 → body.wpIn (Fence.wide.inRound l) (n - 1 - 1) Tryz.prog (roundP (Id ()) Ix W) (a₁ t) W)
    (hdone : ∀ (D : Nat) (W : World), w.heap.size ≤ D → Id () W → W.heap[D]? = some (.deferred (some [])) → Q .normal { a with defers := { target := .collected D, args := #[] } :: a.defers } W)
    (hstop : ∀ (D : Nat) (c : Code) (W : World), w.heap.size ≤ D → Ix c W → W.heap[D]? = some (.deferred (some [])) → c.wpIn Fence.wide n Tryz.prog Q { a with defers := { target := .collected D, args := #[] } :: a.defers } W) :
    (Code.rangeFunc g ps assign body).wpIn Fence.wide n Tryz.prog Q a w := by
  refine wpIn_rangeFunc fun fn hfn => ?_
  have hro : Fence.wide.round = none := rfl
  rw [hro]
  obtain ⟨D, hD⟩ : ∃ D, w.heap.size = D := ⟨_, rfl⟩
  rw [hD] at hI hM hId hIx hdone hstop
  obtain ⟨rec, hrec⟩ : ∃ rec : LoopState → Option Code → Loop, lpRec fn a.tmps ps assign body D = rec := ⟨_, rfl⟩
  obtain ⟨W1, hW1⟩ : ∃ W1, (w.alloc (.deferred (some []))).alloc (.loop (rec .ready none)) = W1 := ⟨_, rfl⟩
  have hK1 : Kept (I t0) (D + 1) D (rec .ready none) W1 := by
    subst hW1 hD
    refine ⟨hI.alloc _ (hI.alloc _ h0), ?_, (Below.heap_alloc _ _ _ (by simp)).trans (World.alloc_heap_new w _)⟩
    have := World.alloc_heap_new (w.alloc (.deferred (some []))) (.loop (rec .ready none))
    rwa [World.size_alloc] at this
  have hpar : ∀ st pe, (rec st pe).params = ps := fun _ _ => by rw [← hrec]; rfl
  refine ⟨D + 1, [{ target := .collected D, args := #[] }], W1, { target := .fn (.func 119) #[.pointer (some ⟨Be, 0, none⟩), .pointer (some ⟨Bs, 0, none⟩), .pointer (some ⟨Bv, 0, none⟩)], args := #[.func (.yield (D + 1)) #[] #[]] }, W1, 119,
    #[.func (.yield (D + 1)) #[] #[]] ++ #[.pointer (some ⟨Be, 0, none⟩), .pointer (some ⟨Bs, 0, none⟩), .pointer (some ⟨Bv, 0, none⟩)], W1, ?_, ?_, ?_, ?_, fun _ => by omega, ?_⟩
  · rw [← hW1, ← hrec, ← hD]; exact run_enterLoop_outer _ _ _ _ _
  · simp only [resolve, hg]
    simp [go_sem]
  · intro f' hf'
    trivial
  · have eg : ∀ args w, (callFunc 119 args).run Tryz.prog w = .ok (.enter 119 args) w := enters_of Tryz.func119 (by kernel_rfl) rfl
    simp [invoke, go_sem, eg]
  have hround : ∀ {β : Type} (H : β → World → Prop) (hH : OwnFrom D H) (b : β) (x : ByteArray) (W : World) (I0 : World → Prop), Kept I0 (D + 1) D (rec .ready none) W →
      (∀ W, I0 W → body.wpIn (Fence.wide.inRound (D + 1)) (n - 1 - 1) Tryz.prog (roundP (H b) Ix W) (a₁ x) W) → Kept I0 (D + 1) D { rec .ready none with state := .busy } (W.putObj (D + 1) (.loop { rec .ready none with state := .busy })) →
      YieldAt Fence.wide (n - 1 - 1) Tryz.prog (D + 1) #[.string x] W fun e W' =>
        (e = .returned (.bool true) ∧ Kept (H b) (D + 1) D (rec .ready none) W') ∨ (e = .returned (.bool false) ∧ ∃ c, Kept (Ix c) (D + 1) D (rec .done (some c)) W') := by
    intro β H hH b x W I0 hW hb hB
    have hy := run_yield (P := Tryz.prog) (args := #[.string x]) hW.lp (by rw [hpar, hps]; rfl)
    rw [← hrec] at hy
    refine ⟨fn, _, assign, body, hy, roundIn_of_wpIn hfn (hassign _ x W _ ⟨_, run_beginRound hW.lp (by rw [← hrec]; rfl), ?_⟩)⟩
    refine wpIn_mono (hb _ hB.own) ?_
    have fin : ∀ (I' : World → Prop) (jump : Option Code) (W3 : World), Kept I' (D + 1) D { rec .ready none with state := .busy } W3 →
        (Instr.endRound (D + 1) jump).run Tryz.prog W3 = .ok (.bool jump.isNone) (W3.putObj (D + 1) (.loop (rec (if jump.isNone then .ready else .done) jump))) := fun I' jump W3 h3 => by
      have := run_endRound (P := Tryz.prog) jump h3.lp
      rw [← hrec] at this ⊢
      exact this
    rintro e a3 W3 hp
    cases e with
    | normal =>
      have h3 := hB.over hp.1 hp.2
      exact ⟨_, _, fin _ none W3 h3, .inl ⟨rfl, Kept.turn hH h3 (by omega) (by omega)⟩⟩
    | ret =>
      have h3 := hB.over hp.1 hp.2
      exact ⟨_, _, fin _ (some .ret) W3 h3, .inr ⟨rfl, _, Kept.turn hIx h3 (by omega) (by omega)⟩⟩
    | exit id =>
      have h3 := hB.over hp.1 hp.2
      exact ⟨_, _, fin _ (some (.exit id)) W3 h3, .inr ⟨rfl, _, Kept.turn hIx h3 (by omega) (by omega)⟩⟩
    | goto t =>
      have h3 := hB.over hp.1 hp.2
      exact ⟨_, _, fin _ (some (.goto t)) W3 h3, .inr ⟨rfl, _, Kept.turn hIx h3 (by omega) (by omega)⟩⟩
    | panic ch => exact hp.elim
    | outgrown => exact hp.elim
  refine (splitI_in (n - 1) (D + 1) Be Bs Bv (fun t W => Kept (I t) (D + 1) D (rec .ready none) W) (fun W => Kept (Id ()) (D + 1) D (rec .ready none) W) (fun W => ∃ c, Kept (Ix c) (D + 1) D (rec .done (some c)) W) (by omega)
    (fun t W h => hIs t W h.own) (fun t k W h hi hk => ?_) (fun t W h hi => hround Id hId () t W (I t) h (fun W' h' => hlast _ t W' h' hi) (Kept.turn hI h (by omega) (by omega))) W1 t0 hK1).mono ?_
  · obtain ⟨fn', tmps, as', bd', hy, hR⟩ := hround M hM (t, k) (t.extract 0 k) W (I t) h (fun W' h' => hbody _ t k W' h' hi hk) (Kept.turn hI h (by omega) (by omega))
    refine ⟨fn', tmps, as', bd', hy, hR.mono ?_⟩
    rintro e W' (⟨rfl, h3⟩ | ⟨rfl, h3⟩)
    · have h4 := hMs t k W' h3.own
      exact .inl ⟨rfl, h4.1, h3.over (KeepsOthers.setCell ..) h4.2⟩
    · exact .inr ⟨rfl, h3⟩
  rintro e W2 ⟨⟨v, rfl⟩, (h2 | ⟨c, h2⟩)⟩
  · have hend := run_endLoop (P := Tryz.prog) h2.lp (by rw [← hrec]; simp [lpRec])
    have h3 := Kept.turn hId (r' := { rec .ready none with state := .exhausted }) h2 (by omega) (by omega)
    refine ⟨none, _, ?_, hdone D _ (Nat.le_refl _) h3.own h3.dfr⟩
    rw [← hrec] at hend ⊢
    exact hend
  · have hend := run_endLoop (P := Tryz.prog) h2.lp (by rw [← hrec]; simp [lpRec])
    have h3 := Kept.turn hIx (r' := { rec .done (some c) with state := .exhausted }) h2 (by omega) (by omega)
    refine ⟨some c, _, ?_, hstop D c _ (Nat.le_refl _) h3.own h3.dfr⟩
    rw [← hrec] at hend ⊢
    exact hend
end Go.Proofs.YtdlmhgijpgnilaaGreatDoor

namespace Go.Proofs.YtdlmhgijpgnilaaGreatDoor
open Go.RowKit Go.Shelf

structure PsB (B2 B4 B5 B6 Bs Be Bv : Nat) (tv rv v : Value) (ev : Int) (t : ByteArray) (W : World) : Prop where
  o : B2 < B4 ∧ B4 < B5 ∧ B5 < B6 ∧ B6 < Bs ∧ Bs < Be ∧ Be < Bv
  tb : Cs W B2 [tv] 37
  rb : Cs W B4 [rv] 22
  eb : Cs W B5 [.int .i64 ev] 29
  wb : Cs W B6 [v] 22
  sb : Cs W Bs [.string t] 9
  pb : Cs W Be [.string ⟨#[32]⟩] 9
  vb : Cs W Bv [.int .i64 0] 3
variable {B2 B4 B5 B6 Bs Be Bv : Nat} {tv rv v : Value} {ev : Int} {t : ByteArray} {W W' : World}
theorem PsB.keep (h : PsB B2 B4 B5 B6 Bs Be Bv tv rv v ev t W) (hk : ∀ g l e, Cs W g l e → Cs W' g l e) : PsB B2 B4 B5 B6 Bs Be Bv tv rv v ev t W' :=
  ⟨h.o, hk _ _ _ h.tb, hk _ _ _ h.rb, hk _ _ _ h.eb, hk _ _ _ h.wb, hk _ _ _ h.sb, hk _ _ _ h.pb, hk _ _ _ h.vb⟩
theorem PsB.setS (h : PsB B2 B4 B5 B6 Bs Be Bv tv rv v ev t W) (t' : ByteArray) : PsB B2 B4 B5 B6 Bs Be Bv tv rv v ev t' (W.setCell ⟨Bs, 0, none⟩ (.string t')) :=
  ⟨h.o, h.tb.far (p := ⟨Bs, 0, none⟩) (by have := h.o; intro e; have e2 : B2 = Bs := e; omega) (.string t'), h.rb.far (p := ⟨Bs, 0, none⟩) (by have := h.o; intro e; have e2 : B4 = Bs := e; omega) (.string t'), h.eb.far (p := ⟨Bs, 0, none⟩) (by have := h.o; intro e; have e2 : B5 = Bs := e; omega) (.string t'), h.wb.far (p := ⟨Bs, 0, none⟩) (by have := h.o; intro e; have e2 : B6 = Bs := e; omega) (.string t'), h.sb.set 0 (.string t'), h.pb.far (p := ⟨Bs, 0, none⟩) (by have := h.o; intro e; have e2 : Be = Bs := e; omega) (.string t'), h.vb.far (p := ⟨Bs, 0, none⟩) (by have := h.o; intro e; have e2 : Bv = Bs := e; omega) (.string t')⟩
theorem PsB.setW (h : PsB B2 B4 B5 B6 Bs Be Bv tv rv v ev t W) (v' : Value) : PsB B2 B4 B5 B6 Bs Be Bv tv rv v' ev t (W.setCell ⟨B6, 0, none⟩ (v')) :=
  ⟨h.o, h.tb.far (p := ⟨B6, 0, none⟩) (by have := h.o; intro e; have e2 : B2 = B6 := e; omega) (v'), h.rb.far (p := ⟨B6, 0, none⟩) (by have := h.o; intro e; have e2 : B4 = B6 := e; omega) (v'), h.eb.far (p := ⟨B6, 0, none⟩) (by have := h.o; intro e; have e2 : B5 = B6 := e; omega) (v'), h.wb.set 0 (v'), h.sb.far (p := ⟨B6, 0, none⟩) (by have := h.o; intro e; have e2 : Bs = B6 := e; omega) (v'), h.pb.far (p := ⟨B6, 0, none⟩) (by have := h.o; intro e; have e2 : Be = B6 := e; omega) (v'), h.vb.far (p := ⟨B6, 0, none⟩) (by have := h.o; intro e; have e2 : Bv = B6 := e; omega) (v')⟩
theorem PsB.setR (h : PsB B2 B4 B5 B6 Bs Be Bv tv rv v ev t W) (r' : Value) : PsB B2 B4 B5 B6 Bs Be Bv tv r' v ev t (W.setCell ⟨B4, 0, none⟩ (r')) :=
  ⟨h.o, h.tb.far (p := ⟨B4, 0, none⟩) (by have := h.o; intro e; have e2 : B2 = B4 := e; omega) (r'), h.rb.set 0 (r'), h.eb.far (p := ⟨B4, 0, none⟩) (by have := h.o; intro e; have e2 : B5 = B4 := e; omega) (r'), h.wb.far (p := ⟨B4, 0, none⟩) (by have := h.o; intro e; have e2 : B6 = B4 := e; omega) (r'), h.sb.far (p := ⟨B4, 0, none⟩) (by have := h.o; intro e; have e2 : Bs = B4 := e; omega) (r'), h.pb.far (p := ⟨B4, 0, none⟩) (by have := h.o; intro e; have e2 : Be = B4 := e; omega) (r'), h.vb.far (p := ⟨B4, 0, none⟩) (by have := h.o; intro e; have e2 : Bv = B4 := e; omega) (r')⟩
theorem PsB.setE (h : PsB B2 B4 B5 B6 Bs Be Bv tv rv v ev t W) (x : Int) : PsB B2 B4 B5 B6 Bs Be Bv tv rv v x t (W.setCell ⟨B5, 0, none⟩ (.int .i64 x)) :=
  ⟨h.o, h.tb.far (p := ⟨B5, 0, none⟩) (by have := h.o; intro e; have e2 : B2 = B5 := e; omega) (.int .i64 x), h.rb.far (p := ⟨B5, 0, none⟩) (by have := h.o; intro e; have e2 : B4 = B5 := e; omega) (.int .i64 x), h.eb.set 0 (.int .i64 x), h.wb.far (p := ⟨B5, 0, none⟩) (by have := h.o; intro e; have e2 : B6 = B5 := e; omega) (.int .i64 x), h.sb.far (p := ⟨B5, 0, none⟩) (by have := h.o; intro e; have e2 : Bs = B5 := e; omega) (.int .i64 x), h.pb.far (p := ⟨B5, 0, none⟩) (by have := h.o; intro e; have e2 : Be = B5 := e; omega) (.int .i64 x), h.vb.far (p := ⟨B5, 0, none⟩) (by have := h.o; intro e; have e2 : Bv = B5 := e; omega) (.int .i64 x)⟩
theorem PsB.grown {B n : Nat} {xs : List Value} {z : Value} (h : PsB B2 B4 B5 B6 Bs Be Bv tv rv v ev t W) (ho : W.ownsRow B 3 1 z n xs) (hg : W.grownBy W' z.ownBlock) (hne : z.ownBlock ≠ some Bv) : PsB B2 B4 B5 B6 Bs Be Bv tv rv v ev t W' :=
  ⟨h.o, cs_grown h.tb ho hg (by decide), cs_grown h.rb ho hg (by decide), cs_grown h.eb ho hg (by decide), cs_grown h.wb ho hg (by decide), cs_grown h.sb ho hg (by decide), cs_grown h.pb ho hg (by decide), (hg.block Bv h.vb.lt (fun e => hne e.symm)).trans h.vb⟩
theorem PsB.spc (h : PsB B2 B4 B5 B6 Bs Be Bv tv rv v ev t W) (hz : t.size ≤ 1000000) : SpC Be Bs Bv t W := ⟨h.sb.cell rfl, h.sb.frozen 0, h.pb.cell rfl, h.vb.cell rfl, hz⟩

/-- The numbers of names. -/
def sI (l : List ByteArray) (ps : List (List UInt8)) : List Int := (symsOf l ps).map fun (n : Nat) => (n : Int)
theorem sI_snoc (l : List ByteArray) (ps : List (List UInt8)) (p : List UInt8) : sI l (ps ++ [p]) = sI l ps ++ [((fnd l ⟨p.toArray⟩ : Nat) : Int)] := by
  unfold sI symsOf
  simp
theorem sI_length (l : List ByteArray) (ps : List (List UInt8)) : (sI l ps).length = ps.length := by unfold sI symsOf; simp
structure PsJ (w0 : World) (B2 B4 B5 B6 Bs Be Bv : Nat) (tv : Value) (l : List ByteArray) (s t : ByteArray) (r : List UInt8) (v : Value) (ps : List (List UInt8)) (W : World) : Prop where
  bx : PsB B2 B4 B5 B6 Bs Be Bv tv (.slice none 0 0) v 0 t W
  own : OwnI W w0.heap.size v (sI l ps)
  ne : v.ownBlock ≠ some Bv
  below : Below w0.heap.size w0 W
  lo : w0.heap.size ≤ B2
  fl : flds s.data.toList = ps ++ flds r
  ok : 0 ∉ symsOf l ps
  z : t.size ≤ 16384
def PsX (w0 : World) (B2 B4 B5 B6 Bs Be Bv : Nat) (tv : Value) (l : List ByteArray) (s t : ByteArray) (r : List UInt8) (W : World) : Prop := ∃ v ps, PsJ w0 B2 B4 B5 B6 Bs Be Bv tv l s t r v ps W
/-- Where a part was no name. -/
structure PsR (w0 : World) (B4 B5 : Nat) (l : List ByteArray) (s : ByteArray) (W : World) : Prop where
  rb : Cs W B4 [.slice none 0 0] 22
  eb : Cs W B5 [.int .i64 3] 29
  below : Below w0.heap.size w0 W
  bad : 0 ∈ symsOf l (flds s.data.toList)
variable {w0 : World} {l : List ByteArray} {s : ByteArray} {r : List UInt8} {ps : List (List UInt8)}
theorem PsJ.round {B : Nat} {row : Option Nat} (h : PsJ w0 B2 B4 B5 B6 Bs Be Bv tv l s t r v ps W) (hB : w0.heap.size ≤ B) (hg : W.grownBy W' row) (hr : ∀ r, row = some r → B ≤ r ∧ ∃ o : Obj, W.heap[r]? = some o ∧ o.isCells = false) : PsJ w0 B2 B4 B5 B6 Bs Be Bv tv l s t r v ps W' :=
  ⟨h.bx.keep (fun _ _ _ hc => cs_round hc hg hr), own_round h.own hg hr, h.ne, below_round h.below hg hB h.below.size hr, h.lo, h.fl, h.ok, h.z⟩
theorem psI_from (w0 : World) (B2 B4 B5 B6 Bs Be Bv : Nat) (tv : Value) (l : List ByteArray) (s : ByteArray) (B : Nat) (hB : w0.heap.size ≤ B) : OwnFrom B (fun (t : ByteArray) W => PsX w0 B2 B4 B5 B6 Bs Be Bv tv l s t t.data.toList W) := fun t W W' row h hg hr => by
  obtain ⟨v, ps, h⟩ := h
  exact ⟨v, ps, h.round hB hg hr⟩
theorem psM_from (w0 : World) (B2 B4 B5 B6 Bs Be Bv : Nat) (tv : Value) (l : List ByteArray) (s : ByteArray) (B : Nat) (hB : w0.heap.size ≤ B) : OwnFrom B (fun (t : ByteArray × Nat) W => PsX w0 B2 B4 B5 B6 Bs Be Bv tv l s t.1 (t.1.extract (t.2 + 1) t.1.size).data.toList W) := fun t W W' row h hg hr => by
  obtain ⟨v, ps, h⟩ := h
  exact ⟨v, ps, h.round hB hg hr⟩
theorem psD_from (w0 : World) (B2 B4 B5 B6 Bs Be Bv : Nat) (tv : Value) (l : List ByteArray) (s : ByteArray) (B : Nat) (hB : w0.heap.size ≤ B) : OwnFrom B (fun (_ : Unit) W => ∃ t, PsX w0 B2 B4 B5 B6 Bs Be Bv tv l s t [] W) := fun _ W W' row h hg hr => by
  obtain ⟨t, v, ps, h⟩ := h
  exact ⟨t, v, ps, h.round hB hg hr⟩
theorem psR_from (w0 : World) (B4 B5 : Nat) (l : List ByteArray) (s : ByteArray) (B : Nat) (hB : w0.heap.size ≤ B) : OwnFrom B (fun (c : Code) W => c = .ret ∧ PsR w0 B4 B5 l s W) := fun _ W W' row h hg hr =>
  ⟨h.1, cs_round h.2.rb hg hr, cs_round h.2.eb hg hr, below_round h.2.below hg hB h.2.below.size hr, h.2.bad⟩
theorem bytesTake (t : ByteArray) (k : Nat) : (t.extract 0 k).data.toList = t.data.toList.take k := by
  rw [Lib.extract_eq]; simp
theorem bytesDrop (t : ByteArray) (k : Nat) : (t.extract k t.size).data.toList = t.data.toList.drop k := by
  rw [Lib.extract_eq]
  show (t.data.toList.drop k).take (t.size - k) = _
  rw [List.take_of_length_le]
  rw [List.length_drop]
  exact Nat.le_of_eq rfl
/-- A text at its first space. -/
theorem cut_at {t : ByteArray} {k : Nat} (h : Lib.indexByte t.data.toList 32 = (k : Int)) : t.data.toList = (t.extract 0 k).data.toList ++ 32 :: (t.extract (k + 1) t.size).data.toList ∧ ∀ c ∈ (t.extract 0 k).data.toList, c ≠ 32 := by
  obtain ⟨h1, h2⟩ := Lib.indexByte_some h
  rw [bytesTake, bytesDrop]
  obtain ⟨h3, h4⟩ := List.getElem?_eq_some_iff.1 h1
  constructor
  · rw [← h4, ← List.drop_eq_getElem_cons h3, List.take_append_drop]
  · intro c hc e
    obtain ⟨j, hj, hj2⟩ := List.mem_take_iff_getElem.1 hc
    exact h2 j (by omega) (by rw [List.getElem?_eq_getElem (by omega), hj2, e])
theorem PsX.next {k : Nat} (h : PsX w0 B2 B4 B5 B6 Bs Be Bv tv l s t (t.extract (k + 1) t.size).data.toList W) : SpC Be Bs Bv t W ∧ PsX w0 B2 B4 B5 B6 Bs Be Bv tv l s (t.extract (k + 1) t.size) (t.extract (k + 1) t.size).data.toList (W.setCell ⟨Bs, 0, none⟩ (.string (t.extract (k + 1) t.size))) := by
  obtain ⟨v, ps, h⟩ := h
  have ho := h.bx.o
  have hl := h.lo
  refine ⟨h.bx.spc (by have := h.z; omega), v, ps, h.bx.setS _, h.own.set (own_ne2 h.own h.bx.sb (by decide)) _, h.ne, h.below.setCell (p := ⟨Bs, 0, none⟩) (by show w0.heap.size ≤ Bs; omega) _, h.lo, h.fl, h.ok, ?_⟩
  have := h.z
  rw [ByteArray.size_extract]
  omega
end Go.Proofs.YtdlmhgijpgnilaaGreatDoor

namespace Go.Proofs.YtdlmhgijpgnilaaGreatDoor
open Go.RowKit Go.Shelf
attribute [local go_sem] Oper.semAt_some

theorem splitSeq_in (t : ByteArray) (w : World) : Calls Tryz.prog 90 #[.string t, .string ⟨#[32]⟩, .int .i64 0] w fun e w' => e = .returned (.func (.func 119) #[] #[.pointer (some ⟨w.heap.size + 1, 0, none⟩), .pointer (some ⟨w.heap.size, 0, none⟩), .pointer (some ⟨w.heap.size + 1 + 1, 0, none⟩)]) ∧
    w' = ((w.alloc (.cells #[.string t] 9)).alloc (.cells #[.string ⟨#[32]⟩] 9)).alloc (.cells #[.int .i64 0] 3) := by
  go_enter Tryz.func90, Tryz.ntmps90
  go_wp2
  go_ret
  exact ⟨rfl, rfl⟩
theorem splitSeq_any (t : ByteArray) (w : World) : Calls Tryz.prog 50 #[.string t, .string ⟨#[32]⟩] w fun e w' => e = .returned (.func (.func 119) #[] #[.pointer (some ⟨w.heap.size + 1, 0, none⟩), .pointer (some ⟨w.heap.size, 0, none⟩), .pointer (some ⟨w.heap.size + 1 + 1, 0, none⟩)]) ∧
    w' = ((w.alloc (.cells #[.string t] 9)).alloc (.cells #[.string ⟨#[32]⟩] 9)).alloc (.cells #[.int .i64 0] 3) := by
  go_enter Tryz.func50, Tryz.ntmps50
  go_wp2_with fail
  refine (splitSeq_in t _).mono ?_
  rintro e w' ⟨rfl, rfl⟩
  go_wp2_with fail
  go_ret
  exact ⟨rfl, rfl⟩
def castI (l : List Nat) : List Int := l.map fun (n : Nat) => (n : Int)
theorem others_alloc6 (W : World) (o : Obj) : KeepsOthers W (W.alloc o) :=
  have h : Below W.heap.size W (W.alloc o) := (Below.refl _ W).alloc (Nat.le_refl _) o
  ⟨h.size, fun k o hk _ => (h.block k (heap_lt hk)).trans hk⟩
theorem others_grown {W W' : World} {B n : Nat} {e : TypeId} {v : Value} {xs : List Value} (ho : W.ownsRow B e 1 v n xs) (hg : W.grownBy W' v.ownBlock) : KeepsOthers W W' :=
  ⟨hg.size, fun k o hk hc => (hg.block k (heap_lt hk) (fun he => by
    obtain ⟨_, _, cur, hcur⟩ := own_new ho k he.symm
    rw [hk] at hcur
    cases hcur
    cases hc)).trans hk⟩
theorem wpListIn_appV {F : Fence} {n : Nat} {w : World} {ops : Array Oper} {rest : List Oper} {o : Oper} {a : Act} {Q : Exit → Act → World → Prop} (hgd : o.guard = none) (s x : Operand) (t e : TypeId)
    (ho : o.op = .call { callee := .builtin .append, args := #[s, x], argTypes := #[t, t] }) (hty : o.type = t) (z : Value) (bytes : Nat) (hu : Tryz.prog.underlying t = some (.slice e)) (hinfo : (Tryz.prog.info? e).map (fun i => (i.zero, i.size, i.bytes)) = some (some z, 1, bytes)) (hz1 : z.cells.size = 1) (hby : bytes ≤ 16)
    (B : Nat) (v : Value) (xs : List Value) (hs : a.eval s = v) (hown : w.ownsRow B e 1 v xs.length xs) (A : Option Addr) (m c : Nat) (ys : List Value) (hx : a.eval x = .slice A m c) (hr : Rd w ys A m c) (h1 : ∀ u ∈ ys, u.oneCell' = true) (hsum : xs.length + m ≤ 1099511627776) (hB : B ≤ w.heap.size)
    (h : ∀ v' w', w'.ownsRow B e 1 v' (xs ++ ys).length (xs ++ ys) → w.grownBy w' v.ownBlock → (v'.ownBlock = v.ownBlock ∨ v'.ownBlock = some w.heap.size) → wpListIn F n Tryz.prog ops Q rest (a.put o.dst v') w') : wpListIn F n Tryz.prog ops Q (o :: rest) a w := by
  refine wpListIn_plain hgd fun K hK => ?_
  obtain ⟨v', w', hrun, h2, h3, h4⟩ := run_appV w t e z bytes hu hinfo hz1 hby B v xs hown A m c ys hr h1 hsum hB
  unfold Oper.wpIn
  refine ⟨?_, ?_⟩
  · simp [Oper.about, ho, resolve, Target.leads, Sem.run_pure]
  · rw [Oper.semAt_plain F _ _ (by rw [ho]; intro c hc'; cases hc')]
    simp [execOp, ho, hty, resolve, invoke, builtin, hs, hx, hrun, Result.andThen]
    exact hK _ _ (h v' w' h2 h3 h4)
theorem psJ_length {w0 : World} {B2 B4 B5 B6 Bs Be Bv : Nat} {tv v : Value} {l : List ByteArray} {s t : ByteArray} {r : List UInt8} {ps : List (List UInt8)} {W : World} (h : PsJ w0 B2 B4 B5 B6 Bs Be Bv tv l s t r v ps W) : ps.length ≤ s.size := by
  have := congrArg List.length h.fl
  rw [List.length_append] at this
  have h2 := flds_length s.data.toList
  have h3 : s.data.toList.length = s.size := by rw [Array.length_toList]; rfl
  omega
/-- A part that is no name. -/
theorem PsJ.bad {w0 : World} {B2 B4 B5 B6 Bs Be Bv : Nat} {tv v : Value} {l : List ByteArray} {s t p : ByteArray} {r r' : List UInt8} {ps : List (List UInt8)} {W : World} (h : PsJ w0 B2 B4 B5 B6 Bs Be Bv tv l s t r v ps W) (hf : flds r = [p.data.toList] ++ flds r') (h0 : fnd l p = 0) :
    PsR w0 B4 B5 l s ((W.setCell ⟨B4, 0, none⟩ (.slice none 0 0)).setCell ⟨B5, 0, none⟩ (.int .i64 3)) := by
  have ho := h.bx.o
  have hl := h.lo
  have h2 := (h.bx.setR (.slice none 0 0)).setE 3
  refine ⟨h2.rb, h2.eb, (h.below.setCell (p := ⟨B4, 0, none⟩) (by show w0.heap.size ≤ B4; omega) _).setCell (p := ⟨B5, 0, none⟩) (by show w0.heap.size ≤ B5; omega) _, ?_⟩
  rw [h.fl, hf]
  unfold symsOf
  rw [List.map_append, List.map_append, List.mem_append, List.mem_append]
  refine .inr (.inl ?_)
  have : fnd l ⟨p.data.toList.toArray⟩ = 0 := h0
  simp [this]
/-- A part that is a name. -/
theorem PsJ.good {w0 : World} {B2 B4 B5 B6 Bs Be Bv : Nat} {tv v v' : Value} {l : List ByteArray} {s t p : ByteArray} {r r' : List UInt8} {ps : List (List UInt8)} {W W3 : World} {o : Obj} (h : PsJ w0 B2 B4 B5 B6 Bs Be Bv tv l s t r v ps W) (hf : flds r = [p.data.toList] ++ flds r') {m : Nat} (h0 : fnd l p = m) (hm : m ≠ 0)
    (hv : OwnI W3 w0.heap.size v' (sI l ps ++ [(m : Int)])) (hg : (W.alloc o).grownBy W3 v.ownBlock) (hk : v'.ownBlock = v.ownBlock ∨ v'.ownBlock = some (W.heap.size + 1)) :
    (KeepsOthers W (W3.setCell ⟨B6, 0, none⟩ v') ∧ W3.frozen? ⟨B6, 0, none⟩ = false ∧ W3.cell? ⟨B6, 0, none⟩ = some v) ∧ PsJ w0 B2 B4 B5 B6 Bs Be Bv tv l s t r' v' (ps ++ [p.data.toList]) (W3.setCell ⟨B6, 0, none⟩ v') := by
  have ho := h.bx.o
  have hl := h.lo
  have hoa := own_alloc h.own o
  have h2 : PsB B2 B4 B5 B6 Bs Be Bv tv (.slice none 0 0) v 0 t W3 := (h.bx.keep (fun _ _ _ hc => hc.alloc o)).grown hoa hg h.ne
  have hb : Below w0.heap.size w0 W3 := below_grown (h.below.alloc h.below.size o) hoa hg (h.below.alloc h.below.size o).size
  have hne : v'.ownBlock ≠ some Bv := by
    rcases hk with hk | hk
    · rw [hk]; exact h.ne
    · rw [hk]
      intro e
      have e2 := Option.some.inj e
      have := h.bx.vb.lt
      omega
  have hp : fnd l ⟨p.data.toList.toArray⟩ = m := h0
  refine ⟨⟨((others_alloc6 W o).trans (others_grown hoa hg)).trans (KeepsOthers.setCell ..), h2.wb.frozen 0, h2.wb.cell rfl⟩, h2.setW v', ?_, hne, hb.setCell (p := ⟨B6, 0, none⟩) (by show w0.heap.size ≤ B6; omega) _, h.lo, ?_, ?_, h.z⟩
  · rw [sI_snoc, hp]
    exact OwnI.set hv (own_ne2 hv h2.wb (by decide)) _
  · rw [h.fl, hf, List.append_assoc]
  · unfold symsOf
    rw [List.map_append, List.mem_append]
    rintro (h3 | h3)
    · exact h.ok h3
    · simp [hp] at h3
      exact hm h3.symm
set_option maxRecDepth 20000 in
set_option maxHeartbeats 4000000 in
theorem wParse_ok (A : Option Addr) (n c : Nat) (l : List ByteArray) (s : ByteArray) (w : World) (h : Names w l A n c) (ht : tab l = true) (hz : s.size ≤ 16384) :
    Calls Tryz.prog 18 #[.slice A n c, .string s] w (RetIE w (castI (readA l s).1) (readA l s).2) := by
  have hn := h.len
  have htn := tab_out ht
  obtain ⟨hb0, cs0, cr0, ce0⟩ := blk3 w [.slice A n c] [.slice none 0 0] [.int .i64 0] 37 22 29
  have h0 := h.below hb0
  have HL := Lib.hid h
  have HT := Lib.hid ht
  have HTN := Lib.hid htn
  have HN := Lib.hid hn
  have hgt : ¬ (16384 : Int) < (s.size : Int) := by omega
  have HZ := Lib.hid hz
  clear h ht htn hn hz
  refine (callsIn_wide (n := 6)).1 ?_
  refine callsIn_of_wp_marks Tryz.func18 rfl trivial ?_ rfl
  simp only [Tryz.ntmps18, List.size_toArray, List.length_cons, List.length_nil, Nat.reduceAdd, Nat.reduceSub, Array.replicate_succ, Array.replicate_zero, List.push_toArray, List.append_toArray, List.nil_append, List.cons_append]
  refine wpIn_wide.2 ?_
  have k1 := cs0.cell (k := 0) rfl
  go_wp2_with fail
  generalize (((w.alloc (.cells #[.slice A n c] 37)).alloc (.cells #[.slice none 0 0] 22)).alloc (.cells #[.int .i64 0] 29)) = W0 at *
  refine (Valid_any A n c l _ h0 true HT).mono ?_
  rintro e w' ⟨rfl, rfl⟩
  obtain ⟨hb1, cw1⟩ := blk1 W0 [.slice none 0 0] 22
  have cs1 := cs0.alloc (.cells #[.slice none 0 0] 22)
  have cr1 := cr0.alloc (.cells #[.slice none 0 0] 22)
  have ce1 := ce0.alloc (.cells #[.slice none 0 0] 22)
  have h1 := h0.below hb1
  have hbb := hb0.trans (hb1.mono hb0.size)
  have HC0 := Lib.hid ce0.lt
  clear cs0 cr0 ce0 h0 hb0 hb1 k1
  go_wp2_with fail
  have hW1 : (W0.alloc (.cells #[.slice none 0 0] 22)).heap.size = W0.heap.size + 1 := World.size_alloc _ _
  have HW1 := Lib.hid hW1
  clear hW1
  generalize W0.alloc (.cells #[.slice none 0 0] 22) = W1 at *
  refine (splitSeq_any s W1).mono ?_
  rintro e w2 ⟨rfl, rfl⟩
  obtain ⟨hb2, d1, d2, d3⟩ := blk3 W1 [.string s] [.string ⟨#[32]⟩] [.int .i64 0] 9 9 3
  have cs2 := cs1.below hb2 cs1.lt
  have cr2 := cr1.below hb2 cr1.lt
  have ce2 := ce1.below hb2 ce1.lt
  have cw2 := cw1.below hb2 cw1.lt
  have h2 := h1.below hb2
  have hbc := hbb.trans (hb2.mono hbb.size)
  have hord : w.heap.size < w.heap.size + 1 ∧ w.heap.size + 1 < w.heap.size + 1 + 1 ∧ w.heap.size + 1 + 1 < W0.heap.size ∧ W0.heap.size < W1.heap.size ∧ W1.heap.size < W1.heap.size + 1 ∧ W1.heap.size + 1 < W1.heap.size + 1 + 1 := by
    have := HC0.out
    have := HW1.out
    omega
  clear cs1 cr1 ce1 cw1 h1 hbb hb2
  have hI0 : PsX w w.heap.size (w.heap.size + 1) (w.heap.size + 1 + 1) W0.heap.size W1.heap.size (W1.heap.size + 1) (W1.heap.size + 1 + 1) (.slice A n c) l s s s.data.toList _ :=
    ⟨.slice none 0 0, [], ⟨hord, cs2, cr2, ce2, cw2, d1, d2, d3⟩, OwnI.nil _ _, nofun, hbc, Nat.le_refl _, rfl, nofun, HZ.out⟩
  have hzw := hbc.size
  clear cs2 cr2 ce2 cw2 d1 d2 d3 hbc
  generalize ((W1.alloc (.cells #[.string s] 9)).alloc (.cells #[.string ⟨#[32]⟩] 9)).alloc (.cells #[.int .i64 0] 3) = W2 at *
  have HORD := Lib.hid hord
  clear hord
  go_wp2_with fail
  refine (wpIn_wide (n := 6)).1 ?_
  refine wpIn_split (by omega) (W1.heap.size + 1) W1.heap.size (W1.heap.size + 1 + 1) rfl rfl
    (fun (t : ByteArray) W => PsX w w.heap.size (w.heap.size + 1) (w.heap.size + 1 + 1) W0.heap.size W1.heap.size (W1.heap.size + 1) (W1.heap.size + 1 + 1) (.slice A n c) l s t t.data.toList W)
    (fun (t : ByteArray × Nat) W => PsX w w.heap.size (w.heap.size + 1) (w.heap.size + 1 + 1) W0.heap.size W1.heap.size (W1.heap.size + 1) (W1.heap.size + 1 + 1) (.slice A n c) l s t.1 (t.1.extract (t.2 + 1) t.1.size).data.toList W)
    (fun (_ : Unit) W => ∃ t, PsX w w.heap.size (w.heap.size + 1) (w.heap.size + 1 + 1) W0.heap.size W1.heap.size (W1.heap.size + 1) (W1.heap.size + 1 + 1) (.slice A n c) l s t [] W)
    (fun (cd : Code) W => cd = .ret ∧ PsR w (w.heap.size + 1) (w.heap.size + 1 + 1) l s W)
    (psI_from _ _ _ _ _ _ _ _ _ _ _ _ hzw) (psM_from _ _ _ _ _ _ _ _ _ _ _ _ hzw) (psD_from _ _ _ _ _ _ _ _ _ _ _ _ hzw) (psR_from _ _ _ _ _ _ hzw)
    ?spc (fun t k W h => h.next) s hI0 ?a1 ?assign ?body ?last ?done ?stop
  case spc =>
    rintro t W ⟨v, ps, h⟩
    exact h.bx.spc (by have := h.z; omega)
  case assign =>
    intro lr x W K hK
    gi_wp2
    exact hK
  case body =>
    intro lr t k W hI hi hk
    obtain ⟨hcut, hns⟩ := cut_at hi
    dsimp only
    generalize (t.extract (k + 1) t.size).data.toList = r' at *
    generalize t.extract 0 k = p at *
    generalize hr : t.data.toList = r at *
    have HF := Lib.hid (flds_cut hns (q := r'))
    rw [← hcut] at HF
    clear hcut hns hi hr
    obtain ⟨v, ps, hJ⟩ := hI
    have hl2 := psJ_length hJ
    have HJ := Lib.hid hJ
    have q2 := hJ.bx.tb.cell (k := 0) rfl
    have q4 := hJ.bx.rb.frozen 0
    have q4c := hJ.bx.rb.cell (k := 0) rfl
    have q5 := (hJ.bx.setR (.slice none 0 0)).eb.frozen 0
    have q5c := (hJ.bx.setR (.slice none 0 0)).eb.cell (k := 0) rfl
    have q6 := hJ.bx.wb.cell (k := 0) rfl
    have hnm := HL.out.below hJ.below
    have hsW := hJ.below.size
    clear hJ
    by_cases hp0 : p.data.toList = []
    · obtain rfl : p = ⟨#[]⟩ := by
        obtain ⟨⟨x⟩⟩ := p
        have : x = [] := hp0
        subst this
        rfl
      have hfl2 : flds r = flds r' := by simpa using HF.out
      have HEND : Hid (KeepsOthers W W ∧ PsX w w.heap.size (w.heap.size + 1) (w.heap.size + 1 + 1) W0.heap.size W1.heap.size (W1.heap.size + 1) (W1.heap.size + 1 + 1) (.slice A n c) l s t r' W) := Lib.hid ⟨KeepsOthers.refl _, ⟨v, ps, HJ.out.bx, HJ.out.own, HJ.out.ne, HJ.out.below, HJ.out.lo, by rw [HJ.out.fl, hfl2], HJ.out.ok, HJ.out.z⟩⟩
      clear hp0 hfl2 HF q4 q4c q5 q5c q6 q2
      gi_wp2
      exact HEND.out
    · have hpt : (p.toList == []) = false := by
        rw [Lib.toList_data]
        simpa using hp0
      have HF2 : Hid (flds r = [p.data.toList] ++ flds r') := Lib.hid (by have := HF.out; rwa [if_neg hp0] at this)
      obtain ⟨m, hm⟩ : ∃ m, fnd l p = m := ⟨_, rfl⟩
      have HM := Lib.hid hm
      clear hm HF hp0
      rcases Nat.eq_zero_or_pos m with rfl | hm0
      · have HBAD := Lib.hid (And.intro ((KeepsOthers.setCell W ⟨w.heap.size + 1, 0, none⟩ (.slice none 0 0)).trans (KeepsOthers.setCell _ ⟨w.heap.size + 1 + 1, 0, none⟩ (.int .i64 3))) (HJ.out.bad HF2.out HM.out))
        gi_wp2_with fail
        refine ⟨trivial, (CallsIn.inRound lr (callsIn_wide.2 (index_any A n c l p _ hnm (by have := HN.out; have := HTN.out; omega) 0 HM))).mono ?_⟩
        rintro e w3 ⟨rfl, rfl⟩
        rw [show ((0 : Nat) : Int) - 1 = -1 from rfl]
        clear hnm
        gi_wp2_with fail
        exact ⟨HBAD.out.1, rfl, HBAD.out.2⟩
      · obtain ⟨j, rfl⟩ : ∃ j, m = j + 1 := ⟨m - 1, by omega⟩
        have hm32 : j + 1 ≤ 32 := by
          have h1 := fnd_le l p
          have := HM.out; have := HTN.out
          omega
        have hj0 : ¬ (j : Int) < 0 := by omega
        have hwr : IntKind.i64.wrap ((j : Int) + 1) = (j : Int) + 1 := IntWalk.i64_in _ (by omega)
        gi_wp2_with fail
        refine ⟨trivial, (CallsIn.inRound lr (callsIn_wide.2 (index_any A n c l p _ hnm (by have := HN.out; have := HTN.out; omega) (j + 1) HM))).mono ?_⟩
        rintro e w3 ⟨rfl, rfl⟩
        rw [show ((j + 1 : Nat) : Int) - 1 = (j : Int) by omega]
        clear hnm
        have hsl := HZ.out
        gi_wp2_with (gi_at_builtin; refine wpListIn_appV rfl (.tmp 25) (.tmp 28) 22 3 rfl rfl _ 8 Tryz.underlying22 info_int rfl (by omega) w.heap.size v (ints (sI l ps)) rfl (own_alloc HJ.out.own _) _ 1 1 [.int .i64 ((j : Int) + 1)] rfl (Rd.one _ _ _) (ints_one [(j : Int) + 1]) ?c1 ?c2 ?_)
        case c1 => rw [ints_length, sI_length]; omega
        case c2 => simp; omega
        intro v1 w4 hv hg hk
        have hv2 : OwnI w4 w.heap.size v1 (sI l ps ++ [((j + 1 : Nat) : Int)]) := by
          rw [show ((j + 1 : Nat) : Int) = (j : Int) + 1 by omega]
          apply OwnI.of_snoc
          rw [List.length_append]
          exact hv
        obtain ⟨A2, n2, c2, rfl⟩ : ∃ A n c, v1 = .slice A n c := by
          obtain ⟨A2, c2, e6, _⟩ := hv2.reads
          exact ⟨_, _, _, e6⟩
        obtain ⟨⟨hko, q7, q8⟩, hJ4⟩ := HJ.out.good HF2.out HM.out (by omega) hv2 hg hk
        have HEND : Hid (KeepsOthers W (w4.setCell ⟨W0.heap.size, 0, none⟩ (.slice A2 n2 c2)) ∧ PsX w w.heap.size (w.heap.size + 1) (w.heap.size + 1 + 1) W0.heap.size W1.heap.size (W1.heap.size + 1) (W1.heap.size + 1 + 1) (.slice A n c) l s t r' (w4.setCell ⟨W0.heap.size, 0, none⟩ (.slice A2 n2 c2))) := Lib.hid ⟨hko, ⟨_, _, hJ4⟩⟩
        clear hv hg hk hko hJ4 hv2
        gi_wp2_with fail
        exact HEND.out
  case last =>
    intro lr p W hI0 hi
    have hns : ∀ c ∈ p.data.toList, c ≠ 32 := fun c hc e => by
      obtain ⟨j, hj⟩ := List.mem_iff_getElem?.1 hc
      rw [e] at hj
      exact Lib.indexByte_none hi j hj
    obtain ⟨r, hr⟩ : ∃ r, p.data.toList = r := ⟨_, rfl⟩
    obtain ⟨t, ht⟩ : ∃ t, p = t := ⟨_, rfl⟩
    have HF : Hid (flds r = (if p.data.toList = [] then [] else [p.data.toList]) ++ flds ([] : List UInt8)) := Lib.hid (by
      subst hr
      rw [flds_last hns]
      simp [flds, fldsA])
    have hI : PsX w w.heap.size (w.heap.size + 1) (w.heap.size + 1 + 1) W0.heap.size W1.heap.size (W1.heap.size + 1) (W1.heap.size + 1 + 1) (.slice A n c) l s t r W := by
      rw [hr] at hI0
      rw [← ht]
      exact hI0
    clear hI0 hi hns hr ht
    obtain ⟨v, ps, hJ⟩ := hI
    have hl2 := psJ_length hJ
    have HJ := Lib.hid hJ
    have q2 := hJ.bx.tb.cell (k := 0) rfl
    have q4 := hJ.bx.rb.frozen 0
    have q4c := hJ.bx.rb.cell (k := 0) rfl
    have q5 := (hJ.bx.setR (.slice none 0 0)).eb.frozen 0
    have q5c := (hJ.bx.setR (.slice none 0 0)).eb.cell (k := 0) rfl
    have q6 := hJ.bx.wb.cell (k := 0) rfl
    have hnm := HL.out.below hJ.below
    have hsW := hJ.below.size
    clear hJ
    by_cases hp0 : p.data.toList = []
    · obtain rfl : p = ⟨#[]⟩ := by
        obtain ⟨⟨x⟩⟩ := p
        have : x = [] := hp0
        subst this
        rfl
      have hfl2 : flds r = flds ([] : List UInt8) := by simpa using HF.out
      have HEND : Hid (KeepsOthers W W ∧ ∃ t, PsX w w.heap.size (w.heap.size + 1) (w.heap.size + 1 + 1) W0.heap.size W1.heap.size (W1.heap.size + 1) (W1.heap.size + 1 + 1) (.slice A n c) l s t ([] : List UInt8) W) := Lib.hid ⟨KeepsOthers.refl _, t, ⟨v, ps, HJ.out.bx, HJ.out.own, HJ.out.ne, HJ.out.below, HJ.out.lo, by rw [HJ.out.fl, hfl2], HJ.out.ok, HJ.out.z⟩⟩
      clear hp0 hfl2 HF q4 q4c q5 q5c q6 q2
      gi_wp2
      exact HEND.out
    · have hpt : (p.toList == []) = false := by
        rw [Lib.toList_data]
        simpa using hp0
      have HF2 : Hid (flds r = [p.data.toList] ++ flds ([] : List UInt8)) := Lib.hid (by have := HF.out; rwa [if_neg hp0] at this)
      obtain ⟨m, hm⟩ : ∃ m, fnd l p = m := ⟨_, rfl⟩
      have HM := Lib.hid hm
      clear hm HF hp0
      rcases Nat.eq_zero_or_pos m with rfl | hm0
      · have HBAD := Lib.hid (And.intro ((KeepsOthers.setCell W ⟨w.heap.size + 1, 0, none⟩ (.slice none 0 0)).trans (KeepsOthers.setCell _ ⟨w.heap.size + 1 + 1, 0, none⟩ (.int .i64 3))) (HJ.out.bad HF2.out HM.out))
        gi_wp2_with fail
        refine ⟨trivial, (CallsIn.inRound lr (callsIn_wide.2 (index_any A n c l p _ hnm (by have := HN.out; have := HTN.out; omega) 0 HM))).mono ?_⟩
        rintro e w3 ⟨rfl, rfl⟩
        rw [show ((0 : Nat) : Int) - 1 = -1 from rfl]
        clear hnm
        gi_wp2_with fail
        exact ⟨HBAD.out.1, rfl, HBAD.out.2⟩
      · obtain ⟨j, rfl⟩ : ∃ j, m = j + 1 := ⟨m - 1, by omega⟩
        have hm32 : j + 1 ≤ 32 := by
          have h1 := fnd_le l p
          have := HM.out; have := HTN.out
          omega
        have hj0 : ¬ (j : Int) < 0 := by omega
        have hwr : IntKind.i64.wrap ((j : Int) + 1) = (j : Int) + 1 := IntWalk.i64_in _ (by omega)
        gi_wp2_with fail
        refine ⟨trivial, (CallsIn.inRound lr (callsIn_wide.2 (index_any A n c l p _ hnm (by have := HN.out; have := HTN.out; omega) (j + 1) HM))).mono ?_⟩
        rintro e w3 ⟨rfl, rfl⟩
        rw [show ((j + 1 : Nat) : Int) - 1 = (j : Int) by omega]
        clear hnm
        have hsl := HZ.out
        gi_wp2_with (gi_at_builtin; refine wpListIn_appV rfl (.tmp 25) (.tmp 28) 22 3 rfl rfl _ 8 Tryz.underlying22 info_int rfl (by omega) w.heap.size v (ints (sI l ps)) rfl (own_alloc HJ.out.own _) _ 1 1 [.int .i64 ((j : Int) + 1)] rfl (Rd.one _ _ _) (ints_one [(j : Int) + 1]) ?c1 ?c2 ?_)
        case c1 => rw [ints_length, sI_length]; omega
        case c2 => simp; omega
        intro v1 w4 hv hg hk
        have hv2 : OwnI w4 w.heap.size v1 (sI l ps ++ [((j + 1 : Nat) : Int)]) := by
          rw [show ((j + 1 : Nat) : Int) = (j : Int) + 1 by omega]
          apply OwnI.of_snoc
          rw [List.length_append]
          exact hv
        obtain ⟨A2, n2, c2, rfl⟩ : ∃ A n c, v1 = .slice A n c := by
          obtain ⟨A2, c2, e6, _⟩ := hv2.reads
          exact ⟨_, _, _, e6⟩
        obtain ⟨⟨hko, q7, q8⟩, hJ4⟩ := HJ.out.good HF2.out HM.out (by omega) hv2 hg hk
        have HEND : Hid (KeepsOthers W (w4.setCell ⟨W0.heap.size, 0, none⟩ (.slice A2 n2 c2)) ∧ ∃ t, PsX w w.heap.size (w.heap.size + 1) (w.heap.size + 1 + 1) W0.heap.size W1.heap.size (W1.heap.size + 1) (W1.heap.size + 1 + 1) (.slice A n c) l s t ([] : List UInt8) (w4.setCell ⟨W0.heap.size, 0, none⟩ (.slice A2 n2 c2))) := Lib.hid ⟨hko, t, ⟨_, _, hJ4⟩⟩
        clear hv hg hk hko hJ4 hv2
        gi_wp2_with fail
        exact HEND.out
  case done =>
    rintro D W hD ⟨t, v, ps, hJ⟩ hK
    have hfl : flds s.data.toList = ps := by
      have := hJ.fl
      simpa [flds, fldsA] using this
    have hlt := hJ.below.size
    have hDB : w.heap.size ≤ D := by omega
    have hKl := heap_lt hK
    have hv := hJ.own.reads
    have hlp := psJ_length hJ
    obtain ⟨A2, c2, e2, _⟩ := hv
    rw [sI_length] at e2
    subst e2
    have q6 := hJ.bx.wb.cell (k := 0) rfl
    have n1 : D ≠ w.heap.size + 1 := fun e => by
      have h3 := hJ.bx.rb
      unfold Cs at h3
      rw [← e, hK] at h3
      cases h3
    have n2 : D ≠ w.heap.size + 1 + 1 := fun e => by
      have h3 := hJ.bx.eb
      unfold Cs at h3
      rw [← e, hK] at h3
      cases h3
    have n4 : w.heap.size + 1 ≠ w.heap.size + 1 + 1 := by omega
    by_cases h256 : 256 < ps.length
    · have HA : Hid (readA l s = ([], 2)) := Lib.hid (by
        unfold readA
        rw [if_pos HT.out, if_neg (by have := HZ.out; omega), hfl, if_neg hJ.ok, if_pos h256])
      have hb256 : (256 : Int) < (ps.length : Int) := by omega
      have q2 := hJ.bx.rb.frozen 0
      have q4 := hJ.bx.rb.cell (k := 0) rfl
      have hs := (hJ.bx.setR (.slice none 0 0)).setE 2
      have q3 := (hJ.bx.setR (.slice none 0 0)).eb.frozen 0
      have q5 := (hJ.bx.setR (.slice none 0 0)).eb.cell (k := 0) rfl
      have hb2 := (hJ.below.setCell (p := ⟨w.heap.size + 1, 0, none⟩) (by show w.heap.size ≤ w.heap.size + 1; omega) (.slice none 0 0)).setCell (p := ⟨w.heap.size + 1 + 1, 0, none⟩) (by show w.heap.size ≤ w.heap.size + 1 + 1; omega) (.int .i64 2)
      have hK2 : ((W.setCell ⟨w.heap.size + 1, 0, none⟩ (.slice none 0 0)).setCell ⟨w.heap.size + 1 + 1, 0, none⟩ (.int .i64 2)).heap[D]? = some (.deferred (some [])) :=
        (Below.heap_setCell _ ⟨w.heap.size + 1 + 1, 0, none⟩ _ D n2).trans ((Below.heap_setCell _ ⟨w.heap.size + 1, 0, none⟩ _ D n1).trans hK)
      have HE := Lib.hid (And.intro hs.rb (And.intro hs.eb (And.intro hb2 hK2)))
      clear hs hb2 hK2 hJ hfl h256 hlp
      gi_wp2
      go_wp2_with fail
      refine ⟨by simp, .inl ⟨_, _, rfl, run_takeDeferred HE.out.2.2.2, ?_⟩⟩
      refine ⟨_, results_cells2 rfl Tryz.underlying22 rfl Tryz.underlying29 rfl rfl rfl ((cs_put HE.out.1 HE.out.2.2.2 _).cell rfl) ((cs_put HE.out.2.1 HE.out.2.2.2 _).cell rfl), ?_⟩
      rw [HA.out]
      exact ⟨_, rfl, OwnI.nil _ _, below_put HE.out.2.2.1 (by omega) HE.out.2.2.1.size _⟩
    · have HA : Hid (readA l s = (symsOf l ps, 0)) := Lib.hid (by
        unfold readA
        rw [if_pos HT.out, if_neg (by have := HZ.out; omega), hfl, if_neg hJ.ok, if_neg h256])
      have hb256 : ¬ (256 : Int) < (ps.length : Int) := by omega
      have q2 := hJ.bx.rb.frozen 0
      have q4 := hJ.bx.rb.cell (k := 0) rfl
      have hs := (hJ.bx.setR (.slice A2 ps.length c2)).setE 0
      have q3 := (hJ.bx.setR (.slice A2 ps.length c2)).eb.frozen 0
      have q5 := (hJ.bx.setR (.slice A2 ps.length c2)).eb.cell (k := 0) rfl
      have hb2 := (hJ.below.setCell (p := ⟨w.heap.size + 1, 0, none⟩) (by show w.heap.size ≤ w.heap.size + 1; omega) (.slice A2 ps.length c2)).setCell (p := ⟨w.heap.size + 1 + 1, 0, none⟩) (by show w.heap.size ≤ w.heap.size + 1 + 1; omega) (.int .i64 0)
      have ho2 := (hJ.own.set (p := ⟨w.heap.size + 1, 0, none⟩) (own_ne2 hJ.own hJ.bx.rb (by decide)) (.slice A2 ps.length c2)).set (p := ⟨w.heap.size + 1 + 1, 0, none⟩) (own_ne2 hJ.own hJ.bx.eb (by decide)) (.int .i64 0)
      have hK2 : ((W.setCell ⟨w.heap.size + 1, 0, none⟩ (.slice A2 ps.length c2)).setCell ⟨w.heap.size + 1 + 1, 0, none⟩ (.int .i64 0)).heap[D]? = some (.deferred (some [])) :=
        (Below.heap_setCell _ ⟨w.heap.size + 1 + 1, 0, none⟩ _ D n2).trans ((Below.heap_setCell _ ⟨w.heap.size + 1, 0, none⟩ _ D n1).trans hK)
      have HE := Lib.hid (And.intro hs.rb (And.intro hs.eb (And.intro hb2 (And.intro ho2 hK2))))
      clear hs hb2 hK2 hJ hfl h256 hlp ho2
      gi_wp2
      go_wp2_with fail
      refine ⟨by simp, .inl ⟨_, _, rfl, run_takeDeferred HE.out.2.2.2.2, ?_⟩⟩
      refine ⟨_, results_cells2 rfl Tryz.underlying22 rfl Tryz.underlying29 rfl rfl rfl ((cs_put HE.out.1 HE.out.2.2.2.2 _).cell rfl) ((cs_put HE.out.2.1 HE.out.2.2.2.2 _).cell rfl), ?_⟩
      rw [HA.out]
      exact ⟨_, rfl, own_put HE.out.2.2.2.1 HE.out.2.2.2.2 _, below_put HE.out.2.2.1 (by omega) HE.out.2.2.1.size _⟩
  case stop =>
    rintro D cd W hD ⟨rfl, hR⟩ hK
    have HA : Hid (readA l s = ([], 3)) := Lib.hid (by
      unfold readA
      rw [if_pos HT.out, if_neg (by have := HZ.out; omega), if_pos hR.bad])
    gi_wp2
    refine ⟨by simp, .inl ⟨_, _, rfl, run_takeDeferred hK, ?_⟩⟩
    refine ⟨_, results_cells2 rfl Tryz.underlying22 rfl Tryz.underlying29 rfl rfl rfl ((cs_put hR.rb hK _).cell rfl) ((cs_put hR.eb hK _).cell rfl), ?_⟩
    rw [HA.out]
    exact ⟨_, rfl, OwnI.nil _ _, below_put hR.below (by omega) hR.below.size _⟩
end Go.Proofs.YtdlmhgijpgnilaaGreatDoor

namespace Go.Proofs.YtdlmhgijpgnilaaGreatDoor
open Go.RowKit Go.Shelf
attribute [local go_sem] Oper.semAt_some

set_option maxRecDepth 20000 in
set_option maxHeartbeats 4000000 in
theorem wParse_any (A : Option Addr) (n c : Nat) (l : List ByteArray) (s : ByteArray) (w : World) (h : Names w l A n c) :
    Calls Tryz.prog 18 #[.slice A n c, .string s] w (RetIE w (castI (readA l s).1) (readA l s).2) := by
  obtain ⟨V, hV⟩ : ∃ b, tab l = b := ⟨_, rfl⟩
  have bad : ∀ x : Int, readA l s = ([], x) → Hid (castI (readA l s).1 = [] ∧ (readA l s).2 = x) := fun x hx => by rw [hx]; exact Lib.hid ⟨rfl, rfl⟩
  obtain ⟨hb0, cs0, cr0, ce0⟩ := blk3 w [.slice A n c] [.slice none 0 0] [.int .i64 0] 37 22 29
  have h0 := h.below hb0
  have n4 : w.heap.size + 1 ≠ w.heap.size + 1 + 1 := by omega
  have hr1 := cr0.set 0 (.slice none 0 0)
  have k1 := cs0.cell (k := 0) rfl
  have q1 := cr0.cell (k := 0) rfl
  have q2 := cr0.frozen 0
  have he1 := ce0.far (p := ⟨w.heap.size + 1, 0, none⟩) (fun e => n4 e.symm) (.slice none 0 0)
  have q3 := he1.cell (k := 0) rfl
  have q4 := he1.frozen 0
  have fin : ∀ x : Int, Cs (((((w.alloc (.cells #[.slice A n c] 37)).alloc (.cells #[.slice none 0 0] 22)).alloc (.cells #[.int .i64 0] 29)).setCell ⟨w.heap.size + 1, 0, none⟩ (.slice none 0 0)).setCell ⟨w.heap.size + 1 + 1, 0, none⟩ (.int .i64 x)) (w.heap.size + 1) [.slice none 0 0] 22 ∧
      Cs (((((w.alloc (.cells #[.slice A n c] 37)).alloc (.cells #[.slice none 0 0] 22)).alloc (.cells #[.int .i64 0] 29)).setCell ⟨w.heap.size + 1, 0, none⟩ (.slice none 0 0)).setCell ⟨w.heap.size + 1 + 1, 0, none⟩ (.int .i64 x)) (w.heap.size + 1 + 1) [.int .i64 x] 29 ∧
      Below w.heap.size w (((((w.alloc (.cells #[.slice A n c] 37)).alloc (.cells #[.slice none 0 0] 22)).alloc (.cells #[.int .i64 0] 29)).setCell ⟨w.heap.size + 1, 0, none⟩ (.slice none 0 0)).setCell ⟨w.heap.size + 1 + 1, 0, none⟩ (.int .i64 x)) := fun x =>
    ⟨hr1.far (p := ⟨w.heap.size + 1 + 1, 0, none⟩) n4 (.int .i64 x), he1.set 0 (.int .i64 x), (hb0.setCell (p := ⟨w.heap.size + 1, 0, none⟩) (by show w.heap.size ≤ w.heap.size + 1; omega) (.slice none 0 0)).setCell (p := ⟨w.heap.size + 1 + 1, 0, none⟩) (by show w.heap.size ≤ w.heap.size + 1 + 1; omega) (.int .i64 x)⟩
  by_cases hz : s.size ≤ 16384 ∧ V = true
  · exact wParse_ok A n c l s w h (by rw [hV, hz.2]) hz.1
  have HV := Lib.hid hV
  cases V with
  | false =>
    have HR := bad 5 (by unfold readA; rw [if_neg (by rw [hV]; decide)])
    have HE := Lib.hid (fin 5)
    clear hr1 he1 cs0 cr0 ce0 hb0 hV h bad fin hz
    rw [HR.out.1, HR.out.2]
    go_enter Tryz.func18, Tryz.ntmps18
    go_wp2_with fail
    generalize (((w.alloc (.cells #[.slice A n c] 37)).alloc (.cells #[.slice none 0 0] 22)).alloc (.cells #[.int .i64 0] 29)) = W0 at *
    refine (Valid_any A n c l _ h0 false HV).mono ?_
    rintro e w' ⟨rfl, rfl⟩
    go_wp2_with fail
    exact ret_cells2 rfl Tryz.underlying22 rfl Tryz.underlying29 rfl rfl rfl (HE.out.1.cell rfl) (HE.out.2.1.cell rfl) rfl ⟨_, rfl, OwnI.nil _ _, HE.out.2.2⟩
  | true =>
    have hz2 : 16384 < s.size := by
      have : ¬ s.size ≤ 16384 := fun h => hz ⟨h, rfl⟩
      omega
    have hgt : (16384 : Int) < (s.size : Int) := by omega
    have HR := bad 2 (by unfold readA; rw [if_pos hV, if_pos hz2])
    have HE := Lib.hid (fin 2)
    clear hr1 he1 cs0 cr0 ce0 hb0 hV h bad fin hz hz2
    rw [HR.out.1, HR.out.2]
    go_enter Tryz.func18, Tryz.ntmps18
    go_wp2_with fail
    generalize (((w.alloc (.cells #[.slice A n c] 37)).alloc (.cells #[.slice none 0 0] 22)).alloc (.cells #[.int .i64 0] 29)) = W0 at *
    refine (Valid_any A n c l _ h0 true HV).mono ?_
    rintro e w' ⟨rfl, rfl⟩
    go_wp2_with fail
    exact ret_cells2 rfl Tryz.underlying22 rfl Tryz.underlying29 rfl rfl rfl (HE.out.1.cell rfl) (HE.out.2.1.cell rfl) rfl ⟨_, rfl, OwnI.nil _ _, HE.out.2.2⟩
end Go.Proofs.YtdlmhgijpgnilaaGreatDoor
