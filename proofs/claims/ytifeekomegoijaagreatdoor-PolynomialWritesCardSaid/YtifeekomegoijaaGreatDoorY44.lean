import Derived.Test.YtifeekomegoijaaGreatDoorRows
import Derived.Test.YtifeekomegoijaaGreatDoorY15
import Derived.Test.YtifeekomegoijaaGreatDoorY39
import Derived.Deep.Slices
set_option linter.unusedVariables false
set_option linter.unusedSimpArgs false
set_option maxRecDepth 100000
namespace Go.Proofs.YtifeekomegoijaaGreatDoor
open Go Go.ChangeShapes Go.WideShapes Go.RowKit
def R64 (x : Int) : Prop := -9223372036854775808 <= x /\ x <= 9223372036854775807
def E64 (e : Int × Int × Int) : Prop := R64 e.1 /\ R64 e.2.1 /\ R64 e.2.2
section
variable {H : Type} {enc : TypeId × Value -> H}
theorem r64_wf {x : Int} (h : (Lit.int .i64 x).wf = true) : R64 x := by
 simp only [Lit.wf, Bool.and_eq_true, decide_eq_true_eq] at h
 have e1 : IntKind.i64.min = -9223372036854775808 := rfl
 have e2 : IntKind.i64.max = 9223372036854775807 := rfl
 unfold R64
 omega
theorem list6 {α : Type} {l : List α} (h : l.length = 6) : ∃ a b c d e f, l = [a, b, c, d, e, f] := by
 match l, h with
 | [a, b, c, d, e, f], _ => exact ⟨a, b, c, d, e, f, rfl⟩
theorem list3 {α : Type} {l : List α} (h : l.length = 3) : ∃ a b c, l = [a, b, c] := by
 match l, h with
 | [a, b, c], _ => exact ⟨a, b, c, rfl⟩
theorem rat_cells {W : World} {k : Nat} {cs : List Value} {y : DataW H × List MemPlace} (h : DataW.trod enc Tryz.prog W 0 (fun _ => true) true k 25 cs = some y) :
 ∃ z0 z1 z2 nb ln ld, cs = [z0, z1, z2] /\ Fld W (.agg #[z0, z1, z2]) nb ln ld := by
 obtain ⟨xs, n, rfl, _, hlen, hxs, hf⟩ := DataW.trod_struct Tryz.underlying25 h
 have c3 : Tryz.prog.cellsOf 25 = 3 := by kernel_rfl
 rw [c3] at hlen
 obtain ⟨z0, z1, z2, rfl⟩ := list3 hlen
 have cb : Tryz.prog.cellsOf 4 = 1 := by kernel_rfl
 have cu : Tryz.prog.cellsOf 23 = 1 := by kernel_rfl
 obtain ⟨y0, y1, y2, rfl⟩ := list3 (hxs.trans rfl)
 have g0 : DataW.trod enc Tryz.prog W 0 (fun _ => true) true n 4 (([z0, z1, z2].drop 0).take (Tryz.prog.cellsOf 4)) = some y0 := hf 0 _ rfl
 have g1 : DataW.trod enc Tryz.prog W 0 (fun _ => true) true n 23 (([z0, z1, z2].drop 1).take (Tryz.prog.cellsOf 23)) = some y1 := hf 1 _ rfl
 have g2 : DataW.trod enc Tryz.prog W 0 (fun _ => true) true n 23 (([z0, z1, z2].drop 2).take (Tryz.prog.cellsOf 23)) = some y2 := hf 2 _ rfl
 rw [cb] at g0
 rw [cu] at g1 g2
 obtain ⟨b, hb, _⟩ := DataW.trod_bool Tryz.underlying4 g0
 obtain ⟨A, m, c, l, hA1, hA⟩ := num_of5 (v := z1) g1
 obtain ⟨A', m', c', l', hA1', hA'⟩ := num_of5 (v := z2) g2
 have hb' : z0 = .bool b := by simpa using hb
 subst hb' hA1 hA1'
 exact ⟨_, _, _, b, l, l', rfl, ⟨A, m, c, A', m', c', rfl, hA, hA'⟩⟩
theorem mono_cells {W : World} {k : Nat} {cs : List Value} {y : DataW H × List MemPlace} (h : DataW.trod enc Tryz.prog W 0 (fun _ => true) true k 59 cs = some y) :
 ∃ (m : FldM) (z0 z1 z2 : Value), cs = mcells m.1 z0 z1 z2 /\ Fld W (.agg #[z0, z1, z2]) m.2.1 m.2.2.1 m.2.2.2 /\ E64 m.1 := by
 obtain ⟨xs, n, rfl, _, hlen, hxs, hf⟩ := DataW.trod_struct Tryz.underlying59 h
 have c6 : Tryz.prog.cellsOf 59 = 6 := by kernel_rfl
 rw [c6] at hlen
 obtain ⟨w0, w1, w2, w3, w4, w5, rfl⟩ := list6 hlen
 have ce : Tryz.prog.cellsOf 57 = 3 := by kernel_rfl
 have cr : Tryz.prog.cellsOf 25 = 3 := by kernel_rfl
 have ci : Tryz.prog.cellsOf 3 = 1 := by kernel_rfl
 obtain ⟨y0, y1, rfl⟩ : ∃ y0 y1, xs = [y0, y1] := by
  have hx2 : xs.length = 2 := hxs
  match xs, hx2 with
  | [a, b], _ => exact ⟨a, b, rfl⟩
 have g0 : DataW.trod enc Tryz.prog W 0 (fun _ => true) true n 57 (([w0, w1, w2, w3, w4, w5].drop 0).take (Tryz.prog.cellsOf 57)) = some y0 := hf 0 _ rfl
 have g1 : DataW.trod enc Tryz.prog W 0 (fun _ => true) true n 25 (([w0, w1, w2, w3, w4, w5].drop 3).take (Tryz.prog.cellsOf 25)) = some y1 := hf 1 _ rfl
 rw [ce] at g0
 rw [cr] at g1
 obtain ⟨ys, m, _, _, _, hys, ha⟩ := DataW.trod_array Tryz.underlying57 g0
 obtain ⟨x0, x1, x2, rfl⟩ := list3 hys
 have a0 := ha 0 (by decide)
 have a1 := ha 1 (by decide)
 have a2 := ha 2 (by decide)
 simp only [ci] at a0 a1 a2
 obtain ⟨i0, e0, _, hw0⟩ := DataW.trod_int Tryz.underlying3 a0
 obtain ⟨i1, e1, _, hw1⟩ := DataW.trod_int Tryz.underlying3 a1
 obtain ⟨i2, e2, _, hw2⟩ := DataW.trod_int Tryz.underlying3 a2
 obtain ⟨z0, z1, z2, nb, ln, ld, hz, hF⟩ := rat_cells g1
 have e0' : w0 = .int .i64 i0 := by simpa using e0
 have e1' : w1 = .int .i64 i1 := by simpa using e1
 have e2' : w2 = .int .i64 i2 := by simpa using e2
 have hz' : w3 = z0 /\ w4 = z1 /\ w5 = z2 := by simpa using hz
 obtain ⟨rfl, rfl, rfl⟩ := hz'
 subst e0' e1' e2'
 exact ⟨((i0, i1, i2), nb, ln, ld), _, _, _, rfl, hF, r64_wf hw0, r64_wf hw1, r64_wf hw2⟩
theorem monos_of {W : World} {base : Nat} {v : Value} {d : DataW H} {p : List MemPlace} (hv : Value.okWide Tryz.prog W .any base 22 v) (h : DataW.Trod enc Tryz.prog W 0 (fun _ => true) true 22 v d p) :
 ∃ A n c l, v = .slice A n c /\ PRaw W A n c l /\ ∀ m ∈ l, E64 m.1 := by
 obtain ⟨A, n, c, rfl⟩ := okWide_slice Tryz.underlying22 hv
 obtain ⟨fuel, hf⟩ := h
 rcases Go.Deep.open_slice Tryz.underlying22 hf with ⟨hcs, _⟩ | ⟨a, len, cap, m, k, D, Pl, hcs, _, hl, hm, hmm, _, hx⟩
 ·simp [Value.cells] at hcs
  obtain ⟨rfl, rfl, rfl⟩ := hcs
  exact ⟨none, 0, 0, [], rfl, ⟨[], RdK.nil _ _ _ _, rfl, fun i m hm => by simp at hm⟩, fun m hm => by cases hm⟩
 ·simp [Value.cells] at hcs
  obtain ⟨rfl, rfl, rfl⟩ := hcs
  simp only [if_true] at hmm
  subst hmm
  have c6 : Tryz.prog.cellsOf 59 = 6 := by kernel_rfl
  rw [c6] at hx
  have each : ∀ i, i < m -> ∃ q : FldM × Value × Value × Value, (∀ j v, (mcells q.1.1 q.2.1 q.2.2.1 q.2.2.2)[j]? = some v -> W.cell? (a.add (i * 6 + j)) = some v) /\ Fld W (.agg #[q.2.1, q.2.2.1, q.2.2.2]) q.1.2.1 q.1.2.2.1 q.1.2.2.2 /\ E64 q.1.1 := by
   intro i hi
   obtain ⟨cs', h1, h2⟩ := hx i hi
   obtain ⟨_, hlen, hcell⟩ := World.cells?_some h1
   obtain ⟨mm, z0, z1, z2, rfl, hF, hE⟩ := mono_cells h2
   refine ⟨(mm, z0, z1, z2), fun j v hj => ?_, hF, hE⟩
   have hj6 : j < 6 := by
    have := (List.getElem?_eq_some_iff.1 hj).1
    simpa using this
   have := hcell j hj6
   rw [Go.Deep.add_add] at this
   rw [this]; exact hj
  obtain ⟨q, hq⟩ := Go.Deep.choose_lt each
  refine ⟨some a, n, m, (List.range n).map (fun i => (q i).1), rfl, ⟨(List.range n).map (fun i => mcells (q i).1.1 (q i).2.1 (q i).2.2.1 (q i).2.2.2), ⟨by simp, hl, fun hn => ?_⟩, by simp, fun i x hx => ?_⟩, fun x hx => ?_⟩
  ·obtain ⟨b, off, spot⟩ := a
   have h0 := (hq 0 (by omega)).1 0 _ rfl
   have hspot : spot = none := by simpa [Addr.add] using World.cell?_spot h0
   subst hspot
   refine ⟨b, off, rfl, World.block_lt_of_cell? _ _ (by rw [add_plain] at h0; exact h0), fun i x hx j v hj => ?_⟩
   rw [List.getElem?_map] at hx
   obtain ⟨i', hi', rfl⟩ := Option.map_eq_some_iff.1 hx
   have hlt : i < n := by
    have := (List.getElem?_eq_some_iff.1 hi').1
    simpa using this
   rw [List.getElem?_range hlt] at hi'
   obtain rfl := Option.some.inj hi'
   have := (hq i (by omega)).1 j v hj
   rw [add_plain] at this
   rw [Nat.add_assoc]
   exact this
  ·rw [List.getElem?_map] at hx
   obtain ⟨i', hi', rfl⟩ := Option.map_eq_some_iff.1 hx
   have hlt : i < n := by
    have := (List.getElem?_eq_some_iff.1 hi').1
    simpa using this
   rw [List.getElem?_range hlt] at hi'
   obtain rfl := Option.some.inj hi'
   refine ⟨_, _, _, ?_, (hq i (by omega)).2.1⟩
   rw [List.getElem?_map, List.getElem?_range hlt]
   rfl
  ·obtain ⟨i, hi, rfl⟩ := List.mem_map.1 hx
   exact (hq i (by have := List.mem_range.1 hi; omega)).2.2
end
end Go.Proofs.YtifeekomegoijaaGreatDoor
