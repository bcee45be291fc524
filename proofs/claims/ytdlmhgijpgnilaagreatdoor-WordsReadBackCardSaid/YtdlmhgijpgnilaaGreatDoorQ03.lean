/- Words for memory: a slice whose cells can be read (Rd), at strings (Names) and at numbers (Syms); what a function hands back that makes memory of its own alone (RetP). -/
import Derived.Test.YtdlmhgijpgnilaaGreatDoorQ02
import Derived.Test.YtdlmhgijpgnilaaGreatDoorProg
import Derived.WalkKit
import Derived.WalkSpells
import Derived.WalkLawsBesides
import Derived.Lib.Hide
import Derived.Below
import Derived.Laws.OwnMore
import Derived.Deep.AppendLies
import Derived.Deep.Draws
import Derived.OwnWalk
set_option linter.unusedVariables false
set_option linter.unusedSimpArgs false
namespace Go.Proofs.YtdlmhgijpgnilaaGreatDoor
open Go.RowKit

/-- The slice value (A, n, c) reads as the cells xs. -/
structure Rd (w : World) (xs : List Value) (A : Option Addr) (n c : Nat) : Prop where
  len : n = xs.length
  cap : n ≤ c
  cells : 0 < n → ∃ b o, A = some ⟨b, o, none⟩ ∧ b < w.heap.size ∧ ∀ (k : Nat) (x : Value), xs[k]? = some x → w.cell? ⟨b, o + k, none⟩ = some x
theorem Rd.keep {w w' : World} {xs : List Value} {A : Option Addr} {n c : Nat} (h : Rd w xs A n c) (hs : w.heap.size ≤ w'.heap.size) (hk : ∀ b, b < w.heap.size → w'.heap[b]? = w.heap[b]?) : Rd w' xs A n c :=
  ⟨h.len, h.cap, fun hn => by
    obtain ⟨b, o, hA, hb, hc⟩ := h.cells hn
    exact ⟨b, o, hA, by omega, fun k x hx => (World.cell?_of_block (w := w) (hk b hb)).trans (hc k x hx)⟩⟩
theorem Rd.below {w w' : World} {xs : List Value} {A : Option Addr} {n c : Nat} (h : Rd w xs A n c) (hb : Below w.heap.size w w') : Rd w' xs A n c := h.keep hb.size hb.block
theorem Rd.nil (w : World) (A : Option Addr) (c : Nat) : Rd w [] A 0 c := ⟨rfl, Nat.zero_le _, fun h => absurd h (by omega)⟩
theorem Rd.take {w : World} {xs : List Value} {A : Option Addr} {n c : Nat} (h : Rd w xs A n c) {k : Nat} (hk : k ≤ n) : Rd w (xs.take k) A k c :=
  ⟨by rw [List.length_take, Nat.min_eq_left (by have := h.len; omega)], by have := h.cap; omega, fun hn => by
    obtain ⟨b, o, hA, hb, hc⟩ := h.cells (by omega)
    refine ⟨b, o, hA, hb, fun j x hx => hc j x ?_⟩
    rw [List.getElem?_take] at hx
    split at hx
    · exact hx
    · cases hx⟩
theorem Rd.at_ {w : World} {xs : List Value} {A : Option Addr} {n c : Nat} (h : Rd w xs A n c) {k : Nat} (hk : k < n) :
    ∃ b o x, A = some ⟨b, o, none⟩ ∧ b < w.heap.size ∧ xs[k]? = some x ∧ w.cell? ⟨b, o + k, none⟩ = some x := by
  obtain ⟨b, o, hA, hb, hc⟩ := h.cells (by omega)
  have hl : k < xs.length := by have := h.len; omega
  exact ⟨b, o, xs[k], hA, hb, List.getElem?_eq_getElem hl, hc k _ (List.getElem?_eq_getElem hl)⟩

/-- The slice value reads as a list of names. -/
def Names (w : World) (l : List ByteArray) (A : Option Addr) (n c : Nat) : Prop := Rd w (l.map Value.string) A n c
theorem Names.len {w : World} {l : List ByteArray} {A : Option Addr} {n c : Nat} (h : Names w l A n c) : n = l.length := by rw [Rd.len h, List.length_map]
theorem Names.below {w w' : World} {l : List ByteArray} {A : Option Addr} {n c : Nat} (h : Names w l A n c) (hb : Below w.heap.size w w') : Names w' l A n c := Rd.below h hb
theorem Names.take {w : World} {l : List ByteArray} {A : Option Addr} {n c : Nat} (h : Names w l A n c) {k : Nat} (hk : k ≤ n) : Names w (l.take k) A k c := by
  have := Rd.take h hk
  rwa [← List.map_take] at this
theorem Names.nil (w : World) (A : Option Addr) (c : Nat) : Names w [] A 0 c := Rd.nil w A c
theorem Names.at_ {w : World} {l : List ByteArray} {A : Option Addr} {n c : Nat} (h : Names w l A n c) {k : Nat} (hk : k < n) :
    ∃ b o, A = some ⟨b, o, none⟩ ∧ b < w.heap.size ∧ w.cell? ⟨b, o + k, none⟩ = some (.string (l.getD k ByteArray.empty)) := by
  obtain ⟨b, o, x, hA, hb, hx, hc⟩ := Rd.at_ h hk
  refine ⟨b, o, hA, hb, ?_⟩
  rw [hc, List.getD_eq_getElem?_getD]
  rw [List.getElem?_map] at hx
  obtain ⟨s, hs, rfl⟩ := Option.map_eq_some_iff.1 hx
  rw [hs]; rfl
theorem Names.cells_ {w : World} {l : List ByteArray} {b o : Nat} {n c : Nat} (h : Names w l (some ⟨b, o, none⟩) n c) (j : Nat) (hj : j < l.length) : w.cell? ⟨b, o + j, none⟩ = some (.string (l.getD j ByteArray.empty)) := by
  obtain ⟨b', o', hA, _, hc⟩ := h.at_ (k := j) (by have := h.len; omega)
  cases hA
  exact hc
/-- Nil, or empty, or at an address. -/
theorem Names.form {w : World} {l : List ByteArray} {A : Option Addr} {n c : Nat} (h : Names w l A n c) : (n = 0 ∧ l = []) ∨ ∃ b o, A = some ⟨b, o, none⟩ ∧ b < w.heap.size ∧ 0 < n := by
  rcases Nat.eq_zero_or_pos n with h0 | h0
  · exact .inl ⟨h0, List.eq_nil_of_length_eq_zero (by have := h.len; omega)⟩
  · obtain ⟨b, o, hA, hb, _⟩ := h.at_ (k := 0) h0
    exact .inr ⟨b, o, hA, hb, h0⟩
def syms (l : List Nat) : List Value := l.map fun (n : Nat) => Value.int .i64 (n : Int)
theorem syms_length (l : List Nat) : (syms l).length = l.length := by simp [syms]
theorem syms_snoc (l : List Nat) (x : Nat) : syms (l ++ [x]) = syms l ++ [.int .i64 (x : Int)] := by simp [syms]
/-- The slice value reads as a list of symbols. -/
def Syms (w : World) (l : List Nat) (A : Option Addr) (n c : Nat) : Prop := Rd w (syms l) A n c
theorem Syms.len {w : World} {l : List Nat} {A : Option Addr} {n c : Nat} (h : Syms w l A n c) : n = l.length := by rw [Rd.len h, syms_length]
theorem Syms.below {w w' : World} {l : List Nat} {A : Option Addr} {n c : Nat} (h : Syms w l A n c) (hb : Below w.heap.size w w') : Syms w' l A n c := Rd.below h hb
theorem Syms.nil (w : World) (A : Option Addr) (c : Nat) : Syms w [] A 0 c := Rd.nil w A c
theorem Syms.at_ {w : World} {l : List Nat} {A : Option Addr} {n c : Nat} (h : Syms w l A n c) {k : Nat} (hk : k < n) :
    ∃ b o, A = some ⟨b, o, none⟩ ∧ b < w.heap.size ∧ w.cell? ⟨b, o + k, none⟩ = some (.int .i64 ((l.getD k 0 : Nat) : Int)) := by
  obtain ⟨b, o, x, hA, hb, hx, hc⟩ := Rd.at_ h hk
  refine ⟨b, o, hA, hb, ?_⟩
  rw [hc, List.getD_eq_getElem?_getD]
  unfold syms at hx
  rw [List.getElem?_map] at hx
  obtain ⟨s, hs, rfl⟩ := Option.map_eq_some_iff.1 hx
  rw [hs]; rfl
theorem Rd.of_own {w : World} {base : Nat} {e : TypeId} {n : Nat} {v : Value} {xs : List Value} (h : w.ownsRow base e 1 v n xs) : ∃ A c, v = .slice A n c ∧ Rd w xs A n c := by
  have hl : xs.length = n := by have := h.1; omega
  rcases h.2 with ⟨rfl, hn⟩ | ⟨g, cap, cur, rfl, hB, hh, hnc, _, _, hcur⟩
  · subst hn
    have : xs = [] := List.eq_nil_of_length_eq_zero hl
    subst this
    exact ⟨none, 0, rfl, Rd.nil _ _ _⟩
  · refine ⟨some ⟨g, 0, none⟩, cap, rfl, hl.symm, hnc, fun _ => ⟨g, 0, rfl, (Array.getElem?_eq_some_iff.1 hh).1, fun k x hx => ?_⟩⟩
    rw [cell_of_row w g _ _ _ _ hh, Nat.zero_add]
    have hk : k < xs.length := (List.getElem?_eq_some_iff.1 hx).1
    rw [← hcur, List.getElem?_take, if_pos (by omega)] at hx
    simpa using hx

/-- Handed back: v; nothing that was there has turned. -/
def RetP (w0 : World) (v : Value) (e : Ending) (w' : World) : Prop := e = .returned v ∧ Below w0.heap.size w0 w'
/-- Handed back: v; all is as it was. -/
def RetE (w0 : World) (v : Value) (e : Ending) (w' : World) : Prop := e = .returned v ∧ w0 = w'
theorem RetE.b {w0 w' : World} {v : Value} {e : Ending} (h : RetE w0 v e w') : RetP w0 v e w' := ⟨h.1, by rw [← h.2]; exact Below.refl _ _⟩
theorem y_int {k : IntKind} {a b : Int} (h : a = b) : Ending.returned (.int k a) = .returned (.int k b) := by rw [h]
theorem y_bool {a b : Bool} (h : a = b) : Ending.returned (.bool a) = .returned (.bool b) := by rw [h]
theorem y_string {a b : ByteArray} (h : a = b) : Ending.returned (.string a) = .returned (.string b) := by rw [h]
end Go.Proofs.YtdlmhgijpgnilaaGreatDoor
