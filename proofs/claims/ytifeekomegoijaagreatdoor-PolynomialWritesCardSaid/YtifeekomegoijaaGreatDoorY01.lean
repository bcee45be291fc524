import Derived.Below
import Derived.Lib.SlicesS
import Derived.Lib.Bytealg
import Derived.Test.YtifeekomegoijaaGreatDoorProg
import Derived.WalkKit
import Derived.WalkSpells
import Derived.WalkLawsBesides
import Derived.Lib.Hide
import Derived.Laws.OwnMore
import Derived.Deep.AppendLies
import Derived.Deep.Draws
import Derived.OwnWalk
import Derived.Lib.Walk
import Derived.Deep.QuietTactic
import Derived.BigQuiet
set_option linter.unusedVariables false
set_option linter.unusedSimpArgs false
namespace Go.Proofs.YtifeekomegoijaaGreatDoor
def cnt (s : Nat) : Nat -> Nat
 | 0 => 1
 | k + 1 => cnt s k * s + 1
def okn (n : Nat) : Bool := decide (33 <= n) && decide (n <= 126) && decide (n ≠ 35) && decide (n ≠ 40) && decide (n ≠ 41) && decide (n ≠ 42) && decide (n ≠ 43) && decide (n ≠ 124) && decide (n ≠ 45) && decide (n ≠ 91) && decide (n ≠ 93)
def okB (c : UInt8) : Bool := okn c.toNat
def nmd (s : ByteArray) : Bool := decide (1 <= s.size) && decide (s.size <= 24) && !(s.toList == [48]) && !(s.toList == [49]) && s.data.toList.all okB
def fnd : List ByteArray -> ByteArray -> Nat
 | [], _ => 0
 | y :: l, x => if y = x then 1 else if fnd l x = 0 then 0 else fnd l x + 1
def firsts (l : List ByteArray) (k : Nat) : Prop := ∀ i, i < k -> nmd (l.getD i ByteArray.empty) = true /\ fnd (l.take i) (l.getD i ByteArray.empty) = 0
instance (l : List ByteArray) (k : Nat) : Decidable (firsts l k) := by unfold firsts; infer_instance
def tab (l : List ByteArray) : Bool := decide (1 <= l.length) && decide (l.length <= 32) && decide (firsts l l.length)
end Go.Proofs.YtifeekomegoijaaGreatDoor
namespace Go.Proofs.YtifeekomegoijaaGreatDoor
open Go.RowKit
structure Rd (w : World) (xs : List Value) (A : Option Addr) (n c : Nat) : Prop where
 len : n = xs.length
 cap : n <= c
 cells : 0 < n -> ∃ b o, A = some ⟨b, o, none⟩ /\ b < w.heap.size /\ ∀ (k : Nat) (x : Value), xs[k]? = some x -> w.cell? ⟨b, o + k, none⟩ = some x
theorem Rd.keep {w w' : World} {xs : List Value} {A : Option Addr} {n c : Nat} (h : Rd w xs A n c) (hs : w.heap.size <= w'.heap.size) (hk : ∀ b, b < w.heap.size -> w'.heap[b]? = w.heap[b]?) : Rd w' xs A n c :=
 ⟨h.len, h.cap, fun hn => by
  obtain ⟨b, o, hA, hb, hc⟩ := h.cells hn
  exact ⟨b, o, hA, by omega, fun k x hx => (World.cell?_of_block (w := w) (hk b hb)).trans (hc k x hx)⟩⟩
theorem Rd.below {w w' : World} {xs : List Value} {A : Option Addr} {n c : Nat} (h : Rd w xs A n c) (hb : Below w.heap.size w w') : Rd w' xs A n c := h.keep hb.size hb.block
theorem Rd.nil (w : World) (A : Option Addr) (c : Nat) : Rd w [] A 0 c := ⟨rfl, Nat.zero_le _, fun h => absurd h (by omega)⟩
theorem Rd.take {w : World} {xs : List Value} {A : Option Addr} {n c : Nat} (h : Rd w xs A n c) {k : Nat} (hk : k <= n) : Rd w (xs.take k) A k c :=
 ⟨by rw [List.length_take, Nat.min_eq_left (by have := h.len; omega)], by have := h.cap; omega, fun hn => by
  obtain ⟨b, o, hA, hb, hc⟩ := h.cells (by omega)
  refine ⟨b, o, hA, hb, fun j x hx => hc j x ?_⟩
  rw [List.getElem?_take] at hx
  split at hx
  ·exact hx
  ·cases hx⟩
theorem Rd.at_ {w : World} {xs : List Value} {A : Option Addr} {n c : Nat} (h : Rd w xs A n c) {k : Nat} (hk : k < n) :
 ∃ b o x, A = some ⟨b, o, none⟩ /\ b < w.heap.size /\ xs[k]? = some x /\ w.cell? ⟨b, o + k, none⟩ = some x := by
 obtain ⟨b, o, hA, hb, hc⟩ := h.cells (by omega)
 have hl : k < xs.length := by have := h.len; omega
 exact ⟨b, o, xs[k], hA, hb, List.getElem?_eq_getElem hl, hc k _ (List.getElem?_eq_getElem hl)⟩
def Names (w : World) (l : List ByteArray) (A : Option Addr) (n c : Nat) : Prop := Rd w (l.map Value.string) A n c
theorem Names.len {w : World} {l : List ByteArray} {A : Option Addr} {n c : Nat} (h : Names w l A n c) : n = l.length := by rw [Rd.len h, List.length_map]
theorem Names.below {w w' : World} {l : List ByteArray} {A : Option Addr} {n c : Nat} (h : Names w l A n c) (hb : Below w.heap.size w w') : Names w' l A n c := Rd.below h hb
theorem Names.take {w : World} {l : List ByteArray} {A : Option Addr} {n c : Nat} (h : Names w l A n c) {k : Nat} (hk : k <= n) : Names w (l.take k) A k c := by
 have := Rd.take h hk
 rwa [<- List.map_take] at this
theorem Names.nil (w : World) (A : Option Addr) (c : Nat) : Names w [] A 0 c := Rd.nil w A c
theorem Names.at_ {w : World} {l : List ByteArray} {A : Option Addr} {n c : Nat} (h : Names w l A n c) {k : Nat} (hk : k < n) :
 ∃ b o, A = some ⟨b, o, none⟩ /\ b < w.heap.size /\ w.cell? ⟨b, o + k, none⟩ = some (.string (l.getD k ByteArray.empty)) := by
 obtain ⟨b, o, x, hA, hb, hx, hc⟩ := Rd.at_ h hk
 refine ⟨b, o, hA, hb, ?_⟩
 rw [hc, List.getD_eq_getElem?_getD]
 rw [List.getElem?_map] at hx
 obtain ⟨s, hs, rfl⟩ := Option.map_eq_some_iff.1 hx
 rw [hs]; rfl
theorem Rd.of_own {w : World} {base : Nat} {e : TypeId} {n : Nat} {v : Value} {xs : List Value} (h : w.ownsRow base e 1 v n xs) : ∃ A c, v = .slice A n c /\ Rd w xs A n c := by
 have hl : xs.length = n := by have := h.1; omega
 rcases h.2 with ⟨rfl, hn⟩ | ⟨g, cap, cur, rfl, hB, hh, hnc, _, _, hcur⟩
 ·subst hn
  have : xs = [] := List.eq_nil_of_length_eq_zero hl
  subst this
  exact ⟨none, 0, rfl, Rd.nil _ _ _⟩
 ·refine ⟨some ⟨g, 0, none⟩, cap, rfl, hl.symm, hnc, fun _ => ⟨g, 0, rfl, (Array.getElem?_eq_some_iff.1 hh).1, fun k x hx => ?_⟩⟩
  rw [cell_of_row w g _ _ _ _ hh, Nat.zero_add]
  have hk : k < xs.length := (List.getElem?_eq_some_iff.1 hx).1
  rw [<- hcur, List.getElem?_take, if_pos (by omega)] at hx
  simpa using hx
theorem ba_empty {s : ByteArray} (h : s.size = 0) : s = ⟨#[]⟩ := by
 obtain ⟨⟨l⟩⟩ := s
 have : l = [] := List.eq_nil_of_length_eq_zero (show l.length = 0 from h)
 rw [this]
theorem toList_nil_iff (s : ByteArray) : s.toList = [] ↔ s.size = 0 := by
 have h := Lib.bytes_beq_iff s ⟨#[]⟩
 have e : (⟨#[]⟩ : ByteArray).toList = [] := by decide +kernel
 rw [e] at h
 constructor
 ·intro hs
  rw [h.1 (by rw [hs]; rfl)]; rfl
 ·intro hs
  have := ba_empty hs
  rw [this]; exact e
theorem Rd.drewN {w : World} {xs : List Value} {A : Option Addr} {n c : Nat} (h : Rd w xs A n c) (k : Nat) : Rd (w.drewN k) xs A n c := ⟨h.len, h.cap, h.cells⟩
theorem Names.drewN {w : World} {l : List ByteArray} {A : Option Addr} {n c : Nat} (h : Names w l A n c) (k : Nat) : Names (w.drewN k) l A n c := Rd.drewN h k
end Go.Proofs.YtifeekomegoijaaGreatDoor
