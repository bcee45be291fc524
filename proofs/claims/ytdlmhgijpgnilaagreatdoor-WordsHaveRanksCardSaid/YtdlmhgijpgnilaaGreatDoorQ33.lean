/- What the slots of a region hold, by a list: a value, a number, a new block. -/
import Derived.Test.YtdlmhgijpgnilaaGreatDoorQ28
import Derived.Test.YtdlmhgijpgnilaaGreatDoorQ08
import Derived.Test.YtdlmhgijpgnilaaGreatDoorQ19
set_option linter.unusedVariables false
set_option linter.unusedSimpArgs false
namespace Go.Proofs.YtdlmhgijpgnilaaGreatDoor
open Go Go.RowKit

inductive Sp where
  | val (v : Value)
  | rat (q : Rat)
  | blk (B : Nat) (l : List Value) (t : TypeId)
  | any
def Sp.holds : Sp → Value → World → Prop
  | .val v, a, _ => a = v
  | .rat q, a, w => RatQ w a q
  | .blk B l t, a, w => ∃ g, a = .pointer (some ⟨g, 0, none⟩) ∧ B ≤ g ∧ Cs w g l t
  | .any, _, _ => True
def Sp.isBlk : Sp → Bool
  | .blk _ _ _ => true
  | _ => false
def gOf (L : List Sp) (i : Nat) (a : Value) (w : World) : Prop := (L.getD i .any).holds a w
def sOf (L : List Sp) (i : Nat) : Bool := (L.getD i .any).isBlk
theorem gOf_keep (L : List Sp) (i : Nat) (a : Value) (w w' : World) (h : gOf L i a w) (hb : Below w.heap.size w w') : gOf L i a w' := by
  unfold gOf at *
  generalize L.getD i .any = s at *
  cases s with
  | val v => exact h
  | rat q => exact RatQ.below h hb
  | blk B l t =>
    obtain ⟨g, h1, h2, h3⟩ := h
    exact ⟨g, h1, h2, h3.below hb h3.lt⟩
  | any => trivial
theorem gOf_ptr (L : List Sp) (i : Nat) (a : Value) (w : World) (hs : sOf L i = true) (h : gOf L i a w) : ∃ g, a = .pointer (some ⟨g, 0, none⟩) ∧ g < w.heap.size := by
  unfold gOf at h
  unfold sOf at hs
  generalize L.getD i .any = s at *
  cases s with
  | val v => cases hs
  | rat q => cases hs
  | blk B l t =>
    obtain ⟨g, h1, h2, h3⟩ := h
    exact ⟨g, h1, h3.lt⟩
  | any => cases hs
end Go.Proofs.YtdlmhgijpgnilaaGreatDoor
