/- texts -/
import Derived.Test.YtifeekomegoijaaGreatDoorR46
import Derived.Test.YtifeekomegoijaaGreatDoorR45
set_option linter.unusedVariables false
set_option linter.unusedSimpArgs false
namespace Go.Proofs.YtifeekomegoijaaGreatDoor
open Go.RowKit

theorem c9_of {w : World} {g : Nat} {z0 z1 z2 z3 z4 z5 z6 z7 z8 : Value} {t : TypeId} (h : Cs w g [z0, z1, z2, z3, z4, z5, z6, z7, z8] t) :
  w.cell? ⟨g, 0, none⟩ = some z0 ∧ w.cell? ⟨g, 1, none⟩ = some z1 ∧ w.cell? ⟨g, 2, none⟩ = some z2 ∧ w.cell? ⟨g, 3, none⟩ = some z3 ∧ w.cell? ⟨g, 4, none⟩ = some z4 ∧ w.cell? ⟨g, 5, none⟩ = some z5 ∧ w.cell? ⟨g, 6, none⟩ = some z6 ∧ w.cell? ⟨g, 7, none⟩ = some z7 ∧ w.cell? ⟨g, 8, none⟩ = some z8 :=
 ⟨h.cell rfl, h.cell rfl, h.cell rfl, h.cell rfl, h.cell rfl, h.cell rfl, h.cell rfl, h.cell rfl, h.cell rfl⟩
def ar3 (x y z : Rat) : Nat → Rat
 | 0 => x
 | 1 => y
 | _ => z
theorem sz_ar3 {x y z : Rat} {L : Nat} (hx : Sz x L) (hy : Sz y L) (hz : Sz z L) : ∀ i, Sz (ar3 x y z i) L
 | 0 => hx
 | 1 => hy
 | _ + 2 => hz
end Go.Proofs.YtifeekomegoijaaGreatDoor
