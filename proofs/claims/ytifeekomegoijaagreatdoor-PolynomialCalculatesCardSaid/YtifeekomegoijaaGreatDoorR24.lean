/- texts -/
import Derived.Test.YtifeekomegoijaaGreatDoorRows
import Derived.Test.YtifeekomegoijaaGreatDoorR17
import Derived.Test.YtifeekomegoijaaGreatDoorR23
set_option linter.unusedVariables false
set_option linter.unusedSimpArgs false
namespace Go.Proofs.YtifeekomegoijaaGreatDoor
open Go Go.ChangeShapes Go.WideShapes Go.RowKit

def lay10 : List (String × DataW Unit) := Rows.polynomialIsARingRow.laid
theorem tabis_of10 {W : World} {name : String} {zs : List Int} {k : IntKind} {g : Nat} {t e : TypeId} {n : Nat} (h : laidMetH Tryz.prog lay10 W) (hf : lay10.filter (fun x => x.1 == name) = [(name, Lib.tabData k zs)]) (hnh : ([(name, Lib.tabData (H := Unit) k zs)].all fun x => x.2.handleName?.isNone) = true)
  (hg : Tryz.prog.globalNamed name = some g) (hty : (Tryz.prog.globals[g]?).map (·.type) = some t) (ht : Tryz.prog.underlying t = some (.array n e)) (he : Tryz.prog.underlying e = some (.int k)) (hce : Tryz.prog.cellsOf e = 1) (hct : Tryz.prog.cellsOf t = n) : Lib.TabIs Tryz.prog W name k zs := by
 have h1 := h.filter (fun x => x.1 == name)
 rw [hf, MakeChecks.laidMetH_plain _ _ _ hnh] at h1
 exact Lib.tabIs_of_head hg hty ht he hce hct h1
theorem tab_of10 {W : World} (h : laidMetH Tryz.prog lay10 W) : TxF W := by
 have t64 : Lib.TabIs Tryz.prog W "math/bits.deBruijn64tab" .u8 (Lib.deBruijn64tab.map fun n : Nat => (n : Int)) := tabis_of10 h (by rfl) (by rfl) (g := 1) (t := 214) (e := 5) (n := 64) (by kernel_rfl) (by kernel_rfl) Tryz.underlying214 Tryz.underlying5 (by kernel_rfl) (by kernel_rfl)
 have t32 : Lib.TabIs Tryz.prog W "math/bits.deBruijn32tab" .u8 (Lib.deBruijn32tab.map fun n : Nat => (n : Int)) := tabis_of10 h (by rfl) (by rfl) (g := 2) (t := 215) (e := 5) (n := 32) (by kernel_rfl) (by kernel_rfl) Tryz.underlying215 Tryz.underlying5 (by kernel_rfl) (by kernel_rfl)
 have p10 : Lib.TabIs Tryz.prog W "internal/strconv.uint64pow10" .u64 Lib.pow10Tab := tabis_of10 h (by rfl) (by rfl) (g := 4) (t := 227) (e := 132) (n := 20) (by kernel_rfl) (by kernel_rfl) Tryz.underlying227 Tryz.underlying132 (by kernel_rfl) (by kernel_rfl)
 refine ⟨⟨fun j hj => ?_, fun j hj => ?_⟩, p10⟩
 ·have := t64.cell (g := 1) (by kernel_rfl) j (by simpa using hj)
  rw [this]
  congr 2
  simp [List.getD_eq_getElem?_getD, List.getElem?_map, hj]
 ·have := t32.cell (g := 2) (by kernel_rfl) j (by simpa using hj)
  rw [this]
  congr 2
  simp [List.getD_eq_getElem?_getD, List.getElem?_map, hj]
theorem door_met10 (os : Os) (args : Array Value) : laidMetH Tryz.prog lay10 ((World.laidAll Tryz.prog os lay10).forCall (fun _ _ => 0) ⟨#[], args, []⟩).memory := by
 rw [MakeChecks.laidMetH_plain _ _ _ (by kernel_rfl)]
 exact laidMet_laidAll _ (by kernel_rfl) (by kernel_rfl)
section
variable {H : Type} {enc : TypeId × Value → H} {P : Program} {w : World} {base : Nat} {spare : Nat → Bool} {held : Bool}
end
end Go.Proofs.YtifeekomegoijaaGreatDoor
