/- The listed tables, as the law's row has them: what the walks want of them. -/
import Derived.Test.YtdlmhgijpgnilaaDoorRows
import Derived.Test.YtdlmhgijpgnilaaDoorQ23
import Derived.Test.YtdlmhgijpgnilaaDoorQ16
set_option linter.unusedVariables false
set_option linter.unusedSimpArgs false
namespace Go.Proofs.YtdlmhgijpgnilaaDoor
open Go Go.ChangeShapes Go.WideShapes Go.RowKit

def lay6 : List (String × DataW Unit) := Rows.wordsFollowRow.laid
theorem tabis_of6 {W : World} {name : String} {zs : List Int} {k : IntKind} {g : Nat} {t e : TypeId} {n : Nat} (h : laidMetH Tryd.prog lay6 W) (hf : lay6.filter (fun x => x.1 == name) = [(name, Lib.tabData k zs)]) (hnh : ([(name, Lib.tabData (H := Unit) k zs)].all fun x => x.2.handleName?.isNone) = true)
    (hg : Tryd.prog.globalNamed name = some g) (hty : (Tryd.prog.globals[g]?).map (·.type) = some t) (ht : Tryd.prog.underlying t = some (.array n e)) (he : Tryd.prog.underlying e = some (.int k)) (hce : Tryd.prog.cellsOf e = 1) (hct : Tryd.prog.cellsOf t = n) : Lib.TabIs Tryd.prog W name k zs := by
  have h1 := h.filter (fun x => x.1 == name)
  rw [hf, MakeChecks.laidMetH_plain _ _ _ hnh] at h1
  exact Lib.tabIs_of_head hg hty ht he hce hct h1
theorem tab_of6 {W : World} (h : laidMetH Tryd.prog lay6 W) : Tab W := by
  have t64 : Lib.TabIs Tryd.prog W "math/bits.deBruijn64tab" .u8 (Lib.deBruijn64tab.map fun n : Nat => (n : Int)) := tabis_of6 h (by rfl) (by rfl) (g := 0) (t := 88) (e := 5) (n := 64) (by kernel_rfl) (by kernel_rfl) Tryd.underlying88 Tryd.underlying5 (by kernel_rfl) (by kernel_rfl)
  have t32 : Lib.TabIs Tryd.prog W "math/bits.deBruijn32tab" .u8 (Lib.deBruijn32tab.map fun n : Nat => (n : Int)) := tabis_of6 h (by rfl) (by rfl) (g := 1) (t := 89) (e := 5) (n := 32) (by kernel_rfl) (by kernel_rfl) Tryd.underlying89 Tryd.underlying5 (by kernel_rfl) (by kernel_rfl)
  refine ⟨fun j hj => ?_, fun j hj => ?_⟩
  · have := t64.cell (g := 0) (by kernel_rfl) j (by simpa using hj)
    rw [this]
    congr 2
    simp [List.getD_eq_getElem?_getD, List.getElem?_map, hj]
  · have := t32.cell (g := 1) (by kernel_rfl) j (by simpa using hj)
    rw [this]
    congr 2
    simp [List.getD_eq_getElem?_getD, List.getElem?_map, hj]
theorem door_met6 (os : Os) (args : Array Value) : laidMetH Tryd.prog lay6 ((World.laidAll Tryd.prog os lay6).forCall (fun _ _ => 0) ⟨#[], args, []⟩).memory := by
  rw [MakeChecks.laidMetH_plain _ _ _ (by kernel_rfl)]
  exact laidMet_laidAll _ (by kernel_rfl) (by kernel_rfl)
end Go.Proofs.YtdlmhgijpgnilaaDoor
