import Derived.Test.YtifeekomegoijaaGreatDoorRows
import Derived.Test.YtifeekomegoijaaGreatDoorY15
import Derived.Test.YtifeekomegoijaaGreatDoorY42
set_option linter.unusedVariables false
set_option linter.unusedSimpArgs false
namespace Go.Proofs.YtifeekomegoijaaGreatDoor
open Go Go.ChangeShapes Go.WideShapes Go.RowKit
def lay12 : List (String × DataW Unit) := Rows.polynomialWritesRow.laid
theorem tabis_of12 {W : World} {name : String} {zs : List Int} {k : IntKind} {g : Nat} {t e : TypeId} {n : Nat} (h : laidMetH Tryz.prog lay12 W) (hf : lay12.filter (fun x => x.1 == name) = [(name, Lib.tabData k zs)]) (hnh : ([(name, Lib.tabData (H := Unit) k zs)].all fun x => x.2.handleName?.isNone) = true)
 (hg : Tryz.prog.globalNamed name = some g) (hty : (Tryz.prog.globals[g]?).map (·.type) = some t) (ht : Tryz.prog.underlying t = some (.array n e)) (he : Tryz.prog.underlying e = some (.int k)) (hce : Tryz.prog.cellsOf e = 1) (hct : Tryz.prog.cellsOf t = n) : Lib.TabIs Tryz.prog W name k zs := by
 have h1 := h.filter (fun x => x.1 == name)
 rw [hf, MakeChecks.laidMetH_plain _ _ _ hnh] at h1
 exact Lib.tabIs_of_head hg hty ht he hce hct h1
theorem syn_of12 {W : World} (h : laidMetH Tryz.prog lay12 W) : ∃ tp p, W.var? Tryz.prog "strconv.ErrSyntax" = some #[.iface tp p] := by
 have h1 := h.filter (fun x => x.1 == "strconv.ErrSyntax")
 have hf : lay12.filter (fun x => x.1 == "strconv.ErrSyntax") = [("strconv.ErrSyntax", Rows.laid_strconv_ErrSyntax)] := by rfl
 rw [hf, MakeChecks.laidMetH_plain _ _ _ (by rfl)] at h1
 obtain ⟨ps, ⟨g0, t0, cs0, f0, p0, q0, hg0, ht0, hv0, hd0, _, _⟩, _⟩ := h1
 have hg : Tryz.prog.globalNamed "strconv.ErrSyntax" = some 7 := by kernel_rfl
 have ht : (Tryz.prog.globals[7]?).map (·.type) = some 91 := by kernel_rfl
 obtain rfl := Option.some.inj (hg.symm.trans hg0)
 obtain rfl := Option.some.inj (ht.symm.trans ht0)
 obtain ⟨f1, u, v, hcs, _, _⟩ := iface_of_trod Tryz.underlying91 hd0
 obtain ⟨l⟩ := cs0
 exact ⟨u, v, by rw [hv0]; congr 2⟩
theorem rng_of12 {W : World} (h : laidMetH Tryz.prog lay12 W) : ∃ tp p, W.var? Tryz.prog "strconv.ErrRange" = some #[.iface tp p] := by
 have h1 := h.filter (fun x => x.1 == "strconv.ErrRange")
 have hf : lay12.filter (fun x => x.1 == "strconv.ErrRange") = [("strconv.ErrRange", Rows.laid_strconv_ErrRange)] := by rfl
 rw [hf, MakeChecks.laidMetH_plain _ _ _ (by rfl)] at h1
 obtain ⟨ps, ⟨g0, t0, cs0, f0, p0, q0, hg0, ht0, hv0, hd0, _, _⟩, _⟩ := h1
 have hg : Tryz.prog.globalNamed "strconv.ErrRange" = some 8 := by kernel_rfl
 have ht : (Tryz.prog.globals[8]?).map (·.type) = some 91 := by kernel_rfl
 obtain rfl := Option.some.inj (hg.symm.trans hg0)
 obtain rfl := Option.some.inj (ht.symm.trans ht0)
 obtain ⟨f1, u, v, hcs, _, _⟩ := iface_of_trod Tryz.underlying91 hd0
 obtain ⟨l⟩ := cs0
 exact ⟨u, v, by rw [hv0]; congr 2⟩
theorem txg_of12 {W : World} (h : laidMetH Tryz.prog lay12 W) (hs : W.ShapedOpen Tryz.prog) : TxG W := by
 have t64 : Lib.TabIs Tryz.prog W "math/bits.deBruijn64tab" .u8 (Lib.deBruijn64tab.map fun n : Nat => (n : Int)) := tabis_of12 h (by rfl) (by rfl) (g := 1) (t := 214) (e := 5) (n := 64) (by kernel_rfl) (by kernel_rfl) Tryz.underlying214 Tryz.underlying5 (by kernel_rfl) (by kernel_rfl)
 have t32 : Lib.TabIs Tryz.prog W "math/bits.deBruijn32tab" .u8 (Lib.deBruijn32tab.map fun n : Nat => (n : Int)) := tabis_of12 h (by rfl) (by rfl) (g := 2) (t := 215) (e := 5) (n := 32) (by kernel_rfl) (by kernel_rfl) Tryz.underlying215 Tryz.underlying5 (by kernel_rfl) (by kernel_rfl)
 have p10 : Lib.TabIs Tryz.prog W "internal/strconv.uint64pow10" .u64 Lib.pow10Tab := tabis_of12 h (by rfl) (by rfl) (g := 4) (t := 227) (e := 132) (n := 20) (by kernel_rfl) (by kernel_rfl) Tryz.underlying227 Tryz.underlying132 (by kernel_rfl) (by kernel_rfl)
 refine ⟨⟨⟨fun j hj => ?_, fun j hj => ?_⟩, p10, syn_of12 h, cell_of_shapedOpen_int hs (zero := #[.int .i64 0]) (t := 3) (by decide) (by kernel_rfl) rfl (by kernel_rfl) (by kernel_rfl) Tryz.underlying3⟩, rng_of12 h⟩
 ·have := t64.cell (g := 1) (by kernel_rfl) j (by simpa using hj)
  rw [this]
  congr 2
  simp [List.getD_eq_getElem?_getD, List.getElem?_map, hj]
 ·have := t32.cell (g := 2) (by kernel_rfl) j (by simpa using hj)
  rw [this]
  congr 2
  simp [List.getD_eq_getElem?_getD, List.getElem?_map, hj]
theorem door_met12 (os : Os) (args : Array Value) : laidMetH Tryz.prog lay12 ((World.laidAll Tryz.prog os lay12).forCall (fun _ _ => 0) ⟨#[], args, []⟩).memory := by
 rw [MakeChecks.laidMetH_plain _ _ _ (by kernel_rfl)]
 exact laidMet_laidAll _ (by kernel_rfl) (by kernel_rfl)
end Go.Proofs.YtifeekomegoijaaGreatDoor
