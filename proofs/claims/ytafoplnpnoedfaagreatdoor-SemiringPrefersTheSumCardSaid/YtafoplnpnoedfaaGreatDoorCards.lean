/-
  DERIVED. GIVEN WITH THE SEED: THE CARDS: each row of YtafoplnpnoedfaaGreatDoorRows.lean that lists a variable, with what it lists TIED to the program's text (the seventh form; the later family's looks); each row that meets fmt, with fmt's text TOLD by the authors' own Lean function (tested against real Go, not proved from fmt's source: count such statements apart). THE CARD IS WHAT COUNTS. Prove the row's statement (the work); the ties are given (YtafoplnpnoedfaaGreatDoorTie.lean); close each card by the builder's one call (the guide's Derived/Test/ToyasCard.lean, 'card_holds'). Laid BY PROGRAM, IN A SANDBOX (cutbox-door.mjs). By AI agents, Wed Nov 11 2026. No macro, syntax, notation, axiom, sorry.
-/
import Derived.Test.YtafoplnpnoedfaaGreatDoorRows
import GoSem.ClaimSeven
namespace Go.Proofs.YtafoplnpnoedfaaGreatDoor
namespace Rows

/-- THE TIED CARD OF 'weightedlaw03.SemiringPrefersTheSum'. -/
def semiringPrefersTheSumCard : Claim7 := { stood := { row := semiringPrefersTheSumRow, standIns := [], harness := (true, "876e6647d7b0a89c0908b8d484250fe21dcbd8a4f97de5f6899cdf989bead114"), looks := true }, kinds := [], alts := [], laidByText := true, laidKinds := [.data, .data, .data, .data, .sentinel, .sentinel, .listed, .data, .pinned], laidTests := true, laidLooks := .later }
def SemiringPrefersTheSumCardSaid : Prop := Claim7.holds Tryz.pinned (.plain (OpenSpec.ofChange semiringPrefersTheSumSpec)) semiringPrefersTheSumCard

/-- THE SECOND FORM's CARD OF 'weightedlaw03.SemiringPrefersTheSum'. -/
def semiringPrefersTheSumUptoCard : Claim7 := { stood := { row := semiringPrefersTheSumUptoRow, standIns := [], harness := (true, "876e6647d7b0a89c0908b8d484250fe21dcbd8a4f97de5f6899cdf989bead114"), looks := true }, kinds := [], alts := [], laidByText := true, laidKinds := [.data, .data, .data, .data, .sentinel, .sentinel, .listed, .data, .pinned], laidTests := true, laidLooks := .later }
def SemiringPrefersTheSumUptoCardSaid : Prop := Claim7.holds Tryz.pinned (.plain (OpenSpec.upto semiringPrefersTheSumSpec)) semiringPrefersTheSumUptoCard
end Rows
end Go.Proofs.YtafoplnpnoedfaaGreatDoor
