/-
  DERIVED. GIVEN WITH THE SEED: THE CARDS: each row of YtdlmhgijpgnilaaGreatDoorRows.lean that lists a variable, with what it lists TIED to the program's text (the seventh form; the later family's looks); each row that meets fmt, with fmt's text TOLD by the authors' own Lean function (tested against real Go, not proved from fmt's source: count such statements apart). THE CARD IS WHAT COUNTS. Prove the row's statement (the work); the ties are given (YtdlmhgijpgnilaaGreatDoorTie.lean); close each card by the builder's one call (the guide's Derived/Test/ToyasCard.lean, 'card_holds'). Laid BY PROGRAM, IN A SANDBOX (cutbox-door.mjs). By AI agents, Wed Nov 11 2026. No macro, syntax, notation, axiom, sorry.
-/
import Derived.Test.YtdlmhgijpgnilaaGreatDoorRows
import GoSem.ClaimSeven
namespace Go.Proofs.YtdlmhgijpgnilaaGreatDoor
namespace Rows

/-- THE TIED CARD OF 'weightedlaw05.WordsHaveRanks'. -/
def wordsHaveRanksCard : Claim7 := { stood := { row := wordsHaveRanksRow, standIns := [], harness := (true, "32a23d990e45bf29e3ac4bcc59d61b6543776d42794a7be9542cc419573d3c66"), looks := false }, kinds := [], alts := [], laidByText := true, laidKinds := [.data, .data], laidTests := true, laidLooks := .later }
def WordsHaveRanksCardSaid : Prop := Claim7.holds Tryz.pinned (.plain (OpenSpec.ofChange wordsHaveRanksSpec)) wordsHaveRanksCard

/-- THE TIED CARD OF 'weightedlaw05.WordsWrite'. -/
def wordsWriteCard : Claim7 := { stood := { row := wordsWriteRow, standIns := [], harness := (true, "32a23d990e45bf29e3ac4bcc59d61b6543776d42794a7be9542cc419573d3c66"), looks := false }, kinds := [], alts := [], laidByText := true, laidKinds := [.data, .data, .data, .pinned], laidTests := true, laidLooks := .later }
def WordsWriteCardSaid : Prop := Claim7.holds Tryz.pinned (.plain (OpenSpec.ofChange wordsWriteSpec)) wordsWriteCard

/-- THE TIED CARD OF 'weightedlaw05.WordsRankBack'. -/
def wordsRankBackCard : Claim7 := { stood := { row := wordsRankBackRow, standIns := [], harness := (true, "32a23d990e45bf29e3ac4bcc59d61b6543776d42794a7be9542cc419573d3c66"), looks := false }, kinds := [], alts := [], laidByText := true, laidKinds := [.data, .data], laidTests := true, laidLooks := .later }
def WordsRankBackCardSaid : Prop := Claim7.holds Tryz.pinned (.plain (OpenSpec.ofChange wordsRankBackSpec)) wordsRankBackCard

/-- THE TIED CARD OF 'weightedlaw05.WordsReadBack'. -/
def wordsReadBackCard : Claim7 := { stood := { row := wordsReadBackRow, standIns := [], harness := (true, "32a23d990e45bf29e3ac4bcc59d61b6543776d42794a7be9542cc419573d3c66"), looks := false }, kinds := [], alts := [], laidByText := true, laidKinds := [.data, .data, .data, .pinned], laidTests := true, laidLooks := .later }
def WordsReadBackCardSaid : Prop := Claim7.holds Tryz.pinned (.plain (OpenSpec.ofChange wordsReadBackSpec)) wordsReadBackCard

/-- THE SECOND FORM's CARD OF 'weightedlaw05.WordsHaveRanks'. -/
def wordsHaveRanksUptoCard : Claim7 := { stood := { row := wordsHaveRanksUptoRow, standIns := [], harness := (true, "32a23d990e45bf29e3ac4bcc59d61b6543776d42794a7be9542cc419573d3c66"), looks := false }, kinds := [], alts := [], laidByText := true, laidKinds := [.data, .data], laidTests := true, laidLooks := .later }
def WordsHaveRanksUptoCardSaid : Prop := Claim7.holds Tryz.pinned (.plain (OpenSpec.upto wordsHaveRanksSpec)) wordsHaveRanksUptoCard

/-- THE SECOND FORM's CARD OF 'weightedlaw05.WordsWrite'. -/
def wordsWriteUptoCard : Claim7 := { stood := { row := wordsWriteUptoRow, standIns := [], harness := (true, "32a23d990e45bf29e3ac4bcc59d61b6543776d42794a7be9542cc419573d3c66"), looks := false }, kinds := [], alts := [], laidByText := true, laidKinds := [.data, .data, .data, .pinned], laidTests := true, laidLooks := .later }
def WordsWriteUptoCardSaid : Prop := Claim7.holds Tryz.pinned (.plain (OpenSpec.upto wordsWriteSpec)) wordsWriteUptoCard

/-- THE SECOND FORM's CARD OF 'weightedlaw05.WordsRankBack'. -/
def wordsRankBackUptoCard : Claim7 := { stood := { row := wordsRankBackUptoRow, standIns := [], harness := (true, "32a23d990e45bf29e3ac4bcc59d61b6543776d42794a7be9542cc419573d3c66"), looks := false }, kinds := [], alts := [], laidByText := true, laidKinds := [.data, .data], laidTests := true, laidLooks := .later }
def WordsRankBackUptoCardSaid : Prop := Claim7.holds Tryz.pinned (.plain (OpenSpec.upto wordsRankBackSpec)) wordsRankBackUptoCard

/-- THE SECOND FORM's CARD OF 'weightedlaw05.WordsReadBack'. -/
def wordsReadBackUptoCard : Claim7 := { stood := { row := wordsReadBackUptoRow, standIns := [], harness := (true, "32a23d990e45bf29e3ac4bcc59d61b6543776d42794a7be9542cc419573d3c66"), looks := false }, kinds := [], alts := [], laidByText := true, laidKinds := [.data, .data, .data, .pinned], laidTests := true, laidLooks := .later }
def WordsReadBackUptoCardSaid : Prop := Claim7.holds Tryz.pinned (.plain (OpenSpec.upto wordsReadBackSpec)) wordsReadBackUptoCard
end Rows
end Go.Proofs.YtdlmhgijpgnilaaGreatDoor
