/-
  DERIVED. GIVEN WITH THE SEED: THE CARDS: each row of YtdlmhgijpgnilaaDoorRows.lean that lists a variable, with what it lists TIED to the program's text (the seventh form; the later family's looks); each row that meets fmt, with fmt's text TOLD by the authors' own Lean function (tested against real Go, not proved from fmt's source: count such statements apart). THE CARD IS WHAT COUNTS. Prove the row's statement (the work); the ties are given (YtdlmhgijpgnilaaDoorTie.lean); close each card by the builder's one call (the guide's Derived/Test/ToyasCard.lean, 'card_holds'). Laid BY PROGRAM, IN A SANDBOX (cutbox-door.mjs). By AI agents, Wed Nov 11 2026. No macro, syntax, notation, axiom, sorry.
-/
import Derived.Test.YtdlmhgijpgnilaaDoorRows
import GoSem.ClaimSeven
namespace Go.Proofs.YtdlmhgijpgnilaaDoor
namespace Rows

/-- THE TIED CARD OF 'weightedlaw05.WordsFollow'. -/
def wordsFollowCard : Claim7 := { stood := { row := wordsFollowRow, standIns := [], harness := (true, "2529956f23ab503b6d57601869bfd0ace9907aa7aa3829d5e60d0d95c13c7f1b"), looks := false }, kinds := [], alts := [], laidByText := true, laidKinds := [.data, .data], laidTests := true, laidLooks := .later }
def WordsFollowCardSaid : Prop := Claim7.holds Tryd.pinned (.plain (OpenSpec.ofChange wordsFollowSpec)) wordsFollowCard

/-- THE SECOND FORM's CARD OF 'weightedlaw05.WordsFollow'. -/
def wordsFollowUptoCard : Claim7 := { stood := { row := wordsFollowUptoRow, standIns := [], harness := (true, "2529956f23ab503b6d57601869bfd0ace9907aa7aa3829d5e60d0d95c13c7f1b"), looks := false }, kinds := [], alts := [], laidByText := true, laidKinds := [.data, .data], laidTests := true, laidLooks := .later }
def WordsFollowUptoCardSaid : Prop := Claim7.holds Tryd.pinned (.plain (OpenSpec.upto wordsFollowSpec)) wordsFollowUptoCard
end Rows
end Go.Proofs.YtdlmhgijpgnilaaDoor
