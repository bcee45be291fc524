/-
  DERIVED. GIVEN WITH THE SEED: THE CARDS: each row of YtifeekomegoijaaGreatDoorRows.lean that lists a variable, with what it lists TIED to the program's text (the seventh form; the later family's looks); each row that meets fmt, with fmt's text TOLD by the authors' own Lean function (tested against real Go, not proved from fmt's source: count such statements apart). THE CARD IS WHAT COUNTS. Prove the row's statement (the work); the ties are given (YtifeekomegoijaaGreatDoorTie.lean); close each card by the builder's one call (the guide's Derived/Test/ToyasCard.lean, 'card_holds'). Laid BY PROGRAM, IN A SANDBOX (cutbox-door.mjs). By AI agents, Wed Nov 11 2026. No macro, syntax, notation, axiom, sorry.
-/
import Derived.Test.YtifeekomegoijaaGreatDoorRows
import GoSem.ClaimSeven
namespace Go.Proofs.YtifeekomegoijaaGreatDoor
namespace Rows

/-- THE TIED CARD OF 'weightedlaw02.PolynomialCalculates'. -/
def polynomialCalculatesCard : Claim7 := { stood := { row := polynomialCalculatesRow, standIns := [], harness := (true, "9da56ae7fea7d8a6bd9d8e611ac37431547db114ae8d6562f222281433501d8c"), looks := true }, kinds := [], alts := [], laidByText := true, laidKinds := [.data, .data, .data], laidTests := true, laidLooks := .later }
def PolynomialCalculatesCardSaid : Prop := Claim7.holds Tryz.pinned (.plain (OpenSpec.ofChange polynomialCalculatesSpec)) polynomialCalculatesCard

/-- THE TIED CARD OF 'weightedlaw02.PolynomialMakes'. -/
def polynomialMakesCard : Claim7 := { stood := { row := polynomialMakesRow, standIns := [], harness := (true, "9da56ae7fea7d8a6bd9d8e611ac37431547db114ae8d6562f222281433501d8c"), looks := true }, kinds := [], alts := [], laidByText := true, laidKinds := [.data, .data, .data], laidTests := true, laidLooks := .later }
def PolynomialMakesCardSaid : Prop := Claim7.holds Tryz.pinned (.plain (OpenSpec.ofChange polynomialMakesSpec)) polynomialMakesCard

/-- THE TIED CARD OF 'weightedlaw02.PolynomialStars'. -/
def polynomialStarsCard : Claim7 := { stood := { row := polynomialStarsRow, standIns := [], harness := (true, "9da56ae7fea7d8a6bd9d8e611ac37431547db114ae8d6562f222281433501d8c"), looks := true }, kinds := [], alts := [], laidByText := true, laidKinds := [.data, .data, .data], laidTests := true, laidLooks := .later }
def PolynomialStarsCardSaid : Prop := Claim7.holds Tryz.pinned (.plain (OpenSpec.ofChange polynomialStarsSpec)) polynomialStarsCard

/-- THE TIED CARD OF 'weightedlaw02.PolynomialWrites'. -/
def polynomialWritesCard : Claim7 := { stood := { row := polynomialWritesRow, standIns := [], harness := (true, "9da56ae7fea7d8a6bd9d8e611ac37431547db114ae8d6562f222281433501d8c"), looks := true }, kinds := [], alts := [], laidByText := true, laidKinds := [.data, .data, .data, .data, .sentinel, .sentinel, .pinned], laidTests := true, laidLooks := .later }
def PolynomialWritesCardSaid : Prop := Claim7.holds Tryz.pinned (.plain (OpenSpec.ofChange polynomialWritesSpec)) polynomialWritesCard

/-- THE TIED CARD OF 'weightedlaw02.PolynomialIsARing'. -/
def polynomialIsARingCard : Claim7 := { stood := { row := polynomialIsARingRow, standIns := [], harness := (true, "9da56ae7fea7d8a6bd9d8e611ac37431547db114ae8d6562f222281433501d8c"), looks := true }, kinds := [], alts := [], laidByText := true, laidKinds := [.data, .data, .data], laidTests := true, laidLooks := .later }
def PolynomialIsARingCardSaid : Prop := Claim7.holds Tryz.pinned (.plain (OpenSpec.ofChange polynomialIsARingSpec)) polynomialIsARingCard

/-- THE TIED CARD OF 'weightedlaw02.PolynomialStarSolves'. -/
def polynomialStarSolvesCard : Claim7 := { stood := { row := polynomialStarSolvesRow, standIns := [], harness := (true, "9da56ae7fea7d8a6bd9d8e611ac37431547db114ae8d6562f222281433501d8c"), looks := true }, kinds := [], alts := [], laidByText := true, laidKinds := [.data, .data, .data], laidTests := true, laidLooks := .later }
def PolynomialStarSolvesCardSaid : Prop := Claim7.holds Tryz.pinned (.plain (OpenSpec.ofChange polynomialStarSolvesSpec)) polynomialStarSolvesCard

/-- THE TIED CARD OF 'weightedlaw02.PolynomialEvaluates'. -/
def polynomialEvaluatesCard : Claim7 := { stood := { row := polynomialEvaluatesRow, standIns := [], harness := (true, "9da56ae7fea7d8a6bd9d8e611ac37431547db114ae8d6562f222281433501d8c"), looks := true }, kinds := [], alts := [], laidByText := true, laidKinds := [.data, .data, .data], laidTests := true, laidLooks := .later }
def PolynomialEvaluatesCardSaid : Prop := Claim7.holds Tryz.pinned (.plain (OpenSpec.ofChange polynomialEvaluatesSpec)) polynomialEvaluatesCard

/-- THE TIED CARD OF 'weightedlaw02.PolynomialReadsBack'. -/
def polynomialReadsBackCard : Claim7 := { stood := { row := polynomialReadsBackRow, standIns := [], harness := (true, "9da56ae7fea7d8a6bd9d8e611ac37431547db114ae8d6562f222281433501d8c"), looks := true }, kinds := [], alts := [], laidByText := true, laidKinds := [.data, .data, .data, .data, .sentinel, .sentinel, .pinned], laidTests := true, laidLooks := .later }
def PolynomialReadsBackCardSaid : Prop := Claim7.holds Tryz.pinned (.plain (OpenSpec.ofChange polynomialReadsBackSpec)) polynomialReadsBackCard

/-- THE SECOND FORM's CARD OF 'weightedlaw02.PolynomialCalculates'. -/
def polynomialCalculatesUptoCard : Claim7 := { stood := { row := polynomialCalculatesUptoRow, standIns := [], harness := (true, "9da56ae7fea7d8a6bd9d8e611ac37431547db114ae8d6562f222281433501d8c"), looks := true }, kinds := [], alts := [], laidByText := true, laidKinds := [.data, .data, .data], laidTests := true, laidLooks := .later }
def PolynomialCalculatesUptoCardSaid : Prop := Claim7.holds Tryz.pinned (.plain (OpenSpec.upto polynomialCalculatesSpec)) polynomialCalculatesUptoCard

/-- THE SECOND FORM's CARD OF 'weightedlaw02.PolynomialMakes'. -/
def polynomialMakesUptoCard : Claim7 := { stood := { row := polynomialMakesUptoRow, standIns := [], harness := (true, "9da56ae7fea7d8a6bd9d8e611ac37431547db114ae8d6562f222281433501d8c"), looks := true }, kinds := [], alts := [], laidByText := true, laidKinds := [.data, .data, .data], laidTests := true, laidLooks := .later }
def PolynomialMakesUptoCardSaid : Prop := Claim7.holds Tryz.pinned (.plain (OpenSpec.upto polynomialMakesSpec)) polynomialMakesUptoCard

/-- THE SECOND FORM's CARD OF 'weightedlaw02.PolynomialStars'. -/
def polynomialStarsUptoCard : Claim7 := { stood := { row := polynomialStarsUptoRow, standIns := [], harness := (true, "9da56ae7fea7d8a6bd9d8e611ac37431547db114ae8d6562f222281433501d8c"), looks := true }, kinds := [], alts := [], laidByText := true, laidKinds := [.data, .data, .data], laidTests := true, laidLooks := .later }
def PolynomialStarsUptoCardSaid : Prop := Claim7.holds Tryz.pinned (.plain (OpenSpec.upto polynomialStarsSpec)) polynomialStarsUptoCard

/-- THE SECOND FORM's CARD OF 'weightedlaw02.PolynomialWrites'. -/
def polynomialWritesUptoCard : Claim7 := { stood := { row := polynomialWritesUptoRow, standIns := [], harness := (true, "9da56ae7fea7d8a6bd9d8e611ac37431547db114ae8d6562f222281433501d8c"), looks := true }, kinds := [], alts := [], laidByText := true, laidKinds := [.data, .data, .data, .data, .sentinel, .sentinel, .pinned], laidTests := true, laidLooks := .later }
def PolynomialWritesUptoCardSaid : Prop := Claim7.holds Tryz.pinned (.plain (OpenSpec.upto polynomialWritesSpec)) polynomialWritesUptoCard

/-- THE SECOND FORM's CARD OF 'weightedlaw02.PolynomialIsARing'. -/
def polynomialIsARingUptoCard : Claim7 := { stood := { row := polynomialIsARingUptoRow, standIns := [], harness := (true, "9da56ae7fea7d8a6bd9d8e611ac37431547db114ae8d6562f222281433501d8c"), looks := true }, kinds := [], alts := [], laidByText := true, laidKinds := [.data, .data, .data], laidTests := true, laidLooks := .later }
def PolynomialIsARingUptoCardSaid : Prop := Claim7.holds Tryz.pinned (.plain (OpenSpec.upto polynomialIsARingSpec)) polynomialIsARingUptoCard

/-- THE SECOND FORM's CARD OF 'weightedlaw02.PolynomialStarSolves'. -/
def polynomialStarSolvesUptoCard : Claim7 := { stood := { row := polynomialStarSolvesUptoRow, standIns := [], harness := (true, "9da56ae7fea7d8a6bd9d8e611ac37431547db114ae8d6562f222281433501d8c"), looks := true }, kinds := [], alts := [], laidByText := true, laidKinds := [.data, .data, .data], laidTests := true, laidLooks := .later }
def PolynomialStarSolvesUptoCardSaid : Prop := Claim7.holds Tryz.pinned (.plain (OpenSpec.upto polynomialStarSolvesSpec)) polynomialStarSolvesUptoCard

/-- THE SECOND FORM's CARD OF 'weightedlaw02.PolynomialEvaluates'. -/
def polynomialEvaluatesUptoCard : Claim7 := { stood := { row := polynomialEvaluatesUptoRow, standIns := [], harness := (true, "9da56ae7fea7d8a6bd9d8e611ac37431547db114ae8d6562f222281433501d8c"), looks := true }, kinds := [], alts := [], laidByText := true, laidKinds := [.data, .data, .data], laidTests := true, laidLooks := .later }
def PolynomialEvaluatesUptoCardSaid : Prop := Claim7.holds Tryz.pinned (.plain (OpenSpec.upto polynomialEvaluatesSpec)) polynomialEvaluatesUptoCard

/-- THE SECOND FORM's CARD OF 'weightedlaw02.PolynomialReadsBack'. -/
def polynomialReadsBackUptoCard : Claim7 := { stood := { row := polynomialReadsBackUptoRow, standIns := [], harness := (true, "9da56ae7fea7d8a6bd9d8e611ac37431547db114ae8d6562f222281433501d8c"), looks := true }, kinds := [], alts := [], laidByText := true, laidKinds := [.data, .data, .data, .data, .sentinel, .sentinel, .pinned], laidTests := true, laidLooks := .later }
def PolynomialReadsBackUptoCardSaid : Prop := Claim7.holds Tryz.pinned (.plain (OpenSpec.upto polynomialReadsBackSpec)) polynomialReadsBackUptoCard
end Rows
end Go.Proofs.YtifeekomegoijaaGreatDoor
