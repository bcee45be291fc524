/-
  DERIVED. GIVEN WITH THE SEED: THE CARDS: each row of YthbhgelncdnmgaaGreatDoorRows.lean that lists a variable, with what it lists TIED to the program's text (the seventh form; the later family's looks); each row that meets fmt, with fmt's text TOLD by the authors' own Lean function (tested against real Go, not proved from fmt's source: count such statements apart). THE CARD IS WHAT COUNTS. Prove the row's statement (the work); the ties are given (YthbhgelncdnmgaaGreatDoorTie.lean); close each card by the builder's one call (the guide's Derived/Test/ToyasCard.lean, 'card_holds'). Laid BY PROGRAM, IN A SANDBOX (cutbox-door.mjs). By AI agents, Wed Nov 11 2026. No macro, syntax, notation, axiom, sorry.
-/
import Derived.Test.YthbhgelncdnmgaaGreatDoorRows
import GoSem.ClaimSeven
namespace Go.Proofs.YthbhgelncdnmgaaGreatDoor
namespace Rows

/-- THE TIED CARD OF 'weightedlaw03.SemiringChecks'. -/
def semiringChecksCard : Claim7 := { stood := { row := semiringChecksRow, standIns := [], harness := (true, "e7abad007e9696022afac0013b3f6f02e5a9d727193d0e0d1c1f1d3bdd6c3260"), looks := true }, kinds := [], alts := [], laidByText := true, laidKinds := [.data, .data, .data, .data, .sentinel, .sentinel, .listed, .data, .pinned], laidTests := true, laidLooks := .later }
def SemiringChecksCardSaid : Prop := Claim7.holds Tryz.pinned (.plain (OpenSpec.ofChange semiringChecksSpec)) semiringChecksCard

/-- THE TIED CARD OF 'weightedlaw03.SemiringCalculates'. -/
def semiringCalculatesCard : Claim7 := { stood := { row := semiringCalculatesRow, standIns := [], harness := (true, "e7abad007e9696022afac0013b3f6f02e5a9d727193d0e0d1c1f1d3bdd6c3260"), looks := true }, kinds := [], alts := [], laidByText := true, laidKinds := [.data, .data, .data, .data, .sentinel, .sentinel, .listed, .data, .pinned], laidTests := true, laidLooks := .later }
def SemiringCalculatesCardSaid : Prop := Claim7.holds Tryz.pinned (.plain (OpenSpec.ofChange semiringCalculatesSpec)) semiringCalculatesCard

/-- THE TIED CARD OF 'weightedlaw03.SemiringFollowsLaws'. -/
def semiringFollowsLawsCard : Claim7 := { stood := { row := semiringFollowsLawsRow, standIns := [], harness := (true, "e7abad007e9696022afac0013b3f6f02e5a9d727193d0e0d1c1f1d3bdd6c3260"), looks := true }, kinds := [], alts := [], laidByText := true, laidKinds := [.data, .data, .data, .data, .sentinel, .sentinel, .listed, .data, .pinned], laidTests := true, laidLooks := .later }
def SemiringFollowsLawsCardSaid : Prop := Claim7.holds Tryz.pinned (.plain (OpenSpec.ofChange semiringFollowsLawsSpec)) semiringFollowsLawsCard

/-- THE TIED CARD OF 'weightedlaw03.SemiringStarSolves'. -/
def semiringStarSolvesCard : Claim7 := { stood := { row := semiringStarSolvesRow, standIns := [], harness := (true, "e7abad007e9696022afac0013b3f6f02e5a9d727193d0e0d1c1f1d3bdd6c3260"), looks := true }, kinds := [], alts := [], laidByText := true, laidKinds := [.data, .data, .data, .data, .sentinel, .sentinel, .listed, .data, .pinned], laidTests := true, laidLooks := .later }
def SemiringStarSolvesCardSaid : Prop := Claim7.holds Tryz.pinned (.plain (OpenSpec.ofChange semiringStarSolvesSpec)) semiringStarSolvesCard

/-- THE TIED CARD OF 'weightedlaw03.SemiringReadsBack'. -/
def semiringReadsBackCard : Claim7 := { stood := { row := semiringReadsBackRow, standIns := [], harness := (true, "e7abad007e9696022afac0013b3f6f02e5a9d727193d0e0d1c1f1d3bdd6c3260"), looks := true }, kinds := [], alts := [], laidByText := true, laidKinds := [.data, .data, .data, .data, .sentinel, .sentinel, .listed, .data, .pinned], laidTests := true, laidLooks := .later }
def SemiringReadsBackCardSaid : Prop := Claim7.holds Tryz.pinned (.plain (OpenSpec.ofChange semiringReadsBackSpec)) semiringReadsBackCard

/-- THE TIED CARD OF 'weightedlaw03.SemiringTakesStrangersAsZero'. -/
def semiringTakesStrangersAsZeroCard : Claim7 := { stood := { row := semiringTakesStrangersAsZeroRow, standIns := [], harness := (true, "e7abad007e9696022afac0013b3f6f02e5a9d727193d0e0d1c1f1d3bdd6c3260"), looks := true }, kinds := [], alts := [], laidByText := true, laidKinds := [.data, .data, .data, .data, .sentinel, .sentinel, .listed, .data, .pinned], laidTests := true, laidLooks := .later }
def SemiringTakesStrangersAsZeroCardSaid : Prop := Claim7.holds Tryz.pinned (.plain (OpenSpec.ofChange semiringTakesStrangersAsZeroSpec)) semiringTakesStrangersAsZeroCard

/-- THE SECOND FORM's CARD OF 'weightedlaw03.SemiringChecks'. -/
def semiringChecksUptoCard : Claim7 := { stood := { row := semiringChecksUptoRow, standIns := [], harness := (true, "e7abad007e9696022afac0013b3f6f02e5a9d727193d0e0d1c1f1d3bdd6c3260"), looks := true }, kinds := [], alts := [], laidByText := true, laidKinds := [.data, .data, .data, .data, .sentinel, .sentinel, .listed, .data, .pinned], laidTests := true, laidLooks := .later }
def SemiringChecksUptoCardSaid : Prop := Claim7.holds Tryz.pinned (.plain (OpenSpec.upto semiringChecksSpec)) semiringChecksUptoCard

/-- THE SECOND FORM's CARD OF 'weightedlaw03.SemiringCalculates'. -/
def semiringCalculatesUptoCard : Claim7 := { stood := { row := semiringCalculatesUptoRow, standIns := [], harness := (true, "e7abad007e9696022afac0013b3f6f02e5a9d727193d0e0d1c1f1d3bdd6c3260"), looks := true }, kinds := [], alts := [], laidByText := true, laidKinds := [.data, .data, .data, .data, .sentinel, .sentinel, .listed, .data, .pinned], laidTests := true, laidLooks := .later }
def SemiringCalculatesUptoCardSaid : Prop := Claim7.holds Tryz.pinned (.plain (OpenSpec.upto semiringCalculatesSpec)) semiringCalculatesUptoCard

/-- THE SECOND FORM's CARD OF 'weightedlaw03.SemiringFollowsLaws'. -/
def semiringFollowsLawsUptoCard : Claim7 := { stood := { row := semiringFollowsLawsUptoRow, standIns := [], harness := (true, "e7abad007e9696022afac0013b3f6f02e5a9d727193d0e0d1c1f1d3bdd6c3260"), looks := true }, kinds := [], alts := [], laidByText := true, laidKinds := [.data, .data, .data, .data, .sentinel, .sentinel, .listed, .data, .pinned], laidTests := true, laidLooks := .later }
def SemiringFollowsLawsUptoCardSaid : Prop := Claim7.holds Tryz.pinned (.plain (OpenSpec.upto semiringFollowsLawsSpec)) semiringFollowsLawsUptoCard

/-- THE SECOND FORM's CARD OF 'weightedlaw03.SemiringStarSolves'. -/
def semiringStarSolvesUptoCard : Claim7 := { stood := { row := semiringStarSolvesUptoRow, standIns := [], harness := (true, "e7abad007e9696022afac0013b3f6f02e5a9d727193d0e0d1c1f1d3bdd6c3260"), looks := true }, kinds := [], alts := [], laidByText := true, laidKinds := [.data, .data, .data, .data, .sentinel, .sentinel, .listed, .data, .pinned], laidTests := true, laidLooks := .later }
def SemiringStarSolvesUptoCardSaid : Prop := Claim7.holds Tryz.pinned (.plain (OpenSpec.upto semiringStarSolvesSpec)) semiringStarSolvesUptoCard

/-- THE SECOND FORM's CARD OF 'weightedlaw03.SemiringReadsBack'. -/
def semiringReadsBackUptoCard : Claim7 := { stood := { row := semiringReadsBackUptoRow, standIns := [], harness := (true, "e7abad007e9696022afac0013b3f6f02e5a9d727193d0e0d1c1f1d3bdd6c3260"), looks := true }, kinds := [], alts := [], laidByText := true, laidKinds := [.data, .data, .data, .data, .sentinel, .sentinel, .listed, .data, .pinned], laidTests := true, laidLooks := .later }
def SemiringReadsBackUptoCardSaid : Prop := Claim7.holds Tryz.pinned (.plain (OpenSpec.upto semiringReadsBackSpec)) semiringReadsBackUptoCard

/-- THE SECOND FORM's CARD OF 'weightedlaw03.SemiringTakesStrangersAsZero'. -/
def semiringTakesStrangersAsZeroUptoCard : Claim7 := { stood := { row := semiringTakesStrangersAsZeroUptoRow, standIns := [], harness := (true, "e7abad007e9696022afac0013b3f6f02e5a9d727193d0e0d1c1f1d3bdd6c3260"), looks := true }, kinds := [], alts := [], laidByText := true, laidKinds := [.data, .data, .data, .data, .sentinel, .sentinel, .listed, .data, .pinned], laidTests := true, laidLooks := .later }
def SemiringTakesStrangersAsZeroUptoCardSaid : Prop := Claim7.holds Tryz.pinned (.plain (OpenSpec.upto semiringTakesStrangersAsZeroSpec)) semiringTakesStrangersAsZeroUptoCard
end Rows
end Go.Proofs.YthbhgelncdnmgaaGreatDoor
