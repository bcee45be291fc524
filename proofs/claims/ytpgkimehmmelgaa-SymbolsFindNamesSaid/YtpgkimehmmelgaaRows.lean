/-
  No cell of these rows narrows 'for every input' (looked for: loops, veiled, ifaces, maps, wideKeys, modest, calm, conditions, laid).
  DERIVED. THE GIVEN ROWS OF THIS SEAT. 4 by the template 'for every input the law returns true; each argument reads behind the call as it read before'; 0 by the template 'total and deterministic' (their statements: YtpgkimehmmelgaaTotals.lean).
  GIVEN WITH THE SEED: the statements are not yours to turn. If you find one false, say at which input.
  Laid BY PROGRAM, IN A SANDBOX (cutbox-rows.mjs): the forced cells as the released guide's own fill.sh prints them over the translation d5e114cc6d32a862… (all of the seat's roots in one cut). By AI agents, Wed Nov 11 2026. No macro, syntax, notation, axiom, sorry.
-/
import Derived.Test.YtpgkimehmmelgaaChecked
import GoSem.Claim
import GoSem.ClaimJoined
import GoSem.ClaimMapViews
import Derived.JoinedTies
import Derived.KernelRfl
namespace Go.Proofs.Ytpgkimehmmelgaa
/- THE CELL 'sum', in the pinned program and in every row, IS THE sha256 OF THE DUMP (.gsa) THAT YtpgkimehmmelgaaProg.lean LOADS. Nothing in Lean hashes anything: it is a label: what it is worth is what the hold of that sum in a sandbox is worth. -/
noncomputable def Try.pinned : Pinned := { name := "ytpgkimehmmelgaa", sum := "d5e114cc6d32a862b759f50e0450b2cb91a6983c35c72ea91482a35961d46383", checked := Try.checked }
namespace Rows
def none {H : Type} : Left H := { results := [], args := [] }

/-- 'weightedlaw04.SymbolsName': WHATEVER THE INPUT: true; the input reads as it did. -/
def symbolsNameSpec : ChangeSpec := { name := "symbolsName", fn := fun _ => fun
  | [d1, d2, d3] => { results := [.lit (.bool true)], args := [d1, d2, d3] }
  | _ => none }
def symbolsNameRow : OpenClaim := { program := "ytpgkimehmmelgaa", sum := "d5e114cc6d32a862b759f50e0450b2cb91a6983c35c72ea91482a35961d46383", func := "weighted/weightedlaw04.SymbolsName", spec := "symbolsName", inPlace := ["internal/bytealg.IndexByteString"], apart := false }
def SymbolsNameSaid : Prop := symbolsNameRow.holds Try.pinned (OpenSpec.ofChange symbolsNameSpec)

/-- ITS FALSE NEIGHBOUR: 'it returns false'. Refute it at one input. -/
def symbolsNameWrong : ChangeSpec := { name := "symbolsName", fn := fun _ => fun
  | [d1, d2, d3] => { results := [.lit (.bool false)], args := [d1, d2, d3] }
  | _ => none }
def SymbolsNameWrongFalsely : Prop := symbolsNameRow.holds Try.pinned (OpenSpec.ofChange symbolsNameWrong)

/-- 'weightedlaw04.SymbolsMerge': WHATEVER THE INPUT: true; the input reads as it did. -/
def symbolsMergeSpec : ChangeSpec := { name := "symbolsMerge", fn := fun _ => fun
  | [d1, d2] => { results := [.lit (.bool true)], args := [d1, d2] }
  | _ => none }
def symbolsMergeRow : OpenClaim := { program := "ytpgkimehmmelgaa", sum := "d5e114cc6d32a862b759f50e0450b2cb91a6983c35c72ea91482a35961d46383", func := "weighted/weightedlaw04.SymbolsMerge", spec := "symbolsMerge", inPlace := ["internal/bytealg.IndexByteString"], apart := false }
def SymbolsMergeSaid : Prop := symbolsMergeRow.holds Try.pinned (OpenSpec.ofChange symbolsMergeSpec)

/-- ITS FALSE NEIGHBOUR: 'it returns false'. Refute it at one input. -/
def symbolsMergeWrong : ChangeSpec := { name := "symbolsMerge", fn := fun _ => fun
  | [d1, d2] => { results := [.lit (.bool false)], args := [d1, d2] }
  | _ => none }
def SymbolsMergeWrongFalsely : Prop := symbolsMergeRow.holds Try.pinned (OpenSpec.ofChange symbolsMergeWrong)

/-- 'weightedlaw04.SymbolsFindNames': WHATEVER THE INPUT: true; the input reads as it did. -/
def symbolsFindNamesSpec : ChangeSpec := { name := "symbolsFindNames", fn := fun _ => fun
  | [d1, d2, d3] => { results := [.lit (.bool true)], args := [d1, d2, d3] }
  | _ => none }
def symbolsFindNamesRow : OpenClaim := { program := "ytpgkimehmmelgaa", sum := "d5e114cc6d32a862b759f50e0450b2cb91a6983c35c72ea91482a35961d46383", func := "weighted/weightedlaw04.SymbolsFindNames", spec := "symbolsFindNames", inPlace := ["internal/bytealg.IndexByteString"], apart := false }
def SymbolsFindNamesSaid : Prop := symbolsFindNamesRow.holds Try.pinned (OpenSpec.ofChange symbolsFindNamesSpec)

/-- ITS FALSE NEIGHBOUR: 'it returns false'. Refute it at one input. -/
def symbolsFindNamesWrong : ChangeSpec := { name := "symbolsFindNames", fn := fun _ => fun
  | [d1, d2, d3] => { results := [.lit (.bool false)], args := [d1, d2, d3] }
  | _ => none }
def SymbolsFindNamesWrongFalsely : Prop := symbolsFindNamesRow.holds Try.pinned (OpenSpec.ofChange symbolsFindNamesWrong)

/-- 'weightedlaw04.SymbolsMergeKeepsNames': WHATEVER THE INPUT: true; the input reads as it did. -/
def symbolsMergeKeepsNamesSpec : ChangeSpec := { name := "symbolsMergeKeepsNames", fn := fun _ => fun
  | [d1, d2] => { results := [.lit (.bool true)], args := [d1, d2] }
  | _ => none }
def symbolsMergeKeepsNamesRow : OpenClaim := { program := "ytpgkimehmmelgaa", sum := "d5e114cc6d32a862b759f50e0450b2cb91a6983c35c72ea91482a35961d46383", func := "weighted/weightedlaw04.SymbolsMergeKeepsNames", spec := "symbolsMergeKeepsNames", inPlace := ["internal/bytealg.IndexByteString"], apart := false }
def SymbolsMergeKeepsNamesSaid : Prop := symbolsMergeKeepsNamesRow.holds Try.pinned (OpenSpec.ofChange symbolsMergeKeepsNamesSpec)

/-- ITS FALSE NEIGHBOUR: 'it returns false'. Refute it at one input. -/
def symbolsMergeKeepsNamesWrong : ChangeSpec := { name := "symbolsMergeKeepsNames", fn := fun _ => fun
  | [d1, d2] => { results := [.lit (.bool false)], args := [d1, d2] }
  | _ => none }
def SymbolsMergeKeepsNamesWrongFalsely : Prop := symbolsMergeKeepsNamesRow.holds Try.pinned (OpenSpec.ofChange symbolsMergeKeepsNamesWrong)

/- THE SECOND FORM. 'bulk': how many values and letters a reading holds, each counted each time it is reached (what is shared counts as often as it is met; a slice's spare places count too). A statement '..UptoSaid' is the law's where the arguments, and the package variables that the reading takes, are together of bulk at most 1048576: NARROWER than '..Said'. Prove '..Said' where nothing that the law and all that it calls make is longer than what came in: it says more and counts as full. Else prove '..UptoSaid'. A law counts once. -/
mutual
def uptoBulk {H : Type} : DataW H → Nat
  | .lit (.string bytes) => bytes.length + 1
  | .lit _ => 1
  | .nil => 1
  | .ptr d => uptoBulk d + 1
  | .slice elems spare => uptoBulkAll elems + uptoBulkAll spare + 1
  | .agg parts => uptoBulkAll parts + 1
  | .iface _ d => uptoBulk d + 1
  | .map entries => uptoBulkEntries entries + 1
  | .held _ => 1
def uptoBulkAll {H : Type} : List (DataW H) → Nat
  | [] => 0
  | d :: r => uptoBulk d + uptoBulkAll r
def uptoBulkEntries {H : Type} : List (Lit × DataW H) → Nat
  | [] => 0
  | x :: r => uptoBulkEntry x + uptoBulkEntries r
def uptoBulkEntry {H : Type} : Lit × DataW H → Nat
  | (.string bytes, d) => bytes.length + uptoBulk d + 1
  | (_, d) => uptoBulk d + 1
 end
def uptoSmall : (H : Type) → List (DataW H) → Bool := fun _ ds => decide (uptoBulkAll ds ≤ 1048576)
def OpenSpec.upto (s : _root_.Go.ChangeSpec) : _root_.Go.OpenSpec := { _root_.Go.OpenSpec.ofChange s with cond := some uptoSmall }

/-- 'weightedlaw04.SymbolsName', WHERE WHAT IT READS IS OF BULK AT MOST 1048576: true; the input reads as it did. -/
def symbolsNameUptoRow : OpenClaim := { program := "ytpgkimehmmelgaa", sum := "d5e114cc6d32a862b759f50e0450b2cb91a6983c35c72ea91482a35961d46383", func := "weighted/weightedlaw04.SymbolsName", spec := "symbolsName", inPlace := ["internal/bytealg.IndexByteString"], apart := false, narrowed := true }
def SymbolsNameUptoSaid : Prop := symbolsNameUptoRow.holds Try.pinned (OpenSpec.upto symbolsNameSpec)

/-- 'weightedlaw04.SymbolsMerge', WHERE WHAT IT READS IS OF BULK AT MOST 1048576: true; the input reads as it did. -/
def symbolsMergeUptoRow : OpenClaim := { program := "ytpgkimehmmelgaa", sum := "d5e114cc6d32a862b759f50e0450b2cb91a6983c35c72ea91482a35961d46383", func := "weighted/weightedlaw04.SymbolsMerge", spec := "symbolsMerge", inPlace := ["internal/bytealg.IndexByteString"], apart := false, narrowed := true }
def SymbolsMergeUptoSaid : Prop := symbolsMergeUptoRow.holds Try.pinned (OpenSpec.upto symbolsMergeSpec)

/-- 'weightedlaw04.SymbolsFindNames', WHERE WHAT IT READS IS OF BULK AT MOST 1048576: true; the input reads as it did. -/
def symbolsFindNamesUptoRow : OpenClaim := { program := "ytpgkimehmmelgaa", sum := "d5e114cc6d32a862b759f50e0450b2cb91a6983c35c72ea91482a35961d46383", func := "weighted/weightedlaw04.SymbolsFindNames", spec := "symbolsFindNames", inPlace := ["internal/bytealg.IndexByteString"], apart := false, narrowed := true }
def SymbolsFindNamesUptoSaid : Prop := symbolsFindNamesUptoRow.holds Try.pinned (OpenSpec.upto symbolsFindNamesSpec)

/-- 'weightedlaw04.SymbolsMergeKeepsNames', WHERE WHAT IT READS IS OF BULK AT MOST 1048576: true; the input reads as it did. -/
def symbolsMergeKeepsNamesUptoRow : OpenClaim := { program := "ytpgkimehmmelgaa", sum := "d5e114cc6d32a862b759f50e0450b2cb91a6983c35c72ea91482a35961d46383", func := "weighted/weightedlaw04.SymbolsMergeKeepsNames", spec := "symbolsMergeKeepsNames", inPlace := ["internal/bytealg.IndexByteString"], apart := false, narrowed := true }
def SymbolsMergeKeepsNamesUptoSaid : Prop := symbolsMergeKeepsNamesUptoRow.holds Try.pinned (OpenSpec.upto symbolsMergeKeepsNamesSpec)

end Rows
end Go.Proofs.Ytpgkimehmmelgaa
