/-
  NARROWER THAN 'FOR EVERY INPUT', by the rows' own cells (each row's printed sentence says how): PolynomialCalculates: laid · PolynomialMakes: laid · PolynomialStars: laid · PolynomialWrites: laid · PolynomialIsARing: laid · PolynomialStarSolves: laid · PolynomialEvaluates: laid · PolynomialReadsBack: laid.
  DERIVED. THE GIVEN ROWS OF THIS SEAT. 8 by the template 'for every input the law returns true; each argument reads behind the call as it read before'; 0 by the template 'total and deterministic' (their statements: YtifeekomegoijaaGreatDoorTotals.lean).
  GIVEN WITH THE SEED: the statements are not yours to turn. If you find one false, say at which input.
  Laid BY PROGRAM, IN A SANDBOX (cutbox-rows.mjs): the forced cells as the released guide's own fill.sh prints them over the translation 43c07135fd1d65e6… (all of the seat's roots in one cut). By AI agents, Wed Nov 11 2026. No macro, syntax, notation, axiom, sorry.
-/
import Derived.Test.YtifeekomegoijaaGreatDoorChecked
import GoSem.PinnedTables
import GoSem.Claim
import GoSem.ClaimJoined
import GoSem.ClaimMapViews
import Derived.JoinedTies
import Derived.KernelRfl
namespace Go.Proofs.YtifeekomegoijaaGreatDoor
/- THE CELL 'sum', in the pinned program and in every row, IS THE sha256 OF THE DUMP (.gsa) THAT YtifeekomegoijaaGreatDoorProg.lean LOADS. Nothing in Lean hashes anything: it is a label: what it is worth is what the hold of that sum in a sandbox is worth. -/
noncomputable def Tryz.pinned : Pinned := { name := "ytifeekomegoijaagreatdoor", sum := "43c07135fd1d65e6e1018179aea2d75148411ecbcda50d16527df98ef5af048e", checked := Tryz.checked }
namespace Rows
def none {H : Type} : Left H := { results := [], args := [] }

/- WHAT THE LISTED PACKAGE-LEVEL VARIABLES READ AS WHEN THE CALL BEGINS. Each datum BY PROGRAM (the guide's laid-datum.mjs) off the statement by which the dump's own 'gosem.cut.vars' lays the variable. In a bare row this is a premise. The card (YtifeekomegoijaaGreatDoorCards.lean) ties it to the program's text. -/
def laid_math_bits_deBruijn32tab {H : Type} : DataW H := .agg [.lit (.int .u8 0), .lit (.int .u8 1), .lit (.int .u8 28), .lit (.int .u8 2), .lit (.int .u8 29), .lit (.int .u8 14), .lit (.int .u8 24), .lit (.int .u8 3), .lit (.int .u8 30), .lit (.int .u8 22), .lit (.int .u8 20), .lit (.int .u8 15), .lit (.int .u8 25), .lit (.int .u8 17), .lit (.int .u8 4), .lit (.int .u8 8), .lit (.int .u8 31), .lit (.int .u8 27), .lit (.int .u8 13), .lit (.int .u8 23), .lit (.int .u8 21), .lit (.int .u8 19), .lit (.int .u8 16), .lit (.int .u8 7), .lit (.int .u8 26), .lit (.int .u8 12), .lit (.int .u8 18), .lit (.int .u8 6), .lit (.int .u8 11), .lit (.int .u8 5), .lit (.int .u8 10), .lit (.int .u8 9)]
def laid_math_bits_deBruijn64tab {H : Type} : DataW H := .agg [.lit (.int .u8 0), .lit (.int .u8 1), .lit (.int .u8 56), .lit (.int .u8 2), .lit (.int .u8 57), .lit (.int .u8 49), .lit (.int .u8 28), .lit (.int .u8 3), .lit (.int .u8 61), .lit (.int .u8 58), .lit (.int .u8 42), .lit (.int .u8 50), .lit (.int .u8 38), .lit (.int .u8 29), .lit (.int .u8 17), .lit (.int .u8 4), .lit (.int .u8 62), .lit (.int .u8 47), .lit (.int .u8 59), .lit (.int .u8 36), .lit (.int .u8 45), .lit (.int .u8 43), .lit (.int .u8 51), .lit (.int .u8 22), .lit (.int .u8 53), .lit (.int .u8 39), .lit (.int .u8 33), .lit (.int .u8 30), .lit (.int .u8 24), .lit (.int .u8 18), .lit (.int .u8 12), .lit (.int .u8 5), .lit (.int .u8 63), .lit (.int .u8 55), .lit (.int .u8 48), .lit (.int .u8 27), .lit (.int .u8 60), .lit (.int .u8 41), .lit (.int .u8 37), .lit (.int .u8 16), .lit (.int .u8 46), .lit (.int .u8 35), .lit (.int .u8 44), .lit (.int .u8 21), .lit (.int .u8 52), .lit (.int .u8 32), .lit (.int .u8 23), .lit (.int .u8 11), .lit (.int .u8 54), .lit (.int .u8 26), .lit (.int .u8 40), .lit (.int .u8 15), .lit (.int .u8 34), .lit (.int .u8 20), .lit (.int .u8 31), .lit (.int .u8 10), .lit (.int .u8 25), .lit (.int .u8 14), .lit (.int .u8 19), .lit (.int .u8 9), .lit (.int .u8 13), .lit (.int .u8 8), .lit (.int .u8 7), .lit (.int .u8 6)]
def laid_internal_strconv_uint64pow10 {H : Type} : DataW H := .agg [.lit (.int .u64 1), .lit (.int .u64 10), .lit (.int .u64 100), .lit (.int .u64 1000), .lit (.int .u64 10000), .lit (.int .u64 100000), .lit (.int .u64 1000000), .lit (.int .u64 10000000), .lit (.int .u64 100000000), .lit (.int .u64 1000000000), .lit (.int .u64 10000000000), .lit (.int .u64 100000000000), .lit (.int .u64 1000000000000), .lit (.int .u64 10000000000000), .lit (.int .u64 100000000000000), .lit (.int .u64 1000000000000000), .lit (.int .u64 10000000000000000), .lit (.int .u64 100000000000000000), .lit (.int .u64 1000000000000000000), .lit (.int .u64 10000000000000000000)]
def laid_unicode_utf8_acceptRanges {H : Type} : DataW H := .agg [.agg [.lit (.int .u8 128), .lit (.int .u8 191)], .agg [.lit (.int .u8 160), .lit (.int .u8 191)], .agg [.lit (.int .u8 128), .lit (.int .u8 159)], .agg [.lit (.int .u8 144), .lit (.int .u8 191)], .agg [.lit (.int .u8 128), .lit (.int .u8 143)], .agg [.lit (.int .u8 0), .lit (.int .u8 0)], .agg [.lit (.int .u8 0), .lit (.int .u8 0)], .agg [.lit (.int .u8 0), .lit (.int .u8 0)], .agg [.lit (.int .u8 0), .lit (.int .u8 0)], .agg [.lit (.int .u8 0), .lit (.int .u8 0)], .agg [.lit (.int .u8 0), .lit (.int .u8 0)], .agg [.lit (.int .u8 0), .lit (.int .u8 0)], .agg [.lit (.int .u8 0), .lit (.int .u8 0)], .agg [.lit (.int .u8 0), .lit (.int .u8 0)], .agg [.lit (.int .u8 0), .lit (.int .u8 0)], .agg [.lit (.int .u8 0), .lit (.int .u8 0)]]
def laid_strconv_ErrRange {H : Type} : DataW H := .iface "*errors.errorString" (.ptr (.agg [.lit (.string [118, 97, 108, 117, 101, 32, 111, 117, 116, 32, 111, 102, 32, 114, 97, 110, 103, 101])]))
def laid_strconv_ErrSyntax {H : Type} : DataW H := .iface "*errors.errorString" (.ptr (.agg [.lit (.string [105, 110, 118, 97, 108, 105, 100, 32, 115, 121, 110, 116, 97, 120])]))
/-- One of Go's own tables, pinned by name: the form's constant. -/
def laid_unicode_utf8_first : DataW Unit := Go.Pinned.utf8First

/-- 'weightedlaw02.PolynomialCalculates': WHATEVER THE INPUT: true; the input reads as it did. -/
def polynomialCalculatesSpec : ChangeSpec := { name := "polynomialCalculates", fn := fun _ => fun
  | [d1, d2, d3] => { results := [.lit (.bool true)], args := [d1, d2, d3] }
  | _ => none }
def polynomialCalculatesRow : OpenClaim := { program := "ytifeekomegoijaagreatdoor", sum := "43c07135fd1d65e6e1018179aea2d75148411ecbcda50d16527df98ef5af048e", func := "weighted/weightedlaw02.PolynomialCalculates", spec := "polynomialCalculates", inPlace := ["internal/abi.NoEscape", "internal/bytealg.MakeNoZero"], unfollowed := true, recurses := true, named := ["math/bits.deBruijn64tab", "math/bits.deBruijn32tab", "math/bits.overflowError", "internal/strconv.uint64pow10"], plainKeys := false, apart := false, laid := [("math/bits.deBruijn32tab", laid_math_bits_deBruijn32tab), ("math/bits.deBruijn64tab", laid_math_bits_deBruijn64tab), ("internal/strconv.uint64pow10", laid_internal_strconv_uint64pow10)] }
def PolynomialCalculatesSaid : Prop := polynomialCalculatesRow.holds Tryz.pinned (OpenSpec.ofChange polynomialCalculatesSpec)

/-- ITS FALSE NEIGHBOUR: 'it returns false'. Refute it at one input. -/
def polynomialCalculatesWrong : ChangeSpec := { name := "polynomialCalculates", fn := fun _ => fun
  | [d1, d2, d3] => { results := [.lit (.bool false)], args := [d1, d2, d3] }
  | _ => none }
def PolynomialCalculatesWrongFalsely : Prop := polynomialCalculatesRow.holds Tryz.pinned (OpenSpec.ofChange polynomialCalculatesWrong)

/-- 'weightedlaw02.PolynomialMakes': WHATEVER THE INPUT: true; the input reads as it did. -/
def polynomialMakesSpec : ChangeSpec := { name := "polynomialMakes", fn := fun _ => fun
  | [d1, d2, d3, d4] => { results := [.lit (.bool true)], args := [d1, d2, d3, d4] }
  | _ => none }
def polynomialMakesRow : OpenClaim := { program := "ytifeekomegoijaagreatdoor", sum := "43c07135fd1d65e6e1018179aea2d75148411ecbcda50d16527df98ef5af048e", func := "weighted/weightedlaw02.PolynomialMakes", spec := "polynomialMakes", inPlace := ["internal/abi.NoEscape", "internal/bytealg.MakeNoZero"], unfollowed := true, recurses := true, named := ["math/bits.deBruijn64tab", "math/bits.deBruijn32tab", "math/bits.overflowError", "internal/strconv.uint64pow10"], plainKeys := false, apart := false, laid := [("math/bits.deBruijn32tab", laid_math_bits_deBruijn32tab), ("math/bits.deBruijn64tab", laid_math_bits_deBruijn64tab), ("internal/strconv.uint64pow10", laid_internal_strconv_uint64pow10)] }
def PolynomialMakesSaid : Prop := polynomialMakesRow.holds Tryz.pinned (OpenSpec.ofChange polynomialMakesSpec)

/-- ITS FALSE NEIGHBOUR: 'it returns false'. Refute it at one input. -/
def polynomialMakesWrong : ChangeSpec := { name := "polynomialMakes", fn := fun _ => fun
  | [d1, d2, d3, d4] => { results := [.lit (.bool false)], args := [d1, d2, d3, d4] }
  | _ => none }
def PolynomialMakesWrongFalsely : Prop := polynomialMakesRow.holds Tryz.pinned (OpenSpec.ofChange polynomialMakesWrong)

/-- 'weightedlaw02.PolynomialStars': WHATEVER THE INPUT: true; the input reads as it did. -/
def polynomialStarsSpec : ChangeSpec := { name := "polynomialStars", fn := fun _ => fun
  | [d] => { results := [.lit (.bool true)], args := [d] }
  | _ => none }
def polynomialStarsRow : OpenClaim := { program := "ytifeekomegoijaagreatdoor", sum := "43c07135fd1d65e6e1018179aea2d75148411ecbcda50d16527df98ef5af048e", func := "weighted/weightedlaw02.PolynomialStars", spec := "polynomialStars", inPlace := ["internal/abi.NoEscape", "internal/bytealg.MakeNoZero"], unfollowed := true, recurses := true, named := ["math/bits.deBruijn64tab", "math/bits.deBruijn32tab", "math/bits.overflowError", "internal/strconv.uint64pow10"], plainKeys := false, apart := false, laid := [("math/bits.deBruijn32tab", laid_math_bits_deBruijn32tab), ("math/bits.deBruijn64tab", laid_math_bits_deBruijn64tab), ("internal/strconv.uint64pow10", laid_internal_strconv_uint64pow10)] }
def PolynomialStarsSaid : Prop := polynomialStarsRow.holds Tryz.pinned (OpenSpec.ofChange polynomialStarsSpec)

/-- ITS FALSE NEIGHBOUR: 'it returns false'. Refute it at one input. -/
def polynomialStarsWrong : ChangeSpec := { name := "polynomialStars", fn := fun _ => fun
  | [d] => { results := [.lit (.bool false)], args := [d] }
  | _ => none }
def PolynomialStarsWrongFalsely : Prop := polynomialStarsRow.holds Tryz.pinned (OpenSpec.ofChange polynomialStarsWrong)

/-- 'weightedlaw02.PolynomialWrites': WHATEVER THE INPUT: true; the input reads as it did. -/
def polynomialWritesSpec : ChangeSpec := { name := "polynomialWrites", fn := fun _ => fun
  | [d1, d2] => { results := [.lit (.bool true)], args := [d1, d2] }
  | _ => none }
def polynomialWritesRow : OpenClaim := { program := "ytifeekomegoijaagreatdoor", sum := "43c07135fd1d65e6e1018179aea2d75148411ecbcda50d16527df98ef5af048e", func := "weighted/weightedlaw02.PolynomialWrites", spec := "polynomialWrites", inPlace := ["internal/abi.NoEscape", "internal/bytealg.MakeNoZero", "internal/bytealg.CountString", "internal/bytealg.IndexByteString", "internal/bytealg.IndexString"], unfollowed := true, recurses := true, named := ["math/bits.deBruijn64tab", "math/bits.deBruijn32tab", "math/bits.overflowError", "internal/strconv.uint64pow10", "unicode/utf8.first", "unicode/utf8.acceptRanges", "internal/bytealg.MaxLen", "strconv.ErrSyntax", "strconv.ErrRange"], plainKeys := false, apart := false, laid := [("math/bits.deBruijn32tab", laid_math_bits_deBruijn32tab), ("math/bits.deBruijn64tab", laid_math_bits_deBruijn64tab), ("internal/strconv.uint64pow10", laid_internal_strconv_uint64pow10), ("unicode/utf8.acceptRanges", laid_unicode_utf8_acceptRanges), ("strconv.ErrRange", laid_strconv_ErrRange), ("strconv.ErrSyntax", laid_strconv_ErrSyntax), ("unicode/utf8.first", laid_unicode_utf8_first)] }
def PolynomialWritesSaid : Prop := polynomialWritesRow.holds Tryz.pinned (OpenSpec.ofChange polynomialWritesSpec)

/-- ITS FALSE NEIGHBOUR: 'it returns false'. Refute it at one input. -/
def polynomialWritesWrong : ChangeSpec := { name := "polynomialWrites", fn := fun _ => fun
  | [d1, d2] => { results := [.lit (.bool false)], args := [d1, d2] }
  | _ => none }
def PolynomialWritesWrongFalsely : Prop := polynomialWritesRow.holds Tryz.pinned (OpenSpec.ofChange polynomialWritesWrong)

/-- 'weightedlaw02.PolynomialIsARing': WHATEVER THE INPUT: true; the input reads as it did. -/
def polynomialIsARingSpec : ChangeSpec := { name := "polynomialIsARing", fn := fun _ => fun
  | [d1, d2, d3] => { results := [.lit (.bool true)], args := [d1, d2, d3] }
  | _ => none }
def polynomialIsARingRow : OpenClaim := { program := "ytifeekomegoijaagreatdoor", sum := "43c07135fd1d65e6e1018179aea2d75148411ecbcda50d16527df98ef5af048e", func := "weighted/weightedlaw02.PolynomialIsARing", spec := "polynomialIsARing", inPlace := ["internal/abi.NoEscape", "internal/bytealg.MakeNoZero"], unfollowed := true, recurses := true, named := ["math/bits.deBruijn64tab", "math/bits.deBruijn32tab", "math/bits.overflowError", "internal/strconv.uint64pow10"], plainKeys := false, apart := false, laid := [("math/bits.deBruijn32tab", laid_math_bits_deBruijn32tab), ("math/bits.deBruijn64tab", laid_math_bits_deBruijn64tab), ("internal/strconv.uint64pow10", laid_internal_strconv_uint64pow10)] }
def PolynomialIsARingSaid : Prop := polynomialIsARingRow.holds Tryz.pinned (OpenSpec.ofChange polynomialIsARingSpec)

/-- ITS FALSE NEIGHBOUR: 'it returns false'. Refute it at one input. -/
def polynomialIsARingWrong : ChangeSpec := { name := "polynomialIsARing", fn := fun _ => fun
  | [d1, d2, d3] => { results := [.lit (.bool false)], args := [d1, d2, d3] }
  | _ => none }
def PolynomialIsARingWrongFalsely : Prop := polynomialIsARingRow.holds Tryz.pinned (OpenSpec.ofChange polynomialIsARingWrong)

/-- 'weightedlaw02.PolynomialStarSolves': WHATEVER THE INPUT: true; the input reads as it did. -/
def polynomialStarSolvesSpec : ChangeSpec := { name := "polynomialStarSolves", fn := fun _ => fun
  | [d] => { results := [.lit (.bool true)], args := [d] }
  | _ => none }
def polynomialStarSolvesRow : OpenClaim := { program := "ytifeekomegoijaagreatdoor", sum := "43c07135fd1d65e6e1018179aea2d75148411ecbcda50d16527df98ef5af048e", func := "weighted/weightedlaw02.PolynomialStarSolves", spec := "polynomialStarSolves", inPlace := ["internal/abi.NoEscape", "internal/bytealg.MakeNoZero"], unfollowed := true, recurses := true, named := ["math/bits.deBruijn64tab", "math/bits.deBruijn32tab", "math/bits.overflowError", "internal/strconv.uint64pow10"], plainKeys := false, apart := false, laid := [("math/bits.deBruijn32tab", laid_math_bits_deBruijn32tab), ("math/bits.deBruijn64tab", laid_math_bits_deBruijn64tab), ("internal/strconv.uint64pow10", laid_internal_strconv_uint64pow10)] }
def PolynomialStarSolvesSaid : Prop := polynomialStarSolvesRow.holds Tryz.pinned (OpenSpec.ofChange polynomialStarSolvesSpec)

/-- ITS FALSE NEIGHBOUR: 'it returns false'. Refute it at one input. -/
def polynomialStarSolvesWrong : ChangeSpec := { name := "polynomialStarSolves", fn := fun _ => fun
  | [d] => { results := [.lit (.bool false)], args := [d] }
  | _ => none }
def PolynomialStarSolvesWrongFalsely : Prop := polynomialStarSolvesRow.holds Tryz.pinned (OpenSpec.ofChange polynomialStarSolvesWrong)

/-- 'weightedlaw02.PolynomialEvaluates': WHATEVER THE INPUT: true; the input reads as it did. -/
def polynomialEvaluatesSpec : ChangeSpec := { name := "polynomialEvaluates", fn := fun _ => fun
  | [d1, d2, d3, d4, d5] => { results := [.lit (.bool true)], args := [d1, d2, d3, d4, d5] }
  | _ => none }
def polynomialEvaluatesRow : OpenClaim := { program := "ytifeekomegoijaagreatdoor", sum := "43c07135fd1d65e6e1018179aea2d75148411ecbcda50d16527df98ef5af048e", func := "weighted/weightedlaw02.PolynomialEvaluates", spec := "polynomialEvaluates", inPlace := ["internal/abi.NoEscape", "internal/bytealg.MakeNoZero"], unfollowed := true, recurses := true, named := ["math/bits.deBruijn64tab", "math/bits.deBruijn32tab", "math/bits.overflowError", "internal/strconv.uint64pow10"], plainKeys := false, apart := false, laid := [("math/bits.deBruijn32tab", laid_math_bits_deBruijn32tab), ("math/bits.deBruijn64tab", laid_math_bits_deBruijn64tab), ("internal/strconv.uint64pow10", laid_internal_strconv_uint64pow10)] }
def PolynomialEvaluatesSaid : Prop := polynomialEvaluatesRow.holds Tryz.pinned (OpenSpec.ofChange polynomialEvaluatesSpec)

/-- ITS FALSE NEIGHBOUR: 'it returns false'. Refute it at one input. -/
def polynomialEvaluatesWrong : ChangeSpec := { name := "polynomialEvaluates", fn := fun _ => fun
  | [d1, d2, d3, d4, d5] => { results := [.lit (.bool false)], args := [d1, d2, d3, d4, d5] }
  | _ => none }
def PolynomialEvaluatesWrongFalsely : Prop := polynomialEvaluatesRow.holds Tryz.pinned (OpenSpec.ofChange polynomialEvaluatesWrong)

/-- 'weightedlaw02.PolynomialReadsBack': WHATEVER THE INPUT: true; the input reads as it did. -/
def polynomialReadsBackSpec : ChangeSpec := { name := "polynomialReadsBack", fn := fun _ => fun
  | [d1, d2] => { results := [.lit (.bool true)], args := [d1, d2] }
  | _ => none }
def polynomialReadsBackRow : OpenClaim := { program := "ytifeekomegoijaagreatdoor", sum := "43c07135fd1d65e6e1018179aea2d75148411ecbcda50d16527df98ef5af048e", func := "weighted/weightedlaw02.PolynomialReadsBack", spec := "polynomialReadsBack", inPlace := ["internal/abi.NoEscape", "internal/bytealg.MakeNoZero", "internal/bytealg.CountString", "internal/bytealg.IndexByteString", "internal/bytealg.IndexString"], unfollowed := true, recurses := true, named := ["math/bits.deBruijn64tab", "math/bits.deBruijn32tab", "math/bits.overflowError", "internal/strconv.uint64pow10", "unicode/utf8.first", "unicode/utf8.acceptRanges", "internal/bytealg.MaxLen", "strconv.ErrSyntax", "strconv.ErrRange"], plainKeys := false, apart := false, laid := [("math/bits.deBruijn32tab", laid_math_bits_deBruijn32tab), ("math/bits.deBruijn64tab", laid_math_bits_deBruijn64tab), ("internal/strconv.uint64pow10", laid_internal_strconv_uint64pow10), ("unicode/utf8.acceptRanges", laid_unicode_utf8_acceptRanges), ("strconv.ErrRange", laid_strconv_ErrRange), ("strconv.ErrSyntax", laid_strconv_ErrSyntax), ("unicode/utf8.first", laid_unicode_utf8_first)] }
def PolynomialReadsBackSaid : Prop := polynomialReadsBackRow.holds Tryz.pinned (OpenSpec.ofChange polynomialReadsBackSpec)

/-- ITS FALSE NEIGHBOUR: 'it returns false'. Refute it at one input. -/
def polynomialReadsBackWrong : ChangeSpec := { name := "polynomialReadsBack", fn := fun _ => fun
  | [d1, d2] => { results := [.lit (.bool false)], args := [d1, d2] }
  | _ => none }
def PolynomialReadsBackWrongFalsely : Prop := polynomialReadsBackRow.holds Tryz.pinned (OpenSpec.ofChange polynomialReadsBackWrong)

/- THE SECOND FORM. 'bulk': how many values and letters a reading holds, each counted each time it is reached (what is shared counts as often as it is met; a slice's spare places count too). A statement '..UptoSaid' is the law's where the arguments, and the package variables that the reading takes, are together of bulk at most 1048576: NARROWER than '..Said'. Prove '..Said' where nothing that the law and all that it calls make is longer than what came in: it says more and counts as full. Else prove '..UptoSaid'. A law counts once. -/
mutual
def uptoBulk {H : Type} : DataW H → Nat
  | .lit (.string bytes) => bytes.length + 1
  | .lit _ => 1
  | .nil => 1
  | .ptr d => uptoBulk d + 1
  | .slice elems spare => uptoBulkAll elems + uptoBulkAll spare + 1
  | .agg parts => uptoBulkAll parts + 1
  | .iface _ d => uptoBulk d + 1
  | .map entries => uptoBulkEntries entries + 1
  | .held _ => 1
def uptoBulkAll {H : Type} : List (DataW H) → Nat
  | [] => 0
  | d :: r => uptoBulk d + uptoBulkAll r
def uptoBulkEntries {H : Type} : List (Lit × DataW H) → Nat
  | [] => 0
  | x :: r => uptoBulkEntry x + uptoBulkEntries r
def uptoBulkEntry {H : Type} : Lit × DataW H → Nat
  | (.string bytes, d) => bytes.length + uptoBulk d + 1
  | (_, d) => uptoBulk d + 1
 end
def uptoSmall : (H : Type) → List (DataW H) → Bool := fun _ ds => decide (uptoBulkAll ds ≤ 1048576)
def OpenSpec.upto (s : _root_.Go.ChangeSpec) : _root_.Go.OpenSpec := { _root_.Go.OpenSpec.ofChange s with cond := some uptoSmall }

/-- 'weightedlaw02.PolynomialCalculates', WHERE WHAT IT READS IS OF BULK AT MOST 1048576: true; the input reads as it did. -/
def polynomialCalculatesUptoRow : OpenClaim := { program := "ytifeekomegoijaagreatdoor", sum := "43c07135fd1d65e6e1018179aea2d75148411ecbcda50d16527df98ef5af048e", func := "weighted/weightedlaw02.PolynomialCalculates", spec := "polynomialCalculates", inPlace := ["internal/abi.NoEscape", "internal/bytealg.MakeNoZero"], unfollowed := true, recurses := true, named := ["math/bits.deBruijn64tab", "math/bits.deBruijn32tab", "math/bits.overflowError", "internal/strconv.uint64pow10"], plainKeys := false, apart := false, laid := [("math/bits.deBruijn32tab", laid_math_bits_deBruijn32tab), ("math/bits.deBruijn64tab", laid_math_bits_deBruijn64tab), ("internal/strconv.uint64pow10", laid_internal_strconv_uint64pow10)], narrowed := true }
def PolynomialCalculatesUptoSaid : Prop := polynomialCalculatesUptoRow.holds Tryz.pinned (OpenSpec.upto polynomialCalculatesSpec)

/-- 'weightedlaw02.PolynomialMakes', WHERE WHAT IT READS IS OF BULK AT MOST 1048576: true; the input reads as it did. -/
def polynomialMakesUptoRow : OpenClaim := { program := "ytifeekomegoijaagreatdoor", sum := "43c07135fd1d65e6e1018179aea2d75148411ecbcda50d16527df98ef5af048e", func := "weighted/weightedlaw02.PolynomialMakes", spec := "polynomialMakes", inPlace := ["internal/abi.NoEscape", "internal/bytealg.MakeNoZero"], unfollowed := true, recurses := true, named := ["math/bits.deBruijn64tab", "math/bits.deBruijn32tab", "math/bits.overflowError", "internal/strconv.uint64pow10"], plainKeys := false, apart := false, laid := [("math/bits.deBruijn32tab", laid_math_bits_deBruijn32tab), ("math/bits.deBruijn64tab", laid_math_bits_deBruijn64tab), ("internal/strconv.uint64pow10", laid_internal_strconv_uint64pow10)], narrowed := true }
def PolynomialMakesUptoSaid : Prop := polynomialMakesUptoRow.holds Tryz.pinned (OpenSpec.upto polynomialMakesSpec)

/-- 'weightedlaw02.PolynomialStars', WHERE WHAT IT READS IS OF BULK AT MOST 1048576: true; the input reads as it did. -/
def polynomialStarsUptoRow : OpenClaim := { program := "ytifeekomegoijaagreatdoor", sum := "43c07135fd1d65e6e1018179aea2d75148411ecbcda50d16527df98ef5af048e", func := "weighted/weightedlaw02.PolynomialStars", spec := "polynomialStars", inPlace := ["internal/abi.NoEscape", "internal/bytealg.MakeNoZero"], unfollowed := true, recurses := true, named := ["math/bits.deBruijn64tab", "math/bits.deBruijn32tab", "math/bits.overflowError", "internal/strconv.uint64pow10"], plainKeys := false, apart := false, laid := [("math/bits.deBruijn32tab", laid_math_bits_deBruijn32tab), ("math/bits.deBruijn64tab", laid_math_bits_deBruijn64tab), ("internal/strconv.uint64pow10", laid_internal_strconv_uint64pow10)], narrowed := true }
def PolynomialStarsUptoSaid : Prop := polynomialStarsUptoRow.holds Tryz.pinned (OpenSpec.upto polynomialStarsSpec)

/-- 'weightedlaw02.PolynomialWrites', WHERE WHAT IT READS IS OF BULK AT MOST 1048576: true; the input reads as it did. -/
def polynomialWritesUptoRow : OpenClaim := { program := "ytifeekomegoijaagreatdoor", sum := "43c07135fd1d65e6e1018179aea2d75148411ecbcda50d16527df98ef5af048e", func := "weighted/weightedlaw02.PolynomialWrites", spec := "polynomialWrites", inPlace := ["internal/abi.NoEscape", "internal/bytealg.MakeNoZero", "internal/bytealg.CountString", "internal/bytealg.IndexByteString", "internal/bytealg.IndexString"], unfollowed := true, recurses := true, named := ["math/bits.deBruijn64tab", "math/bits.deBruijn32tab", "math/bits.overflowError", "internal/strconv.uint64pow10", "unicode/utf8.first", "unicode/utf8.acceptRanges", "internal/bytealg.MaxLen", "strconv.ErrSyntax", "strconv.ErrRange"], plainKeys := false, apart := false, laid := [("math/bits.deBruijn32tab", laid_math_bits_deBruijn32tab), ("math/bits.deBruijn64tab", laid_math_bits_deBruijn64tab), ("internal/strconv.uint64pow10", laid_internal_strconv_uint64pow10), ("unicode/utf8.acceptRanges", laid_unicode_utf8_acceptRanges), ("strconv.ErrRange", laid_strconv_ErrRange), ("strconv.ErrSyntax", laid_strconv_ErrSyntax), ("unicode/utf8.first", laid_unicode_utf8_first)], narrowed := true }
def PolynomialWritesUptoSaid : Prop := polynomialWritesUptoRow.holds Tryz.pinned (OpenSpec.upto polynomialWritesSpec)

/-- 'weightedlaw02.PolynomialIsARing', WHERE WHAT IT READS IS OF BULK AT MOST 1048576: true; the input reads as it did. -/
def polynomialIsARingUptoRow : OpenClaim := { program := "ytifeekomegoijaagreatdoor", sum := "43c07135fd1d65e6e1018179aea2d75148411ecbcda50d16527df98ef5af048e", func := "weighted/weightedlaw02.PolynomialIsARing", spec := "polynomialIsARing", inPlace := ["internal/abi.NoEscape", "internal/bytealg.MakeNoZero"], unfollowed := true, recurses := true, named := ["math/bits.deBruijn64tab", "math/bits.deBruijn32tab", "math/bits.overflowError", "internal/strconv.uint64pow10"], plainKeys := false, apart := false, laid := [("math/bits.deBruijn32tab", laid_math_bits_deBruijn32tab), ("math/bits.deBruijn64tab", laid_math_bits_deBruijn64tab), ("internal/strconv.uint64pow10", laid_internal_strconv_uint64pow10)], narrowed := true }
def PolynomialIsARingUptoSaid : Prop := polynomialIsARingUptoRow.holds Tryz.pinned (OpenSpec.upto polynomialIsARingSpec)

/-- 'weightedlaw02.PolynomialStarSolves', WHERE WHAT IT READS IS OF BULK AT MOST 1048576: true; the input reads as it did. -/
def polynomialStarSolvesUptoRow : OpenClaim := { program := "ytifeekomegoijaagreatdoor", sum := "43c07135fd1d65e6e1018179aea2d75148411ecbcda50d16527df98ef5af048e", func := "weighted/weightedlaw02.PolynomialStarSolves", spec := "polynomialStarSolves", inPlace := ["internal/abi.NoEscape", "internal/bytealg.MakeNoZero"], unfollowed := true, recurses := true, named := ["math/bits.deBruijn64tab", "math/bits.deBruijn32tab", "math/bits.overflowError", "internal/strconv.uint64pow10"], plainKeys := false, apart := false, laid := [("math/bits.deBruijn32tab", laid_math_bits_deBruijn32tab), ("math/bits.deBruijn64tab", laid_math_bits_deBruijn64tab), ("internal/strconv.uint64pow10", laid_internal_strconv_uint64pow10)], narrowed := true }
def PolynomialStarSolvesUptoSaid : Prop := polynomialStarSolvesUptoRow.holds Tryz.pinned (OpenSpec.upto polynomialStarSolvesSpec)

/-- 'weightedlaw02.PolynomialEvaluates', WHERE WHAT IT READS IS OF BULK AT MOST 1048576: true; the input reads as it did. -/
def polynomialEvaluatesUptoRow : OpenClaim := { program := "ytifeekomegoijaagreatdoor", sum := "43c07135fd1d65e6e1018179aea2d75148411ecbcda50d16527df98ef5af048e", func := "weighted/weightedlaw02.PolynomialEvaluates", spec := "polynomialEvaluates", inPlace := ["internal/abi.NoEscape", "internal/bytealg.MakeNoZero"], unfollowed := true, recurses := true, named := ["math/bits.deBruijn64tab", "math/bits.deBruijn32tab", "math/bits.overflowError", "internal/strconv.uint64pow10"], plainKeys := false, apart := false, laid := [("math/bits.deBruijn32tab", laid_math_bits_deBruijn32tab), ("math/bits.deBruijn64tab", laid_math_bits_deBruijn64tab), ("internal/strconv.uint64pow10", laid_internal_strconv_uint64pow10)], narrowed := true }
def PolynomialEvaluatesUptoSaid : Prop := polynomialEvaluatesUptoRow.holds Tryz.pinned (OpenSpec.upto polynomialEvaluatesSpec)

/-- 'weightedlaw02.PolynomialReadsBack', WHERE WHAT IT READS IS OF BULK AT MOST 1048576: true; the input reads as it did. -/
def polynomialReadsBackUptoRow : OpenClaim := { program := "ytifeekomegoijaagreatdoor", sum := "43c07135fd1d65e6e1018179aea2d75148411ecbcda50d16527df98ef5af048e", func := "weighted/weightedlaw02.PolynomialReadsBack", spec := "polynomialReadsBack", inPlace := ["internal/abi.NoEscape", "internal/bytealg.MakeNoZero", "internal/bytealg.CountString", "internal/bytealg.IndexByteString", "internal/bytealg.IndexString"], unfollowed := true, recurses := true, named := ["math/bits.deBruijn64tab", "math/bits.deBruijn32tab", "math/bits.overflowError", "internal/strconv.uint64pow10", "unicode/utf8.first", "unicode/utf8.acceptRanges", "internal/bytealg.MaxLen", "strconv.ErrSyntax", "strconv.ErrRange"], plainKeys := false, apart := false, laid := [("math/bits.deBruijn32tab", laid_math_bits_deBruijn32tab), ("math/bits.deBruijn64tab", laid_math_bits_deBruijn64tab), ("internal/strconv.uint64pow10", laid_internal_strconv_uint64pow10), ("unicode/utf8.acceptRanges", laid_unicode_utf8_acceptRanges), ("strconv.ErrRange", laid_strconv_ErrRange), ("strconv.ErrSyntax", laid_strconv_ErrSyntax), ("unicode/utf8.first", laid_unicode_utf8_first)], narrowed := true }
def PolynomialReadsBackUptoSaid : Prop := polynomialReadsBackUptoRow.holds Tryz.pinned (OpenSpec.upto polynomialReadsBackSpec)

end Rows
end Go.Proofs.YtifeekomegoijaaGreatDoor
