/- texts -/
import Derived.Test.YtifeekomegoijaaGreatDoorR02
import Derived.Lib.ParseIntBCases
set_option linter.unusedVariables false
set_option linter.unusedSimpArgs false
namespace Go.Proofs.YtifeekomegoijaaGreatDoor
open Go

end Go.Proofs.YtifeekomegoijaaGreatDoor
