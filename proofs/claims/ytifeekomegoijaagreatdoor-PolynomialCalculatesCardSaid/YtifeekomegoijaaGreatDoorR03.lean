/- texts -/
import Derived.Test.YtifeekomegoijaaGreatDoorR01
import Derived.Test.YtifeekomegoijaaGreatDoorR02
set_option linter.unusedVariables false
set_option linter.unusedSimpArgs false
namespace Go.Proofs.YtifeekomegoijaaGreatDoor
open Go.RowKit

end Go.Proofs.YtifeekomegoijaaGreatDoor

namespace Go.Proofs.YtifeekomegoijaaGreatDoor
open Go.RowKit

end Go.Proofs.YtifeekomegoijaaGreatDoor
