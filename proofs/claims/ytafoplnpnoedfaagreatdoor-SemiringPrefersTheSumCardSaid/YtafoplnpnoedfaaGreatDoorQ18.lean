/- The row's closed facts, each by itself. -/
import Derived.Test.YtafoplnpnoedfaaGreatDoorQ17
import Derived.Test.YtafoplnpnoedfaaGreatDoorCards
import Derived.Test.YtafoplnpnoedfaaGreatDoorTie
import Derived.JoinedOf
import Derived.SevenTiedAt
set_option linter.unusedVariables false
set_option linter.unusedSimpArgs false
namespace Go.Proofs.YtafoplnpnoedfaaGreatDoor
open Go Go.ChangeShapes Go.WideShapes Go.RowKit

theorem band {a b : Bool} (h : a = true) (h' : b = true) : (a && b) = true := by rw [h, h']; rfl
set_option maxRecDepth 100000 in
set_option maxHeartbeats 8000000 in
theorem semiringPrefersTheSum_closed : joinedFacts Tryz.pinned.checked.prog 3 Tryz.f3 Rows.semiringPrefersTheSumSpec Rows.semiringPrefersTheSumRow = true := by
  unfold joinedFacts
  repeat' (with_reducible refine band ?_ ?_)
  all_goals (as_aux_lemma => kernel_rfl)
end Go.Proofs.YtafoplnpnoedfaaGreatDoor
