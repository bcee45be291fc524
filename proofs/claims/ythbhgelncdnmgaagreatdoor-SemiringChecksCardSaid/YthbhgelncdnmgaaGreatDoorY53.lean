import Derived.Test.YthbhgelncdnmgaaGreatDoorY15
import Derived.Test.YthbhgelncdnmgaaGreatDoorCards
import Derived.Test.YthbhgelncdnmgaaGreatDoorTie
import Derived.JoinedOf
import Derived.SevenTiedAt
set_option linter.unusedVariables false
set_option linter.unusedSimpArgs false
set_option maxRecDepth 100000
set_option maxHeartbeats 8000000
namespace Go.Proofs.YthbhgelncdnmgaaGreatDoor
open Go Go.ChangeShapes Go.WideShapes Go.RowKit
theorem band{a b:Bool}(h:a=true)(h':b=true):(a && b)=true:=by rw [h,h'];rfl
theorem semiringChecks_closed:joinedFacts Tryz.pinned.checked.prog 3 Tryz.f3 Rows.semiringChecksSpec Rows.semiringChecksRow=true:=by
 unfold joinedFacts
 repeat' (with_reducible refine band ?_ ?_)
 all_goals (as_aux_lemma=>kernel_rfl)
end Go.Proofs.YthbhgelncdnmgaaGreatDoor
