import Derived.Test.YthbhgelncdnmgaaGreatDoorY08
import Derived.Test.YthbhgelncdnmgaaGreatDoorY13
set_option linter.unusedVariables false
set_option linter.unusedSimpArgs false
namespace Go.Proofs.YthbhgelncdnmgaaGreatDoor
open Go.RowKit
theorem Txt.drewN{w:World}(h:Txt w)(n:Nat):Txt (w.drewN n):=⟨h.tab.drewN n,h.pow,h.syn,h.max⟩
end Go.Proofs.YthbhgelncdnmgaaGreatDoor
