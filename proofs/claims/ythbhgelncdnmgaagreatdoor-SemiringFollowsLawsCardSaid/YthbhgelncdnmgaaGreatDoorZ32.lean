import Derived.Test.YthbhgelncdnmgaaGreatDoorZ18
import Derived.Test.YthbhgelncdnmgaaGreatDoorZ14
import Derived.Test.YthbhgelncdnmgaaGreatDoorZ31
set_option linter.unusedVariables false
set_option linter.unusedSimpArgs false
namespace Go.Proofs.YthbhgelncdnmgaaGreatDoor
open Go.RowKit
theorem fmt_of{neg:Bool}{a d:Nat}(hd:d≠0)(hg:Nat.gcd a d=1):fmtQ (qv neg a d)=(if(neg && decide (a≠0))=true then [45]else [])++Lib.decDigits a++(if d=1 then []else 47::Lib.decDigits d):=by
 unfold fmtQ;rw [(Qdy hd hg).1,(Qdy hd hg).2,Qe7,<-Qkn];simp
theorem Qzo{n:Nat}(h:n<10):Lib.decDigits n=[UInt8.ofNat (48+n)]:=by rw [Lib.decDigits,dif_pos h]
end Go.Proofs.YthbhgelncdnmgaaGreatDoor
