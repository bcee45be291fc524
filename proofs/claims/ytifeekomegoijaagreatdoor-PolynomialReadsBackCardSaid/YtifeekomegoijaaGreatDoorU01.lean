/- texts -/
import Derived.Below
import Derived.Lib.SlicesS
import Derived.Lib.Bytealg
set_option linter.unusedVariables false
set_option linter.unusedSimpArgs false
namespace Go.Proofs.YtifeekomegoijaaGreatDoor

def cnt (s : Nat) : Nat → Nat
 | 0 => 1
 | k + 1 => cnt s k * s + 1
end Go.Proofs.YtifeekomegoijaaGreatDoor

namespace Go.Proofs.YtifeekomegoijaaGreatDoor

def okn (n : Nat) : Bool := decide (33 ≤ n) && decide (n ≤ 126) && decide (n ≠ 35) && decide (n ≠ 40) && decide (n ≠ 41) && decide (n ≠ 42) && decide (n ≠ 43) && decide (n ≠ 124) && decide (n ≠ 45) && decide (n ≠ 91) && decide (n ≠ 93)
def okB (c : UInt8) : Bool := okn c.toNat
def nmd (s : ByteArray) : Bool := decide (1 ≤ s.size) && decide (s.size ≤ 24) && !(s.toList == [48]) && !(s.toList == [49]) && s.data.toList.all okB
def fnd : List ByteArray → ByteArray → Nat
 | [], _ => 0
 | y :: l, x => if y = x then 1 else if fnd l x = 0 then 0 else fnd l x + 1
def firsts (l : List ByteArray) (k : Nat) : Prop := ∀ i, i < k → nmd (l.getD i ByteArray.empty) = true ∧ fnd (l.take i) (l.getD i ByteArray.empty) = 0
instance (l : List ByteArray) (k : Nat) : Decidable (firsts l k) := by unfold firsts; infer_instance
def tab (l : List ByteArray) : Bool := decide (1 ≤ l.length) && decide (l.length ≤ 32) && decide (firsts l l.length)
end Go.Proofs.YtifeekomegoijaaGreatDoor
