/- Tables: Valid of the specification; two lists compared. -/
import Derived.Test.YtdlmhgijpgnilaaDoorQ04
import Derived.Deep.QuietTactic
import Derived.BigQuiet
set_option linter.unusedVariables false
set_option linter.unusedSimpArgs false
namespace Go.Proofs.YtdlmhgijpgnilaaDoor
open Go.RowKit

/-- Handed back: v; draws alone. -/
def RetD (w0 : World) (v : Value) (e : Ending) (w' : World) : Prop := e = .returned v ∧ ∃ q, w' = w0.drewN q
theorem below_draws {B : Nat} {a w : World} (h : Below B a w) (n : Nat) : Below B a (w.drewN n) := ⟨h.os, h.tape, h.output, h.size, h.block⟩
theorem RetD.b {w0 w' : World} {v : Value} {e : Ending} (h : RetD w0 v e w') : RetP w0 v e w' := by
  obtain ⟨h1, q, rfl⟩ := h
  exact ⟨h1, below_draws (Below.refl _ _) q⟩
theorem quietE {P : Program} {f : FuncId} {args : Array Value} {w : World} {n : Nat} {v : Value} (h : Calls P f args (w.drewN n) (RetE (w.drewN n) v)) :
    Calls P f args (w.drewN n) fun e w'' => e = .returned v ∧ ∃ m, w'' = w.drewN m := h.mono fun _ _ hh => ⟨hh.1, n, hh.2.symm⟩
theorem quietE_add {P : Program} {f : FuncId} {args : Array Value} {w : World} {a n : Nat} {v : Value} (h : Calls P f args (w.drewN (a + n)) (RetE (w.drewN (a + n)) v)) :
    Calls P f args (w.drewN (a + n)) fun e w'' => e = .returned v ∧ ∃ m, w'' = w.drewN (a + m) := h.mono fun _ _ hh => ⟨hh.1, n, hh.2.symm⟩
theorem Rd.drewN {w : World} {xs : List Value} {A : Option Addr} {n c : Nat} (h : Rd w xs A n c) (k : Nat) : Rd (w.drewN k) xs A n c := ⟨h.len, h.cap, h.cells⟩
theorem Names.drewN {w : World} {l : List ByteArray} {A : Option Addr} {n c : Nat} (h : Names w l A n c) (k : Nat) : Names (w.drewN k) l A n c := Rd.drewN h k
theorem Syms.drewN {w : World} {l : List Nat} {A : Option Addr} {n c : Nat} (h : Syms w l A n c) (k : Nat) : Syms (w.drewN k) l A n c := Rd.drewN h k

end Go.Proofs.YtdlmhgijpgnilaaDoor
