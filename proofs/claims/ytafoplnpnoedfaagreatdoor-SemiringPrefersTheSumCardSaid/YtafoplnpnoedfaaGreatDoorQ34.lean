/- awake, light, fair. -/
import Derived.Test.YtafoplnpnoedfaaGreatDoorQ32
import Derived.Test.YtafoplnpnoedfaaGreatDoorQ14
import Derived.Test.YtafoplnpnoedfaaGreatDoorQ16
import Derived.Test.YtafoplnpnoedfaaGreatDoorQ24
import Derived.Test.YtafoplnpnoedfaaGreatDoorQ15
import Derived.Deep.RegionHeld3
set_option linter.unusedVariables false
set_option linter.unusedSimpArgs false
namespace Go.Proofs.YtafoplnpnoedfaaGreatDoor
open Go.RowKit

theorem fmt_of {neg : Bool} {a d : Nat} (hd : d ≠ 0) (hg : Nat.gcd a d = 1) : fmtQ (qv neg a d) = (if (neg && decide (a ≠ 0)) = true then [45] else []) ++ Lib.decDigits a ++ (if d = 1 then [] else 47 :: Lib.decDigits d) := by
  unfold fmtQ
  rw [(qv_low hd hg).1, (qv_low hd hg).2, sgn_abs, ← sgn_neg]
  simp
theorem sz_qv {neg : Bool} {a d L : Nat} (hd : d ≠ 0) (hg : Nat.gcd a d = 1) (ha : (limbs a).length ≤ L) (hdl : (limbs d).length ≤ L) : Sz (qv neg a d) L := by
  unfold Sz
  rw [(qv_low hd hg).1, (qv_low hd hg).2, sgn_abs]
  exact ⟨ha, hdl⟩
theorem dec_dig {n : Nat} (h : n < 10) : Lib.decDigits n = [UInt8.ofNat (48 + n)] := by rw [Lib.decDigits, dif_pos h]
theorem small_len {n : Nat} (h : n < 4294967296) : (limbs n).length ≤ 1 := limbs_length_le (by unfold P; omega)

/-- What a law is given: three fields. -/
structure Fld (w : World) (v : Value) (neg : Bool) (ln ld : List Nat) : Prop where
  out : ∃ A n c A' m c', v = .agg #[.bool neg, .slice A n c, .slice A' m c'] ∧ Num w ln A n c ∧ Num w ld A' m c'
theorem Fld.below {w w' : World} {v : Value} {neg : Bool} {ln ld : List Nat} (h : Fld w v neg ln ld) (hb : Below w.heap.size w w') : Fld w' v neg ln ld := by
  obtain ⟨A, n, c, A', m, c', e, h1, h2⟩ := h.out
  exact ⟨A, n, c, A', m, c', e, h1.below hb, h2.below hb⟩
def lgt (ln ld : List Nat) : Bool := decide (ln.length ≤ 6) && decide (ld.length ≤ 6)
theorem valid_f (v : Value) (neg : Bool) (ln ld : List Nat) (w : World) (V : Bool) (h : Fld w v neg ln ld) (hl : lgt ln ld = true) (H : Hid (vld neg ln ld = V)) : Calls Tryz.prog 41 #[v] w (RetV w (.bool V)) := by
  obtain ⟨A, n, c, A', m, c', rfl, h1, h2⟩ := h.out
  unfold lgt at hl
  simp only [Bool.and_eq_true, decide_eq_true_eq] at hl
  exact r_Valid neg A A' n c m c' ln ld w V h1 h2 (by rw [h1.len]; omega) (by rw [h2.len]; omega) H
theorem Fld.agg {w : World} {v : Value} {neg : Bool} {ln ld : List Nat} (h : Fld w v neg ln ld) : ∃ A n c A' m c', v = .agg #[.bool neg, .slice A n c, .slice A' m c'] := by
  obtain ⟨A, n, c, A', m, c', e, _⟩ := h.out
  exact ⟨A, n, c, A', m, c', e⟩
end Go.Proofs.YtafoplnpnoedfaaGreatDoor

namespace Go.Proofs.YtafoplnpnoedfaaGreatDoor
open Go.RowKit

def frr (x y z : Bool × List Nat × List Nat) : Bool := lgt x.2.1 x.2.2 && lgt y.2.1 y.2.2 && lgt z.2.1 z.2.2 && vld x.1 x.2.1 x.2.2 && vld y.1 y.2.1 y.2.2 && vld z.1 z.2.1 z.2.2
end Go.Proofs.YtafoplnpnoedfaaGreatDoor
