import Derived.Test.YtifeekomegoijaaGreatDoorY02
import Derived.Lib.ParseIntBCases
set_option linter.unusedVariables false
set_option linter.unusedSimpArgs false
namespace Go.Proofs.YtifeekomegoijaaGreatDoor
open Go
def isDig (c : UInt8) : Bool := decide (48 <= c.toNat /\ c.toNat <= 57)
def decVal (acc : Nat) : List UInt8 -> Option Nat
 | [] => some acc
 | c :: r => if isDig c then decVal (acc * 10 + (c.toNat - 48)) r else none
theorem decVal_append (acc : Nat) (a b : List UInt8) : decVal acc (a ++ b) = (decVal acc a).bind fun x => decVal x b := by
 induction a generalizing acc with
 | nil => rfl
 | cons c r ih =>
   simp only [List.cons_append, decVal]
   split
   ·exact ih _
   ·rfl
theorem decVal_shift (acc : Nat) (l : List UInt8) : decVal acc l = (decVal 0 l).map fun u => acc * 10 ^ l.length + u := by
 induction l generalizing acc with
 | nil => simp [decVal]
 | cons c r ih =>
   simp only [decVal]
   split
   ·rw [ih, ih (0 * 10 + _), Option.map_map]
    congr 1
    funext u
    simp only [Function.comp, List.length_cons, Nat.pow_succ, Nat.zero_mul, Nat.zero_add]
    grind
   ·rfl
theorem decVal_lt {l : List UInt8} {u : Nat} (h : decVal 0 l = some u) : u < 10 ^ l.length := by
 induction l generalizing u with
 | nil => simp [decVal] at h; subst h; simp
 | cons c r ih =>
   simp only [decVal] at h
   split at h
   ·next hc =>
    have hd : c.toNat - 48 <= 9 := by have := of_decide_eq_true hc; omega
    rw [decVal_shift] at h
    obtain ⟨x, hx, rfl⟩ := Option.map_eq_some_iff.1 h
    have h1 := ih hx
    have h2 : (c.toNat - 48) * 10 ^ r.length <= 9 * 10 ^ r.length := Nat.mul_le_mul_right _ hd
    rw [List.length_cons, Nat.pow_succ, Nat.zero_mul, Nat.zero_add]
    omega
   ·cases h
abbrev synt := Lib.parseUintB 32 []
theorem parse_chunk (l : List UInt8) (acc j : Nat) (ha : acc < 10 ^ j) (hj : j + l.length <= 9) : Lib.parseUintM 4294967295 acc l = match decVal acc l with | some u => .ok u | none => synt := by
 induction l generalizing acc j with
 | nil => rfl
 | cons c r ih =>
   have hj' : j + 1 + r.length <= 9 := by simp only [List.length_cons] at hj; omega
   have hp : 10 ^ (j + 1) <= 10 ^ 9 := Nat.pow_le_pow_right (by decide) (by omega)
   simp only [Lib.parseUintM, decVal]
   split
   ·next hc =>
    have hlt : acc * 10 + (c.toNat - 48) < 10 ^ (j + 1) := by
     rw [Nat.pow_succ]; omega
    have h9 : (10 : Nat) ^ 9 = 1000000000 := by decide
    rw [if_neg (by omega), if_neg (by omega), ih _ (j + 1) hlt hj']
    rw [if_pos (show isDig c = true from decide_eq_true hc)]
   ·next hc =>
    rw [if_neg (show ¬ isDig c = true from fun h => hc (of_decide_eq_true h))]
    rfl
theorem parse32 {l : List UInt8} (h0 : l ≠ []) (h : l.length <= 9) : (∃ u, Lib.parseUintB 32 l = .ok u /\ decVal 0 l = some u /\ u < 4294967296) \/ (Lib.parseUintB 32 l = synt /\ decVal 0 l = none) := by
 have hp := parse_chunk l 0 0 (by decide) (by omega)
 unfold Lib.parseUintB
 rw [if_neg h0, show 2 ^ 32 - 1 = 4294967295 from rfl, hp]
 cases hd : decVal 0 l with
 | none => exact .inr ⟨rfl, rfl⟩
 | some u =>
   have h1 := decVal_lt hd
   have h2 : 10 ^ l.length <= 10 ^ 9 := Nat.pow_le_pow_right (by decide) h
   have h9 : (10 : Nat) ^ 9 = 1000000000 := by decide
   exact .inl ⟨u, rfl, rfl, by omega⟩
def readDec (l : List UInt8) : Option Nat :=
 if l.length = 0 \/ 2000 < l.length \/ (1 < l.length /\ l.getD 0 0 = 48) then none else decVal 0 l
theorem pow_ten_P {n m : Nat} (h : n <= m) : 10 ^ n <= P m := by
 refine Nat.le_trans ?_ (P_le h)
 unfold P
 exact Nat.pow_le_pow_left (by decide) n
theorem dec_step {l t : List UInt8} {X k u : Nat} (hX : decVal 0 l = decVal X t) (hb : X < 10 ^ (l.length - t.length)) (hk : X = 0 \/ k = 9) (hkt : k <= t.length) (htl : t.length <= l.length) (h : decVal 0 (t.take k) = some u) :
 decVal 0 l = decVal (X * 1000000000 + u) (t.drop k) /\ X * 1000000000 + u < 10 ^ (l.length - (t.drop k).length) := by
 have hlen : (t.take k).length = k := by rw [List.length_take]; omega
 have hXk : X * 1000000000 = X * 10 ^ k := by
  rcases hk with h | h
  ·rw [h]; simp
  ·rw [h]
 have hu := decVal_lt h
 rw [hlen] at hu
 refine ⟨?_, ?_⟩
 ·rw [hX]
  conv => lhs; rw [<- List.take_append_drop k t]
  rw [decVal_append, decVal_shift, h, hlen, hXk]; rfl
 ·rw [hXk, List.length_drop, show l.length - (t.length - k) = (l.length - t.length) + k from by omega, Nat.pow_add]
  have : X * 10 ^ k + 10 ^ k <= 10 ^ (l.length - t.length) * 10 ^ k := by
   rw [<- Nat.succ_mul]; exact Nat.mul_le_mul_right _ hb
  omega
theorem dec_none {l t : List UInt8} {X k : Nat} (hX : decVal 0 l = decVal X t) (h : decVal 0 (t.take k) = none) : decVal 0 l = none := by
 rw [hX, <- List.take_append_drop k t, decVal_append, decVal_shift, h]; rfl
end Go.Proofs.YtifeekomegoijaaGreatDoor
