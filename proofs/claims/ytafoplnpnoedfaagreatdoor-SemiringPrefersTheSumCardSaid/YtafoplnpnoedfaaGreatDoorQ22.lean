/- Decimal chunks in plain terms. -/
import Derived.Test.YtafoplnpnoedfaaGreatDoorQ08
import Derived.Lib.ItoaNum
set_option linter.unusedVariables false
set_option linter.unusedSimpArgs false
namespace Go.Proofs.YtafoplnpnoedfaaGreatDoor
open Go

/-- The value of chunks of nine digits, the least significant first. -/
def cval : List Nat → Nat
  | [] => 0
  | c :: l => c + 1000000000 * cval l
theorem cval_snoc (l : List Nat) (c : Nat) : cval (l ++ [c]) = cval l + 1000000000 ^ l.length * c := by
  induction l with
  | nil => simp [cval]
  | cons x l ih => simp only [List.cons_append, cval, ih, List.length_cons, Nat.pow_succ]; grind
/-- A chunk with its zeros in front. -/
def pad9 (c : Nat) : List UInt8 := (Lib.decDigits (1000000000 + c)).drop 1
theorem decDigits_pos (u : Nat) : 1 ≤ (Lib.decDigits u).length := by
  unfold Lib.decDigits; split <;> simp
theorem decDigits_big {u : Nat} (h : ¬ u < 10) : Lib.decDigits u = Lib.decDigits (u / 10) ++ [UInt8.ofNat (48 + u % 10)] := by
  conv => lhs; rw [Lib.decDigits]
  rw [dif_neg h]
theorem decDigits_split (k : Nat) : ∀ (a c : Nat), 0 < a → c < 10 ^ k → Lib.decDigits (a * 10 ^ k + c) = Lib.decDigits a ++ (Lib.decDigits (10 ^ k + c)).drop 1 := by
  induction k with
  | zero =>
    intro a c ha hc
    have : c = 0 := by simpa using hc
    subst this
    have h1 : Lib.decDigits 1 = [49] := by unfold Lib.decDigits; rfl
    simp [h1]
  | succ k ih =>
    intro a c ha hc
    have hp : 0 < 10 ^ k := Nat.pow_pos (by decide)
    have ha1 : 10 ^ k ≤ a * 10 ^ k := Nat.le_mul_of_pos_left _ ha
    rw [Nat.pow_succ] at *
    rw [decDigits_big (u := a * (10 ^ k * 10) + c) (by rw [← Nat.mul_assoc]; omega), decDigits_big (u := 10 ^ k * 10 + c) (by omega)]
    rw [show (a * (10 ^ k * 10) + c) / 10 = a * 10 ^ k + c / 10 from by rw [← Nat.mul_assoc]; omega, show (10 ^ k * 10 + c) / 10 = 10 ^ k + c / 10 from by omega,
      show (a * (10 ^ k * 10) + c) % 10 = c % 10 from by rw [← Nat.mul_assoc]; omega, show (10 ^ k * 10 + c) % 10 = c % 10 from by omega,
      ih a (c / 10) ha (by omega), List.drop_append_of_le_length (decDigits_pos _), List.append_assoc]
theorem dec_chunk {a c : Nat} (ha : 0 < a) (hc : c < 1000000000) : Lib.decDigits (a * 1000000000 + c) = Lib.decDigits a ++ pad9 c := by
  have := decDigits_split 9 a c ha (by simpa using hc)
  simpa [pad9] using this
theorem dec_chunks (l : List Nat) (hl : ∀ c ∈ l, c < 1000000000) (a : Nat) (ha : 0 < a) : Lib.decDigits (a * 1000000000 ^ l.length + cval l) = Lib.decDigits a ++ (l.reverse.map pad9).flatten := by
  induction l with
  | nil => simp [cval]
  | cons c r ih =>
    have h1 := ih (fun x hx => hl x (List.mem_cons_of_mem _ hx))
    have h0 : a * 1000000000 ^ (c :: r).length + cval (c :: r) = (a * 1000000000 ^ r.length + cval r) * 1000000000 + c := by
      simp only [List.length_cons, Nat.pow_succ, cval]; grind
    have hpos : 0 < a * 1000000000 ^ r.length + cval r := Nat.add_pos_left (Nat.mul_pos ha (Nat.pow_pos (by decide))) _
    rw [h0, dec_chunk hpos (hl c List.mem_cons_self), h1]
    simp
/-- Chunks as appendDecimal lays them out: the top one, then the others downwards. -/
theorem dec_text {cs : List Nat} {n X : Nat} (hn : cs.length = n + 1) (hX : cval cs = X) (hl : ∀ c ∈ cs, c < 1000000000) (htop : cs.getD n 0 ≠ 0) :
    Lib.decDigits X = Lib.decDigits (cs.getD n 0) ++ ((cs.take n).reverse.map pad9).flatten := by
  have hsp : cs = cs.take n ++ [cs.getD n 0] := by
    conv => lhs; rw [← List.take_of_length_le (Nat.le_of_eq hn), take_snoc (by omega)]
  have hlen : (cs.take n).length = n := by rw [List.length_take]; omega
  have := dec_chunks (cs.take n) (fun c hc => hl c (List.mem_of_mem_take hc)) (cs.getD n 0) (Nat.pos_of_ne_zero htop)
  rw [← this, hlen, ← hX]
  congr 1
  conv => lhs; rw [hsp]
  rw [cval_snoc, hlen]
  grind
end Go.Proofs.YtafoplnpnoedfaaGreatDoor
