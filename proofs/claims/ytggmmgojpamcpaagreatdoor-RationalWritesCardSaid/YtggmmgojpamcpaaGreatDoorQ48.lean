/- Parse reads what Format has written, in plain terms. -/
import Derived.Test.YtggmmgojpamcpaaGreatDoorQ22
import Derived.Test.YtggmmgojpamcpaaGreatDoorQ27
set_option linter.unusedVariables false
set_option linter.unusedSimpArgs false
namespace Go.Proofs.YtggmmgojpamcpaaGreatDoor
open Go.RowKit

theorem dig_ok {d : Nat} (h : d < 10) : isDig (UInt8.ofNat (48 + d)) = true ∧ (UInt8.ofNat (48 + d)).toNat - 48 = d := by
  have e : (UInt8.ofNat (48 + d)).toNat = 48 + d := by rw [UInt8.toNat_ofNat']; omega
  unfold isDig
  rw [e]
  exact ⟨decide_eq_true (by omega), by omega⟩
theorem dec_all (n : Nat) : ∀ c ∈ Lib.decDigits n, isDig c = true := by
  induction n using Nat.strongRecOn with
  | _ n ih =>
    by_cases h : n < 10
    · rw [Lib.decDigits, dif_pos h]
      intro c hc
      have : c = UInt8.ofNat (48 + n) := by simpa using hc
      rw [this]; exact (dig_ok h).1
    · rw [decDigits_big h]
      intro c hc
      rcases List.mem_append.1 hc with hc | hc
      · exact ih (n / 10) (by omega) c hc
      · have : c = UInt8.ofNat (48 + n % 10) := by simpa using hc
        rw [this]; exact (dig_ok (Nat.mod_lt _ (by decide))).1
theorem dec_val (n : Nat) : decVal 0 (Lib.decDigits n) = some n := by
  induction n using Nat.strongRecOn with
  | _ n ih =>
    by_cases h : n < 10
    · rw [Lib.decDigits, dif_pos h]
      simp only [decVal, (dig_ok h).1, (dig_ok h).2, if_true]
      congr 1; omega
    · rw [decDigits_big h, decVal_append, ih (n / 10) (by omega)]
      have hm := Nat.mod_lt n (show 0 < 10 by decide)
      simp only [Option.bind_some, decVal, (dig_ok hm).1, (dig_ok hm).2, if_true]
      congr 1; omega
theorem dec_head (n : Nat) (h0 : 1 ≤ n) : (Lib.decDigits n).getD 0 0 ≠ 48 := by
  induction n using Nat.strongRecOn with
  | _ n ih =>
    by_cases h : n < 10
    · rw [Lib.decDigits, dif_pos h]
      have e : (UInt8.ofNat (48 + n)).toNat = 48 + n := by rw [UInt8.toNat_ofNat']; omega
      intro hh
      have h1 : (UInt8.ofNat (48 + n)) = 48 := by simpa using hh
      rw [h1] at e
      have : (48 : UInt8).toNat = 48 := rfl
      omega
    · rw [decDigits_big h]
      have h1 := ih (n / 10) (by omega) (by omega)
      have h2 := decDigits_pos (n / 10)
      rw [List.getD_eq_getElem?_getD, List.getElem?_append_left (by omega), ← List.getD_eq_getElem?_getD]
      exact h1
theorem read_dec {n k : Nat} (h : (limbs n).length ≤ k) (hk : k ≤ 100) : readDec (Lib.decDigits n) = some n := by
  unfold readDec
  rw [if_neg, dec_val]
  intro hh
  have h1 := decDigits_pos n
  have h2 := decDigits_le h
  rcases hh with hh | hh | ⟨hh, h3⟩
  · omega
  · omega
  · rcases Nat.eq_zero_or_pos n with h0 | h0
    · subst h0
      rw [dec_zero] at hh
      simp at hh
    · exact dec_head n h0 h3
theorem no_dig {c : UInt8} (h : isDig c = true) : c ≠ 47 ∧ c ≠ 45 := by
  unfold isDig at h
  have h1 := of_decide_eq_true h
  refine ⟨fun e => ?_, fun e => ?_⟩ <;> (rw [e] at h1; revert h1; decide)
theorem index_hit47 (l r : List UInt8) (h : ∀ c ∈ l, c ≠ 47) : Lib.index (l ++ 47 :: r) [47] = l.length := by
  induction l with
  | nil => simp [Lib.index, List.isPrefixOf]
  | cons b l ih =>
    have hb := h b List.mem_cons_self
    have h1 := ih (fun c hc => h c (List.mem_cons_of_mem _ hc))
    have hne : (47 == b) = false := beq_eq_false_iff_ne.2 (fun e => hb e.symm)
    simp only [List.cons_append, Lib.index, List.isPrefixOf, hne, Bool.false_and, Bool.false_eq_true, if_false, h1]
    rw [if_neg (by simp)]
    simp
theorem index_miss47 (l : List UInt8) (h : ∀ c ∈ l, c ≠ 47) : Lib.index l [47] = -1 := by
  induction l with
  | nil => rfl
  | cons b l ih =>
    have hb := h b List.mem_cons_self
    have h1 := ih (fun c hc => h c (List.mem_cons_of_mem _ hc))
    have hne : (47 == b) = false := beq_eq_false_iff_ne.2 (fun e => hb e.symm)
    simp only [Lib.index, List.isPrefixOf, hne, Bool.false_and, Bool.false_eq_true, if_false, h1]
    rfl
theorem cut_hit47 (l r : List UInt8) (h : ∀ c ∈ l, c ≠ 47) : Lib.cut (l ++ 47 :: r) [47] = (l, r, true) := by
  unfold Lib.cut
  rw [index_hit47 l r h, if_pos (by omega)]
  simp
theorem cut_miss47 (l : List UInt8) (h : ∀ c ∈ l, c ≠ 47) : Lib.cut l [47] = (l, [], false) := by
  unfold Lib.cut
  rw [index_miss47 l h, if_neg (by omega)]
theorem prefix_no {l : List UInt8} (h : ∀ c ∈ l, c ≠ 45) : Lib.hasPrefix l [45] = false := by
  cases l with
  | nil => rfl
  | cons b l =>
    have hb := h b List.mem_cons_self
    have hne : (45 == b) = false := beq_eq_false_iff_ne.2 (fun e => hb e.symm)
    simp [Lib.hasPrefix, List.isPrefixOf, hne]
theorem prefix_yes (l : List UInt8) : Lib.hasPrefix (45 :: l) [45] = true := by simp [Lib.hasPrefix, List.isPrefixOf]
/-- The text of a number, behind its sign. -/
def tailQ (q : Rat) : List UInt8 := Lib.decDigits q.num.natAbs ++ (if q.den = 1 then [] else 47 :: Lib.decDigits q.den)
theorem parse_tail {q : Rat} {k : Nat} (hS : Sz q k) (hk : k ≤ 100) (neg : Bool) (hn : decide (q.num < 0) = neg) :
    (match readDec (Lib.cut (tailQ q) [47]).1 with
    | none => none
    | some n => if (Lib.cut (tailQ q) [47]).2.2 then (match readDec (Lib.cut (tailQ q) [47]).2.1 with | none => none | some d => if d = 0 then none else some (qv neg n d)) else some (qv neg n 1)) = some q := by
  have h1 : ∀ c ∈ Lib.decDigits q.num.natAbs, c ≠ 47 := fun c hc => (no_dig (dec_all _ c hc)).1
  unfold tailQ
  by_cases hd : q.den = 1
  · rw [if_pos hd, List.append_nil, cut_miss47 _ h1]
    simp only [read_dec hS.1 hk, Bool.false_eq_true, if_false]
    rw [← hn]
    have := qv_self q
    rw [hd] at this
    rw [this]
  · rw [if_neg hd, cut_hit47 _ _ h1]
    simp only [read_dec hS.1 hk, read_dec hS.2 hk, if_true, q.den_nz, if_false]
    rw [← hn, qv_self]
theorem parse_fmt {q : Rat} {k : Nat} (hS : Sz q k) (hk : k ≤ 100) : parseQ (fmtQ q) = some q := by
  have ht : ∀ c ∈ tailQ q, c ≠ 45 := by
    intro c hc
    unfold tailQ at hc
    rcases List.mem_append.1 hc with hc | hc
    · exact (no_dig (dec_all _ c hc)).2
    · split at hc
      · simp at hc
      · rcases List.mem_cons.1 hc with hc | hc
        · rw [hc]; decide
        · exact (no_dig (dec_all _ c hc)).2
  by_cases h : q.num < 0
  · have e : fmtQ q = 45 :: tailQ q := by unfold fmtQ tailQ; rw [if_pos h]; simp
    rw [e]
    unfold parseQ Lib.trimPrefix
    rw [prefix_yes]
    simp only [if_true, List.length_cons, List.length_nil, Nat.zero_add, List.drop_succ_cons, List.drop_zero]
    exact parse_tail hS hk true (decide_eq_true h)
  · have e : fmtQ q = tailQ q := by unfold fmtQ tailQ; rw [if_neg h]; simp
    rw [e]
    unfold parseQ Lib.trimPrefix
    rw [prefix_no ht]
    simp only [Bool.false_eq_true, if_false]
    exact parse_tail hS hk false (decide_eq_false h)
theorem fmt_size {q : Rat} (hS : Sz q 6) : (⟨(fmtQ q).toArray⟩ : ByteArray).size < 4294967281 := by
  show (fmtQ q).toArray.size < _
  have h1 := decDigits_le (X := q.num.natAbs) (k := 6) hS.1
  have h2 := decDigits_le (X := q.den) (k := 6) hS.2
  rw [List.size_toArray]
  unfold fmtQ
  rw [List.length_append, List.length_append]
  have h3 : (if q.num < 0 then [45] else ([] : List UInt8)).length ≤ 1 := by split <;> simp
  have h4 : (if q.den = 1 then ([] : List UInt8) else 47 :: Lib.decDigits q.den).length ≤ 62 := by
    split
    · simp
    · rw [List.length_cons]; omega
  omega
end Go.Proofs.YtggmmgojpamcpaaGreatDoor
