/- texts -/
import Derived.Test.YtifeekomegoijaaGreatDoorU39
import Derived.Test.YtifeekomegoijaaGreatDoorU43
import Derived.Test.YtifeekomegoijaaGreatDoorU14
import Derived.Test.YtifeekomegoijaaGreatDoorU13
import Derived.Test.YtifeekomegoijaaGreatDoorU11
import Derived.Test.YtifeekomegoijaaGreatDoorU30
import Derived.Test.YtifeekomegoijaaGreatDoorU22
import Derived.Test.YtifeekomegoijaaGreatDoorU42
import Derived.Test.YtifeekomegoijaaGreatDoorU12
import Derived.Laws.IdiomStrings
set_option linter.unusedVariables false
set_option linter.unusedSimpArgs false
namespace Go.Proofs.YtifeekomegoijaaGreatDoor
open Go.RowKit

theorem partB_len (k n : Nat) : (partB k n).length ≤ 3 := by unfold partB; split <;> simp
end Go.Proofs.YtifeekomegoijaaGreatDoor

namespace Go.Proofs.YtifeekomegoijaaGreatDoor
open Go.RowKit

theorem dig_small {n : Nat} (h : (Lib.decDigits n).length ≤ 200) : (limbs n).length ≤ 23 := by
 have h1 := decVal_lt (dec_val n)
 have h2 : (10 : Nat) ^ (Lib.decDigits n).length ≤ 10 ^ 200 := Nat.pow_le_pow_right (by omega) h
 have h3 : (10 : Nat) ^ 200 ≤ P 23 := by decide +kernel
 exact limbs_length_le (by omega)
theorem fmtQ_small {q : Rat} (h : (fmtQ q).length ≤ 200) : Sz q 23 := by
 unfold fmtQ at h
 rw [List.length_append, List.length_append] at h
 refine ⟨dig_small (by omega), ?_⟩
 by_cases hd : q.den = 1
 ·rw [hd, limbs_one]; decide
 ·rw [if_neg hd] at h
  simp only [List.length_cons] at h
  exact dig_small (by omega)
theorem tx_len {m : Mon} (h : absq m.2 ≠ 1) : (fmtQ (absq m.2)).length ≤ (tx m).length := by
 unfold tx pcs
 rw [if_pos (.inr h), List.singleton_append, Lib.join_cons, List.length_append]
 omega
theorem tx_le_rest {m : Mon} {l : List Mon} (h : m ∈ l) : (tx m).length ≤ (restT l).length := by
 induction l with
 | nil => cases h
 | cons x r ih =>
  unfold restT
  rw [List.flatMap_cons, List.length_append]
  rcases List.mem_cons.1 h with rfl | h
  ·simp only [List.length_cons]; omega
  ·have := ih h
   unfold restT at this
   omega
theorem tx_le_fmt {m : Mon} {l : List Mon} (hk : ∀ x ∈ l, okM x) (h : m ∈ l) : (tx m).length ≤ (fmtP l).length := by
 cases l with
 | nil => cases h
 | cons x r =>
  rw [fmtP_cons hk, List.length_append, List.length_append]
  rcases List.mem_cons.1 h with rfl | h
  ·omega
  ·have := tx_le_rest h
   omega
theorem sz_of_absq {q : Rat} {L : Nat} (h : Sz (absq q) L) : Sz q L := by
 have e := absq_abs q
 have h2 : Sz q.abs L := by rw [← e]; exact h
 unfold Sz at h2 ⊢
 rw [abs_num, abs_den] at h2
 simpa using h2
theorem small_text {l : List Mon} (hv : VP l) (h : (fmtP l).length ≤ 200) : SzL l 100 := by
 intro m hm
 have hk : ∀ x ∈ l, okM x := fun x hx => okM_of (hv.1 x hx).1
 have h1 := tx_le_fmt hk hm
 refine sz_of_absq ?_
 by_cases h0 : absq m.2 = 1
 ·rw [h0]; exact sz_one' 100 (by omega)
 ·exact (fmtQ_small (Nat.le_trans (tx_len h0) (by omega))).mono (by omega)
theorem sz_qv' {neg : Bool} {a d L : Nat} (hd : d ≠ 0) (ha : (limbs a).length ≤ L) (hdl : (limbs d).length ≤ L) : Sz (qv neg a d) L := by
 unfold qv
 exact sz_le hd (by rw [sgn_abs]; exact ha) hdl
theorem join_len : ∀ xs : List (List UInt8), (Lib.join xs [42]).length ≤ (xs.map (fun x => x.length + 1)).sum
 | [] => by simp [Lib.join_nil]
 | x :: r => by
  have h : (Lib.joinTail [42] r).length ≤ (r.map (fun x => x.length + 1)).sum := by
   induction r with
   | nil => simp [Lib.joinTail]
   | cons y r ih =>
    unfold Lib.joinTail at ih ⊢
    simp only [List.map_cons, List.flatten_cons, List.length_append, List.sum_cons, List.length_cons, List.length_nil]
    omega
  rw [Lib.join_cons, List.length_append, List.map_cons, List.sum_cons]
  omega
theorem pk_len (k n : Nat) : ((pk k n).map (fun x => x.length + 1)).sum ≤ 4 := by
 unfold pk
 split
 ·simp
 ·have := partB_len k n
  simp
  omega
theorem fmtQ_len {q : Rat} {k : Nat} (h : Sz q k) : (fmtQ q).length ≤ 20 * k + 4 := by
 have h1 := decDigits_le h.1
 have h2 := decDigits_le h.2
 unfold fmtQ
 rw [List.length_append, List.length_append]
 have h3 : (if q.num < 0 then [(45 : UInt8)] else []).length ≤ 1 := by split <;> simp
 have h4 : (if q.den = 1 then [] else (47 : UInt8) :: Lib.decDigits q.den).length ≤ 10 * k + 2 := by
  split
  ·simp
  ·simp only [List.length_cons]; omega
 omega
theorem tx_short {m : Mon} (h : Sz m.2 2) : (tx m).length ≤ 60 := by
 have h1 := fmtQ_len (sz_abs (a := absq m.2) h rfl)
 have h2 := join_len (pcs m)
 have h3 := pk_len 0 m.1.1
 have h4 := pk_len 1 m.1.2.1
 have h5 := pk_len 2 m.1.2.2
 unfold tx
 refine Nat.le_trans h2 ?_
 unfold pcs
 rw [List.map_append, List.map_append, List.map_append, List.sum_append, List.sum_append, List.sum_append]
 have h6 : ((if m.1 = (0, 0, 0) ∨ absq m.2 ≠ 1 then [fmtQ (absq m.2)] else []).map (fun x => x.length + 1)).sum ≤ 45 := by
  split
  ·simp; omega
  ·simp
 omega
theorem rest_short {l : List Mon} (h : SzL l 2) : (restT l).length ≤ 63 * l.length := by
 induction l with
 | nil => simp [restT]
 | cons x r ih =>
  have h1 := tx_short (h x (by simp))
  have h2 := ih (fun m hm => h m (by simp [hm]))
  unfold restT at h2 ⊢
  rw [List.flatMap_cons, List.length_append]
  simp only [List.length_cons]
  omega
theorem fmt_short {l : List Mon} (hv : VP l) (h : SzL l 2) : (fmtP l).length ≤ 63 * l.length + 1 := by
 have hk : ∀ x ∈ l, okM x := fun x hx => okM_of (hv.1 x hx).1
 cases l with
 | nil => decide
 | cons x r =>
  have h1 := tx_short (h x (by simp))
  have h2 := rest_short (l := r) (fun m hm => h m (by simp [hm]))
  rw [fmtP_cons hk, List.length_append, List.length_append]
  have h3 : (if x.2.num < 0 then [(45 : UInt8)] else []).length ≤ 1 := by split <;> simp
  simp only [List.length_cons]
  omega
theorem parseQ_sz {l : List UInt8} {q : Rat} (h : parseQ l = some q) : Sz q 2000 := by
 unfold parseQ at h
 simp only at h
 split at h
 ·cases h
 ·rename_i n hn
  have h1 := readDec_length hn
  split at h
  ·split at h
   ·cases h
   ·rename_i d hd
    have h2 := readDec_length hd
    split at h
    ·cases h
    ·rename_i hd0
     obtain rfl := Option.some.inj h
     exact sz_qv' hd0 h1 h2
  ·obtain rfl := Option.some.inj h
   exact sz_qv' (by omega) h1 (by rw [limbs_one]; decide)
end Go.Proofs.YtifeekomegoijaaGreatDoor
