/- The bytes of names, and names: inNames, isName; Inner, named. -/
import Derived.Test.YtdlmhgijpgnilaaDoorQ03
import Derived.Lib.Walk
set_option linter.unusedVariables false
set_option linter.unusedSimpArgs false
namespace Go.Proofs.YtdlmhgijpgnilaaDoor
open Go.RowKit

end Go.Proofs.YtdlmhgijpgnilaaDoor

namespace Go.Proofs.YtdlmhgijpgnilaaDoor
open Go.RowKit

theorem ba_empty {s : ByteArray} (h : s.size = 0) : s = ⟨#[]⟩ := by
  obtain ⟨⟨l⟩⟩ := s
  have : l = [] := List.eq_nil_of_length_eq_zero (show l.length = 0 from h)
  rw [this]
theorem ba_lt (s : ByteArray) {k : Nat} (h : k < s.size) : s[k].toNat < 256 := by have := s[k].toNat_lt; omega
theorem toList_nil_iff (s : ByteArray) : s.toList = [] ↔ s.size = 0 := by
  have h := Lib.bytes_beq_iff s ⟨#[]⟩
  have e : (⟨#[]⟩ : ByteArray).toList = [] := by decide +kernel
  rw [e] at h
  constructor
  · intro hs
    rw [h.1 (by rw [hs]; rfl)]; rfl
  · intro hs
    have := ba_empty hs
    rw [this]; exact e
end Go.Proofs.YtdlmhgijpgnilaaDoor

namespace Go.Proofs.YtdlmhgijpgnilaaDoor
open Go.RowKit

end Go.Proofs.YtdlmhgijpgnilaaDoor

namespace Go.Proofs.YtdlmhgijpgnilaaDoor
open Go.RowKit

end Go.Proofs.YtdlmhgijpgnilaaDoor
