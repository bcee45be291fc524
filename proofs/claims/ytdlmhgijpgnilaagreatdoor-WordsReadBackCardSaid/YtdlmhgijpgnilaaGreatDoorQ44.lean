/- strings.Index of one space. -/
import Derived.Test.YtdlmhgijpgnilaaGreatDoorQ04
import Derived.Test.YtdlmhgijpgnilaaGreatDoorQ40
set_option linter.unusedVariables false
set_option linter.unusedSimpArgs false
namespace Go.Proofs.YtdlmhgijpgnilaaGreatDoor
open Go.RowKit

set_option maxRecDepth 100000 in
set_option maxHeartbeats 1000000 in
theorem lite_space (s : ByteArray) (w : World) (hs : s.size ≤ 1000000) : Calls Tryz.prog 138 #[.string s, .string ⟨#[32]⟩] w (RetE w (.int .i64 (Lib.indexByte s.data.toList 32))) := by
  have h0 : ((1 : Int) == 0) = false := by decide
  have hix : ∀ w, (Instr.index 9 (.string ⟨#[32]⟩) (.int .i64 0)).run Tryz.prog w = .ok (.int .u8 32) w := fun w => by kernel_rfl
  by_cases hq : s = ⟨#[32]⟩
  · subst hq
    have hz : Hid (Lib.indexByte (⟨#[32]⟩ : ByteArray).data.toList 32 = 0) := Lib.hid (by kernel_rfl)
    have ht : ((⟨#[32]⟩ : ByteArray).toList == (⟨#[32]⟩ : ByteArray).toList) = true := by rw [Lib.bytes_beq_iff]
    go_enter Tryz.func138, Tryz.ntmps138
    go_wp2_with fail
    go_ret
    rw [hz.out]
    exact ⟨rfl, rfl⟩
  · have ht : ([32] == s.toList) = false := by
      have := (Lib.bytes_beq_false_iff (⟨#[32]⟩ : ByteArray) s).2 (fun e => hq e.symm)
      rwa [Lib.toList_data] at this
    clear hq
    go_enter Tryz.func138, Tryz.ntmps138
    go_wp2_with fail
    refine (indexByte_lite s 32 _).mono ?_
    rintro e w' ⟨rfl, rfl⟩
    go_wp2_with fail
    go_ret
    exact ⟨rfl, rfl⟩
set_option maxHeartbeats 1000000 in
theorem index_space (s : ByteArray) (w : World) (hs : s.size ≤ 1000000) : Calls Tryz.prog 121 #[.string s, .string ⟨#[32]⟩] w (RetE w (.int .i64 (Lib.indexByte s.data.toList 32))) := by
  go_enter Tryz.func121, Tryz.ntmps121
  go_wp2_with fail
  refine (lite_space s _ hs).mono ?_
  rintro e w' ⟨rfl, rfl⟩
  go_wp2_with fail
  go_ret
  exact ⟨rfl, rfl⟩
/-- Where the first space stands. -/
theorem noSpace {l : List UInt8} (h : ∀ c ∈ l, c ≠ 32) : Lib.indexByte l 32 = -1 := by
  induction l with
  | nil => rfl
  | cons a l ih =>
    have ha : (a == 32) = false := by simpa using h a (List.mem_cons_self ..)
    have := ih fun c hc => h c (List.mem_cons_of_mem _ hc)
    simp [Lib.indexByte, ha, this]
theorem atSpace {p q : List UInt8} (h : ∀ c ∈ p, c ≠ 32) : Lib.indexByte (p ++ 32 :: q) 32 = (p.length : Int) := by
  induction p with
  | nil => simp [Lib.indexByte]
  | cons a l ih =>
    have ha : (a == 32) = false := by simpa using h a (List.mem_cons_self ..)
    have := ih fun c hc => h c (List.mem_cons_of_mem _ hc)
    have hne : ¬ ((l.length : Int) = -1) := by omega
    simp [Lib.indexByte, ha, this, hne]
theorem space_or (l : List UInt8) : (∀ c ∈ l, c ≠ 32) ∨ ∃ p q, l = p ++ 32 :: q ∧ ∀ c ∈ p, c ≠ 32 := by
  induction l with
  | nil => exact .inl (by simp)
  | cons a l ih =>
    by_cases ha : a = 32
    · exact .inr ⟨[], l, by rw [ha]; rfl, by simp⟩
    · rcases ih with h | ⟨p, q, h, hp⟩
      · exact .inl (List.forall_mem_cons.2 ⟨ha, h⟩)
      · exact .inr ⟨a :: p, q, by rw [h]; rfl, List.forall_mem_cons.2 ⟨ha, hp⟩⟩
end Go.Proofs.YtdlmhgijpgnilaaGreatDoor
