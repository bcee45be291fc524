/- Tables: Valid of the specification; two lists compared. -/
import Derived.Test.YtdlmhgijpgnilaaGreatDoorQ04
import Derived.Deep.QuietTactic
import Derived.BigQuiet
set_option linter.unusedVariables false
set_option linter.unusedSimpArgs false
namespace Go.Proofs.YtdlmhgijpgnilaaGreatDoor
open Go.RowKit

/-- Handed back: v; draws alone. -/
def RetD (w0 : World) (v : Value) (e : Ending) (w' : World) : Prop := e = .returned v ∧ ∃ q, w' = w0.drewN q
theorem below_draws {B : Nat} {a w : World} (h : Below B a w) (n : Nat) : Below B a (w.drewN n) := ⟨h.os, h.tape, h.output, h.size, h.block⟩
theorem RetD.b {w0 w' : World} {v : Value} {e : Ending} (h : RetD w0 v e w') : RetP w0 v e w' := by
  obtain ⟨h1, q, rfl⟩ := h
  exact ⟨h1, below_draws (Below.refl _ _) q⟩
theorem quietE {P : Program} {f : FuncId} {args : Array Value} {w : World} {n : Nat} {v : Value} (h : Calls P f args (w.drewN n) (RetE (w.drewN n) v)) :
    Calls P f args (w.drewN n) fun e w'' => e = .returned v ∧ ∃ m, w'' = w.drewN m := h.mono fun _ _ hh => ⟨hh.1, n, hh.2.symm⟩
theorem quietE_add {P : Program} {f : FuncId} {args : Array Value} {w : World} {a n : Nat} {v : Value} (h : Calls P f args (w.drewN (a + n)) (RetE (w.drewN (a + n)) v)) :
    Calls P f args (w.drewN (a + n)) fun e w'' => e = .returned v ∧ ∃ m, w'' = w.drewN (a + m) := h.mono fun _ _ hh => ⟨hh.1, n, hh.2.symm⟩
theorem Rd.drewN {w : World} {xs : List Value} {A : Option Addr} {n c : Nat} (h : Rd w xs A n c) (k : Nat) : Rd (w.drewN k) xs A n c := ⟨h.len, h.cap, h.cells⟩
theorem Names.drewN {w : World} {l : List ByteArray} {A : Option Addr} {n c : Nat} (h : Names w l A n c) (k : Nat) : Names (w.drewN k) l A n c := Rd.drewN h k
theorem Syms.drewN {w : World} {l : List Nat} {A : Option Addr} {n c : Nat} (h : Syms w l A n c) (k : Nat) : Syms (w.drewN k) l A n c := Rd.drewN h k

set_option maxHeartbeats 4000000 in
theorem r_Valid_any (A : Option Addr) (n c : Nat) (l : List ByteArray) (w : World) (h : Names w l A n c) (V : Bool) (H : Hid (tab l = V)) :
    Calls Tryz.prog 27 #[.slice A n c] w (RetD w (.bool V)) := by
  have hnl := h.len
  by_cases h0 : n = 0
  · obtain rfl : V = false := by rw [← H.out]; exact tab_none (by omega)
    subst h0
    clear H h hnl
    go_enter Tryz.func27, Tryz.ntmps27
    go_wp2_with fail
    go_ret
    exact ⟨rfl, 0, rfl⟩
  · have e0 : ¬ (n : Int) < 1 := by omega
    by_cases h1 : 32 < n
    · obtain rfl : V = false := by rw [← H.out]; exact tab_many (by omega)
      have h2 : (32 : Int) < (n : Int) := by omega
      clear H h hnl h0
      go_enter Tryz.func27, Tryz.ntmps27
      go_wp2_with fail
      go_ret
      exact ⟨rfl, 0, rfl⟩
    · have h2 : ¬ (32 : Int) < (n : Int) := by omega
      have h3 : n ≤ 32 := by omega
      have h4 : 0 < n := by omega
      have HN := Lib.hid hnl
      have HL := Lib.hid h
      clear h hnl h0 h1
      go_enter Tryz.func27, Tryz.ntmps27
      go_wp2_with fail
      clear e0
      go_loopw [3] (fun i wr => ∃ k q : Nat, k ≤ n ∧ i = .int .i64 k ∧ wr = w.drewN q ∧ Hid (firsts l k)) (fun i _ => n - (intOf i).toNat)
      case atStart => exact ⟨0, 0, Nat.zero_le _, rfl, rfl, show Hid _ from fun j h => absurd h (by omega)⟩
      case round =>
        obtain ⟨k, q, hk, rfl, rfl, HE⟩ := hrel
        rcases Nat.lt_or_ge k n with hkn | hkn
        · obtain ⟨b, o, rfl, _, hc⟩ := HL.out.at_ hkn
          have HT := Lib.hid (HL.out.take (k := k) (by omega))
          have hk30 : k ≤ 1073741824 := by omega
          obtain ⟨s, hs⟩ : ∃ s, l.getD k ByteArray.empty = s := ⟨_, rfl⟩
          rw [hs] at hc
          obtain ⟨V1, hV1⟩ : ∃ b, nmd s = b := ⟨_, rfl⟩
          obtain ⟨m, hm⟩ : ∃ m, fnd (l.take k) s = m := ⟨_, rfl⟩
          have HS := Lib.hid hs
          have HV1 := Lib.hid hV1
          have HM := Lib.hid hm
          have hck : k ≤ c := by have := HL.out.cap; omega
          have hkn2 : (k : Int) < (n : Int) := by omega
          clear hs hV1 hm
          cases V1
          · go_wp2_with fail
            go_quiet ((go_at_call 64; first | exact quietE_add (named_any s _ false HV1) | exact quietE (named_any s _ false HV1)))
            go_wp2_with fail
            go_ret
            refine ⟨y_bool ?_, _, World.drewN_drewN ..⟩
            rw [← H.out]
            exact (tab_bad (i := k) (by have := HN.out; omega) (by rw [HS.out, HV1.out]; simp)).symm
          · rcases Nat.eq_zero_or_pos m with rfl | hm0
            · go_wp2_with fail
              go_quiet ((first | (go_at_call 64; first | exact quietE_add (named_any s _ true HV1) | exact quietE (named_any s _ true HV1)) | (go_at_call 65; first | exact quietE_add (find_any _ _ _ _ s _ (HT.out.drewN _) hk30 0 HM) | exact quietE (find_any _ _ _ _ s _ (HT.out.drewN _) hk30 0 HM))))
              go_wp2_with fail
              go_roundw
              case rel => exact ⟨k + 1, _, by omega, by go_num, rfl, show Hid _ from firsts_step HE.out (by rw [HS.out]; exact HV1.out) (by rw [HS.out]; exact HM.out)⟩
              case measure => simp [intOf]; omega
            · have hm1 : (0 : Int) < (m : Int) := by omega
              go_wp2_with fail
              go_quiet ((first | (go_at_call 64; first | exact quietE_add (named_any s _ true HV1) | exact quietE (named_any s _ true HV1)) | (go_at_call 65; first | exact quietE_add (find_any _ _ _ _ s _ (HT.out.drewN _) hk30 m HM) | exact quietE (find_any _ _ _ _ s _ (HT.out.drewN _) hk30 m HM))))
              go_wp2_with fail
              go_ret
              refine ⟨y_bool ?_, _, World.drewN_drewN ..⟩
              rw [← H.out]
              exact (tab_bad (i := k) (by have := HN.out; omega) (by rw [HS.out]; have := HM.out; omega)).symm
        · go_wp2_with fail
          go_ret
          refine ⟨y_bool ?_, q, rfl⟩
          rw [← H.out]
          obtain rfl : k = n := by omega
          have := HN.out
          exact (tab_mk (by omega) (by omega) (by rw [← this]; exact HE.out)).symm
end Go.Proofs.YtdlmhgijpgnilaaGreatDoor
