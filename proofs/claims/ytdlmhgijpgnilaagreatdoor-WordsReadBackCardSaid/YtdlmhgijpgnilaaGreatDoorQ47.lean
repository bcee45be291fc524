/- The law on writing and reading. -/
import Derived.Test.YtdlmhgijpgnilaaGreatDoorQ46
import Derived.Test.YtdlmhgijpgnilaaGreatDoorQ43
import Derived.Test.YtdlmhgijpgnilaaGreatDoorQ27
set_option linter.unusedVariables false
set_option linter.unusedSimpArgs false
namespace Go.Proofs.YtdlmhgijpgnilaaGreatDoor
open Go.RowKit

set_option maxRecDepth 100000 in
set_option maxHeartbeats 4000000 in
theorem write_law (A : Option Addr) (n c : Nat) (l : List ByteArray) (A' : Option Addr) (m c' : Nat) (r : List Int) (t : ByteArray) (w : World) (hT : Tab w) (h : Names w l A n c) (h' : Ints w r A' m c') :
    Calls Tryz.prog 4 #[.slice A n c, .slice A' m c', .string t] w (RetV w (.bool true)) := by
  have HT := Lib.hid hT
  have HL := Lib.hid h
  have HI := Lib.hid h'
  clear hT h h'
  obtain ⟨z, hz⟩ : ∃ z, fmtA l r = z := ⟨_, rfl⟩
  have HZ := Lib.hid hz
  obtain ⟨z1, z2⟩ := z
  obtain ⟨p1, hp1⟩ : ∃ x, castI (readA l t).1 = x := ⟨_, rfl⟩
  obtain ⟨p2, hp2⟩ : ∃ x, (readA l t).2 = x := ⟨_, rfl⟩
  have HP := Lib.hid (And.intro hp1 hp2)
  have eE : (z2 == z2) = true := by simp
  have eP : (p2 == p2) = true := by simp
  have eZ : (z1.toList == z1.toList) = true := by simp
  have hpl : p1.length ≤ 1073741824 := by
    rw [← hp1]
    unfold castI readA
    rw [List.length_map]
    split
    · split
      · simp
      · split
        · simp
        · split
          · simp
          · simp only [symsOf, List.length_map]; omega
    · simp
  clear hz hp1 hp2
  go_enter Tryz.func4, Tryz.ntmps4
  go_wp2_with fail
  refine (Strings_any _ _ _ _ _ HL.out).mono ?_
  rintro e w' ⟨V, rfl, hV, rfl⟩
  cases V with
  | false =>
    clear hV
    go_wp2_with fail
    refine (awake5_any _ HT.out).mono ?_
    rintro e0 w2 ⟨rfl, hb2⟩
    go_wp2_with fail
    go_ret
    exact ⟨rfl, hb2⟩
  | true =>
    clear hV
    by_cases h20 : (20 : Int) < (m : Int)
    · go_wp2_with fail
      refine (awake5_any _ HT.out).mono ?_
      rintro e0 w2 ⟨rfl, hb2⟩
      go_wp2_with fail
      go_ret
      exact ⟨rfl, hb2⟩
    by_cases h200 : (200 : Int) < (t.size : Int)
    · go_wp2_with fail
      refine (awake5_any _ HT.out).mono ?_
      rintro e0 w2 ⟨rfl, hb2⟩
      go_wp2_with fail
      go_ret
      exact ⟨rfl, hb2⟩
    go_wp2_with fail
    refine (wFormat_any A n c l A' m c' r _ HL.out HI.out (z1, z2) HZ).mono ?_
    rintro e0 w3 ⟨rfl, hb⟩
    go_wp2_with fail
    refine (qFormat_any A n c l A' m c' r _ (HL.out.below hb) (HI.out.below hb) (z1, z2) HZ).mono ?_
    rintro e0 w4 ⟨rfl, q, rfl⟩
    replace hb := below_draws hb q
    generalize w3.drewN q = w4 at *
    go_wp2_with fail
    refine (wParse_any A n c l t _ (HL.out.below hb)).mono ?_
    rw [HP.out.1, HP.out.2]
    rintro e0 w5 ⟨vc, rfl, oc, hb1⟩
    obtain ⟨A5, c5, rfl, hc⟩ := oc.reads
    clear oc
    replace hb := hb.trans (hb1.mono hb.size)
    clear hb1
    go_wp2_with fail
    refine (qParse_any A n c l t _ (HL.out.below hb)).mono ?_
    rw [HP.out.1, HP.out.2]
    rintro e0 w6 ⟨vd, rfl, od, hb1⟩
    obtain ⟨A6, c6, rfl, hd⟩ := od.reads
    clear od
    replace hc := hc.below hb1
    replace hb := hb.trans (hb1.mono hb.size)
    clear hb1
    go_wp2_with fail
    refine (awake5_any _ (HT.out.below hb)).mono ?_
    rintro e0 w7 ⟨rfl, hb1⟩
    replace hc := hc.below hb1
    replace hd := hd.below hb1
    replace hb := hb.trans (hb1.mono hb.size)
    clear hb1
    go_wp2_with fail
    refine (qSame_any A5 A6 _ c5 _ c6 p1 p1 _ true hc hd hpl hpl (Lib.hid (by simp))).mono ?_
    rintro e0 w9 ⟨rfl, qk, rfl⟩
    replace hb := hb.trans (below_of_drewN _ qk _)
    go_wp2_with fail
    go_ret
    exact ⟨rfl, hb⟩
end Go.Proofs.YtdlmhgijpgnilaaGreatDoor
