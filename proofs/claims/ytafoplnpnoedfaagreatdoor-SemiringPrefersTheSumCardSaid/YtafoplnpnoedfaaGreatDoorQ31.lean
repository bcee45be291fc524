/- Format of the product of Rational and Tropical at a cost of 0. -/
import Derived.Test.YtafoplnpnoedfaaGreatDoorQ30
import Derived.Deep.RegionHeld3
set_option linter.unusedVariables false
set_option linter.unusedSimpArgs false
namespace Go.Proofs.YtafoplnpnoedfaaGreatDoor
open Go.RowKit

theorem mkS2 (W : World) : (Instr.makeSlice 112 (.int .i64 2) (.int .i64 2)).run Tryz.prog W = .ok (.slice (some ⟨W.heap.size, 0, none⟩) 2 2) (W.alloc (.cells #[.string ⟨#[]⟩, .string ⟨#[]⟩] 9)) := by
  have h := run_make_row' (P := Tryz.prog) 112 9 (.string ⟨#[]⟩) 16 Tryz.underlying112 (by kernel_rfl) rfl .i64 .i64 2 (by omega) (by omega) W
  have e : madeCells #[Value.string ⟨#[]⟩] 2 = #[.string ⟨#[]⟩, .string ⟨#[]⟩] := by kernel_rfl
  rw [e] at h
  exact h
theorem join2 (g : Nat) (S1 T : ByteArray) (w : World) (hO : Cs w g [.string S1, .string ⟨#[48]⟩] 9) (HJ : Hid ((⟨(Lib.join [S1.data.toList, [48]] [124]).toArray⟩ : ByteArray) = T)) (HL : Hid ((Lib.join [S1.data.toList, [48]] [124]).length ≤ 140737488355328)) :
    Calls Tryz.prog 130 #[.slice (some ⟨g, 0, none⟩) 2 2, .string ⟨#[124]⟩] w (RetV w (.string T)) := by
  have h := Lx.Tryz.strings_Join g 0 2 [S1, ⟨#[48]⟩] ⟨#[124]⟩ w (fun i x hi => by
    match i, hi with
    | 0, hi => simp at hi; subst hi; exact hO.cell (k := 0) rfl
    | 1, hi => simp at hi; subst hi; exact hO.cell (k := 1) rfl
    | i + 2, hi => simp at hi) hO.lt (show 2 ≤ 140737488355328 by omega) (Nat.le_refl _) HL.out
  have e : (⟨(Lib.join (([S1, ⟨#[48]⟩] : List ByteArray).map (·.data.toList)) (⟨#[124]⟩ : ByteArray).data.toList).toArray⟩ : ByteArray) = T := HJ.out
  rw [e] at h
  exact h
theorem Txt.drew {w : World} (h : Txt w) : Txt w.drew := h.keep (fun _ _ => rfl)
set_option maxRecDepth 20000 in
set_option maxHeartbeats 4000000 in
theorem formatTuple_prod (g cap ge : Nat) (nb : Bool) (A B : Option Addr) (n c m e : Nat) (q : Rat) (b1 b2 b3 b4 : Nat) (S1 T : ByteArray) (w : World) (hT : Txt w) (hP : Parts w (.slice (some ⟨g, 0, none⟩) 2 cap) (nopsL b1 b2 ++ copsL b3 b4)) (hE : Cs w ge (pairL nb A n c B m e 0 false) 32) (hq : RatQ w (.agg #[.bool nb, .slice A n c, .slice B m e]) q) (hS : Sz q 10000) (HS : Hid ((⟨(fmtQ q).toArray⟩ : ByteArray) = S1)) (HJ : Hid ((⟨(Lib.join [S1.data.toList, [48]] [124]).toArray⟩ : ByteArray) = T)) (HL : Hid ((Lib.join [S1.data.toList, [48]] [124]).length ≤ 140737488355328)) :
    Calls Tryz.prog 66 #[.slice (some ⟨g, 0, none⟩) 2 cap, pw ge] w (RetV w (.string T)) := by
  have ke := hE.lt
  have kg : g < w.heap.size := by obtain ⟨_, _, e, _, h⟩ := hP.row; cases e; exact h
  have HT := Lib.hid hT
  have HP := Lib.hid hP
  have HE := Lib.hid hE
  have HQ := Lib.hid hq
  clear hT hP hE hq
  obtain ⟨hb0, c1, cO⟩ := blk2 w [.bool false, .slice none 0 0, .slice none 0 0, .int .i64 0, .bool false, .int .u64 0, .slice none 0 0, .slice (some ⟨ge, 0, none⟩) 2 2] [.string ⟨#[]⟩, .string ⟨#[]⟩] 32 9
  have hmk := mkS2
  have hP := HP.out.below hb0
  have p0 := hP.at (k := 0) rfl
  have p1 := hP.at (k := 1) rfl
  have p2 := hP.at (k := 2) rfl
  have p3 := hP.at (k := 3) rfl
  have p4 := hP.at (k := 4) rfl
  have p5 := hP.at (k := 5) rfl
  have p6 := hP.at (k := 6) rfl
  have p7 := hP.at (k := 7) rfl
  have p8 := hP.at (k := 8) rfl
  have p9 := hP.at (k := 9) rfl
  clear hP
  go_enter Tryz.func66, Tryz.ntmps66
  go_wp2_with fail
  refine wp_loop_rounds 3 ?_
  rw [rounds_succ]
  go_wp2_with fail
  clear p0 p1 p2 p3 p4 p5 p6 p7 p8 p9
  have c7 := Cs.new ((w.alloc (.cells #[.bool false, .slice none 0 0, .slice none 0 0, .int .i64 0, .bool false, .int .u64 0, .slice none 0 0, .slice (some ⟨ge, 0, none⟩) 2 2] 32)).alloc (.cells #[.string ⟨#[]⟩, .string ⟨#[]⟩] 9)) (nopsL b1 b2) 55
  rw [show ((w.alloc (.cells #[.bool false, .slice none 0 0, .slice none 0 0, .int .i64 0, .bool false, .int .u64 0, .slice none 0 0, .slice (some ⟨ge, 0, none⟩) 2 2] 32)).alloc (.cells #[.string ⟨#[]⟩, .string ⟨#[]⟩] 9)).heap.size = w.heap.size + 1 + 1 by simp] at c7
  have hal : Below ((w.alloc (.cells #[.bool false, .slice none 0 0, .slice none 0 0, .int .i64 0, .bool false, .int .u64 0, .slice none 0 0, .slice (some ⟨ge, 0, none⟩) 2 2] 32)).alloc (.cells #[.string ⟨#[]⟩, .string ⟨#[]⟩] 9)).heap.size ((w.alloc (.cells #[.bool false, .slice none 0 0, .slice none 0 0, .int .i64 0, .bool false, .int .u64 0, .slice none 0 0, .slice (some ⟨ge, 0, none⟩) 2 2] 32)).alloc (.cells #[.string ⟨#[]⟩, .string ⟨#[]⟩] 9)) (((w.alloc (.cells #[.bool false, .slice none 0 0, .slice none 0 0, .int .i64 0, .bool false, .int .u64 0, .slice none 0 0, .slice (some ⟨ge, 0, none⟩) 2 2] 32)).alloc (.cells #[.string ⟨#[]⟩, .string ⟨#[]⟩] 9)).alloc (.cells (nopsL b1 b2).toArray 55)) := (Below.refl _ _).alloc (Nat.le_refl _) _
  have hs1 : w.heap.size + 1 < w.heap.size + 1 + 1 := by omega
  replace hb0 := hb0.trans (hal.mono hb0.size)
  replace c1 := c1.below hal c1.lt
  replace cO := cO.below hal cO.lt
  clear hal
  generalize (((w.alloc (.cells #[.bool false, .slice none 0 0, .slice none 0 0, .int .i64 0, .bool false, .int .u64 0, .slice none 0 0, .slice (some ⟨ge, 0, none⟩) 2 2] 32)).alloc (.cells #[.string ⟨#[]⟩, .string ⟨#[]⟩] 9)).alloc (.cells #[fv 117, cln b1 b2, fv 80, fv 120, fv 121, fv 91, fv 123, fv 64, fv 124, fv 125] 55)) = Y0 at *
  replace c7 := c7.drew
  replace c1 := c1.drew
  replace cO := cO.drew
  replace hb0 := hb0.drew
  have hE := HE.out.below hb0 ke
  have hrl : (Y0.drew.cell? ⟨w.heap.size + 1 + 1, 8, none⟩ = some (fv 124)) ∧ (Y0.drew.cell? ⟨w.heap.size, 7, none⟩ = some (.slice (some ⟨ge, 0, none⟩) 2 2)) ∧ (Y0.drew.cell? ⟨ge, 0, none⟩ = some (.bool nb) ∧ Y0.drew.cell? ⟨ge, 1, none⟩ = some (.slice A n c) ∧ Y0.drew.cell? ⟨ge, 2, none⟩ = some (.slice B m e) ∧ Y0.drew.cell? ⟨ge, 3, none⟩ = some (.int .i64 0) ∧ Y0.drew.cell? ⟨ge, 4, none⟩ = some (.bool false) ∧ Y0.drew.cell? ⟨ge, 5, none⟩ = some (.int .u64 0) ∧ Y0.drew.cell? ⟨ge, 6, none⟩ = some (.slice none 0 0) ∧ Y0.drew.cell? ⟨ge, 7, none⟩ = some (.slice none 0 0)) := ⟨c7.cell rfl, c1.cell rfl, hE.g8⟩
  go_region_held3 (fun w' => (w'.cell? ⟨w.heap.size + 1 + 1, 8, none⟩ = some (fv 124)) ∧ (w'.cell? ⟨w.heap.size, 7, none⟩ = some (.slice (some ⟨ge, 0, none⟩) 2 2)) ∧ (w'.cell? ⟨ge, 0, none⟩ = some (.bool nb) ∧ w'.cell? ⟨ge, 1, none⟩ = some (.slice A n c) ∧ w'.cell? ⟨ge, 2, none⟩ = some (.slice B m e) ∧ w'.cell? ⟨ge, 3, none⟩ = some (.int .i64 0) ∧ w'.cell? ⟨ge, 4, none⟩ = some (.bool false) ∧ w'.cell? ⟨ge, 5, none⟩ = some (.int .u64 0) ∧ w'.cell? ⟨ge, 6, none⟩ = some (.slice none 0 0) ∧ w'.cell? ⟨ge, 7, none⟩ = some (.slice none 0 0)))
    (first | with_reducible exact hrl | with_reducible exact hrl2 | fail)
    (first | (go_at_call 124; refine (numbers4_any nb A B n c m e q S1 _ (HT.out.keep hb0.block) (HQ.out.below hb0) hS HS).mono ?_; rintro e0 w2 ⟨rfl, hb1⟩; have hrl : (w2.cell? ⟨w.heap.size + 1 + 1, 8, none⟩ = some (fv 124)) ∧ (w2.cell? ⟨w.heap.size, 7, none⟩ = some (.slice (some ⟨ge, 0, none⟩) 2 2)) ∧ (w2.cell? ⟨ge, 0, none⟩ = some (.bool nb) ∧ w2.cell? ⟨ge, 1, none⟩ = some (.slice A n c) ∧ w2.cell? ⟨ge, 2, none⟩ = some (.slice B m e) ∧ w2.cell? ⟨ge, 3, none⟩ = some (.int .i64 0) ∧ w2.cell? ⟨ge, 4, none⟩ = some (.bool false) ∧ w2.cell? ⟨ge, 5, none⟩ = some (.int .u64 0) ∧ w2.cell? ⟨ge, 6, none⟩ = some (.slice none 0 0) ∧ w2.cell? ⟨ge, 7, none⟩ = some (.slice none 0 0)) := ⟨(c7.below hb1 c7.lt).cell rfl, (c1.below hb1 c1.lt).cell rfl, (hE.below hb1 hE.lt).g8⟩; have hc9 := (cO.below hb1 cO.lt).cell (k := 0) rfl; have hf9 := (cO.below hb1 cO.lt).frozen 0; have hrl2 : ((w2.setCell ⟨w.heap.size + 1, 0, none⟩ (.string S1)).cell? ⟨w.heap.size + 1 + 1, 8, none⟩ = some (fv 124)) ∧ ((w2.setCell ⟨w.heap.size + 1, 0, none⟩ (.string S1)).cell? ⟨w.heap.size, 7, none⟩ = some (.slice (some ⟨ge, 0, none⟩) 2 2)) ∧ ((w2.setCell ⟨w.heap.size + 1, 0, none⟩ (.string S1)).cell? ⟨ge, 0, none⟩ = some (.bool nb) ∧ (w2.setCell ⟨w.heap.size + 1, 0, none⟩ (.string S1)).cell? ⟨ge, 1, none⟩ = some (.slice A n c) ∧ (w2.setCell ⟨w.heap.size + 1, 0, none⟩ (.string S1)).cell? ⟨ge, 2, none⟩ = some (.slice B m e) ∧ (w2.setCell ⟨w.heap.size + 1, 0, none⟩ (.string S1)).cell? ⟨ge, 3, none⟩ = some (.int .i64 0) ∧ (w2.setCell ⟨w.heap.size + 1, 0, none⟩ (.string S1)).cell? ⟨ge, 4, none⟩ = some (.bool false) ∧ (w2.setCell ⟨w.heap.size + 1, 0, none⟩ (.string S1)).cell? ⟨ge, 5, none⟩ = some (.int .u64 0) ∧ (w2.setCell ⟨w.heap.size + 1, 0, none⟩ (.string S1)).cell? ⟨ge, 6, none⟩ = some (.slice none 0 0) ∧ (w2.setCell ⟨w.heap.size + 1, 0, none⟩ (.string S1)).cell? ⟨ge, 7, none⟩ = some (.slice none 0 0)) := ⟨cell_st (by omega) hrl.1, cell_st (by omega) hrl.2.1, ⟨cell_st (by omega) hrl.2.2.1, cell_st (by omega) hrl.2.2.2.1, cell_st (by omega) hrl.2.2.2.2.1, cell_st (by omega) hrl.2.2.2.2.2.1, cell_st (by omega) hrl.2.2.2.2.2.2.1, cell_st (by omega) hrl.2.2.2.2.2.2.2.1, cell_st (by omega) hrl.2.2.2.2.2.2.2.2.1, cell_st (by omega) hrl.2.2.2.2.2.2.2.2.2⟩⟩))
  clear hrl hrl2 hc9 hf9 c7 hs1 hE
  replace hb0 := (show Below w.heap.size w (w2.setCell ⟨w.heap.size + 1, 0, none⟩ (.string S1)) from (hb0.trans (hb1.mono hb0.size)).setCell (p := ⟨w.heap.size + 1, 0, none⟩) (by simp) _)
  replace c1 := (show Cs (w2.setCell ⟨w.heap.size + 1, 0, none⟩ (.string S1)) w.heap.size _ _ from (c1.below hb1 c1.lt).far (p := ⟨w.heap.size + 1, 0, none⟩) (by simp) _)
  replace cO := (show Cs (w2.setCell ⟨w.heap.size + 1, 0, none⟩ (.string S1)) (w.heap.size + 1) [.string S1, .string ⟨#[]⟩] _ from (cO.below hb1 cO.lt).set 0 _)
  clear hb1
  go_wp2_with fail
  generalize (w2.setCell ⟨w.heap.size + 1, 0, none⟩ (.string S1)) = U0 at *
  have hP := HP.out.below hb0
  have p0 := hP.at (k := 10) rfl
  have p1 := hP.at (k := 11) rfl
  have p2 := hP.at (k := 12) rfl
  have p3 := hP.at (k := 13) rfl
  have p4 := hP.at (k := 14) rfl
  have p5 := hP.at (k := 15) rfl
  have p6 := hP.at (k := 16) rfl
  have p7 := hP.at (k := 17) rfl
  have p8 := hP.at (k := 18) rfl
  have p9 := hP.at (k := 19) rfl
  clear hP
  rw [rounds_succ]
  go_wp2_with fail
  clear p0 p1 p2 p3 p4 p5 p6 p7 p8 p9
  have c7 := Cs.new U0 (copsL b3 b4) 55
  have hal : Below U0.heap.size U0 (U0.alloc (.cells (copsL b3 b4).toArray 55)) := (Below.refl _ _).alloc (Nat.le_refl _) _
  have hs1 : w.heap.size + 1 < U0.heap.size := by exact cO.lt
  replace hb0 := hb0.trans (hal.mono hb0.size)
  replace c1 := c1.below hal c1.lt
  replace cO := cO.below hal cO.lt
  clear hal
  generalize (U0.alloc (.cells #[fv 79, cln b3 b4, fv 78, fv 80, fv 81, fv 82, fv 83, fv 84, fv 85, fv 86] 55)) = Y1 at *
  replace c7 := c7.drew
  replace c1 := c1.drew
  replace cO := cO.drew
  replace hb0 := hb0.drew
  have hE := HE.out.below hb0 ke
  have hrl : (Y1.drew.cell? ⟨U0.heap.size, 8, none⟩ = some (fv 85)) ∧ (Y1.drew.cell? ⟨w.heap.size, 7, none⟩ = some (.slice (some ⟨ge, 0, none⟩) 2 2)) ∧ (Y1.drew.cell? ⟨ge, 8, none⟩ = some (.bool false) ∧ Y1.drew.cell? ⟨ge, 9, none⟩ = some (.slice none 0 0) ∧ Y1.drew.cell? ⟨ge, 10, none⟩ = some (.slice none 0 0) ∧ Y1.drew.cell? ⟨ge, 11, none⟩ = some (.int .i64 0) ∧ Y1.drew.cell? ⟨ge, 12, none⟩ = some (.bool false) ∧ Y1.drew.cell? ⟨ge, 13, none⟩ = some (.int .u64 0) ∧ Y1.drew.cell? ⟨ge, 14, none⟩ = some (.slice none 0 0) ∧ Y1.drew.cell? ⟨ge, 15, none⟩ = some (.slice none 0 0)) := ⟨c7.cell rfl, c1.cell rfl, hE.h8⟩
  go_region_held3 (fun w' => (w'.cell? ⟨U0.heap.size, 8, none⟩ = some (fv 85)) ∧ (w'.cell? ⟨w.heap.size, 7, none⟩ = some (.slice (some ⟨ge, 0, none⟩) 2 2)) ∧ (w'.cell? ⟨ge, 8, none⟩ = some (.bool false) ∧ w'.cell? ⟨ge, 9, none⟩ = some (.slice none 0 0) ∧ w'.cell? ⟨ge, 10, none⟩ = some (.slice none 0 0) ∧ w'.cell? ⟨ge, 11, none⟩ = some (.int .i64 0) ∧ w'.cell? ⟨ge, 12, none⟩ = some (.bool false) ∧ w'.cell? ⟨ge, 13, none⟩ = some (.int .u64 0) ∧ w'.cell? ⟨ge, 14, none⟩ = some (.slice none 0 0) ∧ w'.cell? ⟨ge, 15, none⟩ = some (.slice none 0 0)))
    (first | with_reducible exact hrl | with_reducible exact hrl2 | fail)
    (first | (go_at_call 85; refine (formatCost_zero _).mono ?_; rintro e0 w3 ⟨rfl, hb1⟩; have hrl : (w3.cell? ⟨U0.heap.size, 8, none⟩ = some (fv 85)) ∧ (w3.cell? ⟨w.heap.size, 7, none⟩ = some (.slice (some ⟨ge, 0, none⟩) 2 2)) ∧ (w3.cell? ⟨ge, 8, none⟩ = some (.bool false) ∧ w3.cell? ⟨ge, 9, none⟩ = some (.slice none 0 0) ∧ w3.cell? ⟨ge, 10, none⟩ = some (.slice none 0 0) ∧ w3.cell? ⟨ge, 11, none⟩ = some (.int .i64 0) ∧ w3.cell? ⟨ge, 12, none⟩ = some (.bool false) ∧ w3.cell? ⟨ge, 13, none⟩ = some (.int .u64 0) ∧ w3.cell? ⟨ge, 14, none⟩ = some (.slice none 0 0) ∧ w3.cell? ⟨ge, 15, none⟩ = some (.slice none 0 0)) := ⟨(c7.below hb1 c7.lt).cell rfl, (c1.below hb1 c1.lt).cell rfl, (hE.below hb1 hE.lt).h8⟩; have hc9 := (cO.below hb1 cO.lt).cell (k := 1) rfl; have hf9 := (cO.below hb1 cO.lt).frozen 1; have hrl2 : ((w3.setCell ⟨w.heap.size + 1, 1, none⟩ (.string ⟨#[48]⟩)).cell? ⟨U0.heap.size, 8, none⟩ = some (fv 85)) ∧ ((w3.setCell ⟨w.heap.size + 1, 1, none⟩ (.string ⟨#[48]⟩)).cell? ⟨w.heap.size, 7, none⟩ = some (.slice (some ⟨ge, 0, none⟩) 2 2)) ∧ ((w3.setCell ⟨w.heap.size + 1, 1, none⟩ (.string ⟨#[48]⟩)).cell? ⟨ge, 8, none⟩ = some (.bool false) ∧ (w3.setCell ⟨w.heap.size + 1, 1, none⟩ (.string ⟨#[48]⟩)).cell? ⟨ge, 9, none⟩ = some (.slice none 0 0) ∧ (w3.setCell ⟨w.heap.size + 1, 1, none⟩ (.string ⟨#[48]⟩)).cell? ⟨ge, 10, none⟩ = some (.slice none 0 0) ∧ (w3.setCell ⟨w.heap.size + 1, 1, none⟩ (.string ⟨#[48]⟩)).cell? ⟨ge, 11, none⟩ = some (.int .i64 0) ∧ (w3.setCell ⟨w.heap.size + 1, 1, none⟩ (.string ⟨#[48]⟩)).cell? ⟨ge, 12, none⟩ = some (.bool false) ∧ (w3.setCell ⟨w.heap.size + 1, 1, none⟩ (.string ⟨#[48]⟩)).cell? ⟨ge, 13, none⟩ = some (.int .u64 0) ∧ (w3.setCell ⟨w.heap.size + 1, 1, none⟩ (.string ⟨#[48]⟩)).cell? ⟨ge, 14, none⟩ = some (.slice none 0 0) ∧ (w3.setCell ⟨w.heap.size + 1, 1, none⟩ (.string ⟨#[48]⟩)).cell? ⟨ge, 15, none⟩ = some (.slice none 0 0)) := ⟨cell_st (by omega) hrl.1, cell_st (by omega) hrl.2.1, ⟨cell_st (by omega) hrl.2.2.1, cell_st (by omega) hrl.2.2.2.1, cell_st (by omega) hrl.2.2.2.2.1, cell_st (by omega) hrl.2.2.2.2.2.1, cell_st (by omega) hrl.2.2.2.2.2.2.1, cell_st (by omega) hrl.2.2.2.2.2.2.2.1, cell_st (by omega) hrl.2.2.2.2.2.2.2.2.1, cell_st (by omega) hrl.2.2.2.2.2.2.2.2.2⟩⟩))
  clear hrl hrl2 hc9 hf9 c7 hs1 hE
  replace hb0 := (show Below w.heap.size w (w3.setCell ⟨w.heap.size + 1, 1, none⟩ (.string ⟨#[48]⟩)) from (hb0.trans (hb1.mono hb0.size)).setCell (p := ⟨w.heap.size + 1, 1, none⟩) (by simp) _)
  replace c1 := (show Cs (w3.setCell ⟨w.heap.size + 1, 1, none⟩ (.string ⟨#[48]⟩)) w.heap.size _ _ from (c1.below hb1 c1.lt).far (p := ⟨w.heap.size + 1, 1, none⟩) (by simp) _)
  replace cO := (show Cs (w3.setCell ⟨w.heap.size + 1, 1, none⟩ (.string ⟨#[48]⟩)) (w.heap.size + 1) [.string S1, .string ⟨#[48]⟩] _ from (cO.below hb1 cO.lt).set 1 _)
  clear hb1
  go_wp2_with fail
  generalize (w3.setCell ⟨w.heap.size + 1, 1, none⟩ (.string ⟨#[48]⟩)) = U1 at *
  rw [rounds_succ]
  go_wp2_with fail
  refine (join2 (w.heap.size + 1) S1 T _ cO HJ HL).mono ?_
  rintro e0 w9 ⟨rfl, hb1⟩
  replace hb0 := hb0.trans (hb1.mono hb0.size)
  go_wp2_with fail
  go_ret
  exact ⟨rfl, hb0⟩

set_option maxRecDepth 20000 in
set_option maxHeartbeats 2000000 in
theorem tuples7_prod (bp g cap ge : Nat) (nb : Bool) (A B : Option Addr) (n c m e : Nat) (q : Rat) (b1 b2 b3 b4 : Nat) (S1 T : ByteArray) (w : World) (h : PH w bp g cap ge nb A B n c m e 0 false q b1 b2 b3 b4) (hT : Txt w) (hS : Sz q 10000) (HS : Hid ((⟨(fmtQ q).toArray⟩ : ByteArray) = S1)) (HJ : Hid ((⟨(Lib.join [S1.data.toList, [48]] [124]).toArray⟩ : ByteArray) = T)) (HL : Hid ((Lib.join [S1.data.toList, [48]] [124]).length ≤ 140737488355328)) :
    Calls Tryz.prog 65 #[pw ge, .pointer (some ⟨bp, 0, none⟩)] w (RetV w (.string T)) := by
  obtain ⟨hb0, c1⟩ := blk1 w [.bool false, .slice none 0 0, .slice none 0 0, .int .i64 0, .bool false, .int .u64 0, .slice none 0 0, .slice (some ⟨ge, 0, none⟩) 2 2] 32
  replace h := h.below hb0
  have hT1 := hT.keep hb0.block
  have p0 := h.1.cell (k := 0) rfl
  go_enter Tryz.func65, Tryz.ntmps65
  go_wp2_with fail
  refine (formatTuple_prod g cap ge nb A B n c m e q b1 b2 b3 b4 S1 T _ hT1 h.2.1 h.2.2.1 h.2.2.2.1 hS HS HJ HL).mono ?_
  rintro e0 w1 ⟨rfl, hb1⟩
  go_wp2_with fail
  go_ret
  exact ⟨rfl, hb0.trans (hb1.mono hb0.size)⟩

set_option maxRecDepth 20000 in
set_option maxHeartbeats 4000000 in
theorem Format_prod (br cr0 ge : Nat) (nb : Bool) (A B : Option Addr) (n c m e : Nat) (q : Rat) (S1 T : ByteArray) (w : World) (hR : Cs w br [.int .i64 1, .int .i64 2] 3) (hE : Cs w ge (pairL nb A n c B m e 0 false) 32) (hq : RatQ w (.agg #[.bool nb, .slice A n c, .slice B m e]) q) (hT : Txt w) (hS : Sz q 10000) (HS : Hid ((⟨(fmtQ q).toArray⟩ : ByteArray) = S1)) (HJ : Hid ((⟨(Lib.join [S1.data.toList, [48]] [124]).toArray⟩ : ByteArray) = T)) (HL : Hid ((Lib.join [S1.data.toList, [48]] [124]).length ≤ 140737488355328)) :
    Calls Tryz.prog 20 #[.agg #[.int .i64 6, .slice (some ⟨br, 0, none⟩) 2 cr0], pw ge] w (RetV w (.string T)) := by
  have ke := hE.lt
  have kR := hR.lt
  have HT := Lib.hid hT
  clear hT
  obtain ⟨hb0, c0, cv⟩ := blk2 w [.int .i64 6, .slice (some ⟨br, 0, none⟩) 2 cr0] [.bool false, .slice none 0 0, .slice none 0 0, .int .i64 0, .bool false, .int .u64 0, .slice none 0 0, .slice (some ⟨ge, 0, none⟩) 2 2] 24 32
  replace hE := hE.below hb0 ke
  replace hR := hR.below hb0 kR
  replace hq := hq.below hb0
  go_enter Tryz.func20, Tryz.ntmps20
  go_wp2_with fail
  generalize ((w.alloc (.cells #[.int .i64 6, .slice (some ⟨br, 0, none⟩) 2 cr0] 24)).alloc (.cells #[.bool false, .slice none 0 0, .slice none 0 0, .int .i64 0, .bool false, .int .u64 0, .slice none 0 0, .slice (some ⟨ge, 0, none⟩) 2 2] 32)) = V0 at *
  refine (find_prod br cr0 _ hR).mono ?_
  rintro e0 w1 ⟨bp, k1, k2, v, b1, b2, b3, b4, rfl, cp, hP, hC, hb1⟩
  replace hb0 := hb0.trans (hb1.mono hb0.size)
  replace cv := cv.below hb1 cv.lt
  replace hE := hE.below hb1 hE.lt
  replace hq := hq.below hb1
  clear hb1 hR c0
  obtain ⟨g, cap, rfl, hcap, hg⟩ := hP.row
  have hT9 := HT.out.keep hb0.block
  have hH : PH w1 bp g cap ge nb A B n c m e 0 false q b1 b2 b3 b4 := ⟨cp, hP, hE, hq, hT9.tab⟩
  clear cp hP hE hq hcap hg hT9
  have HH := Lib.hid hH
  clear hH
  go_wp2_with fail
  have hH := HH.out
  clear HH
  have c6 := Cs.new w1 (topsL bp k1 k2) 55
  have hal : Below w1.heap.size w1 (w1.alloc (.cells (topsL bp k1 k2).toArray 55)) := (Below.refl _ _).alloc (Nat.le_refl _) _
  replace hb0 := hb0.trans (hal.mono hb0.size)
  replace cv := cv.below hal cv.lt
  replace hH := hH.below hal
  replace hC := hC.below hal
  clear hal
  generalize (w1.alloc (.cells #[.func (.func 50) #[] #[.pointer (some ⟨bp, 0, none⟩)], cln k1 k2, .func (.func 52) #[] #[.pointer (some ⟨bp, 0, none⟩)], .func (.func 56) #[] #[.pointer (some ⟨bp, 0, none⟩)], .func (.func 58) #[] #[.pointer (some ⟨bp, 0, none⟩)], .func (.func 60) #[] #[.pointer (some ⟨bp, 0, none⟩)], .func (.func 62) #[] #[.pointer (some ⟨bp, 0, none⟩)], fv 64, .func (.func 65) #[] #[.pointer (some ⟨bp, 0, none⟩)], .func (.func 67) #[] #[.pointer (some ⟨bp, 0, none⟩)]] 55)) = W0 at *
  generalize w1.heap.size = g6 at *
  replace c6 := c6.drew
  replace cv := cv.drew
  replace hH := hH.drew
  replace hC := hC.drew
  replace hb0 := hb0.drew
  have hcost : Cost 0 false := .inr ⟨rfl, by omega, by omega⟩
  have hrl : (W0.drew.cell? ⟨g6, 8, none⟩ = some (.func (.func 65) #[] #[.pointer (some ⟨bp, 0, none⟩)]) ∧ W0.drew.cell? ⟨g6, 1, none⟩ = some (cln k1 k2)) ∧ (W0.drew.cell? ⟨w.heap.size + 1, 0, none⟩ = some (.bool false) ∧ W0.drew.cell? ⟨w.heap.size + 1, 1, none⟩ = some (.slice none 0 0) ∧ W0.drew.cell? ⟨w.heap.size + 1, 2, none⟩ = some (.slice none 0 0) ∧ W0.drew.cell? ⟨w.heap.size + 1, 3, none⟩ = some (.int .i64 0) ∧ W0.drew.cell? ⟨w.heap.size + 1, 4, none⟩ = some (.bool false) ∧ W0.drew.cell? ⟨w.heap.size + 1, 5, none⟩ = some (.int .u64 0) ∧ W0.drew.cell? ⟨w.heap.size + 1, 6, none⟩ = some (.slice none 0 0) ∧ W0.drew.cell? ⟨w.heap.size + 1, 7, none⟩ = some (.slice (some ⟨ge, 0, none⟩) 2 2)) := ⟨⟨c6.cell rfl, c6.cell rfl⟩, cv.c8⟩
  go_region_held3 (fun w' => (w'.cell? ⟨g6, 8, none⟩ = some (.func (.func 65) #[] #[.pointer (some ⟨bp, 0, none⟩)]) ∧ w'.cell? ⟨g6, 1, none⟩ = some (cln k1 k2)) ∧ (w'.cell? ⟨w.heap.size + 1, 0, none⟩ = some (.bool false) ∧ w'.cell? ⟨w.heap.size + 1, 1, none⟩ = some (.slice none 0 0) ∧ w'.cell? ⟨w.heap.size + 1, 2, none⟩ = some (.slice none 0 0) ∧ w'.cell? ⟨w.heap.size + 1, 3, none⟩ = some (.int .i64 0) ∧ w'.cell? ⟨w.heap.size + 1, 4, none⟩ = some (.bool false) ∧ w'.cell? ⟨w.heap.size + 1, 5, none⟩ = some (.int .u64 0) ∧ w'.cell? ⟨w.heap.size + 1, 6, none⟩ = some (.slice none 0 0) ∧ w'.cell? ⟨w.heap.size + 1, 7, none⟩ = some (.slice (some ⟨ge, 0, none⟩) 2 2)))
    (first | with_reducible exact hrl | fail)
    (first
      | (have _g := m1; go_at_call 65; refine (tuples7_prod bp g cap ge nb A B n c m e q b1 b2 b3 b4 S1 T _ hH (HT.out.keep hb0.block) hS HS HJ HL).mono ?_; rintro e0 x2 ⟨rfl, hb1⟩; replace hb0 := hb0.trans (hb1.mono hb0.size); replace c6 := c6.below hb1 c6.lt; replace cv := cv.below hb1 cv.lt; have hrl : (x2.cell? ⟨g6, 8, none⟩ = some (.func (.func 65) #[] #[.pointer (some ⟨bp, 0, none⟩)]) ∧ x2.cell? ⟨g6, 1, none⟩ = some (cln k1 k2)) ∧ (x2.cell? ⟨w.heap.size + 1, 0, none⟩ = some (.bool false) ∧ x2.cell? ⟨w.heap.size + 1, 1, none⟩ = some (.slice none 0 0) ∧ x2.cell? ⟨w.heap.size + 1, 2, none⟩ = some (.slice none 0 0) ∧ x2.cell? ⟨w.heap.size + 1, 3, none⟩ = some (.int .i64 0) ∧ x2.cell? ⟨w.heap.size + 1, 4, none⟩ = some (.bool false) ∧ x2.cell? ⟨w.heap.size + 1, 5, none⟩ = some (.int .u64 0) ∧ x2.cell? ⟨w.heap.size + 1, 6, none⟩ = some (.slice none 0 0) ∧ x2.cell? ⟨w.heap.size + 1, 7, none⟩ = some (.slice (some ⟨ge, 0, none⟩) 2 2)) := ⟨⟨c6.cell rfl, c6.cell rfl⟩, cv.c8⟩)
      | (go_at_call 128; refine (cln_prod bp k1 k2 g cap ge nb A B n c m e 0 false q b1 b2 b3 b4 _ hH hC (hS.mono (by decide)) hcost).mono ?_; rintro e0 x1 ⟨rfl, hb1⟩; replace hb0 := hb0.trans (hb1.mono hb0.size); replace c6 := c6.below hb1 c6.lt; replace cv := cv.below hb1 cv.lt; replace hH := hH.below hb1; have m1 := Lib.hid (rfl : 1 = 1); have hrl : (x1.cell? ⟨g6, 8, none⟩ = some (.func (.func 65) #[] #[.pointer (some ⟨bp, 0, none⟩)]) ∧ x1.cell? ⟨g6, 1, none⟩ = some (cln k1 k2)) ∧ (x1.cell? ⟨w.heap.size + 1, 0, none⟩ = some (.bool false) ∧ x1.cell? ⟨w.heap.size + 1, 1, none⟩ = some (.slice none 0 0) ∧ x1.cell? ⟨w.heap.size + 1, 2, none⟩ = some (.slice none 0 0) ∧ x1.cell? ⟨w.heap.size + 1, 3, none⟩ = some (.int .i64 0) ∧ x1.cell? ⟨w.heap.size + 1, 4, none⟩ = some (.bool false) ∧ x1.cell? ⟨w.heap.size + 1, 5, none⟩ = some (.int .u64 0) ∧ x1.cell? ⟨w.heap.size + 1, 6, none⟩ = some (.slice none 0 0) ∧ x1.cell? ⟨w.heap.size + 1, 7, none⟩ = some (.slice (some ⟨ge, 0, none⟩) 2 2)) := ⟨⟨c6.cell rfl, c6.cell rfl⟩, cv.c8⟩))
  go_wp2_with fail
  go_ret
  exact ⟨rfl, hb0⟩
end Go.Proofs.YtafoplnpnoedfaaGreatDoor
