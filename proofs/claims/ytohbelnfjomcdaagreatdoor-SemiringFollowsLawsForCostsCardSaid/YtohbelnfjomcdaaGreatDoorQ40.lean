/- The specification's small functions on limbs: trim, limb, sign, compare, natural, one. -/
import Derived.Test.YtohbelnfjomcdaaGreatDoorQ02
set_option linter.unusedVariables false
set_option linter.unusedSimpArgs false
namespace Go.Proofs.YtohbelnfjomcdaaGreatDoor
open Go.RowKit

set_option maxHeartbeats 400000 in
theorem r_limb_in (A : Option Addr) (n c k x : Nat) (l : List Nat) (w : World) (h : Num w l A n c) (hk : k < n) (hx : l.getD k 0 = x) (hn : n ≤ 1073741824) :
    Calls Tryz.prog 119 #[.slice A n c, .int .i64 k] w fun e w' => e = .returned (.int .u64 x) ∧ w = w' := by
  obtain ⟨b, o, y, rfl, _, hy, hy4, hc⟩ := h.at_ hk
  rw [hx] at hy; subst hy
  have HX := Lib.hid hx; clear hx h
  go_enter Tryz.func119, Tryz.ntmps119
  go_wp2
  go_ret
  exact ⟨rfl, rfl⟩
set_option maxHeartbeats 400000 in
theorem r_limb_out (A : Option Addr) (n c k : Nat) (w : World) (hk : n ≤ k) :
    Calls Tryz.prog 119 #[.slice A n c, .int .i64 k] w fun e w' => e = .returned (.int .u64 0) ∧ w = w' := by
  go_enter Tryz.func119, Tryz.ntmps119
  go_wp2
  go_ret
  exact ⟨rfl, rfl⟩
/-- limb, its value behind a name. -/
theorem r_limb (A : Option Addr) (n c : Nat) (k : Int) (l : List Nat) (w : World) (y : Nat) (h : Num w l A n c) (h0 : 0 ≤ k) (hn : n ≤ 1073741824) (H : Hid (l.getD k.toNat 0 = y)) :
    Calls Tryz.prog 119 #[.slice A n c, .int .i64 k] w fun e w' => e = .returned (.int .u64 (y : Int)) ∧ w = w' := by
  have e := H.out; subst e
  obtain ⟨j, rfl⟩ := Int.eq_ofNat_of_zero_le h0
  rw [Int.toNat_natCast]
  by_cases hk : j < n
  · exact r_limb_in A n c j _ l w h hk rfl hn
  · rw [show l.getD j 0 = 0 from by rw [List.getD_eq_getElem?_getD, List.getElem?_eq_none (by have := h.len; omega)]; rfl]
    exact r_limb_out A n c j w (by omega)

def lenOfS : Value → Nat
  | .slice _ n _ => n
  | _ => 0
set_option maxHeartbeats 400000 in
theorem r_trim (A : Option Addr) (n c : Nat) (l : List Nat) (w : World) (h : Num w l A n c) (hn : n ≤ 1073741824) :
    Calls Tryz.prog 118 #[.slice A n c] w fun e w' => e = .returned (.slice A (limbs (val l)).length c) ∧ w = w' := by
  have hcap := h.cap
  have HT : Hid (tl l n = (limbs (val l)).length) := by rw [h.len]; exact tl_length l h.lim
  go_enter Tryz.func118, Tryz.ntmps118
  go_wp2
  go_loop [0] (fun a => ∃ k : Nat, k ≤ n ∧ a = .slice A k c ∧ Hid (tl l n = tl l k)) (fun a => lenOfS a)
  case atStart => exact ⟨n, Nat.le_refl _, rfl, rfl⟩
  case round =>
    obtain ⟨k, hk, rfl, HE⟩ := hrel
    rcases Nat.eq_zero_or_pos k with h0 | h0
    · subst h0
      go_wp2
      go_ret
      exact ⟨ret_slice _ _ (HE.out.symm.trans HT.out), rfl⟩
    · obtain ⟨j, rfl⟩ : ∃ j, k = j + 1 := ⟨k - 1, by omega⟩
      obtain ⟨b, o, x, rfl, _, hx, _, hcj⟩ := h.at_ (show j < n by omega)
      clear h
      by_cases hz : x = 0
      · subst hz
        have HX := Lib.hid hx; clear hx
        go_wp2
        go_round
        case rel => exact ⟨j, by omega, by go_num, HE.out.trans (tl_zero l j HX.out)⟩
        case measure => simp [lenOfS]
      · have hne : ((x : Int) == 0) = false := by simp; exact hz
        have HX := Lib.hid hx; clear hx
        have HZ := Lib.hid hz; clear hz
        go_wp2
        go_ret
        exact ⟨ret_slice _ _ ((HE.out.trans (tl_pos l j (by rw [HX.out]; exact HZ.out))).symm.trans HT.out), rfl⟩

def sgnI (v : Int) : Int := if v < 0 then -1 else if 0 < v then 1 else 0
set_option maxHeartbeats 400000 in
theorem r_sign (v : Int) (w : World) : Calls Tryz.prog 120 #[.int .i64 v] w fun e w' => e = .returned (.int .i64 (sgnI v)) ∧ w = w' := by
  rcases Int.lt_trichotomy v 0 with h | h | h
  · rw [show sgnI v = -1 from by unfold sgnI; rw [if_pos h]]
    go_enter Tryz.func120, Tryz.ntmps120
    go_wp2
    go_ret
    exact ⟨rfl, rfl⟩
  · subst h
    rw [show sgnI 0 = 0 from rfl]
    go_enter Tryz.func120, Tryz.ntmps120
    go_wp2
    go_ret
    exact ⟨rfl, rfl⟩
  · have h' : ¬ v < 0 := by omega
    rw [show sgnI v = 1 from by unfold sgnI; rw [if_neg h', if_pos h]]
    go_enter Tryz.func120, Tryz.ntmps120
    go_wp2
    go_ret
    exact ⟨rfl, rfl⟩
theorem sgnI_sub (a b : Int) : sgnI (a - b) = cmpI a b := by
  unfold sgnI cmpI
  by_cases h1 : a < b
  · rw [if_pos (by omega), if_pos h1]
  · rw [if_neg (by omega), if_neg h1]
    by_cases h2 : b < a
    · rw [if_pos (by omega), if_pos h2]
    · rw [if_neg (by omega), if_neg h2]

set_option maxHeartbeats 400000 in
theorem r_compare_len (A A' : Option Addr) (n c n' c' : Nat) (w : World) (h : n ≠ n') (hn : n ≤ 1073741824) (hn' : n' ≤ 1073741824) :
    Calls Tryz.prog 85 #[.slice A n c, .slice A' n' c'] w (RetQ w (.int .i64 (cmpI n n'))) := by
  have h1 : ((n : Int) != n') = true := by simp; omega
  have h2 : IntKind.i64.wrap ((n : Int) - (n' : Int)) = (n : Int) - (n' : Int) := IntWalk.i64_in _ (by omega)
  clear h
  go_enter Tryz.func85, Tryz.ntmps85
  go_wp2_with (go_at_call 120; refine (r_sign _ _).mono ?_; rintro e w' ⟨rfl, rfl⟩)
  go_ret
  exact ⟨ret_int (sgnI_sub _ _), 0, rfl⟩

set_option maxHeartbeats 1000000 in
theorem r_compare_same (A A' : Option Addr) (n c c' : Nat) (l r : List Nat) (w : World) (hx : Num w l A n c) (hy : Num w r A' n c') (hn : n ≤ 1073741824) :
    Calls Tryz.prog 85 #[.slice A n c, .slice A' n c'] w (RetQ w (.int .i64 (cmpI ((val l : Nat) : Int) ((val r : Nat) : Int)))) := by
  have h1 : ((n : Int) != n) = false := by simp
  obtain ⟨V, hV⟩ : ∃ V, cmpI ((val l : Nat) : Int) ((val r : Nat) : Int) = V := ⟨_, rfl⟩
  rw [hV]
  have HV := Lib.hid hV; clear hV
  go_enter Tryz.func85, Tryz.ntmps85
  go_wp2
  go_loopw [5] (fun i wr => ∃ k q : Nat, k ≤ n ∧ i = .int .i64 ((k : Int) - 1) ∧ wr = w.drewN q ∧ Hid (∀ j, k ≤ j → j < n → l.getD j 0 = r.getD j 0)) (fun i _ => (intOf i + 1).toNat)
  case atStart => exact ⟨n, 0, Nat.le_refl _, rfl, rfl, show Hid _ from fun j h1 h2 => by omega⟩
  case round =>
    obtain ⟨k, q, hk, rfl, rfl, HE⟩ := hrel
    rcases Nat.eq_zero_or_pos k with h0 | h0
    · subst h0
      go_wp2
      go_ret
      refine ⟨ret_int ?_, q, rfl⟩
      rw [← HV.out, eq_of_getD (hx.len.symm.trans hy.len) (fun j hj => HE.out j (by omega) (by have := hx.len; omega)), cmpI_eq]
    · obtain ⟨j, rfl⟩ : ∃ j, k = j + 1 := ⟨k - 1, by omega⟩
      obtain ⟨b, o, x, rfl, _, hx', hx4, hcx⟩ := hx.at_ (show j < n by omega)
      obtain ⟨b', o', y, rfl, _, hy', hy4, hcy⟩ := hy.at_ (show j < n by omega)
      have hjn : (j : Int) < (n : Int) := by omega
      have e1 : ((j + 1 : Nat) : Int) - 1 = (j : Int) := by omega
      rw [e1]; clear e1
      have HX := Lib.hid hx'; have HY := Lib.hid hy'
      have LX := Lib.hid hx; have LY := Lib.hid hy
      clear hx' hy' hx hy
      by_cases hxy : x = y
      · have hne : ((x : Int) != y) = false := by simp; omega
        have hne2 : ((y : Int) != y) = false := by simp
        have HXY := Lib.hid hxy
        subst hxy
        go_wp2_with fail
        go_quiet (fail)
        go_wp2_with fail
        go_roundw
        case rel => exact ⟨j, _, by omega, rfl, rfl, show Hid _ from fun i hi1 hi2 => by
          rcases Nat.eq_or_lt_of_le hi1 with hi | hi
          · subst hi; rw [HX.out, HY.out]
          · exact HE.out i (by omega) hi2⟩
        case measure => simp [intOf]
      · have hne : ((x : Int) != y) = true := by simp; omega
        have h2 : IntKind.i64.wrap ((x : Int) - (y : Int)) = (x : Int) - (y : Int) := IntWalk.i64_in _ (by omega)
        go_wp2_with fail
        go_quiet (fail)
        go_wp2_with fail
        go_quiet ((go_at_call 120; exact quiet_add_left (r_sign _ _)))
        go_wp2_with fail
        go_ret
        refine ⟨ret_int ?_, draws3 ..⟩
        rw [sgnI_sub, ← HV.out, ← order_math (k := j) LX.out.lim LY.out.lim (by have := LX.out.len; omega) (LX.out.len.symm.trans LY.out.len) (fun i hi1 hi2 => HE.out i (by omega) (by have := LX.out.len; omega)) (by rw [HX.out, HY.out]; exact hxy), HX.out, HY.out]
/-- compare, its answer behind a name. -/
theorem r_compare (A A' : Option Addr) (n c n' c' a b : Nat) (w : World) (v : Int) (hx : Num w (limbs a) A n c) (hy : Num w (limbs b) A' n' c') (hn : n ≤ 1073741824) (hn' : n' ≤ 1073741824) (H : Hid (cmpI a b = v)) :
    Calls Tryz.prog 85 #[.slice A n c, .slice A' n' c'] w (RetQ w (.int .i64 v)) := by
  rw [← H.out]
  by_cases h : n = n'
  · subst h
    have := r_compare_same A A' n c c' _ _ w hx hy hn
    rwa [val_limbs, val_limbs] at this
  · have e : cmpI (n : Int) (n' : Int) = cmpI (a : Int) (b : Int) := by
      have h1 := hx.len; have h2 := hy.len
      rcases Nat.lt_or_gt_of_ne h with h' | h'
      · rw [cmpI_lt (by omega), cmpI_lt (by have := lt_of_length_lt (a := a) (b := b) (by omega); omega)]
      · rw [cmpI_gt (by omega), cmpI_gt (by have := lt_of_length_lt (a := b) (b := a) (by omega); omega)]
    rw [← e]
    exact r_compare_len A A' n c n' c' w h hn hn'

set_option maxHeartbeats 1000000 in
theorem r_natural (v : Nat) (w : World) (hv : v < 18446744073709551616) :
    Calls Tryz.prog 87 #[.int .u64 v] w (RetOwn w (limbs v)) := by
  go_enter Tryz.func87, Tryz.ntmps87
  have hlim : Lim [v % 4294967296, v / 4294967296] := Lim.cons (Nat.mod_lt _ (by decide)) (Lim.cons (by omega) Lim.nil)
  have hrow : Row (w.alloc (.cells #[.int .u32 ((v : Int) % 4294967296), .int .u32 ((v : Int) / 4294967296)] 99)) w.heap.size [v % 4294967296, v / 4294967296] := heap_alloc_new w _
  have HV : Hid (val [v % 4294967296, v / 4294967296] = v) := by show _ = _; simp only [val]; omega
  go_wp2_with (go_at_call 118; refine (r_trim _ 2 2 _ _ (hrow.num (n := 2) (c := 2) hlim rfl (by omega)) (by omega)).mono ?_; rintro e w' ⟨rfl, rfl⟩)
  go_ret
  exact hrow.ret (Nat.le_refl _) hlim ((Below.refl _ _).alloc (Nat.le_refl _) _) (by simp) HV.out

set_option maxHeartbeats 400000 in
theorem r_one (A : Option Addr) (n c : Nat) (l : List Nat) (w : World) (V : Bool) (h : Num w l A n c) (hn : n ≤ 1073741824) (H : Hid (decide (l = [1]) = V)) :
    Calls Tryz.prog 113 #[.slice A n c] w fun e w' => e = .returned (.bool V) ∧ w = w' := by
  rw [← H.out]
  clear H
  by_cases h1 : n = 1
  · subst h1
    obtain ⟨b, o, x, rfl, _, hx, _, hcj⟩ := h.at_ (show 0 < 1 by omega)
    have hl : decide (l = [1]) = decide ((x : Int) = 1) := by
      have := h.len
      match l, this with
      | [y], _ => simp at hx; subst hx; simp; omega
    rw [hl]
    rw [Nat.add_zero] at hcj
    clear hx h hl
    go_enter Tryz.func113, Tryz.ntmps113
    go_wp2
    go_ret
    exact ⟨ret_bool (by first | rfl | (rw [Bool.eq_iff_iff]; simp)), rfl⟩
  · have hl : decide (l = [1]) = false := by
      have := h.len
      simp; rintro rfl; simp at this; omega
    have hn1 : ((n : Int) == 1) = false := by simp; omega
    rw [hl]
    clear h hl h1
    go_enter Tryz.func113, Tryz.ntmps113
    go_wp2
    go_ret
    exact ⟨rfl, rfl⟩
end Go.Proofs.YtohbelnfjomcdaaGreatDoor
