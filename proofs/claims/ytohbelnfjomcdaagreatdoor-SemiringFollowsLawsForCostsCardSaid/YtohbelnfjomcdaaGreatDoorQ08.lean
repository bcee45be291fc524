/- smallDivisor and zeros. -/
import Derived.Test.YtohbelnfjomcdaaGreatDoorQ03
import Derived.Test.YtohbelnfjomcdaaGreatDoorQ07
set_option linter.unusedVariables false
set_option linter.unusedSimpArgs false
namespace Go.Proofs.YtohbelnfjomcdaaGreatDoor
open Go.RowKit

/-- The two tables of math/bits lie as the library lays them. -/
structure Tab (w : World) : Prop where
  t64 : TabAt 6 Lib.deBruijn64tab w
  t32 : TabAt 10 Lib.deBruijn32tab w
theorem Tab.keep {w w' : World} (h : Tab w) (hk : ∀ b, b < w.heap.size → w'.heap[b]? = w.heap[b]?) : Tab w' :=
  ⟨fun j hj => by have h1 := h.t64 j hj; exact (World.cell?_of_block (w := w) (hk _ (block_lt_of_cell h1))).trans h1, fun j hj => by have h1 := h.t32 j hj; exact (World.cell?_of_block (w := w) (hk _ (block_lt_of_cell h1))).trans h1⟩
theorem Tab.below {w w' : World} (h : Tab w) (hb : Below w.heap.size w w') : Tab w' := h.keep hb.block
theorem Tab.drewN {w : World} (h : Tab w) (n : Nat) : Tab (w.drewN n) := ⟨h.t64, h.t32⟩
theorem Tab.drew {w : World} (h : Tab w) : Tab w.drew := ⟨h.t64, h.t32⟩

theorem tz64_v (x : Nat) (X : Int) (w : World) (hT : Tab w) (hX : Hid (X = (x : Int))) (h0 : 0 < x) (hx : Hid (x < 18446744073709551616)) (z : Nat) (hz : IsTz x z) :
    Calls Tryz.prog 288 #[.int .u64 X] w fun e w' => e = .returned (.int .i64 (z : Int)) ∧ w = w' := by
  have e := hX.out; subst e
  have h1 := isTz_ctz (f := 64) h0 hx.out
  have h2 := isTz_unique hz h1.1
  rw [h2]
  exact (Tryz.tz64 x hx.out w (fun _ => hT.t64)).mono fun _ _ ⟨a, b⟩ => ⟨a, b.symm⟩
theorem tz32_v (x : Nat) (w : World) (hT : Tab w) (h0 : 0 < x) (hx : x < 4294967296) (z : Nat) (hz : IsTz x z) :
    Calls Tryz.prog 326 #[.int .u32 (x : Int)] w fun e w' => e = .returned (.int .i64 (z : Int)) ∧ w = w' := by
  have h1 := isTz_ctz (f := 32) h0 hx
  have h2 := isTz_unique hz h1.1
  rw [h2]
  exact (Tryz.tz32 x hx w (fun _ => hT.t32)).mono fun _ _ ⟨a, b⟩ => ⟨a, b.symm⟩
theorem exists_tz {x : Nat} (h0 : 0 < x) (hx : x < 18446744073709551616) : ∃ z, IsTz x z ∧ z < 64 := by
  have h1 := isTz_ctz (f := 64) h0 hx
  exact ⟨_, h1.1, h1.2⟩

set_option maxRecDepth 20000 in
set_option maxHeartbeats 1000000 in
theorem smallDivisor_pos (x y : Nat) (w : World) (hT : Tab w) (hx0 : 0 < x) (hy0 : 0 < y) (HXL : Hid (x < 18446744073709551616)) (HYL : Hid (y < 18446744073709551616)) :
    Calls Tryz.prog 245 #[.int .u64 x, .int .u64 y] w fun e w' => e = .returned (.int .u64 ((Nat.gcd x y : Nat) : Int)) ∧ w = w' := by
  obtain ⟨i, hi, hi64⟩ := exists_tz hx0 HXL.out
  obtain ⟨k, hk, hk64⟩ := exists_tz hy0 HYL.out
  have hx1 : ((x : Int) == 0) = false := by simp; omega
  have hy1 : ((y : Int) == 0) = false := by simp; omega
  have hor : bits .or .u64 (x : Int) (y : Int) = ((x ||| y : Nat) : Int) := u64_or_nat x y HXL.out HYL.out
  obtain ⟨o, ho⟩ : ∃ o, x ||| y = o := ⟨_, rfl⟩
  rw [ho] at hor
  have ho0 : 0 < o := by
    rcases Nat.eq_zero_or_pos o with h | h
    · rw [h] at ho; have := Nat.or_eq_zero_iff.1 ho; omega
    · exact h
  have HOL : Hid (o < 18446744073709551616) := by show _ < _; rw [← ho]; exact Nat.or_lt_two_pow (n := 64) HXL.out HYL.out
  have hoz : IsTz o (min i k) := by rw [← ho]; exact isTz_or hi hk
  obtain ⟨sh, hsh⟩ : ∃ sh, min i k = sh := ⟨_, rfl⟩
  have hsh64 : sh < 64 := by omega
  rw [hsh] at hoz
  obtain ⟨x1, hx1'⟩ : ∃ x1, x / 2 ^ i = x1 := ⟨_, rfl⟩
  have hdx : (x : Int) / 2 ^ i = (x1 : Int) := by rw [← hx1']; push_cast; rfl
  have HX1 : Hid (x1 % 2 = 1 ∧ x1 ≤ x ∧ Nat.gcd x1 y * 2 ^ sh = Nat.gcd x y) := by
    refine ⟨by rw [← hx1']; exact hi.odd, by rw [← hx1']; exact Nat.div_le_self _ _, by rw [← hx1', ← hsh]; exact gcd_binary hi hk⟩
  have HG : Hid (Nat.gcd x1 y = Nat.gcd x1 y) := rfl
  clear ho hsh hx1' hk hk64
  go_enter Tryz.func245, Tryz.ntmps245
  go_wp2_with fail
  refine (tz64_v o _ _ hT rfl ho0 HOL sh hoz).mono ?_
  rintro e w' ⟨rfl, rfl⟩
  go_wp2_with fail
  refine (tz64_v x _ _ hT rfl hx0 HXL i hi).mono ?_
  rintro e w' ⟨rfl, rfl⟩
  go_wp2_with fail
  clear hor hdx hx1 hy1 hoz ho0 hi
  go_loop [0, 1] (fun s0 s1 => ∃ p r : Nat, s0 = .int .u64 p ∧ s1 = .int .u64 r ∧ Hid (p % 2 = 1 ∧ p < 18446744073709551616 ∧ r < 18446744073709551616 ∧ Nat.gcd p r = Nat.gcd x1 y)) (fun s0 s1 => (intOf s0).toNat + (intOf s1).toNat)
  case atStart => exact ⟨x1, y, rfl, rfl, show Hid _ from ⟨HX1.out.1, Nat.lt_of_le_of_lt HX1.out.2.1 HXL.out, HYL.out, rfl⟩⟩
  case round =>
    obtain ⟨p, r, rfl, rfl, HI⟩ := hrel
    rcases Nat.eq_zero_or_pos r with h0 | h0
    · subst h0
      obtain ⟨G, hG⟩ : ∃ G, Nat.gcd x y = G := ⟨_, rfl⟩
      have hshl : IntKind.u64.wrap ((p : Int) * 2 ^ sh) = (G : Int) := by
        have h1 := HI.out.2.2.2
        rw [Nat.gcd_zero_right] at h1
        have h2 : p * 2 ^ sh = G := by rw [h1, HX1.out.2.2, hG]
        have h3 : (p : Int) * 2 ^ sh = (G : Int) := by rw [← h2]; push_cast; rfl
        have h4 : G ≤ x := by rw [← hG]; exact Nat.le_of_dvd hx0 (Nat.gcd_dvd_left _ _)
        have h5 := HXL.out
        rw [h3, IntKind.wrap_u64]; omega
      have HGG := Lib.hid hG; clear hG
      go_wp2_with fail
      go_ret
      exact ⟨ret_int (by rw [HGG.out]), rfl⟩
    · obtain ⟨z, hz, hz64⟩ := exists_tz h0 HI.out.2.2.1
      have hne : ((r : Int) != 0) = true := by simp; omega
      have HRL : Hid (r < 18446744073709551616) := HI.out.2.2.1
      obtain ⟨r1, hr1⟩ : ∃ r1, r / 2 ^ z = r1 := ⟨_, rfl⟩
      have hdr : (r : Int) / 2 ^ z = (r1 : Int) := by rw [← hr1]; push_cast; rfl
      have hr1o : r1 % 2 = 1 := by rw [← hr1]; exact hz.odd
      have hr1r : r1 ≤ r := by rw [← hr1]; exact Nat.div_le_self _ _
      have hg : Nat.gcd p r1 = Nat.gcd p r := by rw [← hr1]; exact gcd_odd_tz HI.out.1 hz
      have HGR := Lib.hid hg; have HR1 := Lib.hid hr1o
      clear hr1 hg hr1o
      have hp0 : 0 < p := by have := HI.out.1; omega
      by_cases hgt : r1 < p
      · obtain ⟨r2, hr2⟩ : ∃ r2, p - r1 = r2 := ⟨_, rfl⟩
        have hsw : IntKind.u64.wrap ((p : Int) - r1) = (r2 : Int) := by have := HI.out.2.1; rw [IntKind.wrap_u64]; omega
        have hgti : (r1 : Int) < p := by omega
        have HR2 := Lib.hid hr2; clear hr2
        go_wp2_with fail
        refine (tz64_v r _ _ hT rfl h0 HRL z hz).mono ?_
        rintro e w' ⟨rfl, rfl⟩
        go_wp2_with fail
        go_round
        case rel =>
          have h1 := HI.out
          have h2 := HR2.out
          have hg2 : Nat.gcd r1 r2 = Nat.gcd x1 y := by rw [← h2, gcd_sub_step (by omega), Nat.gcd_comm, HGR.out, h1.2.2.2]
          exact ⟨r1, r2, rfl, rfl, show Hid _ from ⟨HR1.out, by omega, by omega, hg2⟩⟩
        case measure => have h2 := HR2.out; have h3 := HR1.out; simp [intOf]; omega
      · obtain ⟨r2, hr2⟩ : ∃ r2, r1 - p = r2 := ⟨_, rfl⟩
        have hsw : IntKind.u64.wrap ((r1 : Int) - p) = (r2 : Int) := by have := HI.out.2.2.1; rw [IntKind.wrap_u64]; omega
        have hgti : decide ((r1 : Int) < p) = false := by simp; omega
        have hgti' : decide (r1 < p) = false := by simp; omega
        have HR2 := Lib.hid hr2; clear hr2
        go_wp2_with fail
        refine (tz64_v r _ _ hT rfl h0 HRL z hz).mono ?_
        rintro e w' ⟨rfl, rfl⟩
        go_wp2_with fail
        go_round
        case rel =>
          have h1 := HI.out
          have h2 := HR2.out
          have hg2 : Nat.gcd p r2 = Nat.gcd x1 y := by rw [← h2, gcd_sub_step (by omega), HGR.out, h1.2.2.2]
          exact ⟨p, r2, rfl, rfl, show Hid _ from ⟨h1.1, h1.2.1, by omega, hg2⟩⟩
        case measure => have h2 := HR2.out; simp [intOf]; omega

set_option maxRecDepth 20000 in
set_option maxHeartbeats 1000000 in
theorem smallDivisor_zero_left (y : Nat) (w : World) (HYL : Hid (y < 18446744073709551616)) :
    Calls Tryz.prog 245 #[.int .u64 0, .int .u64 y] w fun e w' => e = .returned (.int .u64 (y : Int)) ∧ w = w' := by
  have hor : bits .or .u64 0 (y : Int) = (y : Int) := by
    have := u64_or_nat 0 y (by decide) HYL.out
    rwa [Nat.zero_or] at this
  go_enter Tryz.func245, Tryz.ntmps245
  go_wp2_with fail
  go_ret
  exact ⟨rfl, rfl⟩
set_option maxRecDepth 20000 in
set_option maxHeartbeats 1000000 in
theorem smallDivisor_zero_right (x : Nat) (w : World) (hx : 0 < x) (HXL : Hid (x < 18446744073709551616)) :
    Calls Tryz.prog 245 #[.int .u64 x, .int .u64 0] w fun e w' => e = .returned (.int .u64 (x : Int)) ∧ w = w' := by
  have hor : bits .or .u64 (x : Int) 0 = (x : Int) := by
    have := u64_or_nat x 0 HXL.out (by decide)
    rwa [Nat.or_zero] at this
  have hx1 : ((x : Int) == 0) = false := by simp; omega
  go_enter Tryz.func245, Tryz.ntmps245
  go_wp2_with fail
  go_ret
  exact ⟨rfl, rfl⟩

/-- smallDivisor: the greatest common divisor. -/
theorem smallDivisor_any (x y G : Nat) (w : World) (hT : Tab w) (HXL : Hid (x < 18446744073709551616)) (HYL : Hid (y < 18446744073709551616)) (HG : Hid (Nat.gcd x y = G)) :
    Calls Tryz.prog 245 #[.int .u64 x, .int .u64 y] w fun e w' => e = .returned (.int .u64 (G : Int)) ∧ w = w' := by
  rw [← HG.out]
  rcases Nat.eq_zero_or_pos x with h | h
  · subst h; rw [Nat.gcd_zero_left]; exact smallDivisor_zero_left y w HYL
  · rcases Nat.eq_zero_or_pos y with h' | h'
    · subst h'; rw [Nat.gcd_zero_right]; exact smallDivisor_zero_right x w h HXL
    · exact smallDivisor_pos x y w hT h h' HXL HYL

set_option maxRecDepth 20000 in
set_option maxHeartbeats 1000000 in
/-- zeros: the number of zeros at the low end, 0 for the number 0. -/
theorem zeros_any (A : Option Addr) (n c a z : Nat) (w : World) (hT : Tab w) (hx : Num w (limbs a) A n c) (hn : n ≤ 1073741824) (H : Hid ((a = 0 ∧ z = 0) ∨ IsTz a z)) :
    Calls Tryz.prog 291 #[.slice A n c] w fun e w' => e = .returned (.int .i64 (z : Int)) ∧ w = w' := by
  go_enter Tryz.func291, Tryz.ntmps291
  go_wp2_with fail
  go_loop [7] (fun si => ∃ k : Nat, k ≤ n ∧ si = .int .i64 k ∧ Hid (∀ j, j < k → (limbs a).getD j 0 = 0)) (fun si => n - (intOf si).toNat)
  case atStart => exact ⟨0, Nat.zero_le _, rfl, show Hid _ from fun j hj => by omega⟩
  case round =>
    obtain ⟨k, hk, rfl, HI⟩ := hrel
    by_cases hkn : k < n
    · obtain ⟨b, o, v, rfl, _, hv, hv4, hcv⟩ := hx.at_ hkn
      have HV := Lib.hid hv; clear hv
      by_cases hv0 : v = 0
      · subst hv0
        go_wp2_with fail
        go_round
        case rel => exact ⟨k + 1, by omega, by go_num, show Hid _ from fun j hj => by
          rcases Nat.lt_or_ge j k with h | h
          · exact HI.out j h
          · obtain rfl : j = k := by omega
            exact HV.out⟩
        case measure => simp [intOf]; omega
      · have hne : ((v : Int) != 0) = true := by simp; omega
        obtain ⟨t, ht, _⟩ := exists_tz (x := v) (by omega) (by omega)
        have ht32 : t < 32 := by
          have h1 := ht.le (by omega)
          rcases Nat.lt_or_ge t 32 with h | h
          · exact h
          · have := Nat.pow_le_pow_right (n := 2) (by decide) h
            have e32 : (2 : Nat) ^ 32 = 4294967296 := rfl
            omega
        have hz := isTz_limb (by rw [← hx.len]; exact hkn) HI.out HV.out ht ht32
        have HZ : Hid (32 * k + t = z) := by
          rcases H.out with ⟨h, _⟩ | h
          · subst h
            have := hx.len
            rw [limbs_zero] at this
            simp at this; omega
          · exact isTz_unique hz h
        have hvpos : 0 < v := by omega
        clear hz hv0
        go_wp2_with (go_at_call 326; refine (tz32_v v _ hT hvpos hv4 t ht).mono ?_; rintro e w' ⟨rfl, rfl⟩)
        go_ret
        exact ⟨ret_int (by rw [← HZ.out]; omega), rfl⟩
    · obtain rfl : k = n := by omega
      have HZ : Hid (z = 0) := by
        rcases H.out with ⟨_, h⟩ | h
        · exact h
        · exfalso
          have hv : val (limbs a) = val (List.replicate (limbs a).length 0) := by
            congr 1
            apply eq_of_getD (by simp)
            intro j hj
            rw [getD_zeros]
            exact HI.out j (by rw [hx.len]; exact hj)
          rw [val_limbs, val_zeros] at hv
          subst hv
          obtain ⟨m, hm⟩ := h
          have h1 : 0 < 2 ^ z * (2 * m + 1) := Nat.mul_pos (Nat.pow_pos (by decide)) (by omega)
          omega
      go_wp2_with fail
      go_ret
      exact ⟨ret_int (by rw [HZ.out]; rfl), rfl⟩
end Go.Proofs.YtohbelnfjomcdaaGreatDoor
