/- math/bits: Sub32, Add32, Div32, TrailingZeros, LeadingZeros32. -/
import Derived.Test.YtggmmgojpamcpaaGreatDoorQ01
import Derived.Deep.RegionWith
import Derived.BigRegion
import Derived.Lib.TrailingZeros
import Derived.IntWalk
namespace Go.Proofs.YtggmmgojpamcpaaGreatDoor
open Go.RowKit
def bor (x y b : Nat) : Nat := if x < y + b then 1 else 0
def dif (x y b : Nat) : Nat := (x + 4294967296 - y - b) % 4294967296

theorem bor_le (x y b : Nat) : bor x y b ≤ 1 := by unfold bor; split <;> omega
theorem dif_lt (x y b : Nat) : dif x y b < 4294967296 := Nat.mod_lt _ (by decide)
theorem dif_cast (x y b : Nat) (hx : x < 4294967296) (hy : y < 4294967296) (hb : b ≤ 1) : ((x : Int) - y - b) % 4294967296 = ((dif x y b : Nat) : Int) := by unfold dif; omega
theorem dif_bor (x y b : Nat) (hx : x < 4294967296) (hy : y < 4294967296) (hb : b ≤ 1) : dif x y b + y + b = x + 4294967296 * bor x y b := by unfold dif bor; split <;> omega
theorem top_bit {n : Nat} (h : n < 4294967296) : n / 2147483648 = (n.testBit 31).toNat := by
  rw [Nat.testBit_eq_decide_div_mod_eq, show (2 : Nat) ^ 31 = 2147483648 from rfl]
  have : n / 2147483648 = 0 ∨ n / 2147483648 = 1 := by omega
  rcases this with h | h <;> simp [h]
theorem bor_nat (x y b : Nat) (hx : x < 4294967296) (hy : y < 4294967296) (hb : b ≤ 1) :
    ((((4294967295 ^^^ x) &&& y) ||| ((4294967295 ^^^ (x ^^^ y)) &&& dif x y b)) : Nat) / 2147483648 = bor x y b := by
  have hm : (4294967295 : Nat).testBit 31 = true := by decide
  have hd := dif_lt x y b
  have e1 : (4294967295 ^^^ x) < 2 ^ 32 := Nat.xor_lt_two_pow (by decide) hx
  have e2 : (4294967295 ^^^ (x ^^^ y)) < 2 ^ 32 := Nat.xor_lt_two_pow (by decide) (Nat.xor_lt_two_pow hx hy)
  have e3 : (((4294967295 ^^^ x) &&& y) ||| ((4294967295 ^^^ (x ^^^ y)) &&& dif x y b)) < 2 ^ 32 := Nat.or_lt_two_pow (Nat.and_lt_two_pow _ hy) (Nat.and_lt_two_pow _ hd)
  rw [top_bit e3, Nat.testBit_or, Nat.testBit_and, Nat.testBit_and, Nat.testBit_xor, Nat.testBit_xor, Nat.testBit_xor, hm]
  have hxb := top_bit hx
  have hyb := top_bit hy
  have hdb := top_bit hd
  have hval := dif_bor x y b hx hy hb
  have hle := bor_le x y b
  cases h1 : x.testBit 31 <;> cases h2 : y.testBit 31 <;> cases h3 : (dif x y b).testBit 31 <;> simp only [h1, h2, h3] at hxb hyb hdb ⊢ <;> simp at hxb hyb hdb ⊢ <;> omega
theorem bor_bits (x y b : Nat) (hx : x < 4294967296) (hy : y < 4294967296) (hb : b ≤ 1) :
    (bits .or .u32 (bits .and .u32 (bits .xor .u32 IntKind.u32.max (x : Int)) (y : Int)) (bits .and .u32 (bits .xor .u32 IntKind.u32.max (bits .xor .u32 (x : Int) (y : Int))) (((x : Int) - y - b) % 4294967296))) / 2147483648 = ((bor x y b : Nat) : Int) := by
  have hm : IntKind.u32.max = ((4294967295 : Nat) : Int) := by decide
  have hd := dif_lt x y b
  have e1 : (4294967295 ^^^ x) < 2 ^ 32 := Nat.xor_lt_two_pow (by decide) hx
  have e2 : (x ^^^ y) < 2 ^ 32 := Nat.xor_lt_two_pow hx hy
  have e3 : (4294967295 ^^^ (x ^^^ y)) < 2 ^ 32 := Nat.xor_lt_two_pow (by decide) e2
  rw [dif_cast x y b hx hy hb, hm, u32_xor_nat _ _ (by decide) hx, u32_xor_nat _ _ hx hy, u32_xor_nat _ _ (by decide) e2, u32_and_nat _ _ e1 hy, u32_and_nat _ _ e3 hd,
    u32_or_nat _ _ (Nat.lt_of_lt_of_le (Nat.and_lt_two_pow _ hy) (Nat.le_refl (2 ^ 32))) (Nat.lt_of_lt_of_le (Nat.and_lt_two_pow _ hd) (Nat.le_refl (2 ^ 32)))]
  rw [← bor_nat x y b hx hy hb]
  rfl
theorem ret_pair {k k' : IntKind} {a b c d : Int} (h : a = b) (h' : c = d) : Ending.returned (.tuple #[.int k a, .int k' c]) = .returned (.tuple #[.int k b, .int k' d]) := by rw [h, h']

set_option maxHeartbeats 400000 in
theorem sub32 (x y b : Nat) (w : World) (hx : x < 4294967296) (hy : y < 4294967296) (hb : b ≤ 1) :
    Calls Tryz.prog 132 #[.int .u32 x, .int .u32 y, .int .u32 b] w fun e w' => e = .returned (.tuple #[.int .u32 (dif x y b), .int .u32 (bor x y b)]) ∧ w = w' := by
  go_enter Tryz.func132, Tryz.ntmps132
  go_wp2
  go_ret2
  exact ⟨ret_pair (dif_cast x y b hx hy hb) (bor_bits x y b hx hy hb), rfl⟩
set_option maxHeartbeats 400000 in
theorem add32 (x y b : Nat) (w : World) (hx : x < 4294967296) (hy : y < 4294967296) (hb : b ≤ 1) :
    Calls Tryz.prog 153 #[.int .u32 x, .int .u32 y, .int .u32 b] w fun e w' => e = .returned (.tuple #[.int .u32 (((x + y + b) % 4294967296 : Nat) : Int), .int .u32 (((x + y + b) / 4294967296 : Nat) : Int)]) ∧ w = w' := by
  go_enter Tryz.func153, Tryz.ntmps153
  go_wp2
  go_ret2
  exact ⟨ret_pair (by omega) (by omega), rfl⟩
/-- Sub32, Add32 with the second number as it stands at the call. -/
theorem sub32' (x : Nat) (Y : Int) (y b : Nat) (w : World) (hY : Hid (Y = (y : Int))) (hx : x < 4294967296) (hy : y < 4294967296) (hb : b ≤ 1) :
    Calls Tryz.prog 132 #[.int .u32 x, .int .u32 Y, .int .u32 b] w fun e w' => e = .returned (.tuple #[.int .u32 (dif x y b), .int .u32 (bor x y b)]) ∧ w = w' := by
  have e := hY.out; subst e
  exact sub32 x y b w hx hy hb
/-- 1 if a is less than b. -/
def ltn (a b : Nat) : Nat := if a < b then 1 else 0
end Go.Proofs.YtggmmgojpamcpaaGreatDoor

namespace Go.Proofs.YtggmmgojpamcpaaGreatDoor
open Go.RowKit

set_option maxHeartbeats 1000000 in
set_option maxRecDepth 20000 in
theorem difference_l (A A' : Option Addr) (n c n' c' : Nat) (l r : List Nat) (w : World) (hx : Num w l A n c) (hy : Num w r A' n' c') (hle : n' ≤ n) (hn : n ≤ 536870912) (hv : Hid (val r ≤ val l)) :
    Calls Tryz.prog 118 #[.slice A n c, .slice A' n' c'] w (RetOwn w (limbs (val l - val r))) := by
  have hmk := mk_run n (n : Int) (by omega) (by omega)
  go_enter Tryz.func118, Tryz.ntmps118
  go_wp2
  go_loopw [6, 13] (fun si sj wr => ∃ (k br : Nat) (L : List Nat), k ≤ n ∧ br ≤ 1 ∧ si = .int .u32 br ∧ sj = .int .i64 k ∧ Row wr w.heap.size L ∧ Below w.heap.size w wr ∧ Hid (L.length = n ∧ Lim L ∧ val (L.take k) + val (r.take k) = val (l.take k) + P k * br))
    (fun _ sj _ => n - (intOf sj).toNat)
  case atStart => exact ⟨0, 0, List.replicate n 0, Nat.zero_le _, by omega, rfl, rfl, Row.new _ _, (Below.refl _ _).alloc (Nat.le_refl _) _, show Hid _ from ⟨by simp, Lim.zeros _, by simp [val]⟩⟩
  case round =>
    obtain ⟨k, br, L, hk, hbr, rfl, rfl, hrow, hbel, HI⟩ := hrel
    by_cases hkn : k < n
    · have hxw := hx.below hbel
      have hyw := hy.below hbel
      obtain ⟨b, o, x, rfl, _, hx', hx4, hcx⟩ := hxw.at_ hkn
      obtain ⟨y, hy'⟩ : ∃ y, r.getD k 0 = y := ⟨_, rfl⟩
      have hy4 : y < 4294967296 := by rw [← hy']; exact hy.lim.getD k
      have HX := Lib.hid hx'; have HY := Lib.hid hy'; clear hx' hy'
      obtain ⟨d, hd⟩ : ∃ d, L.getD k 0 = d := ⟨_, rfl⟩
      have hcs := hrow.cell (k := k) (by have := HI.out.1; omega)
      have hfs := hrow.frozen k
      rw [hd] at hcs; clear hd hmk
      go_wp2_with fail
      go_region_with (first
        | (go_at_call 92; refine (limb_v _ _ _ (k : Int) r _ y hyw.drew (by omega) (by omega) HY).mono ?_; rintro e w' ⟨rfl, rfl⟩)
        | (go_at_call 132; refine (sub32 x y br _ hx4 hy4 hbr).mono ?_; rintro e w' ⟨rfl, rfl⟩))
      all_goals
        go_wp2_with fail
        go_roundw
        case rel =>
          refine ⟨k + 1, bor x y br, L.set k (dif x y br), by omega, bor_le _ _ _, rfl, congrArg (Value.int _) (by omega), (hrow.set k _), (hbel.setCell (Nat.le_refl _) _).drew, ?_⟩
          show Hid _
          have h := sub_step (k := k) (by omega) HI.out (dif_lt x y br) (dif_bor x y br hx4 hy4 hbr)
          refine ⟨h.1, h.2.1, ?_⟩
          rw [val_take_succ' l k, val_take_succ' r k, HX.out, HY.out]; exact h.2.2
        case measure => simp [intOf]; omega
    · obtain rfl : k = n := by omega
      have hlim2 : Lim L := HI.out.2.1
      have HL : Hid (L.length = k) := HI.out.1
      have HV : Hid (val L = val l - val r) := by
        show val L = val l - val r
        have h := HI.out.2.2
        have h0 := hv.out
        rw [List.take_of_length_le (l := L) (by have := HL.out; omega), List.take_of_length_le (l := l) (by have := hx.len; omega), List.take_of_length_le (l := r) (by have := hy.len; omega)] at h
        have hlt : val L < P k := by have := val_lt hlim2; rwa [HL.out] at this
        have hb0 : br = 0 := by
          rcases Nat.eq_zero_or_pos br with hb | hb
          · exact hb
          · have := Nat.le_mul_of_pos_right (P k) hb; omega
        subst hb0
        omega
      clear hmk
      go_wp2_with (go_at_call 89; refine (trimmed_any _ _ _ L _ (hrow.num hlim2 HL.out.symm (Nat.le_refl _)) (by omega)).mono ?_; rintro e w' ⟨rfl, rfl⟩)
      go_ret
      exact hrow.ret (Nat.le_refl _) hlim2 hbel (by have := HL.out; omega) HV.out

/-- difference: a - b for a b that is at most a, in new memory. -/
theorem difference_any (A A' : Option Addr) (n c n' c' a b : Nat) (w : World) (hx : Num w (limbs a) A n c) (hy : Num w (limbs b) A' n' c') (hn : n ≤ 536870912) (hab : b ≤ a) :
    Calls Tryz.prog 118 #[.slice A n c, .slice A' n' c'] w (RetOwn w (limbs (a - b))) := by
  have h := difference_l A A' n c n' c' _ _ w hx hy (by have := length_mono hab; have := hx.len; have := hy.len; omega) hn (show Hid _ by rw [val_limbs, val_limbs]; exact hab)
  rwa [val_limbs, val_limbs] at h
end Go.Proofs.YtggmmgojpamcpaaGreatDoor

namespace Go.Proofs.YtggmmgojpamcpaaGreatDoor
open Go.RowKit

set_option maxHeartbeats 1000000 in
theorem product_l (A A' : Option Addr) (n c m c' : Nat) (l r : List Nat) (w : World) (hx : Num w l A n c) (hy : Num w r A' m c') (hn : n ≤ 536870912) (hm : m ≤ 536870912) :
    Calls Tryz.prog 68 #[.slice A n c, .slice A' m c'] w (RetOwn w (limbs (val l * val r))) := by
  have hmk := mk_run (n + m) ((n : Int) + (m : Int)) (by omega) (by omega)
  go_enter Tryz.func68, Tryz.ntmps68
  go_wp2
  go_loopw [20] (fun si wr => ∃ (i : Nat) (L : List Nat), i ≤ n ∧ si = .int .i64 i ∧ Row wr w.heap.size L ∧ Below w.heap.size w wr ∧ Hid (L.length = n + m ∧ Lim L ∧ val L = val (l.take i) * val r ∧ ∀ j, i + m ≤ j → L.getD j 0 = 0))
    (fun si _ => n - (intOf si).toNat)
  case atStart => exact ⟨0, List.replicate (n + m) 0, Nat.zero_le _, rfl, Row.new _ _, (Below.refl _ _).alloc (Nat.le_refl _) _, show Hid _ from ⟨by simp, Lim.zeros _, by simp [val_zeros, val], fun j _ => by rw [List.getD_eq_getElem?_getD, List.getElem?_replicate]; split <;> rfl⟩⟩
  case round =>
    obtain ⟨i, L, hi, rfl, hrow, hbel, HI⟩ := hrel
    clear hmk
    by_cases hin : i < n
    · have hxw := hx.below hbel
      obtain ⟨b, o, x, rfl, _, hx', hx4, hcx⟩ := hxw.at_ hin
      have HX := Lib.hid hx'; clear hx'
      have hne : ¬ n + m = i := by omega
      have hsub : i + m - i = m := by omega
      obtain ⟨wo, rfl⟩ : ∃ wo : World, wo = wr := ⟨_, rfl⟩
      go_wp2_with fail
      go_loopw [8, 34] (fun sc sk w2 => ∃ (k cr : Nat) (M : List Nat), k ≤ m ∧ cr < 4294967296 ∧ sc = .int .u64 cr ∧ sk = .int .i64 k ∧ Row w2 w.heap.size M ∧ Below w.heap.size w w2 ∧ Hid (M.length = n + m ∧ Lim M ∧ val M + P (i + k) * cr = val L + P i * (x * val (r.take k)) ∧ ∀ j, i + k ≤ j → M.getD j 0 = L.getD j 0))
        (fun _ sk _ => m - (intOf sk).toNat)
      case atStart => exact ⟨0, 0, L, Nat.zero_le _, by omega, rfl, rfl, hrow, hbel, show Hid _ from ⟨HI.out.1, HI.out.2.1, by simp [val], fun j _ => rfl⟩⟩
      case round =>
        obtain ⟨k, cr, M, hk, hcr, rfl, rfl, hrow2, hbel2, HJ⟩ := hrel
        by_cases hkm : k < m
        · have hyw := hy.below hbel2
          obtain ⟨b', o', y, rfl, _, hy', hy4, hcy⟩ := hyw.at_ hkm
          have HY := Lib.hid hy'; clear hy'
          obtain ⟨d, hd⟩ : ∃ d, M.getD (i + k) 0 = d := ⟨_, rfl⟩
          have hd4 : d < 4294967296 := by rw [← hd]; exact HJ.out.2.1.getD _
          have hcs := hrow2.cell (k := i + k) (by have := HJ.out.1; omega)
          have hfs := hrow2.frozen (i + k)
          rw [hd] at hcs
          have HD := Lib.hid hd; clear hd
          have hmul0 : 0 ≤ (x : Int) * (y : Int) := Int.mul_nonneg (by omega) (by omega)
          have hmul1 : (x : Int) * (y : Int) ≤ 18446744065119617025 := by
            have h := Nat.mul_le_mul (show x ≤ 4294967295 by omega) (show y ≤ 4294967295 by omega)
            have h2 : ((x * y : Nat) : Int) ≤ 18446744065119617025 := by omega
            rwa [Int.natCast_mul] at h2
          have hmc : ((x * y : Nat) : Int) = (x : Int) * (y : Int) := Int.natCast_mul ..
          have HM := Lib.hid hmc; clear hmc
          go_wp2_with fail
          go_roundw
          case rel =>
            have hmc := HM.out
            refine ⟨k + 1, (cr + (x * y + d)) / 4294967296, M.set (i + k) ((cr + (x * y + d)) % 4294967296), by omega, by omega, congrArg (Value.int _) (by omega), congrArg (Value.int _) (by omega), hrow2.setI _ _ (by omega), hbel2.setCell (Nat.le_refl _) _, ?_⟩
            show Hid _
            have hJ := HJ.out
            have h := mul_step (j := i + k) (s := cr + (x * y + d)) (x := x) (y := y) (by omega) ⟨hJ.1, hJ.2.1, hJ.2.2.1⟩ (by rw [HD.out])
            refine ⟨h.1, h.2.1, ?_, fun j hj => ?_⟩
            · rw [show i + (k + 1) = i + k + 1 from by omega, h.2.2, val_take_succ' r k, HY.out, P_add, Nat.mul_add, Nat.mul_add, ← Nat.add_assoc, Nat.mul_assoc, Nat.mul_left_comm (P k) x y]
            · rw [getD_set_ne _ (by omega)]; exact hJ.2.2.2 j (by omega)
          case measure => simp [intOf]; omega
        · obtain rfl : k = m := by omega
          obtain ⟨d, hd⟩ : ∃ d, M.getD (i + k) 0 = d := ⟨_, rfl⟩
          have hcs := hrow2.cell (k := i + k) (by have := HJ.out.1; omega)
          have hfs := hrow2.frozen (i + k)
          rw [hd] at hcs
          have HD := Lib.hid hd; clear hd
          go_wp2_with fail
          go_roundw
          case rel =>
            refine ⟨i + 1, M.set (i + k) cr, by omega, congrArg (Value.int _) (by omega), hrow2.set _ _, hbel2.setCell (Nat.le_refl _) _, ?_⟩
            show Hid _
            have hJ := HJ.out
            have hI := HI.out
            refine ⟨by rw [List.length_set]; exact hJ.1, hJ.2.1.set _ hcr, ?_, fun j hj => ?_⟩
            · have h4 := val_set cr (show i + k < M.length by omega)
              rw [hJ.2.2.2 (i + k) (by omega), hI.2.2.2 (i + k) (by omega), Nat.mul_zero, Nat.add_zero, hJ.2.2.1, List.take_of_length_le (l := r) (by have := hy.len; omega), hI.2.2.1] at h4
              rw [h4, val_take_succ' l i, HX.out, Nat.add_mul, Nat.mul_assoc]
            · rw [getD_set_ne _ (by omega), hJ.2.2.2 j (by omega)]; exact hI.2.2.2 j (by omega)
          case measure => simp [intOf]; omega
    · obtain rfl : i = n := by omega
      have hlim2 : Lim L := HI.out.2.1
      have HL : Hid (L.length = i + m) := HI.out.1
      have HV : Hid (val L = val l * val r) := by
        show val L = val l * val r
        have h := HI.out.2.2.1
        rwa [List.take_of_length_le (l := l) (by have := hx.len; omega)] at h
      go_wp2_with (go_at_call 89; refine (trimmed_any _ _ _ L _ (hrow.num hlim2 HL.out.symm (Nat.le_refl _)) (by omega)).mono ?_; rintro e w' ⟨rfl, rfl⟩)
      go_ret
      exact hrow.ret (Nat.le_refl _) hlim2 hbel (by have := HL.out; omega) HV.out

/-- product: the product of two numbers, in new memory. -/
theorem product_any (A A' : Option Addr) (n c n' c' a b : Nat) (w : World) (hx : Num w (limbs a) A n c) (hy : Num w (limbs b) A' n' c') (hn : n ≤ 536870912) (hn' : n' ≤ 536870912) :
    Calls Tryz.prog 68 #[.slice A n c, .slice A' n' c'] w (RetOwn w (limbs (a * b))) := by
  have h := product_l A A' n c n' c' _ _ w hx hy hn hn'
  rwa [val_limbs, val_limbs] at h
end Go.Proofs.YtggmmgojpamcpaaGreatDoor

namespace Go.Proofs.YtggmmgojpamcpaaGreatDoor

/-- z is the number of zeros at the low end of n. -/
def IsTz (n z : Nat) : Prop := ∃ m, n = 2 ^ z * (2 * m + 1)
theorem isTz_ctz {f n : Nat} (h0 : 0 < n) (h : n < 2 ^ f) : IsTz n (Lib.ctz f n) ∧ Lib.ctz f n < f := by
  obtain ⟨m, h1, h2⟩ := Lib.ctzFrom_spec f n h0 h
  unfold Lib.ctz
  rw [if_neg (by omega)]
  exact ⟨⟨m, h1⟩, h2⟩
theorem IsTz.le {n z : Nat} (h : IsTz n z) (h0 : 0 < n) : 2 ^ z ≤ n := by
  obtain ⟨m, rfl⟩ := h
  exact Nat.le_mul_of_pos_right _ (by omega)
theorem IsTz.odd {n z : Nat} (h : IsTz n z) : n / 2 ^ z % 2 = 1 := by
  obtain ⟨m, rfl⟩ := h
  rw [Nat.mul_div_cancel_left _ (Nat.pow_pos (by decide))]; omega
theorem IsTz.back {n z : Nat} (h : IsTz n z) : n / 2 ^ z * 2 ^ z = n := by
  obtain ⟨m, rfl⟩ := h
  rw [Nat.mul_div_cancel_left _ (Nat.pow_pos (by decide)), Nat.mul_comm]
theorem isTz_of {n z : Nat} (hd : n % 2 ^ z = 0) (ho : n / 2 ^ z % 2 = 1) : IsTz n z := by
  refine ⟨n / 2 ^ z / 2, ?_⟩
  have h1 := Nat.div_add_mod n (2 ^ z)
  have h2 : 2 * (n / 2 ^ z / 2) + 1 = n / 2 ^ z := by omega
  rw [h2]; omega
theorem isTz_unique {n z z' : Nat} (h : IsTz n z) (h' : IsTz n z') : z = z' := by
  have key : ∀ {a b : Nat}, IsTz n a → IsTz n b → a < b → False := by
    intro a b ⟨m, h1⟩ ⟨m', h2⟩ hab
    obtain ⟨k, rfl⟩ : ∃ k, b = a + (k + 1) := ⟨b - a - 1, by omega⟩
    rw [h1, Nat.pow_add, Nat.mul_assoc] at h2
    have h3 := Nat.eq_of_mul_eq_mul_left (Nat.pow_pos (by decide)) h2
    rw [Nat.pow_succ, Nat.mul_right_comm, Nat.mul_comm _ 2] at h3
    omega
  rcases Nat.lt_trichotomy z z' with h1 | h1 | h1
  · exact (key h h' h1).elim
  · exact h1
  · exact (key h' h h1).elim
theorem isTz_or {x y i k : Nat} (hx : IsTz x i) (hy : IsTz y k) : IsTz (x ||| y) (min i k) := by
  have hmod : ∀ {n z m : Nat}, IsTz n z → m ≤ z → n % 2 ^ m = 0 := by
    intro n z m ⟨t, h⟩ hm
    rw [h, show z = m + (z - m) from by omega, Nat.pow_add, Nat.mul_assoc, Nat.mul_mod_right]
  apply isTz_of
  · rw [Nat.or_mod_two_pow, hmod hx (Nat.min_le_left _ _), hmod hy (Nat.min_le_right _ _)]; rfl
  · have h1 : (x ||| y) / 2 ^ min i k = x / 2 ^ min i k ||| y / 2 ^ min i k := by
      rw [← Nat.shiftRight_eq_div_pow, ← Nat.shiftRight_eq_div_pow, ← Nat.shiftRight_eq_div_pow, Nat.shiftRight_or_distrib]
    rw [h1, show (2 : Nat) = 2 ^ 1 from rfl, Nat.or_mod_two_pow]
    have h2 : ∀ a b : Nat, a % 2 = 1 ∨ b % 2 = 1 → (a % 2 ^ 1 ||| b % 2 ^ 1) = 1 := by
      intro a b h
      rw [show (2 : Nat) ^ 1 = 2 from rfl]
      rcases Nat.mod_two_eq_zero_or_one a with ha | ha <;> rcases Nat.mod_two_eq_zero_or_one b with hb | hb <;> rw [ha, hb] <;> first | rfl | omega
    apply h2
    rcases Nat.le_total i k with h | h
    · left; rw [Nat.min_eq_left h]; exact hx.odd
    · right; rw [Nat.min_eq_right h]; exact hy.odd
theorem odd_coprime {a : Nat} (h : a % 2 = 1) (k : Nat) : Nat.Coprime (2 ^ k) a := by
  apply Nat.Coprime.pow_left
  unfold Nat.Coprime
  rw [Nat.gcd_rec, h]; rfl
theorem gcd_odd_right {a : Nat} (h : a % 2 = 1) (k b : Nat) : Nat.gcd a (2 ^ k * b) = Nat.gcd a b := Nat.Coprime.gcd_mul_left_cancel_right b (odd_coprime h k)
theorem gcd_odd_tz {a y z : Nat} (h : a % 2 = 1) (hy : IsTz y z) : Nat.gcd a (y / 2 ^ z) = Nat.gcd a y := by
  conv => rhs; rw [← hy.back, Nat.mul_comm]
  rw [gcd_odd_right h]
theorem gcd_tz {x y i k : Nat} (hx : IsTz x i) (hy : IsTz y k) : Nat.gcd x y = 2 ^ min i k * Nat.gcd (x / 2 ^ i) (y / 2 ^ k) := by
  have key : ∀ {x y i k : Nat}, IsTz x i → IsTz y k → i ≤ k → Nat.gcd x y = 2 ^ i * Nat.gcd (x / 2 ^ i) (y / 2 ^ k) := by
    intro x y i k hx hy h
    conv => lhs; rw [← hx.back, ← hy.back]
    rw [show k = i + (k - i) from by omega, Nat.pow_add, Nat.mul_comm _ (2 ^ i), Nat.mul_comm _ (2 ^ i * _), Nat.mul_assoc, Nat.gcd_mul_left, gcd_odd_right (by have := hx.odd; omega)]
  rcases Nat.le_total i k with h | h
  · rw [Nat.min_eq_left h]; exact key hx hy h
  · rw [Nat.min_eq_right h, Nat.gcd_comm, key hy hx h, Nat.gcd_comm]
/-- What the binary algorithm multiplies at its end. -/
theorem gcd_binary {x y i k : Nat} (hx : IsTz x i) (hy : IsTz y k) : Nat.gcd (x / 2 ^ i) y * 2 ^ min i k = Nat.gcd x y := by
  rw [gcd_tz hx hy, gcd_odd_tz hx.odd hy, Nat.mul_comm]
theorem gcd_sub_step {p r : Nat} (h : p ≤ r) : Nat.gcd p (r - p) = Nat.gcd p r := by
  conv => rhs; rw [show r = r - p + p from by omega]
  rw [Nat.gcd_add_self_right]
/-- The zeros at the low end of a number whose first limb that is not 0 is known. -/
theorem isTz_limb {a k v z : Nat} (hk : k < (limbs a).length) (h0 : ∀ j, j < k → (limbs a).getD j 0 = 0) (hv : (limbs a).getD k 0 = v) (hz : IsTz v z) (hz32 : z < 32) : IsTz a (32 * k + z) := by
  have h1 := val_take_drop (limbs a) k (by omega)
  have h2 : val ((limbs a).take k) = 0 := by
    have : ∀ j, j ≤ k → val ((limbs a).take j) = 0 := by
      intro j
      induction j with
      | zero => intro _; rfl
      | succ j ih => intro hj; rw [val_take_succ' _ j, ih (by omega), h0 j (by omega)]; simp
    exact this k (Nat.le_refl _)
  rw [h2, Nat.zero_add, val_limbs, drop_getD hk, val_cons, hv] at h1
  obtain ⟨m, hm⟩ := hz
  generalize val ((limbs a).drop (k + 1)) = r at h1
  have e1 : 2 ^ (32 * k + z) = P k * 2 ^ z := by rw [Nat.pow_add, Nat.pow_mul]; rfl
  obtain ⟨u, hu⟩ : ∃ u, 2 ^ (31 - z) = u := ⟨_, rfl⟩
  have e2 : 4294967296 = 2 ^ z * (2 * u) := by rw [← hu, ← Nat.mul_assoc, Nat.mul_right_comm, ← Nat.pow_add, ← Nat.pow_succ, show z + (31 - z) = 31 from by omega]
  refine ⟨m + u * r, ?_⟩
  rw [e1, h1, hm, e2]
  grind
/-- 64 bits of a number from the limb j + 2 down, behind the first s. -/
theorem window_math {l : List Nat} {j s : Nat} (hl : Lim l) (hlen : l.length ≤ j + 3) (hs : s ≤ 32) :
    val l / (P j * 2 ^ (32 - s)) = (l.getD (j + 2) 0 * 4294967296 + l.getD (j + 1) 0) * 2 ^ s + l.getD j 0 / 2 ^ (32 - s) := by
  have h1 : val l = val (l.take (j + 3)) := by rw [List.take_of_length_le hlen]
  rw [val_take_succ' l (j + 2), val_take_succ' l (j + 1), val_take_succ' l j] at h1
  have hlt : val (l.take j) < P j := by
    have h2 := val_lt (hl.take j)
    exact Nat.lt_of_lt_of_le h2 (P_le (by rw [List.length_take]; omega))
  generalize l.getD (j + 2) 0 = x2 at *
  generalize l.getD (j + 1) 0 = x1 at *
  generalize l.getD j 0 = x0 at *
  obtain ⟨u, hu⟩ : ∃ u, 2 ^ (32 - s) = u := ⟨_, rfl⟩
  obtain ⟨t, ht⟩ : ∃ t, 2 ^ s = t := ⟨_, rfl⟩
  have htu : u * t = 4294967296 := by rw [← ht, ← hu, ← Nat.pow_add, show 32 - s + s = 32 from by omega]
  have hu0 : 0 < u := by rw [← hu]; exact Nat.pow_pos (by decide)
  rw [hu, ht, ← Nat.div_div_eq_div_mul]
  have h3 : val l = val (l.take j) + P j * (x0 + u * ((x2 * 4294967296 + x1) * t)) := by
    rw [h1, P_succ (j + 1), P_succ j]
    have e : u * ((x2 * 4294967296 + x1) * t) = 4294967296 * (x2 * 4294967296 + x1) := by rw [← htu]; grind
    rw [e]
    grind
  rw [h3, Nat.add_mul_div_left _ _ (P_pos j), Nat.div_eq_of_lt hlt, Nat.zero_add, Nat.add_mul_div_left _ _ hu0]
  omega
/-- One limb of a difference of two multiples. -/
theorem comb_step {L l r : List Nat} {k N a b p m br d br' v w Pk Mk : Nat} (hk : k < N) (h : L.length = N ∧ Lim L ∧ (∀ i, k ≤ i → L.getD i 0 = l.getD i 0) ∧ val (L.take k) + b * val (r.take k) + P k * p = a * val (l.take k) + P k * (br + m))
    (hv : l.getD k 0 = v) (hw : r.getD k 0 = w) (hd : d < 4294967296) (hP : Pk = a * v + p) (hM : Mk = b * w + m) (he : d + Mk % 4294967296 + br = Pk % 4294967296 + 4294967296 * br') :
    (L.set k d).length = N ∧ Lim (L.set k d) ∧ (∀ i, k + 1 ≤ i → (L.set k d).getD i 0 = l.getD i 0) ∧
      val ((L.set k d).take (k + 1)) + b * val (r.take (k + 1)) + P (k + 1) * (Pk / 4294967296) = a * val (l.take (k + 1)) + P (k + 1) * (br' + Mk / 4294967296) := by
  obtain ⟨h1, h2, h3, h4⟩ := h
  refine ⟨by simpa using h1, h2.set k hd, fun i hi => by rw [getD_set_ne _ (by omega)]; exact h3 i (by omega), ?_⟩
  rw [val_take_set _ (by omega), val_take_succ' l k, val_take_succ' r k, P_succ, hv, hw]
  have e1 := Nat.mod_add_div Pk 4294967296
  have e2 := Nat.mod_add_div Mk 4294967296
  have e : d + b * w + 4294967296 * (Pk / 4294967296) + br + m = a * v + p + 4294967296 * (br' + Mk / 4294967296) := by omega
  have e3 : P k * d + P k * (b * w) + P k * 4294967296 * (Pk / 4294967296) + P k * (br + m) = P k * (a * v) + P k * p + P k * 4294967296 * (br' + Mk / 4294967296) := by
    have := congrArg (P k * ·) e
    simp only [Nat.mul_add] at this ⊢
    simp only [Nat.mul_assoc] at this ⊢
    omega
  rw [Nat.mul_add b, Nat.mul_add a, Nat.mul_left_comm b (P k) w, Nat.mul_left_comm a (P k) v]
  omega
/-- What the steps of Euclid have made of H and N: x and y, by the numbers a, b, c, d; cnt steps. -/
def Rel (H N x y a b c d cnt : Nat) : Prop :=
  (cnt % 2 = 0 ∧ x + b * N = a * H ∧ y + c * H = d * N ∧ a * d = b * c + 1) ∨ (cnt % 2 = 1 ∧ x + a * H = b * N ∧ y + d * N = c * H ∧ b * c = a * d + 1)
theorem Rel.start (H N : Nat) : Rel H N H N 1 0 0 1 0 := .inl ⟨rfl, by omega, by omega, rfl⟩
theorem Rel.step {H N x y a b c d cnt q y' : Nat} (h : Rel H N x y a b c d cnt) (hq : x = q * y + y') : Rel H N y y' c d (a + q * c) (b + q * d) (cnt + 1) := by
  rcases h with ⟨h0, h1, h2, h3⟩ | ⟨h0, h1, h2, h3⟩
  · refine .inr ⟨by omega, h2, ?_, ?_⟩
    · have e : q * (y + c * H) = q * (d * N) := by rw [h2]
      rw [Nat.add_mul, Nat.add_mul, Nat.mul_assoc, Nat.mul_assoc]
      rw [Nat.mul_add] at e
      omega
    · rw [Nat.mul_add, Nat.mul_add, Nat.mul_comm d a, h3, Nat.mul_comm c b, Nat.mul_left_comm c q d, Nat.mul_left_comm d q c, Nat.mul_comm d c]; omega
  · refine .inl ⟨by omega, h2, ?_, ?_⟩
    · have e : q * (y + d * N) = q * (c * H) := by rw [h2]
      rw [Nat.add_mul, Nat.add_mul, Nat.mul_assoc, Nat.mul_assoc]
      rw [Nat.mul_add] at e
      omega
    · rw [Nat.mul_add, Nat.mul_add, Nat.mul_comm c b, h3, Nat.mul_comm d a, Nat.mul_left_comm c q d, Nat.mul_left_comm d q c, Nat.mul_comm d c]; omega
theorem Rel.weight {H N x y a b c d cnt : Nat} (h : Rel H N x y a b c d cnt) : d * x + b * y = H := by
  rcases h with ⟨_, h1, h2, h3⟩ | ⟨_, h1, h2, h3⟩
  · have e1 : d * (x + b * N) = d * (a * H) := by rw [h1]
    have e2 : b * (y + c * H) = b * (d * N) := by rw [h2]
    rw [Nat.mul_add] at e1 e2
    have e3 : d * (a * H) = b * (c * H) + H := by rw [← Nat.mul_assoc, Nat.mul_comm d a, h3, Nat.add_mul, Nat.one_mul, Nat.mul_assoc]
    have e4 : d * (b * N) = b * (d * N) := Nat.mul_left_comm ..
    omega
  · have e1 : d * (x + a * H) = d * (b * N) := by rw [h1]
    have e2 : b * (y + d * N) = b * (c * H) := by rw [h2]
    rw [Nat.mul_add] at e1 e2
    have e3 : b * (c * H) = d * (a * H) + H := by rw [← Nat.mul_assoc, h3, Nat.add_mul, Nat.one_mul, Nat.mul_comm a d, Nat.mul_assoc]
    have e4 : d * (b * N) = b * (d * N) := Nat.mul_left_comm ..
    omega
theorem Rel.weight' {H N x y a b c d cnt : Nat} (h : Rel H N x y a b c d cnt) : c * x + a * y = N := by
  rcases h with ⟨_, h1, h2, h3⟩ | ⟨_, h1, h2, h3⟩
  · have e1 : c * (x + b * N) = c * (a * H) := by rw [h1]
    have e2 : a * (y + c * H) = a * (d * N) := by rw [h2]
    rw [Nat.mul_add] at e1 e2
    have e3 : a * (d * N) = c * (b * N) + N := by rw [← Nat.mul_assoc, h3, Nat.add_mul, Nat.one_mul, Nat.mul_comm b c, Nat.mul_assoc]
    have e4 : c * (a * H) = a * (c * H) := Nat.mul_left_comm ..
    omega
  · have e1 : c * (x + a * H) = c * (b * N) := by rw [h1]
    have e2 : a * (y + d * N) = a * (c * H) := by rw [h2]
    rw [Nat.mul_add] at e1 e2
    have e3 : c * (b * N) = a * (d * N) + N := by rw [← Nat.mul_assoc, Nat.mul_comm c b, h3, Nat.add_mul, Nat.one_mul, Nat.mul_assoc]
    have e4 : c * (a * H) = a * (c * H) := Nat.mul_left_comm ..
    omega
/-- The steps keep the greatest common divisor. -/
theorem Rel.gcd {X Y x y a b c d cnt : Nat} (h : Rel X Y x y a b c d cnt) : Nat.gcd x y = Nat.gcd X Y := by
  have hw := h.weight
  have hw' := h.weight'
  apply Nat.dvd_antisymm
  · have h1 := Nat.gcd_dvd_left x y
    have h2 := Nat.gcd_dvd_right x y
    apply Nat.dvd_gcd
    · conv => rhs; rw [← hw]
      exact Nat.dvd_add (Nat.dvd_mul_left_of_dvd h1 _) (Nat.dvd_mul_left_of_dvd h2 _)
    · conv => rhs; rw [← hw']
      exact Nat.dvd_add (Nat.dvd_mul_left_of_dvd h1 _) (Nat.dvd_mul_left_of_dvd h2 _)
  · have h1 := Nat.gcd_dvd_left X Y
    have h2 := Nat.gcd_dvd_right X Y
    have key : ∀ {u v r : Nat}, r + v = u → Nat.gcd X Y ∣ u → Nat.gcd X Y ∣ v → Nat.gcd X Y ∣ r := fun {u v r} e hu hv => by
      have : r = u - v := by omega
      rw [this]; exact Nat.dvd_sub hu hv
    rcases h with ⟨_, e1, e2, _⟩ | ⟨_, e1, e2, _⟩
    · exact Nat.dvd_gcd (key e1 (Nat.dvd_mul_left_of_dvd h1 _) (Nat.dvd_mul_left_of_dvd h2 _)) (key e2 (Nat.dvd_mul_left_of_dvd h2 _) (Nat.dvd_mul_left_of_dvd h1 _))
    · exact Nat.dvd_gcd (key e1 (Nat.dvd_mul_left_of_dvd h2 _) (Nat.dvd_mul_left_of_dvd h1 _)) (key e2 (Nat.dvd_mul_left_of_dvd h1 _) (Nat.dvd_mul_left_of_dvd h2 _))
/-- A difference of multiples of leading parts that is great enough shows that the difference of the multiples of the numbers is not negative. -/
theorem lead_le {u v U V E eu ev r : Nat} (h : r + v * V = u * U) (hv : v ≤ r) (he : ev < E) : v * (V * E + ev) ≤ u * (U * E + eu) := by
  have h1 : v * ev ≤ v * E := Nat.mul_le_mul_left _ (Nat.le_of_lt he)
  have h2 : (v * V + v) * E ≤ u * U * E := Nat.mul_le_mul_right _ (by omega)
  rw [Nat.mul_add, Nat.mul_add, ← Nat.mul_assoc, ← Nat.mul_assoc]
  rw [Nat.add_mul] at h2
  omega
theorem lead_lt {u v U V E eu ev r : Nat} (h : r + v * V = u * U) (hv : v ≤ r) (hv0 : 0 < v) (he : ev < E) : v * (V * E + ev) < u * (U * E + eu) := by
  have h1 : v * ev < v * E := Nat.mul_lt_mul_of_pos_left he hv0
  have h2 : (v * V + v) * E ≤ u * U * E := Nat.mul_le_mul_right _ (by omega)
  rw [Nat.mul_add, Nat.mul_add, ← Nat.mul_assoc, ← Nat.mul_assoc]
  rw [Nat.add_mul] at h2
  omega
/-- The cofactors while the steps are made. -/
def Cof (a b c d cnt : Nat) : Prop := (cnt = 0 ∧ a = 1 ∧ b = 0 ∧ c = 0 ∧ d = 1) ∨ (1 ≤ cnt ∧ a ≤ b ∧ 1 ≤ b ∧ 1 ≤ c ∧ c ≤ d ∧ b ≤ d ∧ cnt ≤ d)
theorem Cof.start : Cof 1 0 0 1 0 := .inl ⟨rfl, rfl, rfl, rfl, rfl⟩
theorem Cof.step {a b c d cnt q : Nat} (h : Cof a b c d cnt) (hq : 1 ≤ q) : Cof c d (a + q * c) (b + q * d) (cnt + 1) := by
  rcases h with ⟨rfl, rfl, rfl, rfl, rfl⟩ | ⟨h1, h2, h3, h4, h5, h6, h7⟩
  · refine .inr ⟨by omega, by omega, by omega, by omega, by omega, by omega, by omega⟩
  · have e1 : q * c ≤ q * d := Nat.mul_le_mul_left _ h5
    have e2 : d ≤ q * d := Nat.le_mul_of_pos_left _ hq
    have e3 : c ≤ q * c := Nat.le_mul_of_pos_left _ hq
    refine .inr ⟨by omega, by omega, by omega, by omega, by omega, by omega, by omega⟩
theorem Cof.le {a b c d cnt : Nat} (h : Cof a b c d cnt) : c ≤ d ∧ b ≤ d ∧ 1 ≤ d ∧ a ≤ d ∧ cnt ≤ d := by
  rcases h with ⟨rfl, rfl, rfl, rfl, rfl⟩ | ⟨h1, h2, h3, h4, h5, h6, h7⟩
  · omega
  · omega
/-- A state that the test accepts is one of the numbers themselves. -/
theorem accept {H N X Y E eX eY hi ne a b c d cnt : Nat} (hX : X = H * E + eX) (hY : Y = N * E + eY) (heX : eX < E) (heY : eY < E) (hR : Rel H N hi ne a b c d cnt) (hC : Cof a b c d cnt) (h1 : d ≤ ne) (h2 : b + d ≤ hi - ne) (h3 : ne ≤ hi) :
    ∃ x y, Rel X Y x y a b c d cnt ∧ y < x := by
  have hC' := hC.le
  rcases hR with ⟨h0, e1, e2, e3⟩ | ⟨h0, e1, e2, e3⟩
  · have f1 : b * Y ≤ a * X := by rw [hX, hY]; exact lead_le e1 (by omega) heY
    have f2 : c * X ≤ d * Y := by rw [hX, hY]; exact lead_le e2 (by omega) heX
    have f3 : (b + d) * Y < (a + c) * X := by
      rw [hX, hY]
      refine lead_lt (r := hi - ne) ?_ h2 (by omega) heY
      rw [Nat.add_mul, Nat.add_mul]; omega
    rw [Nat.add_mul, Nat.add_mul] at f3
    exact ⟨a * X - b * Y, d * Y - c * X, .inl ⟨h0, by omega, by omega, e3⟩, by omega⟩
  · have hC2 : 1 ≤ cnt ∧ a ≤ b ∧ 1 ≤ b ∧ 1 ≤ c ∧ c ≤ d ∧ b ≤ d ∧ cnt ≤ d := by
      rcases hC with ⟨rfl, _⟩ | h
      · omega
      · exact h
    have f1 : a * X ≤ b * Y := by rw [hX, hY]; exact lead_le e1 (by omega) heX
    have f2 : d * Y ≤ c * X := by rw [hX, hY]; exact lead_le e2 (by omega) heY
    have f3 : (a + c) * X < (b + d) * Y := by
      rw [hX, hY]
      refine lead_lt (r := hi - ne) ?_ (by omega) (by omega) heX
      rw [Nat.add_mul, Nat.add_mul]; omega
    rw [Nat.add_mul, Nat.add_mul] at f3
    exact ⟨b * Y - a * X, c * X - d * Y, .inr ⟨h0, by omega, by omega, e3⟩, by omega⟩
/-- .. whose cofactors are limbs. -/
theorem accept_small {H N hi ne a b c d cnt : Nat} (hR : Rel H N hi ne a b c d cnt) (hC : Cof a b c d cnt) (h1 : d ≤ ne) (h3 : ne ≤ hi) (hH : H < 18446744073709551616) : d < 4294967296 := by
  have hw := hR.weight
  rcases Nat.lt_or_ge d 4294967296 with h | h
  · exact h
  · exfalso
    have e1 : 4294967296 * 4294967296 ≤ d * hi := Nat.mul_le_mul h (by omega)
    omega
/-- The first number of a state is the second one of the state before. -/
theorem Rel.first {X Y x y x' y' a b c d cnt p q r s : Nat} (h : Rel X Y x y a b c d cnt) (h' : Rel X Y x' y' c d p q (cnt + 1)) : x' = y := by
  rcases h with ⟨h0, _, e2, _⟩ | ⟨h0, _, e2, _⟩ <;> rcases h' with ⟨g0, f1, _, _⟩ | ⟨g0, f1, _, _⟩ <;> omega
end Go.Proofs.YtggmmgojpamcpaaGreatDoor

namespace Go.Proofs.YtggmmgojpamcpaaGreatDoor
open Go.RowKit

set_option maxHeartbeats 1000000 in
theorem natural_l (v : Nat) (w : World) (hv : v < 18446744073709551616) :
    Calls Tryz.prog 49 #[.int .u64 v] w (RetOwn w (limbs v)) := by
  go_enter Tryz.func49, Tryz.ntmps49
  have hlim : Lim [v % 4294967296, v / 4294967296] := Lim.cons (Nat.mod_lt _ (by decide)) (Lim.cons (by omega) Lim.nil)
  have hrow : Row (w.alloc (.cells #[.int .u32 ((v : Int) % 4294967296), .int .u32 ((v : Int) / 4294967296)] 58)) w.heap.size [v % 4294967296, v / 4294967296] := heap_alloc_new w _
  have HV : Hid (val [v % 4294967296, v / 4294967296] = v) := by show _ = _; simp only [val]; omega
  go_wp2_with (go_at_call 89; refine (trimmed_any _ 2 2 _ _ (hrow.num (n := 2) (c := 2) hlim rfl (by omega)) (by omega)).mono ?_; rintro e w' ⟨rfl, rfl⟩)
  go_ret
  exact hrow.ret (Nat.le_refl _) hlim ((Below.refl _ _).alloc (Nat.le_refl _) _) (by simp) HV.out

set_option maxHeartbeats 1000000 in
theorem low_l (A : Option Addr) (n c : Nat) (l : List Nat) (w : World) (hx : Num w l A n c) (hn : n ≤ 536870912) :
    Calls Tryz.prog 55 #[.slice A n c] w fun e w' => e = .returned (.int .u64 ((l.getD 0 0 + 4294967296 * l.getD 1 0 : Nat) : Int)) ∧ w = w' := by
  obtain ⟨x, hx'⟩ : ∃ x, l.getD 0 0 = x := ⟨_, rfl⟩
  obtain ⟨y, hy'⟩ : ∃ y, l.getD 1 0 = y := ⟨_, rfl⟩
  have hx4 : x < 4294967296 := by rw [← hx']; exact hx.lim.getD _
  have hy4 : y < 4294967296 := by rw [← hy']; exact hx.lim.getD _
  rw [hx', hy']
  have HX := Lib.hid hx'; have HY := Lib.hid hy'; clear hx' hy'
  go_enter Tryz.func55, Tryz.ntmps55
  go_wp2_with fail
  refine (limb_v _ _ _ 1 l _ y hx (by omega) (by omega) HY).mono ?_; rintro e w' ⟨rfl, rfl⟩
  go_wp2_with fail
  refine (limb_v _ _ _ 0 l _ x hx (by omega) (by omega) HX).mono ?_; rintro e w' ⟨rfl, rfl⟩
  go_wp2_with fail
  go_ret
  refine ⟨ret_int ?_, rfl⟩
  rw [show (y : Int) * 4294967296 = ((y * 4294967296 : Nat) : Int) from by omega, u64_or_nat _ _ (by omega) (by omega), nat_join 32 (y * 4294967296) x (by omega) (by omega)]
  omega
/-- low: the value of a number of at most two limbs. -/
theorem low_any (A : Option Addr) (n c a : Nat) (w : World) (hx : Num w (limbs a) A n c) (hn : n ≤ 2) :
    Calls Tryz.prog 55 #[.slice A n c] w fun e w' => e = .returned (.int .u64 (a : Int)) ∧ w = w' := by
  have h := low_l A n c _ w hx (by omega)
  have e : (limbs a).getD 0 0 + 4294967296 * (limbs a).getD 1 0 = a := by
    have hl := hx.len
    conv => rhs; rw [← val_limbs a]
    match h2 : limbs a, hl with
    | [], _ => rfl
    | [x], _ => simp [val]
    | [x, y], _ => simp [val]
    | x :: y :: z :: t, hl => simp at hl; omega
  rwa [e] at h

set_option maxHeartbeats 1000000 in
set_option maxRecDepth 20000 in
theorem clone_l (A : Option Addr) (n c : Nat) (l : List Nat) (w : World) (hx : Num w l A n c) (hn : n ≤ 536870912) :
    Calls Tryz.prog 98 #[.slice A n c] w (RetOwn w l) := by
  have hq := Lib.run_eql_slice_nil (P := Tryz.prog) w 22 58 A n c 0 0 Tryz.underlying22
  cases A with
  | none =>
    have h0 : n = 0 := by
      rcases Nat.eq_zero_or_pos n with h | h
      · exact h
      · obtain ⟨_, _, h, _⟩ := hx.cells h; cases h
    have hl : l = [] := List.eq_nil_of_length_eq_zero (by rw [← hx.len]; exact h0)
    subst hl
    subst h0
    go_enter Tryz.func98, Tryz.ntmps98
    go_wp2
    go_ret
    exact ⟨none, 0, 0, rfl, Own.nil _ _ _ _, Below.refl _ _⟩
  | some a =>
    have hb0 : Below w.heap.size w (w.alloc (.cells #[] 58)) := (Below.refl _ _).alloc (Nat.le_refl _) _
    go_enter Tryz.func98, Tryz.ntmps98
    go_wp2_with (at_builtin; refine wpList_app rfl (.tmp 5) (.tmp 6) rfl rfl w.heap.size _ [] l rfl (OwnR.new0 w (Nat.le_refl _)) (some a) n c rfl (hx.below hb0) ?c1 hb0.size ?_)
    case c1 => simp; omega
    intro v' w' hown hgr _
    go_wp2
    go_ret
    obtain ⟨A', c', rfl, ho⟩ := hown.own hx.lim
    exact ⟨A', _, c', rfl, ho, hb0.grown hgr hb0.size (fun k hk => by cases hk; exact Nat.le_refl _)⟩

set_option maxHeartbeats 1000000 in
theorem left_l (A : Option Addr) (n c p : Nat) (l : List Nat) (w : World) (hx : Num w l A n c) (hn : n ≤ 536870912) (hp : p ≤ 536870912) :
    Calls Tryz.prog 103 #[.slice A n c, .int .i64 p] w (RetOwn w (limbs (val l * 2 ^ p))) := by
  obtain ⟨q, hq⟩ : ∃ q, p / 32 = q := ⟨_, rfl⟩
  obtain ⟨s, hs⟩ : ∃ s, p % 32 = s := ⟨_, rfl⟩
  have hs32 : s < 32 := by omega
  have HP : Hid (p = 32 * q + s) := by show p = 32 * q + s; omega
  have hq' : (p : Int) / 32 = q := by omega
  have hs' : (p : Int).tmod 32 = s := by rw [Int.tmod_eq_emod_of_nonneg (by omega)]; omega
  have hq2 : q ≤ 16777216 := by omega
  clear hq hs
  have hmk := mk_run (q + n + 1) ((q : Int) + (n : Int) + 1) (by omega) (by omega)
  go_enter Tryz.func103, Tryz.ntmps103
  go_wp2_with fail
  go_loopw [23] (fun si wr => ∃ (k : Nat) (L : List Nat), k ≤ n ∧ si = .int .i64 k ∧ Row wr w.heap.size L ∧ Below w.heap.size w wr ∧ Hid (L.length = q + n + 1 ∧ Lim L ∧ val L = val (l.take k) * 2 ^ s * P q ∧ L.getD (q + k) 0 < 2 ^ s ∧ ∀ j, q + k < j → L.getD j 0 = 0))
    (fun si _ => n - (intOf si).toNat)
  case atStart => exact ⟨0, List.replicate (q + n + 1) 0, Nat.zero_le _, rfl, Row.new _ _, (Below.refl _ _).alloc (Nat.le_refl _) _, show Hid _ from ⟨by simp, Lim.zeros _, by simp [val_zeros, val], by rw [getD_zeros]; exact Nat.pow_pos (by decide), fun j _ => getD_zeros _ _⟩⟩
  case round =>
    obtain ⟨k, L, hk, rfl, hrow, hbel, HI⟩ := hrel
    clear hmk
    by_cases hkn : k < n
    · have hxw := hx.below hbel
      obtain ⟨b, o, x, rfl, _, hx', hx4, hcx⟩ := hxw.at_ hkn
      have HX := Lib.hid hx'; clear hx'
      obtain ⟨d, hd⟩ : ∃ d, L.getD (q + k) 0 = d := ⟨_, rfl⟩
      obtain ⟨d2, hd2⟩ : ∃ d, L.getD (q + k + 1) 0 = d := ⟨_, rfl⟩
      have hcs := hrow.cell (k := q + k) (by have := HI.out.1; omega)
      have hcs2 := hrow.cell (k := q + k + 1) (by have := HI.out.1; omega)
      have hfs := hrow.frozen (q + k)
      have hfs2 := hrow.frozen (q + k + 1)
      rw [hd] at hcs; rw [hd2] at hcs2
      have HD := Lib.hid hd; clear hd hd2
      obtain ⟨t, ht⟩ : ∃ t, 2 ^ s = t := ⟨_, rfl⟩
      have ht0 : 0 < t := by rw [← ht]; exact Nat.pow_pos (by decide)
      have ht1 : t ≤ 2147483648 := by rw [← ht, show (2147483648 : Nat) = 2 ^ 31 from rfl]; exact Nat.pow_le_pow_right (by decide) (by omega)
      have hti : (2 : Int) ^ s = (t : Int) := by rw [← ht]; exact (Int.natCast_pow 2 s).symm
      have HS := Lib.hid ht; have HT := Lib.hid hti; clear ht hti
      have hxt : x * t ≤ 4294967295 * 2147483648 := Nat.mul_le_mul (by omega) ht1
      have HXT := Lib.hid hxt; clear hxt
      go_wp2_with fail
      go_roundw
      case rel =>
        have hxt := HXT.out
        have hw : IntKind.u64.wrap ((x : Int) * 2 ^ s) = ((x * t : Nat) : Int) := by
          rw [HT.out, ← Int.natCast_mul, IntKind.wrap_u64]; omega
        have hI := HI.out
        have hd4 : d < 2 ^ s := by rw [← HD.out]; exact hI.2.2.2.1
        obtain ⟨hlow, hsum, hhi⟩ := shl_parts (d := d) hx4 (by omega) HS.out (by rw [← HS.out]; exact hd4)
        have hor : bits .or .u32 (d : Int) ((x * t % 4294967296 : Nat) : Int) = ((x * t % 4294967296 + d : Nat) : Int) := by
          have h1 : d < 4294967296 := by have := HS.out; omega
          rw [u32_or_nat _ _ h1 (Nat.mod_lt _ (by decide)), Nat.or_comm, nat_join s _ _ (by rw [HS.out]; exact hlow) hd4]
        refine ⟨k + 1, (L.set (q + k) (x * t % 4294967296 + d)).set (q + k + 1) (x * t / 4294967296), by omega, congrArg (Value.int _) (by omega), (hrow.setI (q + k) (x * t % 4294967296 + d) ?_).setI (q + k + 1) (x * t / 4294967296) ?_, (hbel.setCell (Nat.le_refl _) _).setCell (Nat.le_refl _) _, ?_⟩
        · rw [hw, ← hor]; congr 1
        · rw [hw]; omega
        show Hid _
        refine ⟨by simpa using hI.1, (hI.2.1.set _ hsum).set _ (by omega), ?_, ?_, fun j hj => ?_⟩
        · have h4 := val_set (M := L) (x * t % 4294967296 + d) (show q + k < L.length by omega)
          have h5 := val_set (M := L.set (q + k) (x * t % 4294967296 + d)) (x * t / 4294967296) (show q + k + 1 < _ by rw [List.length_set]; omega)
          rw [getD_set_ne _ (by omega), hI.2.2.2.2 (q + k + 1) (by omega), Nat.mul_zero, Nat.add_zero] at h5
          rw [HD.out] at h4
          rw [h5, val_take_succ' l k, HX.out, HS.out]
          have h6 : val (L.set (q + k) (x * t % 4294967296 + d)) = val L + P (q + k) * (x * t % 4294967296) := by rw [Nat.mul_add] at h4; omega
          rw [h6, hI.2.2.1, HS.out, P_succ, Nat.mul_assoc (P (q + k)), Nat.add_assoc, ← Nat.mul_add, Nat.mod_add_div, P_add]
          grind
        · rw [show q + (k + 1) = q + k + 1 from by omega, getD_set_eq _ (by rw [List.length_set]; omega), HS.out]; exact hhi
        · rw [getD_set_ne _ (by omega), getD_set_ne _ (by omega)]; exact hI.2.2.2.2 j (by omega)
      case measure => simp [intOf]; omega
    · obtain rfl : k = n := by omega
      have hlim2 : Lim L := HI.out.2.1
      have HL : Hid (L.length = q + k + 1) := HI.out.1
      have HV : Hid (val L = val l * 2 ^ p) := by
        show val L = val l * 2 ^ p
        have h := HI.out.2.2.1
        rw [List.take_of_length_le (l := l) (by have := hx.len; omega)] at h
        rw [h, HP.out, Nat.pow_add, Nat.pow_mul, show P q = (2 ^ 32) ^ q from rfl]
        grind
      go_wp2_with (go_at_call 89; refine (trimmed_any _ _ _ L _ (hrow.num hlim2 HL.out.symm (Nat.le_refl _)) (by omega)).mono ?_; rintro e w' ⟨rfl, rfl⟩)
      go_ret
      exact hrow.ret (Nat.le_refl _) hlim2 hbel (by have := HL.out; omega) HV.out

/-- left: a number times a power of 2, in new memory. -/
theorem left_any (A : Option Addr) (n c p a : Nat) (w : World) (hx : Num w (limbs a) A n c) (hn : n ≤ 536870912) (hp : p ≤ 536870912) :
    Calls Tryz.prog 103 #[.slice A n c, .int .i64 p] w (RetOwn w (limbs (a * 2 ^ p))) := by
  have h := left_l A n c p _ w hx hn hp
  rwa [val_limbs] at h
end Go.Proofs.YtggmmgojpamcpaaGreatDoor

namespace Go.Proofs.YtggmmgojpamcpaaGreatDoor
open Go.RowKit

set_option maxRecDepth 20000 in
set_option maxHeartbeats 1000000 in
theorem right_l (A : Option Addr) (n c p : Nat) (l : List Nat) (w : World) (hx : Num w l A n c) (hn : n ≤ 536870912) (hp : p ≤ 1099511627776) :
    Calls Tryz.prog 106 #[.slice A n c, .int .i64 p] w (RetOwn w (limbs (val l / 2 ^ p))) := by
  obtain ⟨q, hq⟩ : ∃ q, p / 32 = q := ⟨_, rfl⟩
  obtain ⟨s, hs⟩ : ∃ s, p % 32 = s := ⟨_, rfl⟩
  have hs32 : s < 32 := by omega
  have HP : Hid (p = 32 * q + s) := by show p = 32 * q + s; omega
  have hq' : (p : Int) / 32 = q := by omega
  have hs' : (p : Int).tmod 32 = s := by rw [Int.tmod_eq_emod_of_nonneg (by omega)]; omega
  have hq2 : q ≤ 34359738368 := by omega
  clear hq hs
  have HPP : Hid (2 ^ p = P q * 2 ^ s) := by show _ = _; rw [HP.out, Nat.pow_add, Nat.pow_mul]; rfl
  by_cases hqn : n ≤ q
  · have HV : Hid (limbs (val l / 2 ^ p) = []) := by
      show _ = _
      rw [limbs_nil]
      apply Nat.div_eq_of_lt
      have h1 := val_lt hx.lim
      have h2 : P l.length ≤ P q := P_le (by have := hx.len; omega)
      have h3 : P q * 1 ≤ P q * 2 ^ s := Nat.mul_le_mul_left _ (Nat.pow_pos (by decide))
      rw [HPP.out]; omega
    rw [HV.out]
    go_enter Tryz.func106, Tryz.ntmps106
    go_wp2_with fail
    go_ret
    exact ⟨none, 0, 0, rfl, Own.nil _ _ _ _, Below.refl _ _⟩
  · obtain ⟨b, o, hA, hb, hc⟩ := hx.cells (by omega)
    subst hA
    have hcap := hx.cap
    have hne : ¬ c = q := by omega
    have hnum : Num w (l.drop q) (some ⟨b, o + q, none⟩) (n - q) (c - q) := ⟨by rw [List.length_drop, hx.len], by omega, hx.lim.drop q, fun _ => ⟨b, o + q, rfl, hb, fun k x hk => by
      rw [List.getElem?_drop] at hk; rw [Nat.add_assoc]; exact hc _ x hk⟩⟩
    go_enter Tryz.func106, Tryz.ntmps106
    go_wp2_with (go_at_call 98; refine (clone_l _ _ _ _ _ hnum (by omega)).mono ?_; rintro e w' ⟨A1, n1, c1, rfl, ho1, hb1⟩)
    have hD : (l.drop q).length = n - q := by rw [List.length_drop, hx.len]
    have hlD := hx.lim.drop q
    have HVD : Hid (val (l.drop q) = val l / P q) := val_drop hx.lim q (by have := hx.len; omega)
    have hltD := val_lt hlD
    generalize l.drop q = D at *
    obtain ⟨b1, pre, post, rfl, hB1, hmid⟩ := ho1.row (by have := ho1.len; omega)
    have hn1 := ho1.len
    obtain ⟨o1, hpre⟩ : ∃ o1, pre.length = o1 := ⟨_, rfl⟩
    rw [hpre]
    have HPR := Lib.hid hpre; clear hpre
    have hcap1 := ho1.cap
    have HN1 := Lib.hid hn1; have HDL := Lib.hid hD; have HLT := Lib.hid hltD; have HLD := Lib.hid hlD
    have hn1b : n1 ≤ 536870912 := by omega
    clear hn1 hD hltD hlD ho1 hx hnum hc hne hqn hq' hs'
    go_loopw [24] (fun si wr => ∃ (k : Nat) (L : List Nat), k ≤ n1 ∧ si = .int .i64 k ∧ Mid wr b1 pre L post ∧ Below w.heap.size w wr ∧ Hid (L.length = n1 ∧ Lim L ∧ (∀ j, k ≤ j → L.getD j 0 = D.getD j 0) ∧ ∀ j, j < k → L.getD j 0 = val D / 2 ^ s / P j % 4294967296))
      (fun si _ => n1 - (intOf si).toNat)
    case atStart => exact ⟨0, D, Nat.zero_le _, rfl, hmid, hb1, show Hid _ from ⟨HN1.out.symm, HLD.out, fun _ _ => rfl, fun j hj => by omega⟩⟩
    case round =>
      obtain ⟨k, L, hk, rfl, hrow, hbel, HI⟩ := hrel
      clear hmid hb1
      by_cases hkn : k < n1
      · obtain ⟨x, hx'⟩ : ∃ x, L.getD k 0 = x := ⟨_, rfl⟩
        obtain ⟨y, hy'⟩ : ∃ y, L.getD (k + 1) 0 = y := ⟨_, rfl⟩
        have hx4 : x < 4294967296 := by rw [← hx']; exact HI.out.2.1.getD _
        have hy4 : y < 4294967296 := by rw [← hy']; exact HI.out.2.1.getD _
        have hcs := hrow.cell (k := k) (by have := HI.out.1; omega)
        have hfs := hrow.frozen (o1 + k)
        rw [hx', HPR.out] at hcs
        have HX := Lib.hid hx'; have HY := Lib.hid hy'; clear hx' hy'
        have hk1 : (0 : Int) ≤ (k : Int) + 1 := by omega
        have hk2 : IntKind.i64.wrap ((k : Int) + 1) = (k : Int) + 1 := IntWalk.i64_in _ (by omega)
        have hnumL : Num wr L (some ⟨b1, o1, none⟩) n1 c1 := hrow.num HI.out.2.1 HPR.out.symm HI.out.1.symm hcap1
        go_wp2_with fail
        go_quiet ((go_at_call 92; exact quiet_left (limb_v _ _ _ ((k : Int) + 1) L _ y (hnumL.drewN _) (by omega) (by omega) HY)))
        go_wp2_with fail
        go_roundw
        case rel =>
          have hI := HI.out
          have hxD : x = val D / P k % 4294967296 := by rw [← HX.out, hI.2.2.1 k (Nat.le_refl _)]; exact val_getD HLD.out k
          have hyD : y = val D / P (k + 1) % 4294967296 := by rw [← HY.out, hI.2.2.1 (k + 1) (by omega)]; exact val_getD HLD.out (k + 1)
          have hval : bits .or .u64 ((y : Int) * 4294967296) (x : Int) / 2 ^ s % 4294967296 = (((y * 4294967296 + x) / 2 ^ s % 4294967296 : Nat) : Int) := by
            rw [show (y : Int) * 4294967296 = ((y * 4294967296 : Nat) : Int) from by omega, u64_or_nat _ _ (by omega) (by omega), nat_join 32 (y * 4294967296) x (by omega) (by omega)]
            rfl
          refine ⟨k + 1, L.set k ((y * 4294967296 + x) / 2 ^ s % 4294967296), by omega, congrArg (Value.int _) (by omega), (hrow.drewN nq).set' (by omega) _ hval HPR.out, (below_drewN hbel nq).setCell hB1 _, ?_⟩
          show Hid _
          refine ⟨by rw [List.length_set]; exact hI.1, hI.2.1.set _ (Nat.mod_lt _ (by decide)), fun j hj => ?_, fun j hj => ?_⟩
          · rw [getD_set_ne _ (by omega)]; exact hI.2.2.1 j (by omega)
          · rcases Nat.lt_or_ge j k with h | h
            · rw [getD_set_ne _ (by omega)]; exact hI.2.2.2 j h
            · obtain rfl : j = k := by omega
              rw [getD_set_eq _ (by omega), hxD, hyD]
              exact shr_digit (val D) j s (by omega)
        case measure => simp [intOf]; omega
      · obtain rfl : k = n1 := by omega
        have hI := HI.out
        have hlim2 : Lim L := hI.2.1
        have HV : Hid (val L = val l / 2 ^ p) := by
          show _ = _
          rw [HPP.out, ← Nat.div_div_eq_div_mul, ← HVD.out]
          apply val_digits_all (fun j hj => hI.2.2.2 j (by omega))
          have h1 := HLT.out
          have h2 := HN1.out
          rw [hI.1, h2]
          exact Nat.lt_of_le_of_lt (Nat.div_le_self _ _) h1
        have HL : Hid (L.length = k) := hI.1
        clear hI
        have hnumL : Num wr L (some ⟨b1, o1, none⟩) k c1 := hrow.num hlim2 HPR.out.symm HL.out.symm hcap1
        go_wp2_with (go_at_call 89; refine (trimmed_any _ _ _ L _ hnumL (by omega)).mono ?_; rintro e w' ⟨rfl, rfl⟩)
        go_ret
        exact hrow.ret hB1 hlim2 hbel HPR.out.symm (by have := HL.out; omega) HV.out

/-- right: the whole part of a number divided by a power of 2, in new memory. -/
theorem right_any (A : Option Addr) (n c p a : Nat) (w : World) (hx : Num w (limbs a) A n c) (hn : n ≤ 536870912) (hp : p ≤ 1099511627776) :
    Calls Tryz.prog 106 #[.slice A n c, .int .i64 p] w (RetOwn w (limbs (a / 2 ^ p))) := by
  have h := right_l A n c p _ w hx hn hp
  rwa [val_limbs] at h
end Go.Proofs.YtggmmgojpamcpaaGreatDoor
