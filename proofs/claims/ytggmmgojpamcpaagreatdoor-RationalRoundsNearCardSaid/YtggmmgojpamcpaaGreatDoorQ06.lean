/- natural, low, slices.Clone, left, right. -/
import Derived.Test.YtggmmgojpamcpaaGreatDoorQ02
set_option linter.unusedVariables false
set_option linter.unusedSimpArgs false
namespace Go.Proofs.YtggmmgojpamcpaaGreatDoor
open Go.RowKit

set_option maxHeartbeats 1000000 in
theorem natural_l (v : Nat) (w : World) (hv : v < 18446744073709551616) :
    Calls Tryz.prog 49 #[.int .u64 v] w (RetOwn w (limbs v)) := by
  go_enter Tryz.func49, Tryz.ntmps49
  have hlim : Lim [v % 4294967296, v / 4294967296] := Lim.cons (Nat.mod_lt _ (by decide)) (Lim.cons (by omega) Lim.nil)
  have hrow : Row (w.alloc (.cells #[.int .u32 ((v : Int) % 4294967296), .int .u32 ((v : Int) / 4294967296)] 58)) w.heap.size [v % 4294967296, v / 4294967296] := heap_alloc_new w _
  have HV : Hid (val [v % 4294967296, v / 4294967296] = v) := by show _ = _; simp only [val]; omega
  go_wp2_with (go_at_call 89; refine (trimmed_any _ 2 2 _ _ (hrow.num (n := 2) (c := 2) hlim rfl (by omega)) (by omega)).mono ?_; rintro e w' ⟨rfl, rfl⟩)
  go_ret
  exact hrow.ret (Nat.le_refl _) hlim ((Below.refl _ _).alloc (Nat.le_refl _) _) (by simp) HV.out

set_option maxHeartbeats 1000000 in
theorem low_l (A : Option Addr) (n c : Nat) (l : List Nat) (w : World) (hx : Num w l A n c) (hn : n ≤ 536870912) :
    Calls Tryz.prog 55 #[.slice A n c] w fun e w' => e = .returned (.int .u64 ((l.getD 0 0 + 4294967296 * l.getD 1 0 : Nat) : Int)) ∧ w = w' := by
  obtain ⟨x, hx'⟩ : ∃ x, l.getD 0 0 = x := ⟨_, rfl⟩
  obtain ⟨y, hy'⟩ : ∃ y, l.getD 1 0 = y := ⟨_, rfl⟩
  have hx4 : x < 4294967296 := by rw [← hx']; exact hx.lim.getD _
  have hy4 : y < 4294967296 := by rw [← hy']; exact hx.lim.getD _
  rw [hx', hy']
  have HX := Lib.hid hx'; have HY := Lib.hid hy'; clear hx' hy'
  go_enter Tryz.func55, Tryz.ntmps55
  go_wp2_with fail
  refine (limb_v _ _ _ 1 l _ y hx (by omega) (by omega) HY).mono ?_; rintro e w' ⟨rfl, rfl⟩
  go_wp2_with fail
  refine (limb_v _ _ _ 0 l _ x hx (by omega) (by omega) HX).mono ?_; rintro e w' ⟨rfl, rfl⟩
  go_wp2_with fail
  go_ret
  refine ⟨ret_int ?_, rfl⟩
  rw [show (y : Int) * 4294967296 = ((y * 4294967296 : Nat) : Int) from by omega, u64_or_nat _ _ (by omega) (by omega), nat_join 32 (y * 4294967296) x (by omega) (by omega)]
  omega
/-- low: the value of a number of at most two limbs. -/
theorem low_any (A : Option Addr) (n c a : Nat) (w : World) (hx : Num w (limbs a) A n c) (hn : n ≤ 2) :
    Calls Tryz.prog 55 #[.slice A n c] w fun e w' => e = .returned (.int .u64 (a : Int)) ∧ w = w' := by
  have h := low_l A n c _ w hx (by omega)
  have e : (limbs a).getD 0 0 + 4294967296 * (limbs a).getD 1 0 = a := by
    have hl := hx.len
    conv => rhs; rw [← val_limbs a]
    match h2 : limbs a, hl with
    | [], _ => rfl
    | [x], _ => simp [val]
    | [x, y], _ => simp [val]
    | x :: y :: z :: t, hl => simp at hl; omega
  rwa [e] at h

set_option maxHeartbeats 1000000 in
set_option maxRecDepth 20000 in
theorem clone_l (A : Option Addr) (n c : Nat) (l : List Nat) (w : World) (hx : Num w l A n c) (hn : n ≤ 536870912) :
    Calls Tryz.prog 98 #[.slice A n c] w (RetOwn w l) := by
  have hq := Lib.run_eql_slice_nil (P := Tryz.prog) w 22 58 A n c 0 0 Tryz.underlying22
  cases A with
  | none =>
    have h0 : n = 0 := by
      rcases Nat.eq_zero_or_pos n with h | h
      · exact h
      · obtain ⟨_, _, h, _⟩ := hx.cells h; cases h
    have hl : l = [] := List.eq_nil_of_length_eq_zero (by rw [← hx.len]; exact h0)
    subst hl
    subst h0
    go_enter Tryz.func98, Tryz.ntmps98
    go_wp2
    go_ret
    exact ⟨none, 0, 0, rfl, Own.nil _ _ _ _, Below.refl _ _⟩
  | some a =>
    have hb0 : Below w.heap.size w (w.alloc (.cells #[] 58)) := (Below.refl _ _).alloc (Nat.le_refl _) _
    go_enter Tryz.func98, Tryz.ntmps98
    go_wp2_with (at_builtin; refine wpList_app rfl (.tmp 5) (.tmp 6) rfl rfl w.heap.size _ [] l rfl (OwnR.new0 w (Nat.le_refl _)) (some a) n c rfl (hx.below hb0) ?c1 hb0.size ?_)
    case c1 => simp; omega
    intro v' w' hown hgr _
    go_wp2
    go_ret
    obtain ⟨A', c', rfl, ho⟩ := hown.own hx.lim
    exact ⟨A', _, c', rfl, ho, hb0.grown hgr hb0.size (fun k hk => by cases hk; exact Nat.le_refl _)⟩

set_option maxHeartbeats 1000000 in
theorem left_l (A : Option Addr) (n c p : Nat) (l : List Nat) (w : World) (hx : Num w l A n c) (hn : n ≤ 536870912) (hp : p ≤ 536870912) :
    Calls Tryz.prog 103 #[.slice A n c, .int .i64 p] w (RetOwn w (limbs (val l * 2 ^ p))) := by
  obtain ⟨q, hq⟩ : ∃ q, p / 32 = q := ⟨_, rfl⟩
  obtain ⟨s, hs⟩ : ∃ s, p % 32 = s := ⟨_, rfl⟩
  have hs32 : s < 32 := by omega
  have HP : Hid (p = 32 * q + s) := by show p = 32 * q + s; omega
  have hq' : (p : Int) / 32 = q := by omega
  have hs' : (p : Int).tmod 32 = s := by rw [Int.tmod_eq_emod_of_nonneg (by omega)]; omega
  have hq2 : q ≤ 16777216 := by omega
  clear hq hs
  have hmk := mk_run (q + n + 1) ((q : Int) + (n : Int) + 1) (by omega) (by omega)
  go_enter Tryz.func103, Tryz.ntmps103
  go_wp2_with fail
  go_loopw [23] (fun si wr => ∃ (k : Nat) (L : List Nat), k ≤ n ∧ si = .int .i64 k ∧ Row wr w.heap.size L ∧ Below w.heap.size w wr ∧ Hid (L.length = q + n + 1 ∧ Lim L ∧ val L = val (l.take k) * 2 ^ s * P q ∧ L.getD (q + k) 0 < 2 ^ s ∧ ∀ j, q + k < j → L.getD j 0 = 0))
    (fun si _ => n - (intOf si).toNat)
  case atStart => exact ⟨0, List.replicate (q + n + 1) 0, Nat.zero_le _, rfl, Row.new _ _, (Below.refl _ _).alloc (Nat.le_refl _) _, show Hid _ from ⟨by simp, Lim.zeros _, by simp [val_zeros, val], by rw [getD_zeros]; exact Nat.pow_pos (by decide), fun j _ => getD_zeros _ _⟩⟩
  case round =>
    obtain ⟨k, L, hk, rfl, hrow, hbel, HI⟩ := hrel
    clear hmk
    by_cases hkn : k < n
    · have hxw := hx.below hbel
      obtain ⟨b, o, x, rfl, _, hx', hx4, hcx⟩ := hxw.at_ hkn
      have HX := Lib.hid hx'; clear hx'
      obtain ⟨d, hd⟩ : ∃ d, L.getD (q + k) 0 = d := ⟨_, rfl⟩
      obtain ⟨d2, hd2⟩ : ∃ d, L.getD (q + k + 1) 0 = d := ⟨_, rfl⟩
      have hcs := hrow.cell (k := q + k) (by have := HI.out.1; omega)
      have hcs2 := hrow.cell (k := q + k + 1) (by have := HI.out.1; omega)
      have hfs := hrow.frozen (q + k)
      have hfs2 := hrow.frozen (q + k + 1)
      rw [hd] at hcs; rw [hd2] at hcs2
      have HD := Lib.hid hd; clear hd hd2
      obtain ⟨t, ht⟩ : ∃ t, 2 ^ s = t := ⟨_, rfl⟩
      have ht0 : 0 < t := by rw [← ht]; exact Nat.pow_pos (by decide)
      have ht1 : t ≤ 2147483648 := by rw [← ht, show (2147483648 : Nat) = 2 ^ 31 from rfl]; exact Nat.pow_le_pow_right (by decide) (by omega)
      have hti : (2 : Int) ^ s = (t : Int) := by rw [← ht]; exact (Int.natCast_pow 2 s).symm
      have HS := Lib.hid ht; have HT := Lib.hid hti; clear ht hti
      have hxt : x * t ≤ 4294967295 * 2147483648 := Nat.mul_le_mul (by omega) ht1
      have HXT := Lib.hid hxt; clear hxt
      go_wp2_with fail
      go_roundw
      case rel =>
        have hxt := HXT.out
        have hw : IntKind.u64.wrap ((x : Int) * 2 ^ s) = ((x * t : Nat) : Int) := by
          rw [HT.out, ← Int.natCast_mul, IntKind.wrap_u64]; omega
        have hI := HI.out
        have hd4 : d < 2 ^ s := by rw [← HD.out]; exact hI.2.2.2.1
        obtain ⟨hlow, hsum, hhi⟩ := shl_parts (d := d) hx4 (by omega) HS.out (by rw [← HS.out]; exact hd4)
        have hor : bits .or .u32 (d : Int) ((x * t % 4294967296 : Nat) : Int) = ((x * t % 4294967296 + d : Nat) : Int) := by
          have h1 : d < 4294967296 := by have := HS.out; omega
          rw [u32_or_nat _ _ h1 (Nat.mod_lt _ (by decide)), Nat.or_comm, nat_join s _ _ (by rw [HS.out]; exact hlow) hd4]
        refine ⟨k + 1, (L.set (q + k) (x * t % 4294967296 + d)).set (q + k + 1) (x * t / 4294967296), by omega, congrArg (Value.int _) (by omega), (hrow.setI (q + k) (x * t % 4294967296 + d) ?_).setI (q + k + 1) (x * t / 4294967296) ?_, (hbel.setCell (Nat.le_refl _) _).setCell (Nat.le_refl _) _, ?_⟩
        · rw [hw, ← hor]; congr 1
        · rw [hw]; omega
        show Hid _
        refine ⟨by simpa using hI.1, (hI.2.1.set _ hsum).set _ (by omega), ?_, ?_, fun j hj => ?_⟩
        · have h4 := val_set (M := L) (x * t % 4294967296 + d) (show q + k < L.length by omega)
          have h5 := val_set (M := L.set (q + k) (x * t % 4294967296 + d)) (x * t / 4294967296) (show q + k + 1 < _ by rw [List.length_set]; omega)
          rw [getD_set_ne _ (by omega), hI.2.2.2.2 (q + k + 1) (by omega), Nat.mul_zero, Nat.add_zero] at h5
          rw [HD.out] at h4
          rw [h5, val_take_succ' l k, HX.out, HS.out]
          have h6 : val (L.set (q + k) (x * t % 4294967296 + d)) = val L + P (q + k) * (x * t % 4294967296) := by rw [Nat.mul_add] at h4; omega
          rw [h6, hI.2.2.1, HS.out, P_succ, Nat.mul_assoc (P (q + k)), Nat.add_assoc, ← Nat.mul_add, Nat.mod_add_div, P_add]
          grind
        · rw [show q + (k + 1) = q + k + 1 from by omega, getD_set_eq _ (by rw [List.length_set]; omega), HS.out]; exact hhi
        · rw [getD_set_ne _ (by omega), getD_set_ne _ (by omega)]; exact hI.2.2.2.2 j (by omega)
      case measure => simp [intOf]; omega
    · obtain rfl : k = n := by omega
      have hlim2 : Lim L := HI.out.2.1
      have HL : Hid (L.length = q + k + 1) := HI.out.1
      have HV : Hid (val L = val l * 2 ^ p) := by
        show val L = val l * 2 ^ p
        have h := HI.out.2.2.1
        rw [List.take_of_length_le (l := l) (by have := hx.len; omega)] at h
        rw [h, HP.out, Nat.pow_add, Nat.pow_mul, show P q = (2 ^ 32) ^ q from rfl]
        grind
      go_wp2_with (go_at_call 89; refine (trimmed_any _ _ _ L _ (hrow.num hlim2 HL.out.symm (Nat.le_refl _)) (by omega)).mono ?_; rintro e w' ⟨rfl, rfl⟩)
      go_ret
      exact hrow.ret (Nat.le_refl _) hlim2 hbel (by have := HL.out; omega) HV.out

/-- left: a number times a power of 2, in new memory. -/
theorem left_any (A : Option Addr) (n c p a : Nat) (w : World) (hx : Num w (limbs a) A n c) (hn : n ≤ 536870912) (hp : p ≤ 536870912) :
    Calls Tryz.prog 103 #[.slice A n c, .int .i64 p] w (RetOwn w (limbs (a * 2 ^ p))) := by
  have h := left_l A n c p _ w hx hn hp
  rwa [val_limbs] at h
end Go.Proofs.YtggmmgojpamcpaaGreatDoor
