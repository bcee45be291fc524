/- The specification's plus and minus. -/
import Derived.Test.YtohbelnfjomcdaaGreatDoorQ40
import Derived.Test.YtohbelnfjomcdaaGreatDoorQ12
import Derived.Test.YtohbelnfjomcdaaGreatDoorQ18
import Derived.Test.YtohbelnfjomcdaaGreatDoorQ04
import Derived.Deep.LoopGhost
set_option linter.unusedVariables false
set_option linter.unusedSimpArgs false
namespace Go.Proofs.YtohbelnfjomcdaaGreatDoor
open Go.RowKit

theorem OwnR.grew {w : World} {B : Nat} {v : Value} {l : List Nat} (h : OwnR w B v l) : ∀ k, v.ownBlock = some k → B ≤ k := fun k hk => (World.ownsRow.lt h k hk).1

theorem plus_top {v a b p q r t cr : Nat} (h : v + t * cr = a + b) (h1 : a < p) (h2 : b < q) (h3 : p ≤ r) (h4 : q ≤ r) (h5 : t = r * 4294967296) (hcr : cr ≤ 1) : v = a + b := by
  rcases Nat.eq_zero_or_pos cr with h0 | h0
  · rw [h0] at h; omega
  · have h1 : cr = 1 := by omega
    rw [h1] at h
    omega
theorem new_limb (w : World) (s : Nat) : Num (w.alloc (.cells #[.int .u32 ((s : Int) % 4294967296)] 99)) [s % 4294967296] (some ⟨w.heap.size, 0, none⟩) 1 1 := by
  have e : ((s : Int) % 4294967296) = ((s % 4294967296 : Nat) : Int) := by omega
  rw [e]
  exact (show Row _ _ [s % 4294967296] from heap_alloc_new w _).num (Lim.cons (Nat.mod_lt _ (by decide)) Lim.nil) rfl (Nat.le_refl _)
set_option maxRecDepth 20000 in
set_option maxHeartbeats 1000000 in
theorem r_plus_at (A A' : Option Addr) (n c n' c' N : Nat) (l r : List Nat) (w : World) (hx : Num w l A n c) (hy : Num w r A' n' c') (hn : n ≤ 100000000) (hn' : n' ≤ 100000000) (hN : Hid (N = max n n')) (hmax : max (n : Int) (n' : Int) = (N : Int)) :
    Calls Tryz.prog 84 #[.slice A n c, .slice A' n' c'] w (RetOwn w (limbs (val l + val r))) := by
  have hNb : N ≤ 100000000 := by have := hN.out; omega
  go_enter Tryz.func84, Tryz.ntmps84
  go_wp2
  go_loopw [5, 6, 7] (fun sv sc si wr => ∃ (k cr : Nat) (L : List Nat) (v : Value), k ≤ N + 1 ∧ cr ≤ 1 ∧ sv = v ∧ sc = .int .u64 cr ∧ si = .int .i64 k ∧ OwnR wr w.heap.size v L ∧ Below w.heap.size w wr ∧ Hid (L.length = k ∧ Lim L ∧ val L + P k * cr = val (l.take k) + val (r.take k)))
    (fun _ _ si _ => N + 1 - (intOf si).toNat)
  case atStart => exact ⟨0, 0, [], _, by omega, by omega, rfl, rfl, rfl, OwnR.nil _ _, Below.refl _ _, show Hid _ from ⟨rfl, Lim.nil, by simp [val]⟩⟩
  case round =>
    obtain ⟨k, cr, L, v, hk, hcr, rfl, rfl, rfl, hown, hb, HI⟩ := hrel
    by_cases hkn : k ≤ N
    · have hxw := hx.below hb
      have hyw := hy.below hb
      obtain ⟨x, hx'⟩ : ∃ x, l.getD k 0 = x := ⟨_, rfl⟩
      obtain ⟨y, hy'⟩ : ∃ y, r.getD k 0 = y := ⟨_, rfl⟩
      have hx4 : x < 4294967296 := by rw [← hx']; exact hx.lim.getD k
      have hy4 : y < 4294967296 := by rw [← hy']; exact hy.lim.getD k
      have HX := Lib.hid hx'; have HY := Lib.hid hy'; clear hx' hy'
      have hkN : (k : Int) ≤ (N : Int) := by omega
      go_wp2_with fail
      refine (r_limb _ _ _ (k : Int) l _ x hxw (by omega) (by omega) HX).mono ?_
      rintro e w' ⟨rfl, rfl⟩
      go_wp2_with fail
      refine (r_limb _ _ _ (k : Int) r _ y hyw (by omega) (by omega) HY).mono ?_
      rintro e w' ⟨rfl, rfl⟩
      obtain ⟨s, hs⟩ : ∃ s, x + y + cr = s := ⟨_, rfl⟩
      have HS := Lib.hid hs
      have hs1 : (x : Int) + (y : Int) + (cr : Int) = (s : Int) := by omega
      have hs4 : s < 8589934592 := by omega
      have hlim : Lim [s % 4294967296] := Lim.cons (Nat.mod_lt _ (by decide)) Lim.nil
      clear hs
      have hnum := new_limb wr s
      have hbA : Below w.heap.size w (wr.alloc (.cells #[.int .u32 ((s : Int) % 4294967296)] 99)) := hb.alloc hb.size _
      have hownA : OwnR (wr.alloc (.cells #[.int .u32 ((s : Int) % 4294967296)] 99)) w.heap.size u5 L := World.ownsRow.alloc hown _
      have hLl : L.length + 1 ≤ 1099511627776 := by have := HI.out.1; omega
      go_wp2_with (at_builtin; refine wpList_app rfl (.tmp 27) (.tmp 30) rfl rfl w.heap.size u5 L [s % 4294967296] rfl hownA _ 1 1 rfl hnum hLl hbA.size ?_)
      intro v3 w3 hC3 hg3 hsame
      have hb3 := hbA.grown hg3 hbA.size hownA.grew
      go_wp2_with fail
      go_roundw
      case rel =>
        refine ⟨k + 1, s / 4294967296, L ++ [s % 4294967296], v3, by omega, by omega, rfl, congrArg (Value.int _) (by omega), congrArg (Value.int _) (by omega), hC3, hb3, ?_⟩
        show Hid _
        have hI := HI.out
        refine ⟨by simp [hI.1], hI.2.1.snoc (Nat.mod_lt _ (by decide)), ?_⟩
        have h := hI.2.2
        rw [val_snoc, hI.1, P_succ, val_take_succ' l k, val_take_succ' r k, HX.out, HY.out]
        have h2 : P k * (s % 4294967296) + P k * 4294967296 * (s / 4294967296) = P k * s := by
          rw [Nat.mul_assoc, ← Nat.mul_add]
          congr 1
          omega
        rw [← HS.out, Nat.mul_add, Nat.mul_add] at h2
        rw [HS.out] at h2
        omega
      case measure => simp [intOf]; omega
    · obtain rfl : k = N + 1 := by omega
      have hkN : ¬ ((N : Int) + 1 ≤ (N : Int)) := by omega
      have hI := HI.out
      obtain ⟨A1, c1, rfl, ho1⟩ := hown.own hI.2.1
      have hV : val L = val l + val r := by
        have h := hI.2.2
        have hn1 := hx.len
        have hn2 := hy.len
        have hm := hN.out
        rw [List.take_of_length_le (l := l) (by omega), List.take_of_length_le (l := r) (by omega)] at h
        have h1 := val_lt hx.lim
        have h2 := val_lt hy.lim
        rw [← hn1] at h1
        rw [← hn2] at h2
        have h3 : P n ≤ P N := P_le (by omega)
        have h4 : P n' ≤ P N := P_le (by omega)
        have h5 := P_succ N
        exact plus_top h h1 h2 h3 h4 h5 hcr
      have hLn : L.length ≤ 1073741824 := by rw [hI.1]; omega
      have HV := Lib.hid hV
      clear hV hI HI
      go_wp2_with fail
      refine (r_trim _ _ _ L _ ho1.num hLn).mono ?_
      rintro e w' ⟨rfl, rfl⟩
      go_wp2_with fail
      go_ret
      have h2 := ho1.trim
      rw [HV.out] at h2 ⊢
      exact ⟨_, _, _, rfl, h2, hb⟩
/-- plus. -/
theorem r_plus (A A' : Option Addr) (n c n' c' a b : Nat) (w : World) (hx : Num w (limbs a) A n c) (hy : Num w (limbs b) A' n' c') (hn : n ≤ 100000000) (hn' : n' ≤ 100000000) :
    Calls Tryz.prog 84 #[.slice A n c, .slice A' n' c'] w (RetOwn w (limbs (a + b))) := by
  have h := r_plus_at A A' n c n' c' (max n n') _ _ w hx hy hn hn' rfl (by omega)
  rwa [val_limbs, val_limbs] at h
theorem minus_top {v a b p br : Nat} (h : v + b = a + p * br) (h1 : v < p) (h2 : b ≤ a) (hbr : br ≤ 1) : v = a - b := by
  rcases Nat.eq_zero_or_pos br with h0 | h0
  · rw [h0] at h; omega
  · have h1 : br = 1 := by omega
    rw [h1] at h
    omega
theorem minus_step {v p x y d br br' L R : Nat} (h : v + R = L + p * br) (hd : x + 4294967296 = d + y + br) (hb : d / 4294967296 + br' = 1) : v + p * (d % 4294967296) + (R + p * y) = L + p * x + p * 4294967296 * br' := by
  have e : p * (d % 4294967296) + p * (4294967296 * (d / 4294967296)) = p * d := by rw [← Nat.mul_add]; congr 1; omega
  have e1 : p * 4294967296 * br' + p * (4294967296 * (d / 4294967296)) = p * 4294967296 := by rw [Nat.mul_assoc, ← Nat.mul_add, ← Nat.mul_add, show br' + d / 4294967296 = 1 from by omega]
  have e2 : p * x + p * 4294967296 = p * d + p * y + p * br := by rw [← Nat.mul_add, ← Nat.mul_add, ← Nat.mul_add, hd]
  generalize p * (d % 4294967296) = t1 at *
  generalize p * (4294967296 * (d / 4294967296)) = t2 at *
  generalize p * 4294967296 * br' = t3 at *
  generalize p * 4294967296 = t4 at *
  generalize p * d = t5 at *
  generalize p * y = t6 at *
  generalize p * x = t7 at *
  generalize p * br = t8 at *
  omega

set_option maxRecDepth 20000 in
set_option maxHeartbeats 1000000 in
theorem r_minus_at (A A' : Option Addr) (n c n' c' : Nat) (l r : List Nat) (w : World) (hx : Num w l A n c) (hy : Num w r A' n' c') (hn : n ≤ 100000000) (hn' : n' ≤ n) (hle : Hid (val r ≤ val l)) :
    Calls Tryz.prog 86 #[.slice A n c, .slice A' n' c'] w (RetOwn w (limbs (val l - val r))) := by
  go_enter Tryz.func86, Tryz.ntmps86
  go_wp2
  go_loopw [5, 6, 7] (fun sv sc si wr => ∃ (k br : Nat) (L : List Nat) (v : Value), k ≤ n ∧ br ≤ 1 ∧ sv = v ∧ sc = .int .u64 br ∧ si = .int .i64 k ∧ OwnR wr w.heap.size v L ∧ Below w.heap.size w wr ∧ Hid (L.length = k ∧ Lim L ∧ val L + val (r.take k) = val (l.take k) + P k * br))
    (fun _ _ si _ => n - (intOf si).toNat)
  case atStart => exact ⟨0, 0, [], _, by omega, by omega, rfl, rfl, rfl, OwnR.nil _ _, Below.refl _ _, show Hid _ from ⟨rfl, Lim.nil, by simp [val]⟩⟩
  case round =>
    obtain ⟨k, br, L, v, hk, hbr, rfl, rfl, rfl, hown, hb, HI⟩ := hrel
    by_cases hkn : k < n
    · have hxw := hx.below hb
      have hyw := hy.below hb
      obtain ⟨x, hx'⟩ : ∃ x, l.getD k 0 = x := ⟨_, rfl⟩
      obtain ⟨y, hy'⟩ : ∃ y, r.getD k 0 = y := ⟨_, rfl⟩
      have hx4 : x < 4294967296 := by rw [← hx']; exact hx.lim.getD k
      have hy4 : y < 4294967296 := by rw [← hy']; exact hy.lim.getD k
      have HX := Lib.hid hx'; have HY := Lib.hid hy'; clear hx' hy'
      have hkN : (k : Int) < (n : Int) := by omega
      go_wp2_with fail
      refine (r_limb _ _ _ (k : Int) l _ x hxw (by omega) (by omega) HX).mono ?_
      rintro e w' ⟨rfl, rfl⟩
      go_wp2_with fail
      refine (r_limb _ _ _ (k : Int) r _ y hyw (by omega) (by omega) HY).mono ?_
      rintro e w' ⟨rfl, rfl⟩
      obtain ⟨d, hd⟩ : ∃ d, x + 4294967296 - y - br = d := ⟨_, rfl⟩
      have HD := Lib.hid hd
      have hd0 : (x : Int) + 4294967296 - (y : Int) = ((x + 4294967296 - y : Nat) : Int) := by omega
      have hd1 : ((x + 4294967296 - y : Nat) : Int) - (br : Int) = (d : Int) := by omega
      have hd4 : d < 8589934592 := by omega
      have hlim : Lim [d % 4294967296] := Lim.cons (Nat.mod_lt _ (by decide)) Lim.nil
      clear hd
      have hnum := new_limb wr d
      have hbA : Below w.heap.size w (wr.alloc (.cells #[.int .u32 ((d : Int) % 4294967296)] 99)) := hb.alloc hb.size _
      have hownA : OwnR (wr.alloc (.cells #[.int .u32 ((d : Int) % 4294967296)] 99)) w.heap.size u5 L := World.ownsRow.alloc hown _
      have hLl : L.length + 1 ≤ 1099511627776 := by have := HI.out.1; omega
      go_wp2_with (at_builtin; refine wpList_app rfl (.tmp 25) (.tmp 28) rfl rfl w.heap.size u5 L [d % 4294967296] rfl hownA _ 1 1 rfl hnum hLl hbA.size ?_)
      intro v3 w3 hC3 hg3 hsame
      have hb3 := hbA.grown hg3 hbA.size hownA.grew
      go_wp2_with fail
      go_roundw
      case rel =>
        refine ⟨k + 1, 1 - d / 4294967296, L ++ [d % 4294967296], v3, by omega, by omega, rfl, congrArg (Value.int _) (by omega), congrArg (Value.int _) (by omega), hC3, hb3, ?_⟩
        show Hid _
        have hI := HI.out
        refine ⟨by simp [hI.1], hI.2.1.snoc (Nat.mod_lt _ (by decide)), ?_⟩
        rw [val_snoc, hI.1, P_succ, val_take_succ' l k, val_take_succ' r k, HX.out, HY.out]
        exact minus_step hI.2.2 (by have := HD.out; omega) (by omega)
      case measure => simp [intOf]; omega
    · obtain rfl : k = n := by omega
      have hkN : ¬ ((k : Int) < (k : Int)) := by omega
      have hI := HI.out
      obtain ⟨A1, c1, rfl, ho1⟩ := hown.own hI.2.1
      have hV : val L = val l - val r := by
        have h := hI.2.2
        have hn1 := hx.len
        have hn2 := hy.len
        rw [List.take_of_length_le (l := l) (by omega), List.take_of_length_le (l := r) (by omega)] at h
        have h1 := val_lt hI.2.1
        rw [hI.1] at h1
        exact minus_top h h1 hle.out hbr
      have hLn : L.length ≤ 1073741824 := by rw [hI.1]; omega
      have HV := Lib.hid hV
      clear hV hI HI
      go_wp2_with fail
      refine (r_trim _ _ _ L _ ho1.num hLn).mono ?_
      rintro e w' ⟨rfl, rfl⟩
      go_wp2_with fail
      go_ret
      have h2 := ho1.trim
      rw [HV.out] at h2 ⊢
      exact ⟨_, _, _, rfl, h2, hb⟩
/-- minus; b is at most a. -/
theorem r_minus (A A' : Option Addr) (n c n' c' a b : Nat) (w : World) (hx : Num w (limbs a) A n c) (hy : Num w (limbs b) A' n' c') (hn : n ≤ 100000000) (hle : b ≤ a) :
    Calls Tryz.prog 86 #[.slice A n c, .slice A' n' c'] w (RetOwn w (limbs (a - b))) := by
  have h := r_minus_at A A' n c n' c' _ _ w hx hy hn (by have := hx.len; have := hy.len; have := length_mono hle; omega) (by show val _ ≤ val _; rw [val_limbs, val_limbs]; exact hle)
  rwa [val_limbs, val_limbs] at h
end Go.Proofs.YtohbelnfjomcdaaGreatDoor

namespace Go.Proofs.YtohbelnfjomcdaaGreatDoor
open Go.RowKit

def RetDiv (w0 : World) (q r : Nat) (e : Ending) (w' : World) : Prop := ∃ A n c A' n' c', e = .returned (.tuple #[.slice A n c, .slice A' n' c']) ∧ Own w' w0.heap.size (limbs q) A n c ∧ Own w' w0.heap.size (limbs r) A' n' c' ∧ Below w0.heap.size w0 w'
theorem bit_of {l : List Nat} (hl : Lim l) {j q s x : Nat} (hj : j = 32 * q + s) (hs : s < 32) (hx : l.getD q 0 = x) : x / 2 ^ s % 2 = val l / 2 ^ j % 2 := by
  rw [← hx, val_getD hl q, hj, Nat.pow_add, Nat.pow_mul, show (2 ^ 32 : Nat) = 4294967296 from rfl, show 4294967296 ^ q = P q from rfl, ← Nat.div_div_eq_div_mul]
  generalize val l / P q = y
  have h1 : (2 : Nat) ^ 32 = 2 ^ s * (2 * 2 ^ (31 - s)) := by rw [← Nat.pow_succ', ← Nat.pow_add]; congr 1; omega
  rw [show (4294967296 : Nat) = 2 ^ 32 from rfl, h1, Nat.mod_mul_right_div_self, Nat.mod_mul_right_mod]
theorem half_step (X j : Nat) : X / 2 ^ j = 2 * (X / 2 ^ (j + 1)) + X / 2 ^ j % 2 := by
  rw [Nat.pow_succ, ← Nat.div_div_eq_div_mul]; omega

theorem bit_and (x s : Nat) (hx : x < 4294967296) : bits .and .u32 ((x : Int) / 2 ^ s) 1 = ((x / 2 ^ s % 2 : Nat) : Int) := by
  have e : ((x : Int) / 2 ^ s) = ((x / 2 ^ s : Nat) : Int) := by rw [Int.natCast_ediv, Int.natCast_pow]; rfl
  have h1 : x / 2 ^ s < 4294967296 := Nat.lt_of_le_of_lt (Nat.div_le_self _ _) hx
  rw [e, show (1 : Int) = ((1 : Nat) : Int) from rfl, u32_and_nat _ _ h1 (by decide), Nat.and_one_is_mod]
theorem length_plus (a b : Nat) : (limbs (a + b)).length ≤ max (limbs a).length (limbs b).length + 1 := by
  refine limbs_length_le ?_
  have h1 := lt_P_length a
  have h2 := lt_P_length b
  have h3 : P (limbs a).length ≤ P (max (limbs a).length (limbs b).length) := P_le (by omega)
  have h4 : P (limbs b).length ≤ P (max (limbs a).length (limbs b).length) := P_le (by omega)
  rw [P_succ]
  generalize P (max (limbs a).length (limbs b).length) = t at *
  generalize P (limbs a).length = t1 at *
  generalize P (limbs b).length = t2 at *
  omega
theorem div_lo {Z T R Y t : Nat} (hT : Z = 2 * T + t) (hR : R = T % Y) (h : 2 * R + t < Y) : Z / Y = 2 * (T / Y) ∧ Z % Y = 2 * R + t := by
  have e : Z = Y * (2 * (T / Y)) + (2 * R + t) := by
    have := Nat.div_add_mod T Y
    rw [← hR] at this
    rw [hT]; grind
  rw [e, Nat.mul_add_div (by omega), Nat.mul_add_mod, Nat.div_eq_of_lt h, Nat.mod_eq_of_lt h]
  exact ⟨rfl, rfl⟩
theorem div_hi {Z T R Y t : Nat} (hT : Z = 2 * T + t) (hR : R = T % Y) (hY : 0 < Y) (ht : t ≤ 1) (h : Y ≤ 2 * R + t) : Z / Y = 2 * (T / Y) + 1 ∧ Z % Y = 2 * R + t - Y := by
  have hlt : R < Y := by rw [hR]; exact Nat.mod_lt _ hY
  have e : Z = Y * (2 * (T / Y) + 1) + (2 * R + t - Y) := by
    have := Nat.div_add_mod T Y
    rw [← hR] at this
    rw [hT, Nat.mul_add, Nat.mul_one]
    have e2 : Y * (2 * (T / Y)) = 2 * (Y * (T / Y)) := by grind
    rw [e2]
    omega
  have h2 : 2 * R + t - Y < Y := by omega
  rw [e, Nat.mul_add_div hY, Nat.mul_add_mod, Nat.div_eq_of_lt h2, Nat.mod_eq_of_lt h2]
  exact ⟨rfl, rfl⟩
theorem Own.far {w : World} {B : Nat} {l : List Nat} {A : Option Addr} {n c : Nat} (h : Own w B l A n c) {p : Addr} (hp : p.block < B) (u : Value) : Own (w.setCell p u) B l A n c :=
  ⟨h.len, h.cap, h.lim, fun hn => by
    obtain ⟨b, pre, post, hA, hB', hr⟩ := h.row hn
    exact ⟨b, pre, post, hA, hB', (Below.heap_setCell w p u b (by omega)).trans hr⟩⟩
theorem or_bit {L : List Nat} {j q s d T : Nat} (hL : Lim L) (hj : j = 32 * q + s) (hs : s < 32) (hd : L.getD q 0 = d) (hv : val L = 2 ^ (j + 1) * T) :
    bits .or .u32 (d : Int) (2 ^ s % 4294967296) = ((d + 2 ^ s : Nat) : Int) ∧ d + 2 ^ s < 4294967296 := by
  have hd4 : d < 4294967296 := by rw [← hd]; exact hL.getD q
  have hs4 : 2 ^ s < 4294967296 := by rw [show (4294967296 : Nat) = 2 ^ 32 from rfl]; exact Nat.pow_lt_pow_right (by decide) hs
  have h0 : d % 2 ^ (s + 1) = 0 := by
    rw [← hd, val_getD hL q, hv, hj, show 32 * q + s + 1 = 32 * q + (s + 1) from rfl, Nat.pow_add, Nat.pow_mul, show (2 ^ 32 : Nat) ^ q = P q from rfl, Nat.mul_assoc, Nat.mul_div_cancel_left _ (P_pos q), show (4294967296 : Nat) = 2 ^ (s + 1) * 2 ^ (31 - s) from by rw [← Nat.pow_add, show s + 1 + (31 - s) = 32 from by omega], Nat.mul_mod_mul_left, Nat.mul_mod_right]
  have hor : d ||| 2 ^ s = d + 2 ^ s := nat_join (s + 1) d (2 ^ s) h0 (Nat.pow_lt_pow_right (by decide) (Nat.lt_succ_self _))
  have e : ((2 : Int) ^ s % 4294967296) = ((2 ^ s : Nat) : Int) := by
    have : ((2 ^ s : Nat) : Int) = (2 : Int) ^ s := by rw [Int.natCast_pow]; rfl
    rw [← this]; omega
  refine ⟨by rw [e, u32_or_nat _ _ hd4 hs4, hor], ?_⟩
  rw [← hor]
  exact Nat.or_lt_two_pow (n := 32) hd4 hs4
set_option maxRecDepth 20000 in
set_option maxHeartbeats 2000000 in
theorem r_divide (A A' : Option Addr) (n c n' c' X Y : Nat) (w : World) (hx : Num w (limbs X) A n c) (hy : Num w (limbs Y) A' n' c') (hn : n ≤ 1000000) (hn' : n' ≤ 1000000) (hY : Hid (Y ≠ 0)) :
    Calls Tryz.prog 117 #[.slice A n c, .slice A' n' c'] w (RetDiv w (X / Y) (X % Y)) := by
  have hmk := mk_run n (n : Int) rfl (by omega)
  have hw1 : IntKind.i64.wrap (32 * (n : Int)) = 32 * (n : Int) := IntWalk.i64_in _ (by omega)
  have hw2 : IntKind.i64.wrap (32 * (n : Int) - 1) = 32 * (n : Int) - 1 := IntWalk.i64_in _ (by omega)
  have HYL := Lib.hid hy.len
  go_enter Tryz.func117, Tryz.ntmps117
  go_wp2
  go_loopw [7, 8] (fun sr si wr => ∃ (k R : Nat) (L : List Nat) (A1 : Option Addr) (n1 c1 : Nat), k ≤ 32 * n ∧ sr = .slice A1 n1 c1 ∧ si = .int .i64 ((k : Int) - 1) ∧ Own wr (w.heap.size + 1) (limbs R) A1 n1 c1 ∧ Row wr w.heap.size L ∧ Below w.heap.size w wr ∧ Hid (L.length = n ∧ Lim L ∧ val L = 2 ^ k * (X / 2 ^ k / Y) ∧ R = X / 2 ^ k % Y))
    (fun _ si _ => (intOf si + 1).toNat)
  case atStart =>
    refine ⟨32 * n, 0, List.replicate n 0, none, 0, 0, Nat.le_refl _, rfl, congrArg (Value.int _) (by omega), by rw [limbs_zero]; exact Own.nil _ _ _ _, Row.new _ _, (Below.refl _ _).alloc (Nat.le_refl _) _, ?_⟩
    show Hid _
    have h0 : X / 2 ^ (32 * n) = 0 := by
      apply Nat.div_eq_of_lt
      have := lt_P_length X
      rw [← hx.len] at this
      rwa [Nat.pow_mul]
    exact ⟨by simp, Lim.zeros _, by rw [val_zeros, h0]; simp, by rw [h0]; simp⟩
  case round =>
    obtain ⟨k, R, L, A1, n1, c1, hk, rfl, rfl, hR, hrow, hb, HI⟩ := hrel
    clear hmk hw1 hw2
    rcases Nat.eq_zero_or_pos k with h0 | h0
    · subst h0
      have hI := HI.out
      have HL := Lib.hid hI.1
      have hll : Lim L := hI.2.1
      have hnum := hrow.num hll hI.1.symm (Nat.le_refl n)
      have HV : Hid (val L = X / Y) := by show _ = _; rw [hI.2.2.1]; simp
      have HRR : Hid (R = X % Y) := by show _ = _; rw [hI.2.2.2]; simp
      have how := hrow.own (Nat.le_refl _) hll (c := n) (Nat.le_of_eq hI.1)
      clear hI HI
      go_wp2_with fail
      refine (r_trim _ _ _ L _ hnum (by omega)).mono ?_
      rintro e w' ⟨rfl, rfl⟩
      go_wp2_with fail
      go_ret2
      have h2 := how.trim
      rw [HV.out] at h2 ⊢
      rw [← HRR.out]
      exact ⟨_, _, _, _, _, _, rfl, h2, hR.more (Nat.le_succ _), hb⟩
    · obtain ⟨j, rfl⟩ : ∃ j, k = j + 1 := ⟨k - 1, by omega⟩
      have e1 : ((j + 1 : Nat) : Int) - 1 = (j : Int) := by omega
      rw [e1]
      clear e1 h0
      obtain ⟨q, hq⟩ : ∃ q, j / 32 = q := ⟨_, rfl⟩
      obtain ⟨s, hs⟩ : ∃ s, j % 32 = s := ⟨_, rfl⟩
      have hs32 : s < 32 := by omega
      have HJ : Hid (j = 32 * q + s) := by show j = 32 * q + s; omega
      have hq' : (j : Int) / 32 = q := by omega
      have hs' : (j : Int).tmod 32 = s := by rw [Int.tmod_eq_emod_of_nonneg (by omega)]; omega
      have hqn : q < n := by omega
      clear hq hs
      have hjk : (0 : Int) ≤ (j : Int) := by omega
      have hRY : R < Y := by have := HI.out.2.2.2; rw [this]; exact Nat.mod_lt _ (Nat.pos_of_ne_zero hY.out)
      have hRn : n1 ≤ 1000000 := by rw [hR.len]; have := length_mono (Nat.le_of_lt hRY); have := HYL.out; omega
      have HRY := Lib.hid hRY
      clear hRY
      have hLR : Hid ((limbs R).length ≤ 1000000) := by show _ ≤ _; rw [← hR.len]; exact hRn
      go_wp2_with fail
      refine (r_plus _ _ _ _ _ _ R R _ hR.num hR.num (by omega) (by omega)).mono ?_
      rintro e w1 ⟨A2, n2, c2, rfl, h2, hb2⟩
      have hb02 := hb.trans (hb2.mono hb.size)
      have hxw := hx.below hb02
      obtain ⟨b, o, x, rfl, _, hx', hx4, hcx⟩ := hxw.at_ hqn
      have HX := Lib.hid hx'
      clear hx'
      have HBIT : Hid (x / 2 ^ s % 2 = X / 2 ^ j % 2) := by
        show _ = _
        have := bit_of (lim_limbs X) HJ.out hs32 HX.out
        rwa [val_limbs] at this
      have hbit := bit_and x s hx4
      rw [HBIT.out] at hbit
      obtain ⟨r1, hr1⟩ : ∃ r1, 2 * R + X / 2 ^ j % 2 = r1 := ⟨_, rfl⟩
      have HR1 := Lib.hid hr1
      have HS1 : Hid (X / 2 ^ j = 2 * (X / 2 ^ (j + 1)) + X / 2 ^ j % 2) := half_step X j
      obtain ⟨t, ht⟩ : ∃ t, X / 2 ^ j % 2 = t := ⟨_, rfl⟩
      rw [ht] at hbit hr1
      have HT := Lib.hid ht
      have ht2 : t = 0 ∨ t = 1 := by rw [← ht]; have := Nat.mod_lt (X / 2 ^ j) (show 0 < 2 by decide); omega
      clear ht hR
      refine Or.elim ht2 (fun h0 => ?ca) (fun h1 => ?cb)
      case' ca =>
        subst h0
        go_wp2_with fail
        have hB3 : Below w.heap.size w w1 := hb02
        have h3 : Own w1 (w.heap.size + 1) (limbs r1) A2 n2 c2 := by
          rw [← hr1, Nat.add_zero, Nat.two_mul]; exact h2.more (by have := hrow.lt; omega)
        have hrow3 := hrow.below hb2 hrow.lt
        have hn3 : n2 ≤ 1000002 := by
          rw [h2.len]
          have := length_plus R R
          have := hLR.out
          omega
      case' cb =>
        subst h1
        have hbo : Below w1.heap.size w1 (w1.alloc (.cells #[.int .u32 1] 99)) := (Below.refl _ _).alloc (Nat.le_refl _) _
        have hone : Num (w1.alloc (.cells #[.int .u32 1] 99)) (limbs 1) (some ⟨w1.heap.size, 0, none⟩) 1 1 := by
          rw [limbs_one]
          exact (show Row _ _ [1] from heap_alloc_new w1 _).num (Lim.cons (by decide) Lim.nil) rfl (Nat.le_refl _)
        have hn2 : n2 ≤ 1000001 := by
          rw [h2.len]
          have := length_plus R R
          have := hLR.out
          omega
        go_wp2_with fail
        refine (r_plus _ _ _ _ _ _ (R + R) 1 _ (h2.num.below hbo) hone (by omega) (by omega)).mono ?_
        rintro e w3 ⟨A3, n3, c3, rfl, h3a, hb3⟩
        have hb13 : Below w1.heap.size w1 w3 := hbo.trans (hb3.mono hbo.size)
        have hB3 : Below w.heap.size w w3 := hb02.trans (hb13.mono hb02.size)
        have hrow3 := (hrow.below hb2 hrow.lt).below hb13 (by have := hb2.size; have := hrow.lt; omega)
        have h3 : Own w3 (w.heap.size + 1) (limbs r1) A3 n3 c3 := by
          rw [← hr1, Nat.two_mul]; exact h3a.more (by have := hrow.lt; have := hb2.size; have := hbo.size; omega)
        have hn3 : n3 ≤ 1000002 := by
          rw [h3a.len]
          have := length_plus (R + R) 1
          have := h2.len
          have : (limbs 1).length = 1 := by rw [limbs_one]; rfl
          omega
        clear hb3 h3a hn2 hone hbo
        go_wp2_with fail
      all_goals
        have hwsz : w.heap.size < w.heap.size + 1 := Nat.lt_succ_self _
        by_cases hcmp : r1 < Y
        · have HC : Hid (cmpI (r1 : Int) (Y : Int) = -1) := cmpI_lt (by omega)
          have HR := Lib.hid hcmp
          clear hcmp
          refine (r_compare _ _ _ _ _ _ r1 Y _ (-1) h3.num (hy.below hB3) (by omega) (by omega) HC).mono ?_
          rintro e w' ⟨rfl, qd, rfl⟩
          go_wp2_with fail
          go_roundw
          case rel =>
            refine ⟨j, r1, L, _, _, _, by omega, rfl, congrArg (Value.int _) (by omega), h3.drewN qd, hrow3.drewN qd, below_drewN hB3 qd, ?_⟩
            show Hid _
            have hI := HI.out
            have hd := div_lo (t := X / 2 ^ j % 2) HS1.out hI.2.2.2 (by have := HR1.out; have := HR.out; omega)
            exact ⟨hI.1, hI.2.1, by rw [hI.2.2.1, hd.1, Nat.pow_succ]; grind, by rw [hd.2, HR1.out]⟩
          case measure => simp [intOf]
        · obtain ⟨V, hV⟩ : ∃ V, cmpI (r1 : Int) (Y : Int) = V := ⟨_, rfl⟩
          have hV0 : (0 : Int) ≤ V := by rw [← hV]; unfold cmpI; rw [if_neg (by omega)]; split <;> omega
          have HC := Lib.hid hV
          have HR : Hid (Y ≤ r1) := Nat.le_of_not_lt hcmp
          clear hcmp hV
          refine (r_compare _ _ _ _ _ _ r1 Y _ V h3.num (hy.below hB3) (by omega) (by omega) HC).mono ?_
          rintro e w' ⟨rfl, qd, rfl⟩
          go_wp2_with fail
          refine (r_minus _ _ _ _ _ _ r1 Y _ (h3.num.drewN qd) ((hy.below hB3).drewN qd) (by omega) HR.out).mono ?_
          rintro e w5 ⟨A5, n5, c5, rfl, h5, hb5⟩
          have hrow5 := (hrow3.drewN qd).below hb5 (hrow3.drewN qd).lt
          have hB5 := (below_drewN hB3 qd).trans (hb5.mono (below_drewN hB3 qd).size)
          obtain ⟨d, hd⟩ : ∃ d, L.getD q 0 = d := ⟨_, rfl⟩
          have hcs := hrow5.cell (k := q) (by have := HI.out.1; omega)
          have hfs := hrow5.frozen q
          rw [hd] at hcs
          have HD := Lib.hid hd
          clear hd
          go_wp2_with fail
          go_roundw
          case rel =>
            have hI := HI.out
            have hdv := div_hi (t := X / 2 ^ j % 2) HS1.out hI.2.2.2 (Nat.pos_of_ne_zero hY.out) (by omega) (by have := HR1.out; have := HR.out; omega)
            have hq2 : q < L.length := by omega
            obtain ⟨ho, hv⟩ := or_bit hI.2.1 HJ.out hs32 HD.out hI.2.2.1
            refine ⟨j, r1 - Y, L.set q (d + 2 ^ s), _, _, _, by omega, rfl, congrArg (Value.int _) (by omega), (h5.more (hrow3.drewN qd).lt).far (Nat.lt_succ_self _) _, hrow5.setI q _ ho, hB5.setCell (p := ⟨w.heap.size, q, none⟩) (Nat.le_refl _) _, ?_⟩
            show Hid _
            refine ⟨by rw [List.length_set]; exact hI.1, hI.2.1.set _ hv, ?_, by rw [hdv.2, HR1.out]⟩
            have h7 := val_set (d + 2 ^ s) hq2
            rw [HD.out, hI.2.2.1] at h7
            rw [hdv.1]
            have e2 : P q * 2 ^ s = 2 ^ j := by rw [HJ.out, Nat.pow_add, Nat.pow_mul]; rfl
            rw [Nat.mul_add, e2] at h7
            rw [Nat.pow_succ] at h7
            have e3 : 2 ^ j * 2 * (X / (2 ^ j * 2) / Y) = 2 ^ j * (2 * (X / (2 ^ j * 2) / Y)) := by rw [Nat.mul_assoc]
            rw [e3] at h7
            rw [Nat.pow_succ, Nat.mul_add, Nat.mul_one]
            omega
          case measure => simp [intOf]
set_option maxRecDepth 20000 in
set_option maxHeartbeats 1000000 in
theorem r_divisor (A A' : Option Addr) (n c n' c' X Y : Nat) (w : World) (hx : Num w (limbs X) A n c) (hy : Num w (limbs Y) A' n' c') (hn : n ≤ 1000000) (hn' : n' ≤ 1000000) :
    Calls Tryz.prog 114 #[.slice A n c, .slice A' n' c'] w (RetNum w (Nat.gcd X Y)) := by
  go_enter Tryz.func114, Tryz.ntmps114
  go_wp2
  go_loopg [0, 1] Y (fun g s0 s1 wr => ∃ (A1 : Option Addr) (n1 c1 : Nat) (A2 : Option Addr) (n2 c2 a b : Nat), s0 = .slice A1 n1 c1 ∧ s1 = .slice A2 n2 c2 ∧ Num wr (limbs a) A1 n1 c1 ∧ Num wr (limbs b) A2 n2 c2 ∧ n1 ≤ 1000000 ∧ n2 ≤ 1000000 ∧ Below w.heap.size w wr ∧ b ≤ g ∧ Hid (Nat.gcd a b = Nat.gcd X Y))
  case atStart => exact ⟨A, n, c, A', n', c', X, Y, rfl, rfl, hx, hy, hn, hn', Below.refl _ _, Nat.le_refl _, rfl⟩
  case round =>
    obtain ⟨A1, n1, c1, A2, n2, c2, a, b, rfl, rfl, h1, h2, hn1, hn2, hb, hg, HG⟩ := hrel
    by_cases h0 : n2 = 0
    · have hb0 : b = 0 := limbs_length_zero.1 (by rw [← h2.len]; exact h0)
      subst h0
      have HE : Hid (a = Nat.gcd X Y) := by show _ = _; rw [← HG.out, hb0, Nat.gcd_zero_right]
      clear hb0
      go_wp2_with fail
      go_ret
      rw [← HE.out]
      exact ⟨_, _, _, rfl, h1, hb⟩
    · have hpos : (0 : Int) < (n2 : Int) := by omega
      have hb0 : b ≠ 0 := fun h => h0 (by rw [h2.len, h, limbs_zero]; rfl)
      have HB := Lib.hid hb0
      clear hb0 h0
      go_wp2_with fail
      refine (r_divide _ _ _ _ _ _ a b _ h1 h2 hn1 hn2 HB).mono ?_
      rintro e w2 ⟨Aq, nq, cq, Ar, nr, cr, rfl, hq, hr, hb2⟩
      go_wp2_with fail
      go_roundg (a % b)
      case rel =>
        refine ⟨_, _, _, _, _, _, b, a % b, rfl, rfl, h2.below hb2, hr.num, hn2, ?_, hb.trans (hb2.mono hb.size), Nat.le_refl _, ?_⟩
        · rw [hr.len]
          have := length_mono (Nat.le_of_lt (Nat.mod_lt a (Nat.pos_of_ne_zero HB.out)))
          have := h2.len
          omega
        · show _ = _
          rw [← HG.out, Nat.gcd_comm b, ← Nat.gcd_rec, Nat.gcd_comm]
      case measure => exact Nat.lt_of_lt_of_le (Nat.mod_lt a (Nat.pos_of_ne_zero HB.out)) hg
end Go.Proofs.YtohbelnfjomcdaaGreatDoor
