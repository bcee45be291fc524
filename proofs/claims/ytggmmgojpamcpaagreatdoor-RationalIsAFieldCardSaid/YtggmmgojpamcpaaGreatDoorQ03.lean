/- math/bits.Div32 and divideLimb. -/
import Derived.Test.YtggmmgojpamcpaaGreatDoorQ02
import Derived.Shelf.Spec.TrailingZeros
import Derived.Shelf.Small.Bits
import Derived.Ground.Names2Prog
import Derived.Ground.Names7Prog
import Derived.Test.YtggmmgojpamcpaaGreatDoorProg
import Derived.Laws.CopyOwn
namespace Go.Proofs.YtggmmgojpamcpaaGreatDoor
open Go.RowKit

set_option maxHeartbeats 1000000 in
theorem div32 (h lo y : Nat) (w : World) (hh : h < y) (hl : lo < 4294967296) (hy : y < 4294967296) :
    Calls Tryz.prog 126 #[.int .u32 h, .int .u32 lo, .int .u32 y] w fun e w' => e = .returned (.tuple #[.int .u32 (((h * 4294967296 + lo) / y : Nat) : Int), .int .u32 (((h * 4294967296 + lo) % y : Nat) : Int)]) ∧ ∃ q, w' = w.drewN q := by
  have hne : ((y : Int) != 0) = true := by simp; omega
  have hle : decide ((y : Int) ≤ h) = false := by simp; omega
  have hle' : decide (y ≤ h) = false := by simp; omega
  have hy0 : ¬ (y : Int) = 0 := by omega
  have hy0' : ((y : Int) == 0) = false := by simp; omega
  have hdiv : (h * 4294967296 + lo) / y < 4294967296 := by
    rw [Nat.div_lt_iff_lt_mul (by omega)]
    have : h * 4294967296 + 4294967296 ≤ y * 4294967296 := by omega
    omega
  have hmod : (h * 4294967296 + lo) % y < y := Nat.mod_lt _ (by omega)
  have hor : bits .or .u64 ((h : Int) * 4294967296) (lo : Int) = ((h * 4294967296 + lo : Nat) : Int) := by
    rw [show (h : Int) * 4294967296 = ((h * 4294967296 : Nat) : Int) from by omega, u64_or_nat _ _ (by omega) (by omega), nat_join 32 (h * 4294967296) lo (by omega) (by omega)]
  go_enter Tryz.func126, Tryz.ntmps126
  go_wp2_with fail
  go_quiet (fail)
  go_wp2_with fail
  go_ret2
  have e1 : (h : Int) * 4294967296 + lo = ((h * 4294967296 + lo : Nat) : Int) := by omega
  refine ⟨ret_pair ?_ ?_, nq, rfl⟩
  · rw [e1, ← Int.natCast_ediv]; exact Int.emod_eq_of_lt (Int.natCast_nonneg _) (Int.ofNat_lt.2 hdiv)
  · rw [e1, ← Int.natCast_emod]; exact Int.emod_eq_of_lt (Int.natCast_nonneg _) (Int.ofNat_lt.2 (Nat.lt_trans hmod hy))

/-- What is left behind a call that wrote into the limbs of one block alone. -/
def RetMid (w0 : World) (v : Value) (b : Nat) (pre post : List Value) (n : Nat) (Ok : List Nat → Prop) (e : Ending) (w' : World) : Prop :=
  e = .returned v ∧ ∃ L, Mid w' b pre L post ∧ w0.grownBy w' (some b) ∧ L.length = n ∧ Lim L ∧ Ok L

theorem grown_setCell {a w : World} {g : Nat} (h : a.grownBy w (some g)) {p : Addr} (hp : p.block = g) (u : Value) : a.grownBy (w.setCell p u) (some g) :=
  ⟨h.os, h.tape, h.output, by simpa [World.setCell] using h.size, fun i hi hne => (Below.heap_setCell w p u i (by rintro rfl; exact hne (by rw [hp]))).trans (h.block i hi hne)⟩
theorem grown_drewN {a w : World} {row : Option Nat} (h : a.grownBy w row) (n : Nat) : a.grownBy (w.drewN n) row := ⟨h.os, h.tape, h.output, h.size, h.block⟩
theorem grown_drew {a w : World} {row : Option Nat} (h : a.grownBy w row) : a.grownBy w.drew row := ⟨h.os, h.tape, h.output, h.size, h.block⟩

set_option maxRecDepth 20000 in
set_option maxHeartbeats 1000000 in
theorem divideLimb_any (b o n c d : Nat) (pre post : List Value) (l : List Nat) (w : World) (hm : Mid w b pre l post) (hl : Lim l) (ho : pre.length = o) (hlen : n = l.length) (hnc : n ≤ c) (hd0 : 0 < d) (hd : d < 4294967296) (hn : n ≤ 1073741824) :
    Calls Tryz.prog 111 #[.slice (some ⟨b, o, none⟩) n c, .int .u32 d] w (RetMid w (.int .u32 ((val l % d : Nat) : Int)) b pre post n fun L => val L = val l / d) := by
  have HO := Lib.hid ho; have HLEN := Lib.hid hlen; have HLIM := Lib.hid hl
  clear ho hlen hl
  go_enter Tryz.func111, Tryz.ntmps111
  go_wp2_with fail
  go_loopw [5, 6] (fun sr si wr => ∃ (k r : Nat) (L : List Nat), k ≤ n ∧ r < d ∧ sr = .int .u32 r ∧ si = .int .i64 ((k : Int) - 1) ∧ Mid wr b pre L post ∧ w.grownBy wr (some b) ∧ Hid (L.length = n ∧ Lim L ∧ (∀ i, i < k → L.getD i 0 = l.getD i 0) ∧ val (L.drop k) * d + r = val (l.drop k)))
    (fun _ si _ => (intOf si + 1).toNat)
  case atStart => exact ⟨n, 0, l, Nat.le_refl _, hd0, rfl, rfl, hm, World.grownBy.refl _ _, show Hid _ from ⟨HLEN.out.symm, HLIM.out, fun _ _ => rfl, by rw [List.drop_of_length_le (by have := HLEN.out; omega)]; simp [val]⟩⟩
  case round =>
    obtain ⟨k, r, L, hk, hr, rfl, rfl, hrow, hgr, HI⟩ := hrel
    clear hm
    rcases Nat.eq_zero_or_pos k with h0 | h0
    · subst h0
      have HV : Hid (val l % d = r ∧ val L = val l / d) := by
        have h := HI.out.2.2.2
        rw [List.drop_zero, List.drop_zero] at h
        show _ ∧ _
        rw [← h, Nat.mul_comm, Nat.mul_add_mod, Nat.mod_eq_of_lt hr, Nat.mul_add_div hd0, Nat.div_eq_of_lt hr, Nat.add_zero]
        exact ⟨rfl, rfl⟩
      go_wp2_with fail
      go_ret
      exact ⟨ret_int (by rw [HV.out.1]), L, hrow, hgr, HI.out.1, HI.out.2.1, HV.out.2⟩
    · obtain ⟨j, rfl⟩ : ∃ j, k = j + 1 := ⟨k - 1, by omega⟩
      obtain ⟨x, hx'⟩ : ∃ x, L.getD j 0 = x := ⟨_, rfl⟩
      have hx4 : x < 4294967296 := by rw [← hx']; exact HI.out.2.1.getD _
      have hcs := hrow.cell (k := j) (by have := HI.out.1; omega)
      have hfs := hrow.frozen (o + j)
      rw [hx', HO.out] at hcs
      have HX := Lib.hid hx'; clear hx'
      have hjn : (j : Int) < (n : Int) := by omega
      have e1 : ((j + 1 : Nat) : Int) - 1 = (j : Int) := by omega
      rw [e1]; clear e1
      go_wp2_with (go_at_call 126; refine (div32 r x d _ hr hx4 hd).mono ?_; rintro e w' ⟨rfl, q, rfl⟩)
      go_roundw
      case rel =>
        have hI := HI.out
        have hlx : l.getD j 0 = x := by rw [← hI.2.2.1 j (by omega)]; exact HX.out
        have h := div_step (j := j) (q := (r * 4294967296 + x) / d) (r' := (r * 4294967296 + x) % d) (x := x) (N := n) (d := d) (by omega) HLEN.out.symm ⟨hI.1, hI.2.1, fun i hi => hI.2.2.1 i (by omega), hI.2.2.2⟩ hlx
          (by rw [Nat.div_lt_iff_lt_mul hd0]; have : r * 4294967296 + 4294967296 ≤ d * 4294967296 := by omega
              rw [Nat.mul_comm 4294967296 d]; omega) (by rw [Nat.mul_comm, Nat.div_add_mod])
        refine ⟨j, (r * 4294967296 + x) % d, L.set j ((r * 4294967296 + x) / d), by omega, Nat.mod_lt _ hd0, rfl, rfl, (hrow.drewN q).set' (by omega) _ rfl HO.out, grown_setCell (grown_drewN hgr q) rfl _, h⟩
      case measure => simp [intOf]

/-- divideLimb, the remainder behind a name. -/
theorem divideLimb_v (b o n c d rm : Nat) (pre post : List Value) (l : List Nat) (w : World) (hm : Mid w b pre l post) (hl : Lim l) (ho : pre.length = o) (hlen : n = l.length) (hnc : n ≤ c) (hd0 : 0 < d) (hd : d < 4294967296) (hn : n ≤ 1073741824) (H : Hid (val l % d = rm)) :
    Calls Tryz.prog 111 #[.slice (some ⟨b, o, none⟩) n c, .int .u32 d] w (RetMid w (.int .u32 (rm : Int)) b pre post n fun L => val L = val l / d) := by
  have h := divideLimb_any b o n c d pre post l w hm hl ho hlen hnc hd0 hd hn
  rwa [H.out] at h
end Go.Proofs.YtggmmgojpamcpaaGreatDoor

namespace Go.Proofs.YtggmmgojpamcpaaGreatDoor
open Go.RowKit

set_option maxRecDepth 20000 in
set_option maxHeartbeats 1000000 in
theorem subtractTimes_any (b o n c m c' t : Nat) (A' : Option Addr) (pre post : List Value) (l r : List Nat) (w : World) (hm : Mid w b pre l post) (hl : Lim l) (ho : pre.length = o) (hlen : n = l.length) (hnc : n ≤ c)
    (hy : Num w r A' m c') (hoff : Off A' b) (hmn : n = m + 1) (ht : t < 4294967296) (hn : n ≤ 1073741824) :
    Calls Tryz.prog 134 #[.slice (some ⟨b, o, none⟩) n c, .slice A' m c', .int .u64 t] w
      (RetMid w (.bool (decide (val l < t * val r))) b pre post n fun L => val L + t * val r = val l + P n * (ltn (val l) (t * val r))) := by
  have HO := Lib.hid ho; have HLEN := Lib.hid hlen; have HLIM := Lib.hid hl; have HOFF := Lib.hid hoff
  obtain ⟨V, hV⟩ : ∃ V, decide (val l < t * val r) = V := ⟨_, rfl⟩
  rw [hV]
  have HV := Lib.hid hV
  clear ho hlen hl hoff hV
  subst hmn
  go_enter Tryz.func134, Tryz.ntmps134
  go_wp2_with fail
  go_loopw [7, 8, 13] (fun sc sb si wr => ∃ (k cr br : Nat) (L : List Nat), k ≤ m ∧ cr < 4294967296 ∧ br ≤ 1 ∧ sc = .int .u64 cr ∧ sb = .int .u32 br ∧ si = .int .i64 k ∧ Mid wr b pre L post ∧ w.grownBy wr (some b) ∧
      Hid (L.length = m + 1 ∧ Lim L ∧ (∀ i, k ≤ i → L.getD i 0 = l.getD i 0) ∧ val (L.take k) + t * val (r.take k) = val (l.take k) + P k * (cr + br)))
    (fun _ _ si _ => m - (intOf si).toNat)
  case atStart => exact ⟨0, 0, 0, l, Nat.zero_le _, by omega, by omega, rfl, rfl, rfl, hm, World.grownBy.refl _ _, show Hid _ from ⟨HLEN.out.symm, HLIM.out, fun _ _ => rfl, by simp [val]⟩⟩
  case round =>
    obtain ⟨k, cr, br, L, hk, hcr, hbr, rfl, rfl, rfl, hrow, hgr, HI⟩ := hrel
    clear hm
    by_cases hkm : k < m
    · have hyw := hy.grown hgr HOFF.out
      obtain ⟨b', o', y, rfl, _, hy', hy4, hcy⟩ := hyw.at_ hkm
      have HY := Lib.hid hy'; clear hy'
      obtain ⟨x, hx'⟩ : ∃ x, L.getD k 0 = x := ⟨_, rfl⟩
      have hx4 : x < 4294967296 := by rw [← hx']; exact HI.out.2.1.getD _
      have hcs := hrow.cell (k := k) (by have := HI.out.1; omega)
      have hfs := hrow.frozen (o + k)
      rw [hx', HO.out] at hcs
      have HX := Lib.hid hx'; clear hx'
      have hmul0 : 0 ≤ (y : Int) * (t : Int) := Int.mul_nonneg (by omega) (by omega)
      have hmulN : y * t ≤ 18446744065119617025 := Nat.mul_le_mul (show y ≤ 4294967295 by omega) (show t ≤ 4294967295 by omega)
      have hmul1 : (y : Int) * (t : Int) ≤ 18446744065119617025 := by
        rw [← Int.natCast_mul]; omega
      have hmc : ((y * t : Nat) : Int) = (y : Int) * (t : Int) := Int.natCast_mul ..
      have HM := Lib.hid hmc; clear hmc
      have HMN := Lib.hid hmulN; clear hmulN
      have HLO : Hid (((cr : Int) + (y : Int) * (t : Int)) % 4294967296 = (((cr + y * t) % 4294967296 : Nat) : Int)) := by
        show _ = _
        rw [← HM.out]; omega
      have HHI : Hid (((cr : Int) + (y : Int) * (t : Int)) / 4294967296 = (((cr + y * t) / 4294967296 : Nat) : Int)) := by
        show _ = _
        rw [← HM.out]; omega
      go_wp2_with (go_at_call 132; refine (sub32' x _ ((cr + y * t) % 4294967296) br _ HLO hx4 (Nat.mod_lt _ (by decide)) hbr).mono ?_; rintro e w' ⟨rfl, rfl⟩)
      go_roundw
      case rel =>
        have hI := HI.out
        have h := subt_step (k := k) (d := dif x ((cr + y * t) % 4294967296) br) (br' := bor x ((cr + y * t) % 4294967296) br) (by omega) HLEN.out.symm hI (by rw [← hI.2.2.1 k (Nat.le_refl _)]; exact HX.out) HY.out (dif_lt _ _ _) rfl (dif_bor _ _ _ hx4 (Nat.mod_lt _ (by decide)) hbr)
        exact ⟨k + 1, (cr + y * t) / 4294967296, bor x ((cr + y * t) % 4294967296) br, L.set k (dif x ((cr + y * t) % 4294967296) br), by omega, by have := HMN.out; omega, bor_le _ _ _, congrArg (Value.int _) HHI.out, rfl, by go_num, hrow.set' (by omega) _ rfl HO.out, grown_setCell hgr rfl _, h⟩
      case measure => simp [intOf]; omega
    · obtain rfl : k = m := by omega
      obtain ⟨x, hx'⟩ : ∃ x, L.getD k 0 = x := ⟨_, rfl⟩
      have hx4 : x < 4294967296 := by rw [← hx']; exact HI.out.2.1.getD _
      have hcs := hrow.cell (k := k) (by have := HI.out.1; omega)
      have hfs := hrow.frozen (o + k)
      rw [hx', HO.out] at hcs
      have HX := Lib.hid hx'; clear hx'
      have hI := HI.out
      have h := subt_step (k := k) (t := t) (r := r) (y := 0) (s := cr) (d := dif x cr br) (br' := bor x cr br) (by omega) HLEN.out.symm hI (x := x) (by rw [← hI.2.2.1 k (Nat.le_refl _)]; exact HX.out)
        (by rw [List.getD_eq_getElem?_getD, List.getElem?_eq_none (by have := hy.len; omega)]; rfl) (dif_lt _ _ _) (by simp) (by rw [Nat.mod_eq_of_lt hcr]; exact dif_bor _ _ _ hx4 hcr hbr)
      have hfin : (L.set k (dif x cr br)).length = k + 1 ∧ Lim (L.set k (dif x cr br)) ∧ val (L.set k (dif x cr br)) + t * val r = val l + P (k + 1) * bor x cr br := by
        refine ⟨h.1, h.2.1, ?_⟩
        have h2 := h.2.2.2
        rw [List.take_of_length_le (l := L.set k (dif x cr br)) (by omega), List.take_of_length_le (l := r) (by have := hy.len; omega), List.take_of_length_le (l := l) (by have := HLEN.out; omega), Nat.div_eq_of_lt hcr, Nat.zero_add] at h2
        exact h2
      have hb01 := bor_le x cr br
      have hlt1 : val (L.set k (dif x cr br)) < P (k + 1) := by have := val_lt hfin.2.1; rwa [hfin.1] at this
      have hlt2 : t * val r < P (k + 1) := by
        have h1 := val_lt hy.lim
        rw [← hy.len] at h1
        have h2 : t * val r ≤ 4294967296 * val r := Nat.mul_le_mul_right _ (by omega)
        rw [P_succ]; omega
      have HF : Hid (bor x cr br = ltn (val l) (t * val r)) := by
        show _ = _
        have h3 := hfin.2.2
        rcases Nat.lt_or_ge (bor x cr br) 1 with hb | hb
        · have hb0 : bor x cr br = 0 := by omega
          rw [hb0, Nat.mul_zero, Nat.add_zero] at h3
          rw [hb0]; unfold ltn; rw [if_neg (by omega)]
        · have hb1 : bor x cr br = 1 := by omega
          rw [hb1, Nat.mul_one] at h3
          rw [hb1]; unfold ltn; rw [if_pos (by omega)]
      have HFIN := Lib.hid hfin
      obtain ⟨be, hbe⟩ : ∃ be, bor x cr br = be := ⟨_, rfl⟩
      have HBE := Lib.hid hbe
      clear hI h hfin hb01 hlt1 hlt2 hbe
      go_wp2_with (go_at_call 132; refine (sub32 x cr br _ hx4 hcr hbr).mono ?_; rintro e w' ⟨rfl, rfl⟩)
      go_ret
      refine ⟨ret_bool ?_, L.set k (dif x cr br), hrow.set' (by have := HI.out.1; omega) _ rfl HO.out, grown_setCell hgr rfl _, HFIN.out.1, HFIN.out.2.1, by rw [← HF.out]; exact HFIN.out.2.2⟩
      rw [← HV.out, HF.out]
      unfold ltn
      by_cases hlt : val l < t * val r
      · rw [if_pos hlt, decide_eq_true hlt]; rfl
      · rw [if_neg hlt, decide_eq_false hlt]; rfl
set_option maxRecDepth 20000 in
set_option maxHeartbeats 1000000 in
theorem addBack_any (b o n c m c' : Nat) (A' : Option Addr) (pre post : List Value) (l r : List Nat) (w : World) (hm : Mid w b pre l post) (hl : Lim l) (ho : pre.length = o) (hlen : n = l.length) (hnc : n ≤ c)
    (hy : Num w r A' m c') (hoff : Off A' b) (hmn : n = m + 1) (hn : n ≤ 1073741824) :
    Calls Tryz.prog 135 #[.slice (some ⟨b, o, none⟩) n c, .slice A' m c'] w
      (RetMid w (.tuple #[]) b pre post n fun L => val L = (val l + val r) % P n) := by
  have HO := Lib.hid ho; have HLEN := Lib.hid hlen; have HLIM := Lib.hid hl; have HOFF := Lib.hid hoff
  clear ho hlen hl hoff
  subst hmn
  go_enter Tryz.func135, Tryz.ntmps135
  go_wp2_with fail
  go_loopw [4, 9] (fun sc si wr => ∃ (k cr : Nat) (L : List Nat), k ≤ m ∧ cr ≤ 1 ∧ sc = .int .u32 cr ∧ si = .int .i64 k ∧ Mid wr b pre L post ∧ w.grownBy wr (some b) ∧
      Hid (L.length = m + 1 ∧ Lim L ∧ (∀ i, k ≤ i → L.getD i 0 = l.getD i 0) ∧ val (L.take k) + P k * cr = val (l.take k) + val (r.take k)))
    (fun _ si _ => m - (intOf si).toNat)
  case atStart => exact ⟨0, 0, l, Nat.zero_le _, by omega, rfl, rfl, hm, World.grownBy.refl _ _, show Hid _ from ⟨HLEN.out.symm, HLIM.out, fun _ _ => rfl, by simp [val]⟩⟩
  case round =>
    obtain ⟨k, cr, L, hk, hcr, rfl, rfl, hrow, hgr, HI⟩ := hrel
    clear hm
    by_cases hkm : k < m
    · have hyw := hy.grown hgr HOFF.out
      obtain ⟨b', o', y, rfl, _, hy', hy4, hcy⟩ := hyw.at_ hkm
      have HY := Lib.hid hy'; clear hy'
      obtain ⟨x, hx'⟩ : ∃ x, L.getD k 0 = x := ⟨_, rfl⟩
      have hx4 : x < 4294967296 := by rw [← hx']; exact HI.out.2.1.getD _
      have hcs := hrow.cell (k := k) (by have := HI.out.1; omega)
      have hfs := hrow.frozen (o + k)
      rw [hx', HO.out] at hcs
      have HX := Lib.hid hx'; clear hx'
      go_wp2_with (go_at_call 153; refine (add32 x y cr _ hx4 hy4 hcr).mono ?_; rintro e w' ⟨rfl, rfl⟩)
      go_roundw
      case rel =>
        have hI := HI.out
        have h := addt_step (k := k) (d := (x + y + cr) % 4294967296) (c' := (x + y + cr) / 4294967296) (by omega) hI (x := x) (by rw [← hI.2.2.1 k (Nat.le_refl _)]; exact HX.out) HY.out (Nat.mod_lt _ (by decide)) (Nat.mod_add_div ..)
        exact ⟨k + 1, (x + y + cr) / 4294967296, L.set k ((x + y + cr) % 4294967296), by omega, by omega, rfl, by go_num, hrow.set' (by omega) _ rfl HO.out, grown_setCell hgr rfl _, h⟩
      case measure => simp [intOf]; omega
    · obtain rfl : k = m := by omega
      obtain ⟨x, hx'⟩ : ∃ x, L.getD k 0 = x := ⟨_, rfl⟩
      have hx4 : x < 4294967296 := by rw [← hx']; exact HI.out.2.1.getD _
      have hcs := hrow.cell (k := k) (by have := HI.out.1; omega)
      have hfs := hrow.frozen (o + k)
      rw [hx', HO.out] at hcs
      have HX := Lib.hid hx'; clear hx'
      have HF : Hid (val (L.set k ((x + cr) % 4294967296)) = (val l + val r) % P (k + 1)) := by
        show _ = _
        have hI := HI.out
        have h1 := hI.2.2.2
        have h2 : val l = val (l.take k) + P k * x := by
          have h3 := val_take_succ' l k
          rw [List.take_of_length_le (l := l) (i := k + 1) (by have := HLEN.out; omega), ← hI.2.2.1 k (Nat.le_refl _), HX.out] at h3
          exact h3
        have h4 := val_take_set ((x + cr) % 4294967296) (show k < L.length by omega)
        rw [List.take_of_length_le (l := L.set k ((x + cr) % 4294967296)) (by rw [List.length_set]; omega)] at h4
        rw [List.take_of_length_le (l := r) (by have := hy.len; omega)] at h1
        have h5 : val l + val r = val (L.take k) + P k * (x + cr) := by rw [Nat.mul_add]; omega
        have h6 : val (L.take k) < P k := by
          have := val_lt (hI.2.1.take k); rwa [List.length_take, Nat.min_eq_left (by omega)] at this
        rw [h4, h5, P_succ, Nat.mod_mul, Nat.add_mul_mod_self_left, Nat.mod_eq_of_lt h6, Nat.add_mul_div_left _ _ (P_pos k), Nat.div_eq_of_lt h6, Nat.zero_add]
      go_wp2_with fail
      go_end0
      refine ⟨rfl, L.set k ((x + cr) % 4294967296), hrow.set' (by have := HI.out.1; omega) _ (by omega) HO.out, grown_setCell hgr rfl _, by rw [List.length_set]; exact HI.out.1, HI.out.2.1.set _ (Nat.mod_lt _ (by decide)), HF.out⟩
/-- subtractTimes, its answer behind a name. -/
theorem subtractTimes_v (b o n c m c' t : Nat) (A' : Option Addr) (pre post : List Value) (l r : List Nat) (w : World) (V : Bool) (hm : Mid w b pre l post) (hl : Lim l) (ho : pre.length = o) (hlen : n = l.length) (hnc : n ≤ c)
    (hy : Num w r A' m c') (hoff : Off A' b) (hmn : n = m + 1) (ht : t < 4294967296) (hn : n ≤ 1073741824) (hV : Hid (decide (val l < t * val r) = V)) :
    Calls Tryz.prog 134 #[.slice (some ⟨b, o, none⟩) n c, .slice A' m c', .int .u64 t] w
      (RetMid w (.bool V) b pre post n fun L => val L + t * val r = val l + P n * ltn (val l) (t * val r)) := by
  have h := subtractTimes_any b o n c m c' t A' pre post l r w hm hl ho hlen hnc hy hoff hmn ht hn
  rwa [hV.out] at h
theorem grown_trans' {a b c : World} {row : Option Nat} (h : a.grownBy b row) (k : b.grownBy c row) : a.grownBy c row :=
  ⟨k.os.trans h.os, k.tape.trans h.tape, k.output.trans h.output, Nat.le_trans h.size k.size, fun i hi hne => (k.block i (Nat.lt_of_lt_of_le hi h.size) hne).trans (h.block i hi hne)⟩
theorem grown_from {w w' : World} {row : Option Nat} {n : Nat} (h : (w.drewN n).grownBy w' row) : w.grownBy w' row := ⟨h.os, h.tape, h.output, h.size, h.block⟩
end Go.Proofs.YtggmmgojpamcpaaGreatDoor

namespace Go.Proofs.YtggmmgojpamcpaaGreatDoor
open Go.RowKit

section
variable {X Y al ar R x0 x1 x2 y0 y1 top g rest : Nat}
theorem digit_exit (hX : X = al + R * (x0 + 4294967296 * (x1 + 4294967296 * x2))) (hY : Y = ar + R * (y0 + 4294967296 * y1)) (har : ar < R) (hT : x2 * 4294967296 + x1 = top)
    (hg : g * y1 + rest = top) (hgb : g ≤ 4294967295) (hy1 : 2147483648 ≤ y1) (hy0 : y0 < 4294967296) (hex : 4294967296 ≤ rest ∨ g * y0 ≤ rest * 4294967296 + x0) (hY0 : 0 < Y) : g ≤ X / Y + 1 := by
  have h0 : g * y0 ≤ rest * 4294967296 + x0 := by
    rcases hex with h | h
    · have h1 : g * y0 ≤ 4294967295 * 4294967295 := Nat.mul_le_mul hgb (by omega)
      omega
    · exact h
  apply guess_hi (X := X) (Y := Y) (U := x0 + 4294967296 * top) (V := y0 + 4294967296 * y1) (R := R)
  · rw [← hg, Nat.mul_add, Nat.mul_left_comm]; omega
  · rw [hX, ← hT, Nat.mul_comm, show x1 + 4294967296 * x2 = x2 * 4294967296 + x1 from by omega]; omega
  · rw [Nat.add_mul, Nat.one_mul, Nat.mul_comm]
    have := Nat.div_add_mod X Y
    have := Nat.mod_lt X hY0
    omega
  · rw [hY, Nat.mul_comm R, Nat.add_mul _ 1 R, Nat.one_mul]; omega
  · omega
theorem digit_start (hX : X = al + R * (x0 + 4294967296 * (x1 + 4294967296 * x2))) (hal : al < R) (hx0 : x0 < 4294967296) (hY : Y = ar + R * (y0 + 4294967296 * y1)) (hT : x2 * 4294967296 + x1 = top) : X / Y * y1 ≤ top := by
  apply guess_lo (X := X) (Y := Y) (R := R * 4294967296)
  · have := Nat.div_add_mod X Y; rw [Nat.mul_comm]; omega
  · rw [hY, Nat.mul_add, Nat.mul_comm y1, Nat.mul_assoc]; omega
  · have h1 : R * (x0 + 1) ≤ R * 4294967296 := Nat.mul_le_mul_left _ (by omega)
    rw [hX, Nat.mul_add, ← Nat.mul_assoc R, show x1 + 4294967296 * x2 = top from by omega, Nat.add_mul, Nat.one_mul, Nat.mul_comm top]
    rw [Nat.mul_add] at h1
    omega
/-- A guess that the second limb shows to be too great is not the quotient. -/
theorem digit_round (hX : X = al + R * (x0 + 4294967296 * (x1 + 4294967296 * x2))) (hal : al < R) (hY : Y = ar + R * (y0 + 4294967296 * y1)) (hT : x2 * 4294967296 + x1 = top)
    (hq : X / Y ≤ g) (hg : g * y1 + rest = top) (hgt : rest * 4294967296 + x0 < g * y0) : X / Y + 1 ≤ g := by
  rcases Nat.lt_or_ge (X / Y) g with h | h
  · exact h
  · exfalso
    have hgq : X / Y = g := by omega
    have h1 : X / Y * (y0 + 4294967296 * y1) ≤ x0 + 4294967296 * top := by
      apply guess_lo (X := X) (Y := Y) (R := R)
      · have := Nat.div_add_mod X Y; rw [Nat.mul_comm]; omega
      · rw [hY, Nat.mul_comm]; omega
      · rw [hX, show x1 + 4294967296 * x2 = top from by omega, Nat.add_mul, Nat.one_mul, Nat.mul_comm R]; omega
    rw [hgq, ← hg, Nat.mul_add, Nat.mul_left_comm] at h1
    omega
theorem digit_neg {a b n q : Nat} (hq : X / Y ≤ g) (hg : g ≤ X / Y + 1) (hY : 0 < Y) (hlt : X < g * Y) (hL : a + g * Y = X + P n * ltn X (g * Y)) (hYn : Y < P n) (hb : b = (a + Y) % P n) (hqg : g = q + 1) : q = X / Y ∧ b = X % Y := by
  have h1 := Nat.div_add_mod X Y
  have h2 := Nat.mod_lt X hY
  have h3 : g ≠ X / Y := fun h => by rw [h, Nat.mul_comm] at hlt; omega
  have h4 : g = X / Y + 1 := by omega
  have h5 : q = X / Y := by omega
  refine ⟨h5, ?_⟩
  unfold ltn at hL
  rw [if_pos hlt, Nat.mul_one, h4, Nat.add_mul, Nat.one_mul, Nat.mul_comm] at hL
  have h6 : a + Y = X % Y + P n := by omega
  rw [hb, h6, Nat.add_mod_right, Nat.mod_eq_of_lt (by omega)]
theorem digit_pos {a n : Nat} (hq : X / Y ≤ g) (hY : 0 < Y) (hlt : ¬ X < g * Y) (hL : a + g * Y = X + P n * ltn X (g * Y)) : g = X / Y ∧ a = X % Y := by
  have h1 := Nat.div_add_mod X Y
  have h3 : g ≤ X / Y := (Nat.le_div_iff_mul_le hY).2 (by omega)
  have h4 : g = X / Y := by omega
  refine ⟨h4, ?_⟩
  unfold ltn at hL
  rw [if_neg hlt, Nat.mul_zero, Nat.add_zero, h4, Nat.mul_comm] at hL
  omega
end

/-- Where the guess stands: never less than the quotient; what is left of the leading limbs. -/
def Guess (q top y1 g rest : Nat) : Prop := q ≤ g ∧ g * y1 + rest = top

set_option maxRecDepth 20000 in
set_option maxHeartbeats 2000000 in
theorem digit_any (b o c j b' o' c' : Nat) (pre post : List Value) (l r : List Nat) (w : World) (hm : Mid w b pre l post) (hl : Lim l) (ho : pre.length = o) (hlen : l.length = j + 3) (hnc : j + 3 ≤ c)
    (hy : Num w r (some ⟨b', o', none⟩) (j + 2) c') (hoff : b' ≠ b) (htop : 2147483648 ≤ r.getD (j + 1) 0) (hX : val l < val r * 4294967296) (hn : j ≤ 536870912) :
    Calls Tryz.prog 120 #[.slice (some ⟨b, o, none⟩) (j + 3) c, .slice (some ⟨b', o', none⟩) (j + 2) c'] w
      (RetMid w (.int .u32 ((val l / val r : Nat) : Int)) b pre post (j + 3) fun L => val L = val l % val r) := by
  have HO := Lib.hid ho; have HLEN := Lib.hid hlen; have HLIM := Lib.hid hl; have HX := Lib.hid hX
  have hcs0 := hm.cell (k := j) (by omega)
  have hcs1 := hm.cell (k := j + 1) (by omega)
  have hcs2 := hm.cell (k := j + 2) (by omega)
  have hy0 := hy.at' (k := j) (by omega)
  have hy1 := hy.at' (k := j + 1) (by omega)
  have hl0 := hl.getD j
  have hl1 := hl.getD (j + 1)
  have hl2 := hl.getD (j + 2)
  have hr0 := hy.lim.getD j
  have hr1 := hy.lim.getD (j + 1)
  obtain ⟨al, hal, hvl⟩ := top_three hl hlen
  obtain ⟨ar, har, hvr⟩ := top_two hy.lim hy.len.symm
  obtain ⟨x0, e0⟩ : ∃ x, l.getD j 0 = x := ⟨_, rfl⟩
  obtain ⟨x1, e1⟩ : ∃ x, l.getD (j + 1) 0 = x := ⟨_, rfl⟩
  obtain ⟨x2, e2⟩ : ∃ x, l.getD (j + 2) 0 = x := ⟨_, rfl⟩
  obtain ⟨y0, f0⟩ : ∃ x, r.getD j 0 = x := ⟨_, rfl⟩
  obtain ⟨y1, f1⟩ : ∃ x, r.getD (j + 1) 0 = x := ⟨_, rfl⟩
  rw [ho, e0] at hcs0; rw [ho, e1] at hcs1; rw [ho, e2] at hcs2
  rw [f0] at hy0; rw [f1] at hy1 htop
  rw [e0] at hl0 hvl; rw [e1] at hl1 hvl; rw [e2] at hl2 hvl; rw [f0] at hr0 hvr; rw [f1] at hr1 hvr
  obtain ⟨top, ht⟩ : ∃ top, x2 * 4294967296 + x1 = top := ⟨_, rfl⟩
  have hVL := Lib.hid hvl; have hVR := Lib.hid hvr; have hAL := Lib.hid hal; have hAR := Lib.hid har
  clear hvl hvr hal har e0 e1 e2 f0 f1 ho hlen hl hX
  have hor1 : bits .or .u64 ((x2 : Int) * 4294967296) (x1 : Int) = (top : Int) := by
    rw [show (x2 : Int) * 4294967296 = ((x2 * 4294967296 : Nat) : Int) from by omega, u64_or_nat _ _ (by omega) (by omega), nat_join 32 (x2 * 4294967296) x1 (by omega) (by omega), ht]
  have hy10 : ¬ (y1 : Int) = 0 := by omega
  have hy10' : ((y1 : Int) == 0) = false := by simp; omega
  have HT := Lib.hid ht; clear ht
  obtain ⟨t1, ht1⟩ : ∃ t1, top / y1 = t1 := ⟨_, rfl⟩
  have htop64 : top < 4294967296 * 4294967296 := by have := HT.out; omega
  have ht1y : t1 * y1 ≤ top := by rw [← ht1]; exact Nat.div_mul_le_self _ _
  have ht1b : t1 < 8589934592 := by
    rw [← ht1, Nat.div_lt_iff_lt_mul (by omega)]
    have := Nat.mul_le_mul_left 8589934592 htop
    omega
  have hE1 : (top : Int) / y1 = (t1 : Int) := by rw [← ht1]; exact (Int.natCast_ediv _ _).symm
  obtain ⟨g0, hg0⟩ : ∃ g0, (if t1 ≤ 4294967295 then t1 else 4294967295) = g0 := ⟨_, rfl⟩
  have hg0t : g0 ≤ t1 := by rw [← hg0]; split <;> omega
  have hg0b : g0 ≤ 4294967295 := by rw [← hg0]; split <;> omega
  have hg0y : g0 * y1 ≤ top := Nat.le_trans (Nat.mul_le_mul_right _ hg0t) ht1y
  obtain ⟨ρ0, hρ0⟩ : ∃ ρ0, top - g0 * y1 = ρ0 := ⟨_, rfl⟩
  have hmulc : (g0 : Int) * y1 = ((g0 * y1 : Nat) : Int) := (Int.natCast_mul ..).symm
  have hE2 : IntKind.u64.wrap ((g0 : Int) * y1) = ((g0 * y1 : Nat) : Int) := by rw [hmulc, IntKind.wrap_u64]; omega
  have hE3 : IntKind.u64.wrap ((top : Int) - ((g0 * y1 : Nat) : Int)) = (ρ0 : Int) := by rw [IntKind.wrap_u64]; omega
  obtain ⟨p, hp⟩ : ∃ p, g0 * y1 = p := ⟨_, rfl⟩
  rw [hp] at hE2 hE3
  have HR0 : Hid (g0 * y1 + ρ0 = top) := by show _ = _; omega
  have HG0 : Hid ((if t1 ≤ 4294967295 then t1 else 4294967295) = g0) := hg0
  have HE1 := Lib.hid ht1; have HTB := Lib.hid htop64
  clear ht1 htop64 ht1y hg0 hg0y hρ0 hmulc hp
  go_enter Tryz.func120, Tryz.ntmps120
  go_wp2_with fail
  go_quiet (fail)
  have hYpos : 0 < val r := by
    have h1 := hVR.out
    have h2 : P j * 1 ≤ P j * (y0 + 4294967296 * y1) := Nat.mul_le_mul_left _ (by omega)
    have h3 := P_pos j
    omega
  have hqb : val l / val r ≤ 4294967295 := by
    have h1 := (Nat.div_lt_iff_lt_mul hYpos).2 (by rw [Nat.mul_comm]; exact HX.out)
    omega
  have hq1 : val l / val r ≤ t1 := by
    rw [← HE1.out, Nat.le_div_iff_mul_le (by omega)]
    exact digit_start hVL.out hAL.out hl0 hVR.out HT.out
  have hqg : val l / val r ≤ g0 := by rw [← HG0.out]; split <;> omega
  have HQ := Lib.hid hqg; have HY0 := Lib.hid hYpos
  have hρ : ρ0 < 4294967296 * 4294967296 := by have := HR0.out; have := HTB.out; omega
  have HRB := Lib.hid hρ
  clear hqg hYpos hqb hq1 hρ
  have hoffA : Off (some ⟨b', o', none⟩) b := fun a ha => by cases ha; exact hoff
  have HOFF := Lib.hid hoffA; clear hoffA hoff
  by_cases hb : t1 ≤ 4294967295
  · obtain rfl : t1 = g0 := by rw [← HG0.out, if_pos hb]
    clear HG0 hg0t
    go_wp2_with fail
    go_loopw [7, 8] (fun sg sr wr => ∃ (g ρ q : Nat), g ≤ 4294967295 ∧ sg = .int .u64 g ∧ sr = .int .u64 ρ ∧ wr = w.drewN q ∧ Hid (ρ < 4294967296 * 4294967296 ∧ Guess (val l / val r) top y1 g ρ)) (fun sg _ _ => (intOf sg).toNat)
    case atStart => exact ⟨t1, ρ0, nq, hb, rfl, rfl, rfl, show Hid _ from ⟨HRB.out, HQ.out, HR0.out⟩⟩
    case round =>
      clear hE1 hE2 hE3 hor1
      obtain ⟨g, ρ, q, hg, rfl, rfl, rfl, HI⟩ := hrel
      by_cases hρB : ρ < 4294967296
      · have hmulN : g * y0 ≤ 4294967295 * 4294967295 := Nat.mul_le_mul (show g ≤ 4294967295 by omega) (show y0 ≤ 4294967295 by omega)
        obtain ⟨v, hv⟩ : ∃ v, g * y0 = v := ⟨_, rfl⟩
        have hwm : IntKind.u64.wrap ((g : Int) * (y0 : Int)) = (v : Int) := by rw [← Int.natCast_mul, hv, IntKind.wrap_u64]; omega
        have hd0 : decide ((ρ : Int) < 4294967296) = true := by simp; omega
        obtain ⟨u, hu⟩ : ∃ u, ρ * 4294967296 + x0 = u := ⟨_, rfl⟩
        have hor2 : bits .or .u64 ((ρ : Int) * 4294967296) (x0 : Int) = (u : Int) := by
          rw [show (ρ : Int) * 4294967296 = ((ρ * 4294967296 : Nat) : Int) from by omega, u64_or_nat _ _ (by omega) (by omega), nat_join 32 (ρ * 4294967296) x0 (by omega) (by omega), hu]
        by_cases hgt : ρ * 4294967296 + x0 < g * y0
        · have hgt' : (u : Int) < (v : Int) := by omega
          have hg1 : 1 ≤ g := by
            rcases Nat.eq_zero_or_pos g with h | h
            · subst h; rw [Nat.zero_mul] at hgt; omega
            · exact h
          have HGT := Lib.hid hgt
          clear hmulN hgt hu hv
          go_wp2_with fail
          go_quiet (fail)
          go_wp2_with fail
          go_roundw
          case rel =>
            have hI := HI.out
            have h1 := digit_round hVL.out hAL.out hVR.out HT.out hI.2.1 hI.2.2 HGT.out
            refine ⟨g - 1, ρ + y1, _, by omega, congrArg (Value.int _) (by omega), congrArg (Value.int _) (by omega), rfl, show Hid _ from ⟨by omega, by omega, ?_⟩⟩
            have h2 := hI.2.2
            obtain ⟨k, rfl⟩ : ∃ k, g = k + 1 := ⟨g - 1, by omega⟩
            rw [Nat.add_mul, Nat.one_mul] at h2
            rw [Nat.add_sub_cancel]; omega
          case measure => simp [intOf]; omega
        · have hd : decide ((u : Int) < (v : Int)) = false := by simp; omega
          have hd' : decide (u < v) = false := by simp; omega
          have HGT := Lib.hid hgt
          clear hmulN hgt hu hv
          have HEX : Hid (val l / val r ≤ g ∧ g ≤ val l / val r + 1) := ⟨HI.out.2.1, digit_exit hVL.out hVR.out hAR.out HT.out HI.out.2.2 hg htop hr0 (by right; have := HGT.out; omega) HY0.out⟩
          by_cases hneg : val l < g * val r
          · have HV : Hid (decide (val l < g * val r) = true) := decide_eq_true hneg
            have hg1 : 1 ≤ g := by
              rcases Nat.eq_zero_or_pos g with h | h
              · subst h; rw [Nat.zero_mul] at hneg; omega
              · exact h
            have HNEG := Lib.hid hneg; clear hneg
            go_wp2_with fail
            go_quiet (fail)
            go_wp2_with (go_at_call 134; refine (subtractTimes_v b o (j + 3) c (j + 2) c' g _ pre post l r _ true (hm.drewN _) HLIM.out HO.out HLEN.out.symm hnc (hy.drewN _) HOFF.out rfl (by omega) (by omega) HV).mono ?_; rintro e w2 ⟨rfl, L1, hm2, hgr2, hlen2, hlim2, hval2⟩)
            go_wp2_with (go_at_call 135; refine (addBack_any b o (j + 3) c (j + 2) c' _ pre post L1 r _ hm2 hlim2 HO.out hlen2.symm hnc ((hy.drewN _).grown hgr2 HOFF.out) HOFF.out rfl (by omega)).mono ?_; rintro e w3 ⟨rfl, L2, hm3, hgr3, hlen3, hlim3, hval3⟩)
            go_ret
            have hYn : val r < P (j + 3) := Nat.lt_of_lt_of_le (val_lt hy.lim) (P_le (by have := hy.len; omega))
            obtain ⟨r1, r2⟩ := digit_neg (q := g - 1) HEX.out.1 HEX.out.2 HY0.out HNEG.out hval2 hYn hval3 (by omega)
            exact ⟨ret_int (by rw [← r1]; omega), L2, hm3, grown_trans' (grown_from hgr2) hgr3, hlen3, hlim3, r2⟩
          · have HV : Hid (decide (val l < g * val r) = false) := decide_eq_false hneg
            have HNEG := Lib.hid hneg; clear hneg
            go_wp2_with fail
            go_quiet (fail)
            go_wp2_with (go_at_call 134; refine (subtractTimes_v b o (j + 3) c (j + 2) c' g _ pre post l r _ false (hm.drewN _) HLIM.out HO.out HLEN.out.symm hnc (hy.drewN _) HOFF.out rfl (by omega) (by omega) HV).mono ?_; rintro e w2 ⟨rfl, L1, hm2, hgr2, hlen2, hlim2, hval2⟩)
            go_ret
            obtain ⟨r1, r2⟩ := digit_pos HEX.out.1 HY0.out HNEG.out hval2
            exact ⟨ret_int (by rw [← r1]), L1, hm2, grown_from hgr2, hlen2, hlim2, r2⟩
      · have hd : decide ((ρ : Int) < 4294967296) = false := by simp; omega
        have HRH := Lib.hid hρB
        have HEX : Hid (val l / val r ≤ g ∧ g ≤ val l / val r + 1) := ⟨HI.out.2.1, digit_exit hVL.out hVR.out hAR.out HT.out HI.out.2.2 hg htop hr0 (by left; have := HRH.out; omega) HY0.out⟩
        by_cases hneg : val l < g * val r
        · have HV : Hid (decide (val l < g * val r) = true) := decide_eq_true hneg
          have hg1 : 1 ≤ g := by
            rcases Nat.eq_zero_or_pos g with h | h
            · subst h; rw [Nat.zero_mul] at hneg; omega
            · exact h
          have HNEG := Lib.hid hneg; clear hneg
          go_wp2_with fail
          go_quiet (fail)
          go_wp2_with (go_at_call 134; refine (subtractTimes_v b o (j + 3) c (j + 2) c' g _ pre post l r _ true (hm.drewN _) HLIM.out HO.out HLEN.out.symm hnc (hy.drewN _) HOFF.out rfl (by omega) (by omega) HV).mono ?_; rintro e w2 ⟨rfl, L1, hm2, hgr2, hlen2, hlim2, hval2⟩)
          go_wp2_with (go_at_call 135; refine (addBack_any b o (j + 3) c (j + 2) c' _ pre post L1 r _ hm2 hlim2 HO.out hlen2.symm hnc ((hy.drewN _).grown hgr2 HOFF.out) HOFF.out rfl (by omega)).mono ?_; rintro e w3 ⟨rfl, L2, hm3, hgr3, hlen3, hlim3, hval3⟩)
          go_ret
          have hYn : val r < P (j + 3) := Nat.lt_of_lt_of_le (val_lt hy.lim) (P_le (by have := hy.len; omega))
          obtain ⟨r1, r2⟩ := digit_neg (q := g - 1) HEX.out.1 HEX.out.2 HY0.out HNEG.out hval2 hYn hval3 (by omega)
          exact ⟨ret_int (by rw [← r1]; omega), L2, hm3, grown_trans' (grown_from hgr2) hgr3, hlen3, hlim3, r2⟩
        · have HV : Hid (decide (val l < g * val r) = false) := decide_eq_false hneg
          have HNEG := Lib.hid hneg; clear hneg
          go_wp2_with fail
          go_quiet (fail)
          go_wp2_with (go_at_call 134; refine (subtractTimes_v b o (j + 3) c (j + 2) c' g _ pre post l r _ false (hm.drewN _) HLIM.out HO.out HLEN.out.symm hnc (hy.drewN _) HOFF.out rfl (by omega) (by omega) HV).mono ?_; rintro e w2 ⟨rfl, L1, hm2, hgr2, hlen2, hlim2, hval2⟩)
          go_ret
          obtain ⟨r1, r2⟩ := digit_pos HEX.out.1 HY0.out HNEG.out hval2
          exact ⟨ret_int (by rw [← r1]), L1, hm2, grown_from hgr2, hlen2, hlim2, r2⟩
  · obtain rfl : 4294967295 = g0 := by rw [← HG0.out, if_neg hb]
    clear HG0 hE2 hE3 hg0t hg0b
    have hE4 : IntKind.u64.wrap ((top : Int) - 4294967295 * (y1 : Int)) = (ρ0 : Int) := by
      have h1 := HR0.out; have h2 := HRB.out
      rw [IntKind.wrap_u64]; omega
    go_wp2_with fail
    go_loopw [7, 8] (fun sg sr wr => ∃ (g ρ q : Nat), g ≤ 4294967295 ∧ sg = .int .u64 g ∧ sr = .int .u64 ρ ∧ wr = w.drewN q ∧ Hid (ρ < 4294967296 * 4294967296 ∧ Guess (val l / val r) top y1 g ρ)) (fun sg _ _ => (intOf sg).toNat)
    case atStart => exact ⟨4294967295, ρ0, nq, Nat.le_refl _, congrArg (Value.int _) (by omega), rfl, rfl, show Hid _ from ⟨HRB.out, HQ.out, HR0.out⟩⟩
    case round =>
      clear hE1 hE4 hor1
      obtain ⟨g, ρ, q, hg, rfl, rfl, rfl, HI⟩ := hrel
      by_cases hρB : ρ < 4294967296
      · have hmulN : g * y0 ≤ 4294967295 * 4294967295 := Nat.mul_le_mul (show g ≤ 4294967295 by omega) (show y0 ≤ 4294967295 by omega)
        obtain ⟨v, hv⟩ : ∃ v, g * y0 = v := ⟨_, rfl⟩
        have hwm : IntKind.u64.wrap ((g : Int) * (y0 : Int)) = (v : Int) := by rw [← Int.natCast_mul, hv, IntKind.wrap_u64]; omega
        have hd0 : decide ((ρ : Int) < 4294967296) = true := by simp; omega
        obtain ⟨u, hu⟩ : ∃ u, ρ * 4294967296 + x0 = u := ⟨_, rfl⟩
        have hor2 : bits .or .u64 ((ρ : Int) * 4294967296) (x0 : Int) = (u : Int) := by
          rw [show (ρ : Int) * 4294967296 = ((ρ * 4294967296 : Nat) : Int) from by omega, u64_or_nat _ _ (by omega) (by omega), nat_join 32 (ρ * 4294967296) x0 (by omega) (by omega), hu]
        by_cases hgt : ρ * 4294967296 + x0 < g * y0
        · have hgt' : (u : Int) < (v : Int) := by omega
          have hg1 : 1 ≤ g := by
            rcases Nat.eq_zero_or_pos g with h | h
            · subst h; rw [Nat.zero_mul] at hgt; omega
            · exact h
          have HGT := Lib.hid hgt
          clear hmulN hgt hu hv
          go_wp2_with fail
          go_quiet (fail)
          go_wp2_with fail
          go_roundw
          case rel =>
            have hI := HI.out
            have h1 := digit_round hVL.out hAL.out hVR.out HT.out hI.2.1 hI.2.2 HGT.out
            refine ⟨g - 1, ρ + y1, _, by omega, congrArg (Value.int _) (by omega), congrArg (Value.int _) (by omega), rfl, show Hid _ from ⟨by omega, by omega, ?_⟩⟩
            have h2 := hI.2.2
            obtain ⟨k, rfl⟩ : ∃ k, g = k + 1 := ⟨g - 1, by omega⟩
            rw [Nat.add_mul, Nat.one_mul] at h2
            rw [Nat.add_sub_cancel]; omega
          case measure => simp [intOf]; omega
        · have hd : decide ((u : Int) < (v : Int)) = false := by simp; omega
          have hd' : decide (u < v) = false := by simp; omega
          have HGT := Lib.hid hgt
          clear hmulN hgt hu hv
          have HEX : Hid (val l / val r ≤ g ∧ g ≤ val l / val r + 1) := ⟨HI.out.2.1, digit_exit hVL.out hVR.out hAR.out HT.out HI.out.2.2 hg htop hr0 (by right; have := HGT.out; omega) HY0.out⟩
          by_cases hneg : val l < g * val r
          · have HV : Hid (decide (val l < g * val r) = true) := decide_eq_true hneg
            have hg1 : 1 ≤ g := by
              rcases Nat.eq_zero_or_pos g with h | h
              · subst h; rw [Nat.zero_mul] at hneg; omega
              · exact h
            have HNEG := Lib.hid hneg; clear hneg
            go_wp2_with fail
            go_quiet (fail)
            go_wp2_with (go_at_call 134; refine (subtractTimes_v b o (j + 3) c (j + 2) c' g _ pre post l r _ true (hm.drewN _) HLIM.out HO.out HLEN.out.symm hnc (hy.drewN _) HOFF.out rfl (by omega) (by omega) HV).mono ?_; rintro e w2 ⟨rfl, L1, hm2, hgr2, hlen2, hlim2, hval2⟩)
            go_wp2_with (go_at_call 135; refine (addBack_any b o (j + 3) c (j + 2) c' _ pre post L1 r _ hm2 hlim2 HO.out hlen2.symm hnc ((hy.drewN _).grown hgr2 HOFF.out) HOFF.out rfl (by omega)).mono ?_; rintro e w3 ⟨rfl, L2, hm3, hgr3, hlen3, hlim3, hval3⟩)
            go_ret
            have hYn : val r < P (j + 3) := Nat.lt_of_lt_of_le (val_lt hy.lim) (P_le (by have := hy.len; omega))
            obtain ⟨r1, r2⟩ := digit_neg (q := g - 1) HEX.out.1 HEX.out.2 HY0.out HNEG.out hval2 hYn hval3 (by omega)
            exact ⟨ret_int (by rw [← r1]; omega), L2, hm3, grown_trans' (grown_from hgr2) hgr3, hlen3, hlim3, r2⟩
          · have HV : Hid (decide (val l < g * val r) = false) := decide_eq_false hneg
            have HNEG := Lib.hid hneg; clear hneg
            go_wp2_with fail
            go_quiet (fail)
            go_wp2_with (go_at_call 134; refine (subtractTimes_v b o (j + 3) c (j + 2) c' g _ pre post l r _ false (hm.drewN _) HLIM.out HO.out HLEN.out.symm hnc (hy.drewN _) HOFF.out rfl (by omega) (by omega) HV).mono ?_; rintro e w2 ⟨rfl, L1, hm2, hgr2, hlen2, hlim2, hval2⟩)
            go_ret
            obtain ⟨r1, r2⟩ := digit_pos HEX.out.1 HY0.out HNEG.out hval2
            exact ⟨ret_int (by rw [← r1]), L1, hm2, grown_from hgr2, hlen2, hlim2, r2⟩
      · have hd : decide ((ρ : Int) < 4294967296) = false := by simp; omega
        have HRH := Lib.hid hρB
        have HEX : Hid (val l / val r ≤ g ∧ g ≤ val l / val r + 1) := ⟨HI.out.2.1, digit_exit hVL.out hVR.out hAR.out HT.out HI.out.2.2 hg htop hr0 (by left; have := HRH.out; omega) HY0.out⟩
        by_cases hneg : val l < g * val r
        · have HV : Hid (decide (val l < g * val r) = true) := decide_eq_true hneg
          have hg1 : 1 ≤ g := by
            rcases Nat.eq_zero_or_pos g with h | h
            · subst h; rw [Nat.zero_mul] at hneg; omega
            · exact h
          have HNEG := Lib.hid hneg; clear hneg
          go_wp2_with fail
          go_quiet (fail)
          go_wp2_with (go_at_call 134; refine (subtractTimes_v b o (j + 3) c (j + 2) c' g _ pre post l r _ true (hm.drewN _) HLIM.out HO.out HLEN.out.symm hnc (hy.drewN _) HOFF.out rfl (by omega) (by omega) HV).mono ?_; rintro e w2 ⟨rfl, L1, hm2, hgr2, hlen2, hlim2, hval2⟩)
          go_wp2_with (go_at_call 135; refine (addBack_any b o (j + 3) c (j + 2) c' _ pre post L1 r _ hm2 hlim2 HO.out hlen2.symm hnc ((hy.drewN _).grown hgr2 HOFF.out) HOFF.out rfl (by omega)).mono ?_; rintro e w3 ⟨rfl, L2, hm3, hgr3, hlen3, hlim3, hval3⟩)
          go_ret
          have hYn : val r < P (j + 3) := Nat.lt_of_lt_of_le (val_lt hy.lim) (P_le (by have := hy.len; omega))
          obtain ⟨r1, r2⟩ := digit_neg (q := g - 1) HEX.out.1 HEX.out.2 HY0.out HNEG.out hval2 hYn hval3 (by omega)
          exact ⟨ret_int (by rw [← r1]; omega), L2, hm3, grown_trans' (grown_from hgr2) hgr3, hlen3, hlim3, r2⟩
        · have HV : Hid (decide (val l < g * val r) = false) := decide_eq_false hneg
          have HNEG := Lib.hid hneg; clear hneg
          go_wp2_with fail
          go_quiet (fail)
          go_wp2_with (go_at_call 134; refine (subtractTimes_v b o (j + 3) c (j + 2) c' g _ pre post l r _ false (hm.drewN _) HLIM.out HO.out HLEN.out.symm hnc (hy.drewN _) HOFF.out rfl (by omega) (by omega) HV).mono ?_; rintro e w2 ⟨rfl, L1, hm2, hgr2, hlen2, hlim2, hval2⟩)
          go_ret
          obtain ⟨r1, r2⟩ := digit_pos HEX.out.1 HY0.out HNEG.out hval2
          exact ⟨ret_int (by rw [← r1]), L1, hm2, grown_from hgr2, hlen2, hlim2, r2⟩
/-- digit, the lengths as they stand at the call. -/
theorem digit_v (b o c j nx ny c' : Nat) (A' : Option Addr) (pre post : List Value) (l r : List Nat) (w : World) (hm : Mid w b pre l post) (hl : Lim l) (ho : pre.length = o) (hlen : l.length = j + 3) (hnc : j + 3 ≤ c) (hnx : nx = j + 3) (hny : ny = j + 2)
    (hy : Num w r A' ny c') (hoff : Off A' b) (htop : 2147483648 ≤ r.getD (j + 1) 0) (hX : val l < val r * 4294967296) (hn : j ≤ 536870912) (q : Nat) (H : Hid (val l / val r = q)) :
    Calls Tryz.prog 120 #[.slice (some ⟨b, o, none⟩) nx c, .slice A' ny c'] w
      (RetMid w (.int .u32 (q : Int)) b pre post (j + 3) fun L => val L = val l % val r) := by
  rw [← H.out]
  subst hnx; subst hny
  obtain ⟨b', o', rfl, _, _⟩ := hy.cells (by omega)
  exact digit_any b o c j b' o' c' pre post l r w hm hl ho hlen hnc hy (hoff _ rfl) htop hX hn
end Go.Proofs.YtggmmgojpamcpaaGreatDoor

namespace Go.Proofs
open Go.Shelf
def Tryz.lays7n29_ren : Go.Shelf.Ren := ⟨fun | 29 => 115 | n => n, fun | 22 => 51 | 3 => 3 | 4 => 4 | 25 => 55 | 54 => 109 | 0 => 0 | 5 => 5 | n => n, fun | 1 => 0 | n => n⟩
theorem Tryz.lays7n29 : Go.Proofs.Lays7.n29 Tryz.prog Tryz.lays7n29_ren := {
  mixed := by kernel_rfl
  f29 := Tryz.func115.trans (congrArg some (by kernel_rfl))
  t0 := Tryz.underlying0
  a0 := Tryz.isAgg0
  z0 := Tryz.sizeOf0
  v0 := Tryz.zeroValue0
  i0 := by kernel_rfl
  t3 := Tryz.underlying3
  a3 := Tryz.isAgg3
  z3 := Tryz.sizeOf3
  v3 := Tryz.zeroValue3
  i3 := by kernel_rfl
  t4 := Tryz.underlying4
  a4 := Tryz.isAgg4
  z4 := Tryz.sizeOf4
  v4 := Tryz.zeroValue4
  i4 := by kernel_rfl
  t5 := Tryz.underlying5
  a5 := Tryz.isAgg5
  z5 := Tryz.sizeOf5
  v5 := Tryz.zeroValue5
  i5 := by kernel_rfl
  t22 := Tryz.underlying51
  a22 := Tryz.isAgg51
  z22 := Tryz.sizeOf51
  v22 := Tryz.zeroValue51
  i22 := by kernel_rfl
  t25 := Tryz.underlying55
  a25 := Tryz.isAgg55
  z25 := Tryz.sizeOf55
  v25 := Tryz.zeroValue55
  i25 := by kernel_rfl
  t54 := Tryz.underlying109
  a54 := Tryz.isAgg109
  z54 := Tryz.sizeOf109
  g1 := by kernel_rfl }
theorem Tryz.tz64 (x : Nat) (hx : x < 18446744073709551616) (w : World) (hT : x ≠ 0 → TabAt 0 Lib.deBruijn64tab w) :
    Calls Tryz.prog 115 #[.int .u64 x] w fun e w' => e = .returned (.int .i64 (Lib.ctz 64 x)) ∧ w' = w := Any7.bits_TrailingZeros64 Tryz.lays7n29 x hx w hT
def Tryz.lays7n28_ren : Go.Shelf.Ren := ⟨fun | 28 => 121 | n => n, fun | 27 => 58 | 3 => 3 | 4 => 4 | 25 => 55 | 53 => 115 | 0 => 0 | 5 => 5 | n => n, fun | 0 => 1 | n => n⟩
theorem Tryz.lays7n28 : Go.Proofs.Lays7.n28 Tryz.prog Tryz.lays7n28_ren := {
  mixed := by kernel_rfl
  f28 := Tryz.func121.trans (congrArg some (by kernel_rfl))
  t0 := Tryz.underlying0
  a0 := Tryz.isAgg0
  z0 := Tryz.sizeOf0
  v0 := Tryz.zeroValue0
  i0 := by kernel_rfl
  t3 := Tryz.underlying3
  a3 := Tryz.isAgg3
  z3 := Tryz.sizeOf3
  v3 := Tryz.zeroValue3
  i3 := by kernel_rfl
  t4 := Tryz.underlying4
  a4 := Tryz.isAgg4
  z4 := Tryz.sizeOf4
  v4 := Tryz.zeroValue4
  i4 := by kernel_rfl
  t5 := Tryz.underlying5
  a5 := Tryz.isAgg5
  z5 := Tryz.sizeOf5
  v5 := Tryz.zeroValue5
  i5 := by kernel_rfl
  t25 := Tryz.underlying55
  a25 := Tryz.isAgg55
  z25 := Tryz.sizeOf55
  v25 := Tryz.zeroValue55
  i25 := by kernel_rfl
  t27 := Tryz.underlying58
  a27 := Tryz.isAgg58
  z27 := Tryz.sizeOf58
  v27 := Tryz.zeroValue58
  i27 := by kernel_rfl
  t53 := Tryz.underlying115
  a53 := Tryz.isAgg115
  z53 := Tryz.sizeOf115
  v53 := Tryz.zeroValue115
  i53 := by kernel_rfl
  g0 := by kernel_rfl }
theorem Tryz.tz32 (x : Nat) (hx : x < 4294967296) (w : World) (hT : x ≠ 0 → TabAt 1 Lib.deBruijn32tab w) :
    Calls Tryz.prog 121 #[.int .u32 x] w fun e w' => e = .returned (.int .i64 (Lib.ctz 32 x)) ∧ w' = w := Any7.bits_TrailingZeros32 Tryz.lays7n28 x hx w hT
def Tryz.lays128_ren : Go.Shelf.Ren := ⟨fun | 128 => 133 | n => n, fun | 51 => 58 | 3 => 3 | 4 => 4 | 46 => 55 | 5 => 5 | 9 => 9 | n => n, fun | n => n⟩
theorem Tryz.lays128 : Go.Proofs.Lays.n128 Tryz.prog Tryz.lays128_ren := {
  mixed := by kernel_rfl
  f128 := Tryz.func133.trans (congrArg some (by kernel_rfl))
  t3 := Tryz.underlying3
  a3 := Tryz.isAgg3
  z3 := Tryz.sizeOf3
  v3 := Tryz.zeroValue3
  t4 := Tryz.underlying4
  a4 := Tryz.isAgg4
  z4 := Tryz.sizeOf4
  v4 := Tryz.zeroValue4
  t5 := Tryz.underlying5
  a5 := Tryz.isAgg5
  z5 := Tryz.sizeOf5
  v5 := Tryz.zeroValue5
  t9 := Tryz.underlying9
  a9 := Tryz.isAgg9
  z9 := Tryz.sizeOf9
  v9 := Tryz.zeroValue9
  t46 := Tryz.underlying55
  a46 := Tryz.isAgg55
  z46 := Tryz.sizeOf55
  v46 := Tryz.zeroValue55
  t51 := Tryz.underlying58
  a51 := Tryz.isAgg58
  z51 := Tryz.sizeOf58
  v51 := Tryz.zeroValue58 }
theorem Tryz.bits_Len32 (x : Int) (w : World) (h0 : 0 ≤ x) (h1 : x ≤ 4294967295) :
    Calls Tryz.prog 133 #[.int .u32 x] w fun e w' => e = .returned (.int .i64 (Lib.bitLen x.toNat)) ∧ w' = w := Any.bits_Len32 Tryz.lays128 x w h0 h1
def Tryz.lays133_ren : Go.Shelf.Ren := ⟨fun | 133 => 119 | 128 => 133 | n => n, fun | 51 => 58 | 3 => 3 | 4 => 4 | 46 => 55 | 5 => 5 | 9 => 9 | n => n, fun | n => n⟩
theorem Tryz.lays133 : Go.Proofs.Lays.n133 Tryz.prog Tryz.lays133_ren := {
  mixed := by kernel_rfl
  f128 := Tryz.func133.trans (congrArg some (by kernel_rfl))
  f133 := Tryz.func119.trans (congrArg some (by kernel_rfl))
  t3 := Tryz.underlying3
  a3 := Tryz.isAgg3
  z3 := Tryz.sizeOf3
  v3 := Tryz.zeroValue3
  t4 := Tryz.underlying4
  a4 := Tryz.isAgg4
  z4 := Tryz.sizeOf4
  v4 := Tryz.zeroValue4
  t5 := Tryz.underlying5
  a5 := Tryz.isAgg5
  z5 := Tryz.sizeOf5
  v5 := Tryz.zeroValue5
  t9 := Tryz.underlying9
  a9 := Tryz.isAgg9
  z9 := Tryz.sizeOf9
  v9 := Tryz.zeroValue9
  t46 := Tryz.underlying55
  a46 := Tryz.isAgg55
  z46 := Tryz.sizeOf55
  v46 := Tryz.zeroValue55
  t51 := Tryz.underlying58
  a51 := Tryz.isAgg58
  z51 := Tryz.sizeOf58
  v51 := Tryz.zeroValue58 }
theorem Tryz.bits_LeadingZeros32 (x : Int) (w : World) (h0 : 0 ≤ x) (h1 : x ≤ 4294967295) :
    Calls Tryz.prog 119 #[.int .u32 x] w fun e w' => e = .returned (.int .i64 (32 - (Lib.bitLen x.toNat : Int))) ∧ w' = w := Any.bits_LeadingZeros32 Tryz.lays133 x w h0 h1
end Go.Proofs

namespace Go.Proofs.YtggmmgojpamcpaaGreatDoor
open Go.RowKit

theorem bitLenAux_spec : ∀ (f x : Nat), 0 < x → x < 2 ^ f → ∃ k, Lib.bitLenAux f x = k + 1 ∧ k < f ∧ 2 ^ k ≤ x ∧ x < 2 ^ (k + 1)
  | 0, x, h0, h => by simp at h; omega
  | f + 1, x, h0, h => by
    have h00 : ∀ g, Lib.bitLenAux g 0 = 0 := fun g => by cases g <;> simp [Lib.bitLenAux]
    unfold Lib.bitLenAux
    rw [if_neg (by omega)]
    by_cases h2 : x / 2 = 0
    · refine ⟨0, by rw [h2, h00], by omega, by simp; omega, by simp; omega⟩
    · obtain ⟨k, e, hk, h3, h4⟩ := bitLenAux_spec f (x / 2) (by omega) (by rw [Nat.pow_succ] at h; omega)
      refine ⟨k + 1, by rw [e]; omega, by omega, by rw [Nat.pow_succ]; omega, by rw [Nat.pow_succ]; omega⟩

/-- LeadingZeros32 of a limb that is not 0: the places by which it must be moved up. -/
theorem lead_any (x : Nat) (w : World) (hx : x < 4294967296) (h0 : 0 < x) :
    ∃ s : Nat, s < 32 ∧ 2147483648 ≤ x * 2 ^ s ∧ x * 2 ^ s < 4294967296 ∧ Calls Tryz.prog 119 #[.int .u32 x] w fun e w' => e = .returned (.int .i64 s) ∧ w = w' := by
  obtain ⟨k, e, hk, h3, h4⟩ := bitLenAux_spec 64 x h0 (Nat.lt_trans hx (by decide))
  have hk32 : k < 32 := by
    rcases Nat.lt_or_ge k 32 with h | h
    · exact h
    · have : 2 ^ 32 ≤ 2 ^ k := Nat.pow_le_pow_right (by decide) h
      have e32 : (2 : Nat) ^ 32 = 4294967296 := rfl
      omega
  have e1 : 2 ^ k * 2 ^ (31 - k) = 2147483648 := by rw [← Nat.pow_add, show k + (31 - k) = 31 from by omega]
  have e2 : 2 ^ (k + 1) * 2 ^ (31 - k) = 4294967296 := by rw [← Nat.pow_add, show k + 1 + (31 - k) = 32 from by omega]
  refine ⟨31 - k, by omega, ?_, ?_, ?_⟩
  · rw [← e1]; exact Nat.mul_le_mul_right _ h3
  · rw [← e2]; exact Nat.mul_lt_mul_of_pos_right h4 (Nat.pow_pos (by decide))
  · refine (Tryz.bits_LeadingZeros32 (x : Int) w (by omega) (by omega)).mono ?_
    rintro e' w' ⟨rfl, rfl⟩
    refine ⟨ret_int ?_, rfl⟩
    rw [Int.toNat_natCast, Lib.bitLen, e]
    omega

def RetOwn2 (w0 : World) (l1 l2 : List Nat) (e : Ending) (w' : World) : Prop :=
  ∃ A n c A' n' c', e = .returned (.tuple #[.slice A n c, .slice A' n' c']) ∧ Own w' w0.heap.size l1 A n c ∧ Own w' w0.heap.size l2 A' n' c' ∧ Below w0.heap.size w0 w'

set_option maxRecDepth 20000 in
set_option maxHeartbeats 1000000 in
theorem divide_less (A A' : Option Addr) (n c m c' a b : Nat) (w : World) (hx : Num w (limbs a) A n c) (hy : Num w (limbs b) A' m c') (hn : n ≤ 268435456) (hm : m ≤ 268435456) (hlt : a < b) :
    Calls Tryz.prog 102 #[.slice A n c, .slice A' m c'] w (RetOwn2 w (limbs (a / b)) (limbs (a % b))) := by
  rw [Nat.div_eq_of_lt hlt, Nat.mod_eq_of_lt hlt, limbs_zero]
  have HC : Hid (cmpI (a : Int) (b : Int) = -1) := cmpI_lt (by omega)
  clear hlt
  go_enter Tryz.func102, Tryz.ntmps102
  go_wp2_with (first
    | (go_at_call 67; refine (order_v _ _ _ _ _ _ a b _ (-1) hx hy (by omega) (by omega) HC).mono ?_; rintro e w' ⟨rfl, q, rfl⟩)
    | (go_at_call 98; refine (clone_l _ _ _ _ _ (hx.drewN _) (by omega)).mono ?_; rintro e w' ⟨A1, n1, c1, rfl, ho1, hb1⟩))
  go_ret2
  exact ⟨none, 0, 0, A1, n1, c1, rfl, Own.nil _ _ _ _, ho1, (below_of_drewN w q _).trans hb1⟩
theorem grown_below {w w' : World} {g B : Nat} (h : w.grownBy w' (some g)) (hB : B ≤ g) (hs : B ≤ w.heap.size) : Below B w w' :=
  ⟨h.os, h.tape, h.output, h.size, fun k hk => h.block k (by omega) (fun e => by have := Option.some.inj e; omega)⟩

set_option maxRecDepth 20000 in
set_option maxHeartbeats 1000000 in
theorem divide_one (A A' : Option Addr) (n c c' a b : Nat) (w : World) (hx : Num w (limbs a) A n c) (hy : Num w (limbs b) A' 1 c') (hn : n ≤ 268435456) (hle : b ≤ a) :
    Calls Tryz.prog 102 #[.slice A n c, .slice A' 1 c'] w (RetOwn2 w (limbs (a / b)) (limbs (a % b))) := by
  obtain ⟨v, hv⟩ : ∃ v, cmpI (a : Int) (b : Int) = v := ⟨_, rfl⟩
  have hv0 : 0 ≤ v := by rw [← hv]; unfold cmpI; rw [if_neg (by omega)]; split <;> omega
  have hd : decide (v < 0) = false := by simp; omega
  have HC := Lib.hid hv; clear hv
  have hlb : limbs b = [b] ∧ 0 < b ∧ b < 4294967296 := by
    have h1 := hy.len
    have h2 := val_limbs b
    have h3 := lim_limbs b
    match h : limbs b, h1 with
    | [x], _ =>
      rw [h] at h2 h3
      have h4 : x = b := by simpa [val] using h2
      subst h4
      refine ⟨rfl, ?_, h3.head⟩
      rcases Nat.eq_zero_or_pos x with h0 | h0
      · rw [h0, limbs_zero] at h; cases h
      · exact h0
  obtain ⟨b', o', y, rfl, hb', hy', _, hcy⟩ := hy.at_ (show 0 < 1 by omega)
  rw [hlb.1] at hy'
  obtain rfl : b = y := hy'
  rw [Nat.add_zero] at hcy
  have hb0 := hlb.2.1
  have hb4 := hlb.2.2
  have hn0 : 0 < n := by
    rw [hx.len]
    rcases Nat.eq_zero_or_pos (limbs a).length with h | h
    · have := limbs_length_zero.1 h; omega
    · exact h
  have hnl := hx.len
  have HNL := Lib.hid hnl
  clear hlb hle hnl
  go_enter Tryz.func102, Tryz.ntmps102
  go_wp2_with (go_at_call 67; refine (order_v _ _ _ _ _ _ a b _ v hx hy (by omega) (by omega) HC).mono ?_; rintro e w' ⟨rfl, q, rfl⟩)
  refine (clone_l _ _ _ _ _ (hx.drewN _) (by omega)).mono ?_
  rintro e w1 ⟨A1, n1, c1, rfl, ho1, hb1⟩
  have hl1 := ho1.len
  obtain ⟨b1, pre, post, rfl, hB1, hmid⟩ := ho1.row (by have := HNL.out; omega)
  have hcap1 := ho1.cap
  have HO1 := Lib.hid ho1
  have hn1 : n1 ≤ 268435456 := by have := HNL.out; omega
  obtain ⟨o1, hpre⟩ : ∃ o1, pre.length = o1 := ⟨_, rfl⟩
  rw [hpre]
  have HPR := Lib.hid hpre
  have HL1 := Lib.hid hl1
  clear hpre ho1 hl1
  have hcy1 : w1.cell? ⟨b', o', none⟩ = some (.int .u32 (b : Int)) := (hb1.cell (p := ⟨b', o', none⟩) hb').trans hcy
  obtain ⟨rm, hrm⟩ : ∃ rm, a % b = rm := ⟨_, rfl⟩
  have hrm4 : rm < 4294967296 := by rw [← hrm]; exact Nat.lt_trans (Nat.mod_lt _ hb0) hb4
  have HML : Hid (rm < 18446744073709551616) := by show _ < _; omega
  have HRM := Lib.hid hrm; clear hrm
  have HRV : Hid (val (limbs a) % b = rm) := by show _ = _; rw [val_limbs]; exact HRM.out
  go_wp2_with (go_at_call 111; refine (divideLimb_v b1 o1 n1 c1 b rm pre post (limbs a) _ hmid (lim_limbs a) HPR.out HL1.out hcap1 hb0 hb4 (by omega) HRV).mono ?_; rintro e w2 ⟨rfl, L, hm2, hgr2, hlen2, hlim2, hval2⟩)
  have hnumL : Num w2 L (some ⟨b1, o1, none⟩) n1 c1 := hm2.num hlim2 HPR.out.symm hlen2.symm hcap1
  have HV2 := Lib.hid hval2; have HLN := Lib.hid hlen2
  clear hval2 hlen2
  go_wp2_with (first
    | (go_at_call 89; refine (trimmed_any _ _ _ L _ hnumL (by omega)).mono ?_; rintro e w' ⟨rfl, rfl⟩)
    | (go_at_call 49; refine (natural_l rm _ HML.out).mono ?_; rintro e w3 ⟨A3, n3, c3, rfl, ho3, hb3⟩))
  go_ret2
  have hb12 : Below w.heap.size w w2 := ((below_of_drewN w q _).trans hb1).trans (grown_below hgr2 hB1 hb1.size)
  refine ⟨_, _, _, A3, n3, c3, rfl, ?_, ?_, hb12.trans (hb3.mono hb12.size)⟩
  · have h := ((hm2.own hB1 hlim2 HPR.out.symm rfl (by have := HLN.out; omega : L.length ≤ c1)).trim).below hb3 (Nat.le_refl _)
    rw [HV2.out, val_limbs] at h
    rw [HV2.out, val_limbs]
    exact h
  · rw [HRM.out]
    exact ho3.more hb12.size

set_option maxRecDepth 20000 in
set_option maxHeartbeats 2000000 in
theorem divide_big (A A' : Option Addr) (n c m c' j a b : Nat) (w : World) (hx : Num w (limbs a) A n c) (hy : Num w (limbs b) A' m c') (hn : n ≤ 268435456) (hmj : m = j + 2) (hle : b ≤ a) :
    Calls Tryz.prog 102 #[.slice A n c, .slice A' m c'] w (RetOwn2 w (limbs (a / b)) (limbs (a % b))) := by
  obtain ⟨v, hv⟩ : ∃ v, cmpI (a : Int) (b : Int) = v := ⟨_, rfl⟩
  have hv0 : 0 ≤ v := by rw [← hv]; unfold cmpI; rw [if_neg (by omega)]; split <;> omega
  have hd : decide (v < 0) = false := by simp; omega
  have HC := Lib.hid hv; clear hv
  have hlb : (limbs b).length = j + 2 := by rw [← hy.len]; exact hmj
  have hmn : m ≤ n := by have := length_mono hle; have := hx.len; omega
  obtain ⟨b', o', yt, rfl, hb', hyt, hyt4, hcy⟩ := hy.at_ (show j + 1 < m by omega)
  have hyt0 : 0 < yt := by rw [← hyt]; have := limbs_last hlb; omega
  have ha := lt_P_length a
  rw [← hx.len] at ha
  have hb0 : 0 < b := by
    rcases Nat.eq_zero_or_pos b with h | h
    · subst h; rw [limbs_zero] at hlb; simp at hlb
    · exact h
  have HLB := Lib.hid hlb; have HYT := Lib.hid hyt; have HA := Lib.hid ha; have HB0 := Lib.hid hb0; have HLE := Lib.hid hle
  have hm1 : ((m : Int) == 1) = false := by simp; omega
  have hmi : (m : Int) - 1 = ((j + 1 : Nat) : Int) := by omega
  have hidx : ((m : Int) - 1).toNat = j + 1 := by omega
  have hidx0 : 0 ≤ (m : Int) - 1 := by omega
  have hidx1 : (m : Int) - 1 < m := by omega
  have hm2 : 2 ≤ m := by omega
  have HMJ := Lib.hid hmj
  clear hmi hlb hyt ha hb0 hle hmj
  go_enter Tryz.func102, Tryz.ntmps102
  go_wp2_with (go_at_call 67; refine (order_v _ _ _ _ _ _ a b _ v hx hy (by omega) (by omega) HC).mono ?_; rintro e w' ⟨rfl, q, rfl⟩)
  obtain ⟨s, hs32, hs1, hs2, hlead⟩ := lead_any yt (w.drewN q) hyt4 hyt0
  refine hlead.mono ?_
  rintro e w' ⟨rfl, rfl⟩
  clear hlead
  obtain ⟨N1, N2, N3, N4⟩ := norm_parts HLB.out HYT.out hs32 hs1 hs2
  obtain ⟨S1, S2⟩ := norm_start HA.out hs32 (show j + 2 ≤ n by have := HMJ.out; omega) N4
  have HN1 := Lib.hid N1; have HN2 := Lib.hid N2; have HN3 := Lib.hid N3; have HN4 := Lib.hid N4; have HS1 := Lib.hid S1; have HS2 := Lib.hid S2
  clear N1 N2 N3 N4 S1 S2
  go_wp2_with fail
  refine (left_any _ _ _ s b _ (hy.drewN q) (by omega) (by omega)).mono ?_
  rintro e w1 ⟨A2, n2, c2, rfl, ho2, hb1⟩
  have hmk := mk_run (n + 1) ((n : Int) + 1) (by omega) (by omega)
  have hbA : Below w1.heap.size w1 (w1.alloc (.cells (zrow (n + 1)) 58)) := (Below.refl _ _).alloc (Nat.le_refl _) _
  have hx1 : Num (w1.alloc (.cells (zrow (n + 1)) 58)) (limbs a) A n c := ((hx.drewN q).below hb1).below hbA
  go_wp2_with fail
  refine (left_any _ _ _ s a _ hx1 (by omega) (by omega)).mono ?_
  rintro e w2 ⟨A3, n3, c3, rfl, ho3, hb2⟩
  have hb12 : Below w1.heap.size w1 w2 := hbA.trans (hb2.mono hbA.size)
  have hrow0 : Row w2 w1.heap.size (List.replicate (n + 1) 0) := (Row.new w1 (n + 1)).below hb2 (by simp)
  have hn3 : n3 ≤ n + 1 := by rw [ho3.len]; exact limbs_length_le HS2.out
  have HN3' := Lib.hid ho3.len
  have hnum3 := ho3.num
  have HRAW : Hid (w2.heap[w1.heap.size]? = some (.cells (u32s (List.replicate (n + 1) 0)).toArray 58 (0, 0))) := hrow0
  clear hmk
  go_wp2_with (with_reducible refine wpList_copy_splice rfl (.tmp 46) (.tmp 49) 22 22 rfl 58 Tryz.underlying22 (by kernel_rfl) _ _ _ _ _ _ rfl rfl w1.heap.size 0 (u32s (List.replicate (n + 1) 0)) 58 HRAW.out (u32s (limbs (a * 2 ^ s))) ?c1 ?c2 ?c3 (u32s_one _) w1.heap.size w1 hb12 (Nat.le_refl _) ?_)
  case c1 => rw [u32s_length, ← HN3'.out]; exact (Nat.min_eq_left hn3).symm
  case c2 =>
    intro hpos
    rw [u32s_length, ← HN3'.out] at hpos
    obtain ⟨b3, o3, hA3, _, hc3⟩ := hnum3.cells hpos
    refine ⟨⟨b3, o3, none⟩, hA3, fun k u hu => ?_⟩
    rw [u32s_get] at hu
    obtain ⟨x, hx', rfl⟩ := Option.map_eq_some_iff.1 hu
    have e : (⟨b3, o3, none⟩ : Addr).add k = ⟨b3, o3 + k, none⟩ := by unfold Addr.add; split <;> simp_all
    rw [e]; exact hc3 k x hx'
  case c3 => rw [u32s_length, u32s_length, List.length_replicate, ← HN3'.out]; omega
  intro w3 hsp hb13
  have hmk2 := mk_run (n - m + 1) ((n : Int) - (m : Int) + 1) (by omega) (by omega)
  obtain ⟨R0, hR0⟩ : ∃ R0, limbs (a * 2 ^ s) ++ List.replicate (n + 1 - n3) 0 = R0 := ⟨_, rfl⟩
  have hrow3 : Row w3 w1.heap.size R0 := by
    have h := hsp.out
    rw [splice, List.take_zero, List.nil_append, Nat.zero_add, u32s_length, ← HN3'.out] at h
    rw [show (u32s (List.replicate (n + 1) 0)).drop n3 = u32s (List.replicate (n + 1 - n3) 0) from by simp [u32s], ← u32s_append, hR0] at h
    exact h
  have HI0 : Hid (R0.length = n + 1 ∧ Lim R0 ∧ val (R0.drop (n - m + 1)) < b * 2 ^ s ∧ val R0 = a * 2 ^ s) := by
    have hv : val R0 = a * 2 ^ s := by rw [← hR0, val_padded, val_limbs]
    have hl : R0.length = n + 1 := by rw [← hR0, List.length_append, List.length_replicate, ← HN3'.out]; omega
    have hli : Lim R0 := by rw [← hR0]; exact (lim_limbs _).append (Lim.zeros _)
    refine ⟨hl, hli, ?_, hv⟩
    rw [val_drop hli _ (by omega), hv, Nat.div_lt_iff_lt_mul (P_pos _), HMJ.out]
    exact HS1.out
  clear hsp hR0 hnum3 ho3
  have hnum2 := ho2.num
  have hn2 := ho2.len
  have HN2' := Lib.hid hn2
  have hoff2 : Off A2 w1.heap.size := fun x hx => by
    obtain ⟨b2, o2, hA2, hb2, _⟩ := hnum2.cells (by rw [hn2, HN1.out]; omega)
    rw [hA2] at hx; cases hx; simp; omega
  have HOFF := Lib.hid hoff2
  have HO2 := Lib.hid ho2
  have hn2b : n2 ≤ 268435456 := by rw [hn2, HN1.out]; have := HMJ.out; omega
  have hg34 : w1.heap.size < w3.heap.size := hrow3.lt
  clear hn2 hoff2 ho2 hcy hx1
  go_wp2_with fail
  go_loopw [10] (fun si wr => ∃ (k : Nat) (R Q : List Nat), k ≤ n - m + 1 ∧ si = .int .i64 ((k : Int) - 1) ∧ Row wr w1.heap.size R ∧ Row wr w3.heap.size Q ∧ Below w1.heap.size w1 wr ∧
      Hid (R.length = n + 1 ∧ Lim R ∧ val (R.drop k) < b * 2 ^ s ∧ Q.length = n - m + 1 ∧ Lim Q ∧ a * 2 ^ s = P k * val (Q.drop k) * (b * 2 ^ s) + val R))
    (fun si _ => (intOf si + 1).toNat)
  case atStart => exact ⟨n - m + 1, R0, List.replicate (n - m + 1) 0, Nat.le_refl _, congrArg (Value.int _) (by omega), hrow3.alloc _, Row.new _ _, hb13.alloc hb13.size _,
    show Hid _ from ⟨HI0.out.1, HI0.out.2.1, HI0.out.2.2.1, by simp, Lim.zeros _, by rw [List.drop_of_length_le (by simp), HI0.out.2.2.2]; simp [val]⟩⟩
  case round =>
    obtain ⟨k, R, Q, hk, rfl, hR, hQ, hbel, HI⟩ := hrel
    clear hrow3 hmk2 hb13 hrow0
    rcases Nat.eq_zero_or_pos k with h0 | h0
    · subst h0
      have hI := HI.out
      have hfin := norm_end (Q := val Q) (R := val R) HB0.out (by have := hI.2.2.2.2.2; rw [P_zero, Nat.one_mul, List.drop_zero] at this; exact this) (by have := hI.2.2.1; rwa [List.drop_zero] at this)
      have HF := Lib.hid hfin
      have hRn : Num wr R (some ⟨w1.heap.size, 0, none⟩) (n + 1) (n + 1) := hR.num hI.2.1 hI.1.symm (Nat.le_refl _)
      have hQn : Num wr Q (some ⟨w3.heap.size, 0, none⟩) (n - m + 1) (n - m + 1) := hQ.num hI.2.2.2.2.1 hI.2.2.2.1.symm (Nat.le_refl _)
      have hlr := trim_len R hI.2.1
      have hlr2 : (limbs (val R)).length ≤ 536870912 := by rw [hI.1] at hlr; omega
      clear hI hfin hlr
      go_wp2_with fail
      refine (trimmed_any _ _ _ Q _ hQn (by omega)).mono ?_
      rintro e w' ⟨rfl, rfl⟩
      go_wp2_with fail
      refine (trimmed_any _ _ _ R _ hRn (by omega)).mono ?_
      rintro e w' ⟨rfl, rfl⟩
      go_wp2_with fail
      refine (right_any _ _ _ s (val R) _ hRn.trim hlr2 (by omega)).mono ?_
      rintro e w5 ⟨A5, n5, c5, rfl, ho5, hb5⟩
      go_wp2_with fail
      go_ret2
      have hw1 : Below w.heap.size w wr := ((below_of_drewN w q _).trans hb1).trans (hbel.mono hb1.size)
      refine ⟨_, _, _, A5, n5, c5, rfl, ?_, ?_, hw1.trans (hb5.mono hw1.size)⟩
      · have h := ((hQ.own (c := n - m + 1) (B := w.heap.size) (by have := hb1.size; have h1 : w.heap.size ≤ w1.heap.size := this; omega) HI.out.2.2.2.2.1 (by rw [HI.out.2.2.2.1]; exact Nat.le_refl _)).trim).below hb5 (Nat.le_refl _)
        rw [HF.out.1] at h
        rw [HF.out.1]; exact h
      · rw [HF.out.2] at ho5
        exact ho5.more hw1.size
    · obtain ⟨i, rfl⟩ : ∃ i, k = i + 1 := ⟨k - 1, by omega⟩
      have hI := HI.out
      have hkp := knuth_part (i := i) (m := m) hI.2.1 (by omega) (by have := HN3.out; rw [HMJ.out]; exact this) hI.2.2.1
      have hD0 : 0 < b * 2 ^ s := Nat.mul_pos HB0.out (Nat.pow_pos (by decide))
      obtain ⟨qd, hqd⟩ : ∃ qd, val ((R.drop i).take (m + 1)) / (b * 2 ^ s) = qd := ⟨_, rfl⟩
      have HQD : Hid (val ((R.drop i).take (m + 1)) / val (limbs (b * 2 ^ s)) = qd) := by show _ = _; rw [val_limbs]; exact hqd
      have HQD' := Lib.hid hqd
      have HKP := Lib.hid hkp; have HD0 := Lib.hid hD0
      have hir : (u32s (R.take i)).length = i := by rw [u32s_length, List.length_take]; omega
      have HIR := Lib.hid hir
      have hmid := hR.mid i (m + 1)
      clear hI hkp hqd hD0 hir
      have e1 : ((i + 1 : Nat) : Int) - 1 = (i : Int) := by omega
      rw [e1]; clear e1
      have hcapne : ¬ n + 1 = i := by omega
      have hsub : i + m + 1 - i = m + 1 := by omega
      have hd2 : Num wr (limbs (b * 2 ^ s)) A2 n2 c2 := (hnum2.below hbel)
      go_wp2_with fail
      refine (digit_v w1.heap.size i _ j _ _ c2 A2 _ _ _ (limbs (b * 2 ^ s)) _ hmid ((HI.out.2.1.drop i).take _) HIR.out (by rw [HKP.out.2.2.2, HMJ.out]) (by have := HMJ.out; omega) (by have := HMJ.out; omega) (by rw [HN2'.out]; exact HN1.out) hd2 HOFF.out HN2.out (by rw [val_limbs]; exact HKP.out.2.1) (by have := HMJ.out; omega) qd HQD).mono ?_
      rintro e w4 ⟨rfl, L, hm4, hgr4, hlen4, hlim4, hval4⟩
      have hR4 := hm4.row
      have hQ4 := hQ.grown hgr4 (fun e => by have := Option.some.inj e; omega)
      have hI := HI.out
      have hstep := knuth_step (L := L) (Q := Q) (i := i) (m := m) (D := b * 2 ^ s) (N := n + 1) (q := qd) hI.2.1 (by omega) (by have := HN3.out; rw [HMJ.out]; exact this) HD0.out hI.2.2.1 (by omega) hI.2.2.2.2.2 (by rw [hlen4, HMJ.out]) hlim4 HQD'.out.symm (by rw [hval4, val_limbs]) hI.1
      have HST := Lib.hid hstep
      obtain ⟨d, hd'⟩ : ∃ d, Q.getD i 0 = d := ⟨_, rfl⟩
      have hcs := hQ4.cell (k := i) (by omega)
      have hfs := hQ4.frozen i
      rw [hd'] at hcs
      have hbel4 : Below w1.heap.size w1 w4 := hbel.trans (grown_below hgr4 (Nat.le_refl _) hbel.size)
      have hqn : Q.length = n - m + 1 := hI.2.2.2.1
      have HQN := Lib.hid hqn
      clear hstep hI hd' hval4 hlen4 hqn hR hQ hmid
      have him : i < n - m + 1 := by omega
      go_wp2_with fail
      go_roundw
      case rel =>
        exact ⟨i, _, Q.set i qd, by omega, rfl, hR4.far (p := ⟨w3.heap.size, i, none⟩) (by simp; omega) _, hQ4.set i qd, hbel4.setCell (p := ⟨w3.heap.size, i, none⟩) (by simp; omega) _,
          show Hid _ from ⟨HST.out.1, HST.out.2.1, HST.out.2.2.1, by rw [List.length_set]; exact HQN.out, HI.out.2.2.2.2.1.set _ HST.out.2.2.2.2, HST.out.2.2.2.1⟩⟩
      case measure => simp [intOf]

/-- divide: the quotient and the remainder of two numbers, the second not 0, in new memory. -/
theorem divide_any (A A' : Option Addr) (n c m c' a b : Nat) (w : World) (hx : Num w (limbs a) A n c) (hy : Num w (limbs b) A' m c') (hn : n ≤ 268435456) (hm : m ≤ 268435456) (hb : b ≠ 0) :
    Calls Tryz.prog 102 #[.slice A n c, .slice A' m c'] w (RetOwn2 w (limbs (a / b)) (limbs (a % b))) := by
  rcases Nat.lt_or_ge a b with h | h
  · exact divide_less A A' n c m c' a b w hx hy hn hm h
  · have hm0 : m ≠ 0 := by
      intro h0
      have := hy.len
      exact hb (limbs_length_zero.1 (by omega))
    by_cases h1 : m = 1
    · subst h1
      exact divide_one A A' n c c' a b w hx hy hn h
    · exact divide_big A A' n c m c' (m - 2) a b w hx hy hn (by omega) h
end Go.Proofs.YtggmmgojpamcpaaGreatDoor

namespace Go.Proofs.YtggmmgojpamcpaaGreatDoor
open Go.RowKit

/-- The two tables of math/bits lie as the library lays them. -/
structure Tab (w : World) : Prop where
  t64 : TabAt 0 Lib.deBruijn64tab w
  t32 : TabAt 1 Lib.deBruijn32tab w
theorem Tab.keep {w w' : World} (h : Tab w) (hk : ∀ b, b < w.heap.size → w'.heap[b]? = w.heap[b]?) : Tab w' :=
  ⟨fun j hj => by have h1 := h.t64 j hj; exact (World.cell?_of_block (w := w) (hk _ (block_lt_of_cell h1))).trans h1, fun j hj => by have h1 := h.t32 j hj; exact (World.cell?_of_block (w := w) (hk _ (block_lt_of_cell h1))).trans h1⟩
theorem Tab.below {w w' : World} (h : Tab w) (hb : Below w.heap.size w w') : Tab w' := h.keep hb.block
theorem Tab.drewN {w : World} (h : Tab w) (n : Nat) : Tab (w.drewN n) := ⟨h.t64, h.t32⟩
theorem Tab.drew {w : World} (h : Tab w) : Tab w.drew := ⟨h.t64, h.t32⟩

theorem tz64_v (x : Nat) (X : Int) (w : World) (hT : Tab w) (hX : Hid (X = (x : Int))) (h0 : 0 < x) (hx : Hid (x < 18446744073709551616)) (z : Nat) (hz : IsTz x z) :
    Calls Tryz.prog 115 #[.int .u64 X] w fun e w' => e = .returned (.int .i64 (z : Int)) ∧ w = w' := by
  have e := hX.out; subst e
  have h1 := isTz_ctz (f := 64) h0 hx.out
  have h2 := isTz_unique hz h1.1
  rw [h2]
  exact (Tryz.tz64 x hx.out w (fun _ => hT.t64)).mono fun _ _ ⟨a, b⟩ => ⟨a, b.symm⟩
theorem tz32_v (x : Nat) (w : World) (hT : Tab w) (h0 : 0 < x) (hx : x < 4294967296) (z : Nat) (hz : IsTz x z) :
    Calls Tryz.prog 121 #[.int .u32 (x : Int)] w fun e w' => e = .returned (.int .i64 (z : Int)) ∧ w = w' := by
  have h1 := isTz_ctz (f := 32) h0 hx
  have h2 := isTz_unique hz h1.1
  rw [h2]
  exact (Tryz.tz32 x hx w (fun _ => hT.t32)).mono fun _ _ ⟨a, b⟩ => ⟨a, b.symm⟩
theorem exists_tz {x : Nat} (h0 : 0 < x) (hx : x < 18446744073709551616) : ∃ z, IsTz x z ∧ z < 64 := by
  have h1 := isTz_ctz (f := 64) h0 hx
  exact ⟨_, h1.1, h1.2⟩

set_option maxRecDepth 20000 in
set_option maxHeartbeats 1000000 in
theorem smallDivisor_pos (x y : Nat) (w : World) (hT : Tab w) (hx0 : 0 < x) (hy0 : 0 < y) (HXL : Hid (x < 18446744073709551616)) (HYL : Hid (y < 18446744073709551616)) :
    Calls Tryz.prog 93 #[.int .u64 x, .int .u64 y] w fun e w' => e = .returned (.int .u64 ((Nat.gcd x y : Nat) : Int)) ∧ w = w' := by
  obtain ⟨i, hi, hi64⟩ := exists_tz hx0 HXL.out
  obtain ⟨k, hk, hk64⟩ := exists_tz hy0 HYL.out
  have hx1 : ((x : Int) == 0) = false := by simp; omega
  have hy1 : ((y : Int) == 0) = false := by simp; omega
  have hor : bits .or .u64 (x : Int) (y : Int) = ((x ||| y : Nat) : Int) := u64_or_nat x y HXL.out HYL.out
  obtain ⟨o, ho⟩ : ∃ o, x ||| y = o := ⟨_, rfl⟩
  rw [ho] at hor
  have ho0 : 0 < o := by
    rcases Nat.eq_zero_or_pos o with h | h
    · rw [h] at ho; have := Nat.or_eq_zero_iff.1 ho; omega
    · exact h
  have HOL : Hid (o < 18446744073709551616) := by show _ < _; rw [← ho]; exact Nat.or_lt_two_pow (n := 64) HXL.out HYL.out
  have hoz : IsTz o (min i k) := by rw [← ho]; exact isTz_or hi hk
  obtain ⟨sh, hsh⟩ : ∃ sh, min i k = sh := ⟨_, rfl⟩
  have hsh64 : sh < 64 := by omega
  rw [hsh] at hoz
  obtain ⟨x1, hx1'⟩ : ∃ x1, x / 2 ^ i = x1 := ⟨_, rfl⟩
  have hdx : (x : Int) / 2 ^ i = (x1 : Int) := by rw [← hx1']; push_cast; rfl
  have HX1 : Hid (x1 % 2 = 1 ∧ x1 ≤ x ∧ Nat.gcd x1 y * 2 ^ sh = Nat.gcd x y) := by
    refine ⟨by rw [← hx1']; exact hi.odd, by rw [← hx1']; exact Nat.div_le_self _ _, by rw [← hx1', ← hsh]; exact gcd_binary hi hk⟩
  have HG : Hid (Nat.gcd x1 y = Nat.gcd x1 y) := rfl
  clear ho hsh hx1' hk hk64
  go_enter Tryz.func93, Tryz.ntmps93
  go_wp2_with fail
  refine (tz64_v o _ _ hT rfl ho0 HOL sh hoz).mono ?_
  rintro e w' ⟨rfl, rfl⟩
  go_wp2_with fail
  refine (tz64_v x _ _ hT rfl hx0 HXL i hi).mono ?_
  rintro e w' ⟨rfl, rfl⟩
  go_wp2_with fail
  clear hor hdx hx1 hy1 hoz ho0 hi
  go_loop [0, 1] (fun s0 s1 => ∃ p r : Nat, s0 = .int .u64 p ∧ s1 = .int .u64 r ∧ Hid (p % 2 = 1 ∧ p < 18446744073709551616 ∧ r < 18446744073709551616 ∧ Nat.gcd p r = Nat.gcd x1 y)) (fun s0 s1 => (intOf s0).toNat + (intOf s1).toNat)
  case atStart => exact ⟨x1, y, rfl, rfl, show Hid _ from ⟨HX1.out.1, Nat.lt_of_le_of_lt HX1.out.2.1 HXL.out, HYL.out, rfl⟩⟩
  case round =>
    obtain ⟨p, r, rfl, rfl, HI⟩ := hrel
    rcases Nat.eq_zero_or_pos r with h0 | h0
    · subst h0
      obtain ⟨G, hG⟩ : ∃ G, Nat.gcd x y = G := ⟨_, rfl⟩
      have hshl : IntKind.u64.wrap ((p : Int) * 2 ^ sh) = (G : Int) := by
        have h1 := HI.out.2.2.2
        rw [Nat.gcd_zero_right] at h1
        have h2 : p * 2 ^ sh = G := by rw [h1, HX1.out.2.2, hG]
        have h3 : (p : Int) * 2 ^ sh = (G : Int) := by rw [← h2]; push_cast; rfl
        have h4 : G ≤ x := by rw [← hG]; exact Nat.le_of_dvd hx0 (Nat.gcd_dvd_left _ _)
        have h5 := HXL.out
        rw [h3, IntKind.wrap_u64]; omega
      have HGG := Lib.hid hG; clear hG
      go_wp2_with fail
      go_ret
      exact ⟨ret_int (by rw [HGG.out]), rfl⟩
    · obtain ⟨z, hz, hz64⟩ := exists_tz h0 HI.out.2.2.1
      have hne : ((r : Int) != 0) = true := by simp; omega
      have HRL : Hid (r < 18446744073709551616) := HI.out.2.2.1
      obtain ⟨r1, hr1⟩ : ∃ r1, r / 2 ^ z = r1 := ⟨_, rfl⟩
      have hdr : (r : Int) / 2 ^ z = (r1 : Int) := by rw [← hr1]; push_cast; rfl
      have hr1o : r1 % 2 = 1 := by rw [← hr1]; exact hz.odd
      have hr1r : r1 ≤ r := by rw [← hr1]; exact Nat.div_le_self _ _
      have hg : Nat.gcd p r1 = Nat.gcd p r := by rw [← hr1]; exact gcd_odd_tz HI.out.1 hz
      have HGR := Lib.hid hg; have HR1 := Lib.hid hr1o
      clear hr1 hg hr1o
      have hp0 : 0 < p := by have := HI.out.1; omega
      by_cases hgt : r1 < p
      · obtain ⟨r2, hr2⟩ : ∃ r2, p - r1 = r2 := ⟨_, rfl⟩
        have hsw : IntKind.u64.wrap ((p : Int) - r1) = (r2 : Int) := by have := HI.out.2.1; rw [IntKind.wrap_u64]; omega
        have hgti : (r1 : Int) < p := by omega
        have HR2 := Lib.hid hr2; clear hr2
        go_wp2_with fail
        refine (tz64_v r _ _ hT rfl h0 HRL z hz).mono ?_
        rintro e w' ⟨rfl, rfl⟩
        go_wp2_with fail
        go_round
        case rel =>
          have h1 := HI.out
          have h2 := HR2.out
          have hg2 : Nat.gcd r1 r2 = Nat.gcd x1 y := by rw [← h2, gcd_sub_step (by omega), Nat.gcd_comm, HGR.out, h1.2.2.2]
          exact ⟨r1, r2, rfl, rfl, show Hid _ from ⟨HR1.out, by omega, by omega, hg2⟩⟩
        case measure => have h2 := HR2.out; have h3 := HR1.out; simp [intOf]; omega
      · obtain ⟨r2, hr2⟩ : ∃ r2, r1 - p = r2 := ⟨_, rfl⟩
        have hsw : IntKind.u64.wrap ((r1 : Int) - p) = (r2 : Int) := by have := HI.out.2.2.1; rw [IntKind.wrap_u64]; omega
        have hgti : decide ((r1 : Int) < p) = false := by simp; omega
        have hgti' : decide (r1 < p) = false := by simp; omega
        have HR2 := Lib.hid hr2; clear hr2
        go_wp2_with fail
        refine (tz64_v r _ _ hT rfl h0 HRL z hz).mono ?_
        rintro e w' ⟨rfl, rfl⟩
        go_wp2_with fail
        go_round
        case rel =>
          have h1 := HI.out
          have h2 := HR2.out
          have hg2 : Nat.gcd p r2 = Nat.gcd x1 y := by rw [← h2, gcd_sub_step (by omega), HGR.out, h1.2.2.2]
          exact ⟨p, r2, rfl, rfl, show Hid _ from ⟨h1.1, h1.2.1, by omega, hg2⟩⟩
        case measure => have h2 := HR2.out; simp [intOf]; omega

set_option maxRecDepth 20000 in
set_option maxHeartbeats 1000000 in
theorem smallDivisor_zero_left (y : Nat) (w : World) (HYL : Hid (y < 18446744073709551616)) :
    Calls Tryz.prog 93 #[.int .u64 0, .int .u64 y] w fun e w' => e = .returned (.int .u64 (y : Int)) ∧ w = w' := by
  have hor : bits .or .u64 0 (y : Int) = (y : Int) := by
    have := u64_or_nat 0 y (by decide) HYL.out
    rwa [Nat.zero_or] at this
  go_enter Tryz.func93, Tryz.ntmps93
  go_wp2_with fail
  go_ret
  exact ⟨rfl, rfl⟩
set_option maxRecDepth 20000 in
set_option maxHeartbeats 1000000 in
theorem smallDivisor_zero_right (x : Nat) (w : World) (hx : 0 < x) (HXL : Hid (x < 18446744073709551616)) :
    Calls Tryz.prog 93 #[.int .u64 x, .int .u64 0] w fun e w' => e = .returned (.int .u64 (x : Int)) ∧ w = w' := by
  have hor : bits .or .u64 (x : Int) 0 = (x : Int) := by
    have := u64_or_nat x 0 HXL.out (by decide)
    rwa [Nat.or_zero] at this
  have hx1 : ((x : Int) == 0) = false := by simp; omega
  go_enter Tryz.func93, Tryz.ntmps93
  go_wp2_with fail
  go_ret
  exact ⟨rfl, rfl⟩

/-- smallDivisor: the greatest common divisor. -/
theorem smallDivisor_any (x y G : Nat) (w : World) (hT : Tab w) (HXL : Hid (x < 18446744073709551616)) (HYL : Hid (y < 18446744073709551616)) (HG : Hid (Nat.gcd x y = G)) :
    Calls Tryz.prog 93 #[.int .u64 x, .int .u64 y] w fun e w' => e = .returned (.int .u64 (G : Int)) ∧ w = w' := by
  rw [← HG.out]
  rcases Nat.eq_zero_or_pos x with h | h
  · subst h; rw [Nat.gcd_zero_left]; exact smallDivisor_zero_left y w HYL
  · rcases Nat.eq_zero_or_pos y with h' | h'
    · subst h'; rw [Nat.gcd_zero_right]; exact smallDivisor_zero_right x w h HXL
    · exact smallDivisor_pos x y w hT h h' HXL HYL

set_option maxRecDepth 20000 in
set_option maxHeartbeats 1000000 in
/-- zeros: the number of zeros at the low end, 0 for the number 0. -/
theorem zeros_any (A : Option Addr) (n c a z : Nat) (w : World) (hT : Tab w) (hx : Num w (limbs a) A n c) (hn : n ≤ 1073741824) (H : Hid ((a = 0 ∧ z = 0) ∨ IsTz a z)) :
    Calls Tryz.prog 105 #[.slice A n c] w fun e w' => e = .returned (.int .i64 (z : Int)) ∧ w = w' := by
  go_enter Tryz.func105, Tryz.ntmps105
  go_wp2_with fail
  go_loop [7] (fun si => ∃ k : Nat, k ≤ n ∧ si = .int .i64 k ∧ Hid (∀ j, j < k → (limbs a).getD j 0 = 0)) (fun si => n - (intOf si).toNat)
  case atStart => exact ⟨0, Nat.zero_le _, rfl, show Hid _ from fun j hj => by omega⟩
  case round =>
    obtain ⟨k, hk, rfl, HI⟩ := hrel
    by_cases hkn : k < n
    · obtain ⟨b, o, v, rfl, _, hv, hv4, hcv⟩ := hx.at_ hkn
      have HV := Lib.hid hv; clear hv
      by_cases hv0 : v = 0
      · subst hv0
        go_wp2_with fail
        go_round
        case rel => exact ⟨k + 1, by omega, by go_num, show Hid _ from fun j hj => by
          rcases Nat.lt_or_ge j k with h | h
          · exact HI.out j h
          · obtain rfl : j = k := by omega
            exact HV.out⟩
        case measure => simp [intOf]; omega
      · have hne : ((v : Int) != 0) = true := by simp; omega
        obtain ⟨t, ht, _⟩ := exists_tz (x := v) (by omega) (by omega)
        have ht32 : t < 32 := by
          have h1 := ht.le (by omega)
          rcases Nat.lt_or_ge t 32 with h | h
          · exact h
          · have := Nat.pow_le_pow_right (n := 2) (by decide) h
            have e32 : (2 : Nat) ^ 32 = 4294967296 := rfl
            omega
        have hz := isTz_limb (by rw [← hx.len]; exact hkn) HI.out HV.out ht ht32
        have HZ : Hid (32 * k + t = z) := by
          rcases H.out with ⟨h, _⟩ | h
          · subst h
            have := hx.len
            rw [limbs_zero] at this
            simp at this; omega
          · exact isTz_unique hz h
        have hvpos : 0 < v := by omega
        clear hz hv0
        go_wp2_with (go_at_call 121; refine (tz32_v v _ hT hvpos hv4 t ht).mono ?_; rintro e w' ⟨rfl, rfl⟩)
        go_ret
        exact ⟨ret_int (by rw [← HZ.out]; omega), rfl⟩
    · obtain rfl : k = n := by omega
      have HZ : Hid (z = 0) := by
        rcases H.out with ⟨_, h⟩ | h
        · exact h
        · exfalso
          have hv : val (limbs a) = val (List.replicate (limbs a).length 0) := by
            congr 1
            apply eq_of_getD (by simp)
            intro j hj
            rw [getD_zeros]
            exact HI.out j (by rw [hx.len]; exact hj)
          rw [val_limbs, val_zeros] at hv
          subst hv
          obtain ⟨m, hm⟩ := h
          have h1 : 0 < 2 ^ z * (2 * m + 1) := Nat.mul_pos (Nat.pow_pos (by decide)) (by omega)
          omega
      go_wp2_with fail
      go_ret
      exact ⟨ret_int (by rw [HZ.out]; rfl), rfl⟩
end Go.Proofs.YtggmmgojpamcpaaGreatDoor
