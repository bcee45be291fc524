/- math/bits.Div32 and divideLimb. -/
import Derived.Test.YtohbelnfjomcdaaGreatDoorQ02
set_option linter.unusedVariables false
set_option linter.unusedSimpArgs false
namespace Go.Proofs.YtohbelnfjomcdaaGreatDoor
open Go.RowKit

set_option maxHeartbeats 1000000 in
theorem div32 (h lo y : Nat) (w : World) (hh : h < y) (hl : lo < 4294967296) (hy : y < 4294967296) :
    Calls Tryz.prog 268 #[.int .u32 h, .int .u32 lo, .int .u32 y] w fun e w' => e = .returned (.tuple #[.int .u32 (((h * 4294967296 + lo) / y : Nat) : Int), .int .u32 (((h * 4294967296 + lo) % y : Nat) : Int)]) ∧ ∃ q, w' = w.drewN q := by
  have hne : ((y : Int) != 0) = true := by simp; omega
  have hle : decide ((y : Int) ≤ h) = false := by simp; omega
  have hle' : decide (y ≤ h) = false := by simp; omega
  have hy0 : ¬ (y : Int) = 0 := by omega
  have hy0' : ((y : Int) == 0) = false := by simp; omega
  have hdiv : (h * 4294967296 + lo) / y < 4294967296 := by
    rw [Nat.div_lt_iff_lt_mul (by omega)]
    have : h * 4294967296 + 4294967296 ≤ y * 4294967296 := by omega
    omega
  have hmod : (h * 4294967296 + lo) % y < y := Nat.mod_lt _ (by omega)
  have hor : bits .or .u64 ((h : Int) * 4294967296) (lo : Int) = ((h * 4294967296 + lo : Nat) : Int) := by
    rw [show (h : Int) * 4294967296 = ((h * 4294967296 : Nat) : Int) from by omega, u64_or_nat _ _ (by omega) (by omega), nat_join 32 (h * 4294967296) lo (by omega) (by omega)]
  go_enter Tryz.func268, Tryz.ntmps268
  go_wp2_with fail
  go_quiet (fail)
  go_wp2_with fail
  go_ret2
  have e1 : (h : Int) * 4294967296 + lo = ((h * 4294967296 + lo : Nat) : Int) := by omega
  refine ⟨ret_pair ?_ ?_, nq, rfl⟩
  · rw [e1, ← Int.natCast_ediv]; exact Int.emod_eq_of_lt (Int.natCast_nonneg _) (Int.ofNat_lt.2 hdiv)
  · rw [e1, ← Int.natCast_emod]; exact Int.emod_eq_of_lt (Int.natCast_nonneg _) (Int.ofNat_lt.2 (Nat.lt_trans hmod hy))

/-- What is left behind a call that wrote into the limbs of one block alone. -/
def RetMid (w0 : World) (v : Value) (b : Nat) (pre post : List Value) (n : Nat) (Ok : List Nat → Prop) (e : Ending) (w' : World) : Prop :=
  e = .returned v ∧ ∃ L, Mid w' b pre L post ∧ w0.grownBy w' (some b) ∧ L.length = n ∧ Lim L ∧ Ok L

theorem grown_setCell {a w : World} {g : Nat} (h : a.grownBy w (some g)) {p : Addr} (hp : p.block = g) (u : Value) : a.grownBy (w.setCell p u) (some g) :=
  ⟨h.os, h.tape, h.output, by simpa [World.setCell] using h.size, fun i hi hne => (Below.heap_setCell w p u i (by rintro rfl; exact hne (by rw [hp]))).trans (h.block i hi hne)⟩
theorem grown_drewN {a w : World} {row : Option Nat} (h : a.grownBy w row) (n : Nat) : a.grownBy (w.drewN n) row := ⟨h.os, h.tape, h.output, h.size, h.block⟩
theorem grown_drew {a w : World} {row : Option Nat} (h : a.grownBy w row) : a.grownBy w.drew row := ⟨h.os, h.tape, h.output, h.size, h.block⟩

set_option maxRecDepth 20000 in
set_option maxHeartbeats 1000000 in
theorem divideLimb_any (b o n c d : Nat) (pre post : List Value) (l : List Nat) (w : World) (hm : Mid w b pre l post) (hl : Lim l) (ho : pre.length = o) (hlen : n = l.length) (hnc : n ≤ c) (hd0 : 0 < d) (hd : d < 4294967296) (hn : n ≤ 1073741824) :
    Calls Tryz.prog 226 #[.slice (some ⟨b, o, none⟩) n c, .int .u32 d] w (RetMid w (.int .u32 ((val l % d : Nat) : Int)) b pre post n fun L => val L = val l / d) := by
  have HO := Lib.hid ho; have HLEN := Lib.hid hlen; have HLIM := Lib.hid hl
  clear ho hlen hl
  go_enter Tryz.func226, Tryz.ntmps226
  go_wp2_with fail
  go_loopw [5, 6] (fun sr si wr => ∃ (k r : Nat) (L : List Nat), k ≤ n ∧ r < d ∧ sr = .int .u32 r ∧ si = .int .i64 ((k : Int) - 1) ∧ Mid wr b pre L post ∧ w.grownBy wr (some b) ∧ Hid (L.length = n ∧ Lim L ∧ (∀ i, i < k → L.getD i 0 = l.getD i 0) ∧ val (L.drop k) * d + r = val (l.drop k)))
    (fun _ si _ => (intOf si + 1).toNat)
  case atStart => exact ⟨n, 0, l, Nat.le_refl _, hd0, rfl, rfl, hm, World.grownBy.refl _ _, show Hid _ from ⟨HLEN.out.symm, HLIM.out, fun _ _ => rfl, by rw [List.drop_of_length_le (by have := HLEN.out; omega)]; simp [val]⟩⟩
  case round =>
    obtain ⟨k, r, L, hk, hr, rfl, rfl, hrow, hgr, HI⟩ := hrel
    clear hm
    rcases Nat.eq_zero_or_pos k with h0 | h0
    · subst h0
      have HV : Hid (val l % d = r ∧ val L = val l / d) := by
        have h := HI.out.2.2.2
        rw [List.drop_zero, List.drop_zero] at h
        show _ ∧ _
        rw [← h, Nat.mul_comm, Nat.mul_add_mod, Nat.mod_eq_of_lt hr, Nat.mul_add_div hd0, Nat.div_eq_of_lt hr, Nat.add_zero]
        exact ⟨rfl, rfl⟩
      go_wp2_with fail
      go_ret
      exact ⟨ret_int (by rw [HV.out.1]), L, hrow, hgr, HI.out.1, HI.out.2.1, HV.out.2⟩
    · obtain ⟨j, rfl⟩ : ∃ j, k = j + 1 := ⟨k - 1, by omega⟩
      obtain ⟨x, hx'⟩ : ∃ x, L.getD j 0 = x := ⟨_, rfl⟩
      have hx4 : x < 4294967296 := by rw [← hx']; exact HI.out.2.1.getD _
      have hcs := hrow.cell (k := j) (by have := HI.out.1; omega)
      have hfs := hrow.frozen (o + j)
      rw [hx', HO.out] at hcs
      have HX := Lib.hid hx'; clear hx'
      have hjn : (j : Int) < (n : Int) := by omega
      have e1 : ((j + 1 : Nat) : Int) - 1 = (j : Int) := by omega
      rw [e1]; clear e1
      go_wp2_with (go_at_call 268; refine (div32 r x d _ hr hx4 hd).mono ?_; rintro e w' ⟨rfl, q, rfl⟩)
      go_roundw
      case rel =>
        have hI := HI.out
        have hlx : l.getD j 0 = x := by rw [← hI.2.2.1 j (by omega)]; exact HX.out
        have h := div_step (j := j) (q := (r * 4294967296 + x) / d) (r' := (r * 4294967296 + x) % d) (x := x) (N := n) (d := d) (by omega) HLEN.out.symm ⟨hI.1, hI.2.1, fun i hi => hI.2.2.1 i (by omega), hI.2.2.2⟩ hlx
          (by rw [Nat.div_lt_iff_lt_mul hd0]; have : r * 4294967296 + 4294967296 ≤ d * 4294967296 := by omega
              rw [Nat.mul_comm 4294967296 d]; omega) (by rw [Nat.mul_comm, Nat.div_add_mod])
        refine ⟨j, (r * 4294967296 + x) % d, L.set j ((r * 4294967296 + x) / d), by omega, Nat.mod_lt _ hd0, rfl, rfl, (hrow.drewN q).set' (by omega) _ rfl HO.out, grown_setCell (grown_drewN hgr q) rfl _, h⟩
      case measure => simp [intOf]

/-- divideLimb, the remainder behind a name. -/
theorem divideLimb_v (b o n c d rm : Nat) (pre post : List Value) (l : List Nat) (w : World) (hm : Mid w b pre l post) (hl : Lim l) (ho : pre.length = o) (hlen : n = l.length) (hnc : n ≤ c) (hd0 : 0 < d) (hd : d < 4294967296) (hn : n ≤ 1073741824) (H : Hid (val l % d = rm)) :
    Calls Tryz.prog 226 #[.slice (some ⟨b, o, none⟩) n c, .int .u32 d] w (RetMid w (.int .u32 (rm : Int)) b pre post n fun L => val L = val l / d) := by
  have h := divideLimb_any b o n c d pre post l w hm hl ho hlen hnc hd0 hd hn
  rwa [H.out] at h
end Go.Proofs.YtohbelnfjomcdaaGreatDoor

namespace Go.Proofs.YtohbelnfjomcdaaGreatDoor
open Go.RowKit

set_option maxRecDepth 20000 in
set_option maxHeartbeats 1000000 in
theorem subtractTimes_any (b o n c m c' t : Nat) (A' : Option Addr) (pre post : List Value) (l r : List Nat) (w : World) (hm : Mid w b pre l post) (hl : Lim l) (ho : pre.length = o) (hlen : n = l.length) (hnc : n ≤ c)
    (hy : Num w r A' m c') (hoff : Off A' b) (hmn : n = m + 1) (ht : t < 4294967296) (hn : n ≤ 1073741824) :
    Calls Tryz.prog 353 #[.slice (some ⟨b, o, none⟩) n c, .slice A' m c', .int .u64 t] w
      (RetMid w (.bool (decide (val l < t * val r))) b pre post n fun L => val L + t * val r = val l + P n * (ltn (val l) (t * val r))) := by
  have HO := Lib.hid ho; have HLEN := Lib.hid hlen; have HLIM := Lib.hid hl; have HOFF := Lib.hid hoff
  obtain ⟨V, hV⟩ : ∃ V, decide (val l < t * val r) = V := ⟨_, rfl⟩
  rw [hV]
  have HV := Lib.hid hV
  clear ho hlen hl hoff hV
  subst hmn
  go_enter Tryz.func353, Tryz.ntmps353
  go_wp2_with fail
  go_loopw [7, 8, 13] (fun sc sb si wr => ∃ (k cr br : Nat) (L : List Nat), k ≤ m ∧ cr < 4294967296 ∧ br ≤ 1 ∧ sc = .int .u64 cr ∧ sb = .int .u32 br ∧ si = .int .i64 k ∧ Mid wr b pre L post ∧ w.grownBy wr (some b) ∧
      Hid (L.length = m + 1 ∧ Lim L ∧ (∀ i, k ≤ i → L.getD i 0 = l.getD i 0) ∧ val (L.take k) + t * val (r.take k) = val (l.take k) + P k * (cr + br)))
    (fun _ _ si _ => m - (intOf si).toNat)
  case atStart => exact ⟨0, 0, 0, l, Nat.zero_le _, by omega, by omega, rfl, rfl, rfl, hm, World.grownBy.refl _ _, show Hid _ from ⟨HLEN.out.symm, HLIM.out, fun _ _ => rfl, by simp [val]⟩⟩
  case round =>
    obtain ⟨k, cr, br, L, hk, hcr, hbr, rfl, rfl, rfl, hrow, hgr, HI⟩ := hrel
    clear hm
    by_cases hkm : k < m
    · have hyw := hy.grown hgr HOFF.out
      obtain ⟨b', o', y, rfl, _, hy', hy4, hcy⟩ := hyw.at_ hkm
      have HY := Lib.hid hy'; clear hy'
      obtain ⟨x, hx'⟩ : ∃ x, L.getD k 0 = x := ⟨_, rfl⟩
      have hx4 : x < 4294967296 := by rw [← hx']; exact HI.out.2.1.getD _
      have hcs := hrow.cell (k := k) (by have := HI.out.1; omega)
      have hfs := hrow.frozen (o + k)
      rw [hx', HO.out] at hcs
      have HX := Lib.hid hx'; clear hx'
      have hmul0 : 0 ≤ (y : Int) * (t : Int) := Int.mul_nonneg (by omega) (by omega)
      have hmulN : y * t ≤ 18446744065119617025 := Nat.mul_le_mul (show y ≤ 4294967295 by omega) (show t ≤ 4294967295 by omega)
      have hmul1 : (y : Int) * (t : Int) ≤ 18446744065119617025 := by
        rw [← Int.natCast_mul]; omega
      have hmc : ((y * t : Nat) : Int) = (y : Int) * (t : Int) := Int.natCast_mul ..
      have HM := Lib.hid hmc; clear hmc
      have HMN := Lib.hid hmulN; clear hmulN
      have HLO : Hid (((cr : Int) + (y : Int) * (t : Int)) % 4294967296 = (((cr + y * t) % 4294967296 : Nat) : Int)) := by
        show _ = _
        rw [← HM.out]; omega
      have HHI : Hid (((cr : Int) + (y : Int) * (t : Int)) / 4294967296 = (((cr + y * t) / 4294967296 : Nat) : Int)) := by
        show _ = _
        rw [← HM.out]; omega
      go_wp2_with (go_at_call 329; refine (sub32' x _ ((cr + y * t) % 4294967296) br _ HLO hx4 (Nat.mod_lt _ (by decide)) hbr).mono ?_; rintro e w' ⟨rfl, rfl⟩)
      go_roundw
      case rel =>
        have hI := HI.out
        have h := subt_step (k := k) (d := dif x ((cr + y * t) % 4294967296) br) (br' := bor x ((cr + y * t) % 4294967296) br) (by omega) HLEN.out.symm hI (by rw [← hI.2.2.1 k (Nat.le_refl _)]; exact HX.out) HY.out (dif_lt _ _ _) rfl (dif_bor _ _ _ hx4 (Nat.mod_lt _ (by decide)) hbr)
        exact ⟨k + 1, (cr + y * t) / 4294967296, bor x ((cr + y * t) % 4294967296) br, L.set k (dif x ((cr + y * t) % 4294967296) br), by omega, by have := HMN.out; omega, bor_le _ _ _, congrArg (Value.int _) HHI.out, rfl, by go_num, hrow.set' (by omega) _ rfl HO.out, grown_setCell hgr rfl _, h⟩
      case measure => simp [intOf]; omega
    · obtain rfl : k = m := by omega
      obtain ⟨x, hx'⟩ : ∃ x, L.getD k 0 = x := ⟨_, rfl⟩
      have hx4 : x < 4294967296 := by rw [← hx']; exact HI.out.2.1.getD _
      have hcs := hrow.cell (k := k) (by have := HI.out.1; omega)
      have hfs := hrow.frozen (o + k)
      rw [hx', HO.out] at hcs
      have HX := Lib.hid hx'; clear hx'
      have hI := HI.out
      have h := subt_step (k := k) (t := t) (r := r) (y := 0) (s := cr) (d := dif x cr br) (br' := bor x cr br) (by omega) HLEN.out.symm hI (x := x) (by rw [← hI.2.2.1 k (Nat.le_refl _)]; exact HX.out)
        (by rw [List.getD_eq_getElem?_getD, List.getElem?_eq_none (by have := hy.len; omega)]; rfl) (dif_lt _ _ _) (by simp) (by rw [Nat.mod_eq_of_lt hcr]; exact dif_bor _ _ _ hx4 hcr hbr)
      have hfin : (L.set k (dif x cr br)).length = k + 1 ∧ Lim (L.set k (dif x cr br)) ∧ val (L.set k (dif x cr br)) + t * val r = val l + P (k + 1) * bor x cr br := by
        refine ⟨h.1, h.2.1, ?_⟩
        have h2 := h.2.2.2
        rw [List.take_of_length_le (l := L.set k (dif x cr br)) (by omega), List.take_of_length_le (l := r) (by have := hy.len; omega), List.take_of_length_le (l := l) (by have := HLEN.out; omega), Nat.div_eq_of_lt hcr, Nat.zero_add] at h2
        exact h2
      have hb01 := bor_le x cr br
      have hlt1 : val (L.set k (dif x cr br)) < P (k + 1) := by have := val_lt hfin.2.1; rwa [hfin.1] at this
      have hlt2 : t * val r < P (k + 1) := by
        have h1 := val_lt hy.lim
        rw [← hy.len] at h1
        have h2 : t * val r ≤ 4294967296 * val r := Nat.mul_le_mul_right _ (by omega)
        rw [P_succ]; omega
      have HF : Hid (bor x cr br = ltn (val l) (t * val r)) := by
        show _ = _
        have h3 := hfin.2.2
        rcases Nat.lt_or_ge (bor x cr br) 1 with hb | hb
        · have hb0 : bor x cr br = 0 := by omega
          rw [hb0, Nat.mul_zero, Nat.add_zero] at h3
          rw [hb0]; unfold ltn; rw [if_neg (by omega)]
        · have hb1 : bor x cr br = 1 := by omega
          rw [hb1, Nat.mul_one] at h3
          rw [hb1]; unfold ltn; rw [if_pos (by omega)]
      have HFIN := Lib.hid hfin
      obtain ⟨be, hbe⟩ : ∃ be, bor x cr br = be := ⟨_, rfl⟩
      have HBE := Lib.hid hbe
      clear hI h hfin hb01 hlt1 hlt2 hbe
      go_wp2_with (go_at_call 329; refine (sub32 x cr br _ hx4 hcr hbr).mono ?_; rintro e w' ⟨rfl, rfl⟩)
      go_ret
      refine ⟨ret_bool ?_, L.set k (dif x cr br), hrow.set' (by have := HI.out.1; omega) _ rfl HO.out, grown_setCell hgr rfl _, HFIN.out.1, HFIN.out.2.1, by rw [← HF.out]; exact HFIN.out.2.2⟩
      rw [← HV.out, HF.out]
      unfold ltn
      by_cases hlt : val l < t * val r
      · rw [if_pos hlt, decide_eq_true hlt]; rfl
      · rw [if_neg hlt, decide_eq_false hlt]; rfl
set_option maxRecDepth 20000 in
set_option maxHeartbeats 1000000 in
theorem addBack_any (b o n c m c' : Nat) (A' : Option Addr) (pre post : List Value) (l r : List Nat) (w : World) (hm : Mid w b pre l post) (hl : Lim l) (ho : pre.length = o) (hlen : n = l.length) (hnc : n ≤ c)
    (hy : Num w r A' m c') (hoff : Off A' b) (hmn : n = m + 1) (hn : n ≤ 1073741824) :
    Calls Tryz.prog 354 #[.slice (some ⟨b, o, none⟩) n c, .slice A' m c'] w
      (RetMid w (.tuple #[]) b pre post n fun L => val L = (val l + val r) % P n) := by
  have HO := Lib.hid ho; have HLEN := Lib.hid hlen; have HLIM := Lib.hid hl; have HOFF := Lib.hid hoff
  clear ho hlen hl hoff
  subst hmn
  go_enter Tryz.func354, Tryz.ntmps354
  go_wp2_with fail
  go_loopw [4, 9] (fun sc si wr => ∃ (k cr : Nat) (L : List Nat), k ≤ m ∧ cr ≤ 1 ∧ sc = .int .u32 cr ∧ si = .int .i64 k ∧ Mid wr b pre L post ∧ w.grownBy wr (some b) ∧
      Hid (L.length = m + 1 ∧ Lim L ∧ (∀ i, k ≤ i → L.getD i 0 = l.getD i 0) ∧ val (L.take k) + P k * cr = val (l.take k) + val (r.take k)))
    (fun _ si _ => m - (intOf si).toNat)
  case atStart => exact ⟨0, 0, l, Nat.zero_le _, by omega, rfl, rfl, hm, World.grownBy.refl _ _, show Hid _ from ⟨HLEN.out.symm, HLIM.out, fun _ _ => rfl, by simp [val]⟩⟩
  case round =>
    obtain ⟨k, cr, L, hk, hcr, rfl, rfl, hrow, hgr, HI⟩ := hrel
    clear hm
    by_cases hkm : k < m
    · have hyw := hy.grown hgr HOFF.out
      obtain ⟨b', o', y, rfl, _, hy', hy4, hcy⟩ := hyw.at_ hkm
      have HY := Lib.hid hy'; clear hy'
      obtain ⟨x, hx'⟩ : ∃ x, L.getD k 0 = x := ⟨_, rfl⟩
      have hx4 : x < 4294967296 := by rw [← hx']; exact HI.out.2.1.getD _
      have hcs := hrow.cell (k := k) (by have := HI.out.1; omega)
      have hfs := hrow.frozen (o + k)
      rw [hx', HO.out] at hcs
      have HX := Lib.hid hx'; clear hx'
      go_wp2_with (go_at_call 373; refine (add32 x y cr _ hx4 hy4 hcr).mono ?_; rintro e w' ⟨rfl, rfl⟩)
      go_roundw
      case rel =>
        have hI := HI.out
        have h := addt_step (k := k) (d := (x + y + cr) % 4294967296) (c' := (x + y + cr) / 4294967296) (by omega) hI (x := x) (by rw [← hI.2.2.1 k (Nat.le_refl _)]; exact HX.out) HY.out (Nat.mod_lt _ (by decide)) (Nat.mod_add_div ..)
        exact ⟨k + 1, (x + y + cr) / 4294967296, L.set k ((x + y + cr) % 4294967296), by omega, by omega, rfl, by go_num, hrow.set' (by omega) _ rfl HO.out, grown_setCell hgr rfl _, h⟩
      case measure => simp [intOf]; omega
    · obtain rfl : k = m := by omega
      obtain ⟨x, hx'⟩ : ∃ x, L.getD k 0 = x := ⟨_, rfl⟩
      have hx4 : x < 4294967296 := by rw [← hx']; exact HI.out.2.1.getD _
      have hcs := hrow.cell (k := k) (by have := HI.out.1; omega)
      have hfs := hrow.frozen (o + k)
      rw [hx', HO.out] at hcs
      have HX := Lib.hid hx'; clear hx'
      have HF : Hid (val (L.set k ((x + cr) % 4294967296)) = (val l + val r) % P (k + 1)) := by
        show _ = _
        have hI := HI.out
        have h1 := hI.2.2.2
        have h2 : val l = val (l.take k) + P k * x := by
          have h3 := val_take_succ' l k
          rw [List.take_of_length_le (l := l) (i := k + 1) (by have := HLEN.out; omega), ← hI.2.2.1 k (Nat.le_refl _), HX.out] at h3
          exact h3
        have h4 := val_take_set ((x + cr) % 4294967296) (show k < L.length by omega)
        rw [List.take_of_length_le (l := L.set k ((x + cr) % 4294967296)) (by rw [List.length_set]; omega)] at h4
        rw [List.take_of_length_le (l := r) (by have := hy.len; omega)] at h1
        have h5 : val l + val r = val (L.take k) + P k * (x + cr) := by rw [Nat.mul_add]; omega
        have h6 : val (L.take k) < P k := by
          have := val_lt (hI.2.1.take k); rwa [List.length_take, Nat.min_eq_left (by omega)] at this
        rw [h4, h5, P_succ, Nat.mod_mul, Nat.add_mul_mod_self_left, Nat.mod_eq_of_lt h6, Nat.add_mul_div_left _ _ (P_pos k), Nat.div_eq_of_lt h6, Nat.zero_add]
      go_wp2_with fail
      go_end0
      refine ⟨rfl, L.set k ((x + cr) % 4294967296), hrow.set' (by have := HI.out.1; omega) _ (by omega) HO.out, grown_setCell hgr rfl _, by rw [List.length_set]; exact HI.out.1, HI.out.2.1.set _ (Nat.mod_lt _ (by decide)), HF.out⟩
/-- subtractTimes, its answer behind a name. -/
theorem subtractTimes_v (b o n c m c' t : Nat) (A' : Option Addr) (pre post : List Value) (l r : List Nat) (w : World) (V : Bool) (hm : Mid w b pre l post) (hl : Lim l) (ho : pre.length = o) (hlen : n = l.length) (hnc : n ≤ c)
    (hy : Num w r A' m c') (hoff : Off A' b) (hmn : n = m + 1) (ht : t < 4294967296) (hn : n ≤ 1073741824) (hV : Hid (decide (val l < t * val r) = V)) :
    Calls Tryz.prog 353 #[.slice (some ⟨b, o, none⟩) n c, .slice A' m c', .int .u64 t] w
      (RetMid w (.bool V) b pre post n fun L => val L + t * val r = val l + P n * ltn (val l) (t * val r)) := by
  have h := subtractTimes_any b o n c m c' t A' pre post l r w hm hl ho hlen hnc hy hoff hmn ht hn
  rwa [hV.out] at h
theorem grown_trans' {a b c : World} {row : Option Nat} (h : a.grownBy b row) (k : b.grownBy c row) : a.grownBy c row :=
  ⟨k.os.trans h.os, k.tape.trans h.tape, k.output.trans h.output, Nat.le_trans h.size k.size, fun i hi hne => (k.block i (Nat.lt_of_lt_of_le hi h.size) hne).trans (h.block i hi hne)⟩
theorem grown_from {w w' : World} {row : Option Nat} {n : Nat} (h : (w.drewN n).grownBy w' row) : w.grownBy w' row := ⟨h.os, h.tape, h.output, h.size, h.block⟩
end Go.Proofs.YtohbelnfjomcdaaGreatDoor

namespace Go.Proofs.YtohbelnfjomcdaaGreatDoor
open Go.RowKit

section
variable {X Y al ar R x0 x1 x2 y0 y1 top g rest : Nat}
theorem digit_exit (hX : X = al + R * (x0 + 4294967296 * (x1 + 4294967296 * x2))) (hY : Y = ar + R * (y0 + 4294967296 * y1)) (har : ar < R) (hT : x2 * 4294967296 + x1 = top)
    (hg : g * y1 + rest = top) (hgb : g ≤ 4294967295) (hy1 : 2147483648 ≤ y1) (hy0 : y0 < 4294967296) (hex : 4294967296 ≤ rest ∨ g * y0 ≤ rest * 4294967296 + x0) (hY0 : 0 < Y) : g ≤ X / Y + 1 := by
  have h0 : g * y0 ≤ rest * 4294967296 + x0 := by
    rcases hex with h | h
    · have h1 : g * y0 ≤ 4294967295 * 4294967295 := Nat.mul_le_mul hgb (by omega)
      omega
    · exact h
  apply guess_hi (X := X) (Y := Y) (U := x0 + 4294967296 * top) (V := y0 + 4294967296 * y1) (R := R)
  · rw [← hg, Nat.mul_add, Nat.mul_left_comm]; omega
  · rw [hX, ← hT, Nat.mul_comm, show x1 + 4294967296 * x2 = x2 * 4294967296 + x1 from by omega]; omega
  · rw [Nat.add_mul, Nat.one_mul, Nat.mul_comm]
    have := Nat.div_add_mod X Y
    have := Nat.mod_lt X hY0
    omega
  · rw [hY, Nat.mul_comm R, Nat.add_mul _ 1 R, Nat.one_mul]; omega
  · omega
theorem digit_start (hX : X = al + R * (x0 + 4294967296 * (x1 + 4294967296 * x2))) (hal : al < R) (hx0 : x0 < 4294967296) (hY : Y = ar + R * (y0 + 4294967296 * y1)) (hT : x2 * 4294967296 + x1 = top) : X / Y * y1 ≤ top := by
  apply guess_lo (X := X) (Y := Y) (R := R * 4294967296)
  · have := Nat.div_add_mod X Y; rw [Nat.mul_comm]; omega
  · rw [hY, Nat.mul_add, Nat.mul_comm y1, Nat.mul_assoc]; omega
  · have h1 : R * (x0 + 1) ≤ R * 4294967296 := Nat.mul_le_mul_left _ (by omega)
    rw [hX, Nat.mul_add, ← Nat.mul_assoc R, show x1 + 4294967296 * x2 = top from by omega, Nat.add_mul, Nat.one_mul, Nat.mul_comm top]
    rw [Nat.mul_add] at h1
    omega
/-- A guess that the second limb shows to be too great is not the quotient. -/
theorem digit_round (hX : X = al + R * (x0 + 4294967296 * (x1 + 4294967296 * x2))) (hal : al < R) (hY : Y = ar + R * (y0 + 4294967296 * y1)) (hT : x2 * 4294967296 + x1 = top)
    (hq : X / Y ≤ g) (hg : g * y1 + rest = top) (hgt : rest * 4294967296 + x0 < g * y0) : X / Y + 1 ≤ g := by
  rcases Nat.lt_or_ge (X / Y) g with h | h
  · exact h
  · exfalso
    have hgq : X / Y = g := by omega
    have h1 : X / Y * (y0 + 4294967296 * y1) ≤ x0 + 4294967296 * top := by
      apply guess_lo (X := X) (Y := Y) (R := R)
      · have := Nat.div_add_mod X Y; rw [Nat.mul_comm]; omega
      · rw [hY, Nat.mul_comm]; omega
      · rw [hX, show x1 + 4294967296 * x2 = top from by omega, Nat.add_mul, Nat.one_mul, Nat.mul_comm R]; omega
    rw [hgq, ← hg, Nat.mul_add, Nat.mul_left_comm] at h1
    omega
theorem digit_neg {a b n q : Nat} (hq : X / Y ≤ g) (hg : g ≤ X / Y + 1) (hY : 0 < Y) (hlt : X < g * Y) (hL : a + g * Y = X + P n * ltn X (g * Y)) (hYn : Y < P n) (hb : b = (a + Y) % P n) (hqg : g = q + 1) : q = X / Y ∧ b = X % Y := by
  have h1 := Nat.div_add_mod X Y
  have h2 := Nat.mod_lt X hY
  have h3 : g ≠ X / Y := fun h => by rw [h, Nat.mul_comm] at hlt; omega
  have h4 : g = X / Y + 1 := by omega
  have h5 : q = X / Y := by omega
  refine ⟨h5, ?_⟩
  unfold ltn at hL
  rw [if_pos hlt, Nat.mul_one, h4, Nat.add_mul, Nat.one_mul, Nat.mul_comm] at hL
  have h6 : a + Y = X % Y + P n := by omega
  rw [hb, h6, Nat.add_mod_right, Nat.mod_eq_of_lt (by omega)]
theorem digit_pos {a n : Nat} (hq : X / Y ≤ g) (hY : 0 < Y) (hlt : ¬ X < g * Y) (hL : a + g * Y = X + P n * ltn X (g * Y)) : g = X / Y ∧ a = X % Y := by
  have h1 := Nat.div_add_mod X Y
  have h3 : g ≤ X / Y := (Nat.le_div_iff_mul_le hY).2 (by omega)
  have h4 : g = X / Y := by omega
  refine ⟨h4, ?_⟩
  unfold ltn at hL
  rw [if_neg hlt, Nat.mul_zero, Nat.add_zero, h4, Nat.mul_comm] at hL
  omega
end

/-- Where the guess stands: never less than the quotient; what is left of the leading limbs. -/
def Guess (q top y1 g rest : Nat) : Prop := q ≤ g ∧ g * y1 + rest = top

set_option maxRecDepth 20000 in
set_option maxHeartbeats 2000000 in
theorem digit_any (b o c j b' o' c' : Nat) (pre post : List Value) (l r : List Nat) (w : World) (hm : Mid w b pre l post) (hl : Lim l) (ho : pre.length = o) (hlen : l.length = j + 3) (hnc : j + 3 ≤ c)
    (hy : Num w r (some ⟨b', o', none⟩) (j + 2) c') (hoff : b' ≠ b) (htop : 2147483648 ≤ r.getD (j + 1) 0) (hX : val l < val r * 4294967296) (hn : j ≤ 536870912) :
    Calls Tryz.prog 331 #[.slice (some ⟨b, o, none⟩) (j + 3) c, .slice (some ⟨b', o', none⟩) (j + 2) c'] w
      (RetMid w (.int .u32 ((val l / val r : Nat) : Int)) b pre post (j + 3) fun L => val L = val l % val r) := by
  have HO := Lib.hid ho; have HLEN := Lib.hid hlen; have HLIM := Lib.hid hl; have HX := Lib.hid hX
  have hcs0 := hm.cell (k := j) (by omega)
  have hcs1 := hm.cell (k := j + 1) (by omega)
  have hcs2 := hm.cell (k := j + 2) (by omega)
  have hy0 := hy.at' (k := j) (by omega)
  have hy1 := hy.at' (k := j + 1) (by omega)
  have hl0 := hl.getD j
  have hl1 := hl.getD (j + 1)
  have hl2 := hl.getD (j + 2)
  have hr0 := hy.lim.getD j
  have hr1 := hy.lim.getD (j + 1)
  obtain ⟨al, hal, hvl⟩ := top_three hl hlen
  obtain ⟨ar, har, hvr⟩ := top_two hy.lim hy.len.symm
  obtain ⟨x0, e0⟩ : ∃ x, l.getD j 0 = x := ⟨_, rfl⟩
  obtain ⟨x1, e1⟩ : ∃ x, l.getD (j + 1) 0 = x := ⟨_, rfl⟩
  obtain ⟨x2, e2⟩ : ∃ x, l.getD (j + 2) 0 = x := ⟨_, rfl⟩
  obtain ⟨y0, f0⟩ : ∃ x, r.getD j 0 = x := ⟨_, rfl⟩
  obtain ⟨y1, f1⟩ : ∃ x, r.getD (j + 1) 0 = x := ⟨_, rfl⟩
  rw [ho, e0] at hcs0; rw [ho, e1] at hcs1; rw [ho, e2] at hcs2
  rw [f0] at hy0; rw [f1] at hy1 htop
  rw [e0] at hl0 hvl; rw [e1] at hl1 hvl; rw [e2] at hl2 hvl; rw [f0] at hr0 hvr; rw [f1] at hr1 hvr
  obtain ⟨top, ht⟩ : ∃ top, x2 * 4294967296 + x1 = top := ⟨_, rfl⟩
  have hVL := Lib.hid hvl; have hVR := Lib.hid hvr; have hAL := Lib.hid hal; have hAR := Lib.hid har
  clear hvl hvr hal har e0 e1 e2 f0 f1 ho hlen hl hX
  have hor1 : bits .or .u64 ((x2 : Int) * 4294967296) (x1 : Int) = (top : Int) := by
    rw [show (x2 : Int) * 4294967296 = ((x2 * 4294967296 : Nat) : Int) from by omega, u64_or_nat _ _ (by omega) (by omega), nat_join 32 (x2 * 4294967296) x1 (by omega) (by omega), ht]
  have hy10 : ¬ (y1 : Int) = 0 := by omega
  have hy10' : ((y1 : Int) == 0) = false := by simp; omega
  have HT := Lib.hid ht; clear ht
  obtain ⟨t1, ht1⟩ : ∃ t1, top / y1 = t1 := ⟨_, rfl⟩
  have htop64 : top < 4294967296 * 4294967296 := by have := HT.out; omega
  have ht1y : t1 * y1 ≤ top := by rw [← ht1]; exact Nat.div_mul_le_self _ _
  have ht1b : t1 < 8589934592 := by
    rw [← ht1, Nat.div_lt_iff_lt_mul (by omega)]
    have := Nat.mul_le_mul_left 8589934592 htop
    omega
  have hE1 : (top : Int) / y1 = (t1 : Int) := by rw [← ht1]; exact (Int.natCast_ediv _ _).symm
  obtain ⟨g0, hg0⟩ : ∃ g0, (if t1 ≤ 4294967295 then t1 else 4294967295) = g0 := ⟨_, rfl⟩
  have hg0t : g0 ≤ t1 := by rw [← hg0]; split <;> omega
  have hg0b : g0 ≤ 4294967295 := by rw [← hg0]; split <;> omega
  have hg0y : g0 * y1 ≤ top := Nat.le_trans (Nat.mul_le_mul_right _ hg0t) ht1y
  obtain ⟨ρ0, hρ0⟩ : ∃ ρ0, top - g0 * y1 = ρ0 := ⟨_, rfl⟩
  have hmulc : (g0 : Int) * y1 = ((g0 * y1 : Nat) : Int) := (Int.natCast_mul ..).symm
  have hE2 : IntKind.u64.wrap ((g0 : Int) * y1) = ((g0 * y1 : Nat) : Int) := by rw [hmulc, IntKind.wrap_u64]; omega
  have hE3 : IntKind.u64.wrap ((top : Int) - ((g0 * y1 : Nat) : Int)) = (ρ0 : Int) := by rw [IntKind.wrap_u64]; omega
  obtain ⟨p, hp⟩ : ∃ p, g0 * y1 = p := ⟨_, rfl⟩
  rw [hp] at hE2 hE3
  have HR0 : Hid (g0 * y1 + ρ0 = top) := by show _ = _; omega
  have HG0 : Hid ((if t1 ≤ 4294967295 then t1 else 4294967295) = g0) := hg0
  have HE1 := Lib.hid ht1; have HTB := Lib.hid htop64
  clear ht1 htop64 ht1y hg0 hg0y hρ0 hmulc hp
  go_enter Tryz.func331, Tryz.ntmps331
  go_wp2_with fail
  go_quiet (fail)
  have hYpos : 0 < val r := by
    have h1 := hVR.out
    have h2 : P j * 1 ≤ P j * (y0 + 4294967296 * y1) := Nat.mul_le_mul_left _ (by omega)
    have h3 := P_pos j
    omega
  have hqb : val l / val r ≤ 4294967295 := by
    have h1 := (Nat.div_lt_iff_lt_mul hYpos).2 (by rw [Nat.mul_comm]; exact HX.out)
    omega
  have hq1 : val l / val r ≤ t1 := by
    rw [← HE1.out, Nat.le_div_iff_mul_le (by omega)]
    exact digit_start hVL.out hAL.out hl0 hVR.out HT.out
  have hqg : val l / val r ≤ g0 := by rw [← HG0.out]; split <;> omega
  have HQ := Lib.hid hqg; have HY0 := Lib.hid hYpos
  have hρ : ρ0 < 4294967296 * 4294967296 := by have := HR0.out; have := HTB.out; omega
  have HRB := Lib.hid hρ
  clear hqg hYpos hqb hq1 hρ
  have hoffA : Off (some ⟨b', o', none⟩) b := fun a ha => by cases ha; exact hoff
  have HOFF := Lib.hid hoffA; clear hoffA hoff
  by_cases hb : t1 ≤ 4294967295
  · obtain rfl : t1 = g0 := by rw [← HG0.out, if_pos hb]
    clear HG0 hg0t
    go_wp2_with fail
    go_loopw [7, 8] (fun sg sr wr => ∃ (g ρ q : Nat), g ≤ 4294967295 ∧ sg = .int .u64 g ∧ sr = .int .u64 ρ ∧ wr = w.drewN q ∧ Hid (ρ < 4294967296 * 4294967296 ∧ Guess (val l / val r) top y1 g ρ)) (fun sg _ _ => (intOf sg).toNat)
    case atStart => exact ⟨t1, ρ0, nq, hb, rfl, rfl, rfl, show Hid _ from ⟨HRB.out, HQ.out, HR0.out⟩⟩
    case round =>
      clear hE1 hE2 hE3 hor1
      obtain ⟨g, ρ, q, hg, rfl, rfl, rfl, HI⟩ := hrel
      by_cases hρB : ρ < 4294967296
      · have hmulN : g * y0 ≤ 4294967295 * 4294967295 := Nat.mul_le_mul (show g ≤ 4294967295 by omega) (show y0 ≤ 4294967295 by omega)
        obtain ⟨v, hv⟩ : ∃ v, g * y0 = v := ⟨_, rfl⟩
        have hwm : IntKind.u64.wrap ((g : Int) * (y0 : Int)) = (v : Int) := by rw [← Int.natCast_mul, hv, IntKind.wrap_u64]; omega
        have hd0 : decide ((ρ : Int) < 4294967296) = true := by simp; omega
        obtain ⟨u, hu⟩ : ∃ u, ρ * 4294967296 + x0 = u := ⟨_, rfl⟩
        have hor2 : bits .or .u64 ((ρ : Int) * 4294967296) (x0 : Int) = (u : Int) := by
          rw [show (ρ : Int) * 4294967296 = ((ρ * 4294967296 : Nat) : Int) from by omega, u64_or_nat _ _ (by omega) (by omega), nat_join 32 (ρ * 4294967296) x0 (by omega) (by omega), hu]
        by_cases hgt : ρ * 4294967296 + x0 < g * y0
        · have hgt' : (u : Int) < (v : Int) := by omega
          have hg1 : 1 ≤ g := by
            rcases Nat.eq_zero_or_pos g with h | h
            · subst h; rw [Nat.zero_mul] at hgt; omega
            · exact h
          have HGT := Lib.hid hgt
          clear hmulN hgt hu hv
          go_wp2_with fail
          go_quiet (fail)
          go_wp2_with fail
          go_roundw
          case rel =>
            have hI := HI.out
            have h1 := digit_round hVL.out hAL.out hVR.out HT.out hI.2.1 hI.2.2 HGT.out
            refine ⟨g - 1, ρ + y1, _, by omega, congrArg (Value.int _) (by omega), congrArg (Value.int _) (by omega), rfl, show Hid _ from ⟨by omega, by omega, ?_⟩⟩
            have h2 := hI.2.2
            obtain ⟨k, rfl⟩ : ∃ k, g = k + 1 := ⟨g - 1, by omega⟩
            rw [Nat.add_mul, Nat.one_mul] at h2
            rw [Nat.add_sub_cancel]; omega
          case measure => simp [intOf]; omega
        · have hd : decide ((u : Int) < (v : Int)) = false := by simp; omega
          have hd' : decide (u < v) = false := by simp; omega
          have HGT := Lib.hid hgt
          clear hmulN hgt hu hv
          have HEX : Hid (val l / val r ≤ g ∧ g ≤ val l / val r + 1) := ⟨HI.out.2.1, digit_exit hVL.out hVR.out hAR.out HT.out HI.out.2.2 hg htop hr0 (by right; have := HGT.out; omega) HY0.out⟩
          by_cases hneg : val l < g * val r
          · have HV : Hid (decide (val l < g * val r) = true) := decide_eq_true hneg
            have hg1 : 1 ≤ g := by
              rcases Nat.eq_zero_or_pos g with h | h
              · subst h; rw [Nat.zero_mul] at hneg; omega
              · exact h
            have HNEG := Lib.hid hneg; clear hneg
            go_wp2_with fail
            go_quiet (fail)
            go_wp2_with (go_at_call 353; refine (subtractTimes_v b o (j + 3) c (j + 2) c' g _ pre post l r _ true (hm.drewN _) HLIM.out HO.out HLEN.out.symm hnc (hy.drewN _) HOFF.out rfl (by omega) (by omega) HV).mono ?_; rintro e w2 ⟨rfl, L1, hm2, hgr2, hlen2, hlim2, hval2⟩)
            go_wp2_with (go_at_call 354; refine (addBack_any b o (j + 3) c (j + 2) c' _ pre post L1 r _ hm2 hlim2 HO.out hlen2.symm hnc ((hy.drewN _).grown hgr2 HOFF.out) HOFF.out rfl (by omega)).mono ?_; rintro e w3 ⟨rfl, L2, hm3, hgr3, hlen3, hlim3, hval3⟩)
            go_ret
            have hYn : val r < P (j + 3) := Nat.lt_of_lt_of_le (val_lt hy.lim) (P_le (by have := hy.len; omega))
            obtain ⟨r1, r2⟩ := digit_neg (q := g - 1) HEX.out.1 HEX.out.2 HY0.out HNEG.out hval2 hYn hval3 (by omega)
            exact ⟨ret_int (by rw [← r1]; omega), L2, hm3, grown_trans' (grown_from hgr2) hgr3, hlen3, hlim3, r2⟩
          · have HV : Hid (decide (val l < g * val r) = false) := decide_eq_false hneg
            have HNEG := Lib.hid hneg; clear hneg
            go_wp2_with fail
            go_quiet (fail)
            go_wp2_with (go_at_call 353; refine (subtractTimes_v b o (j + 3) c (j + 2) c' g _ pre post l r _ false (hm.drewN _) HLIM.out HO.out HLEN.out.symm hnc (hy.drewN _) HOFF.out rfl (by omega) (by omega) HV).mono ?_; rintro e w2 ⟨rfl, L1, hm2, hgr2, hlen2, hlim2, hval2⟩)
            go_ret
            obtain ⟨r1, r2⟩ := digit_pos HEX.out.1 HY0.out HNEG.out hval2
            exact ⟨ret_int (by rw [← r1]), L1, hm2, grown_from hgr2, hlen2, hlim2, r2⟩
      · have hd : decide ((ρ : Int) < 4294967296) = false := by simp; omega
        have HRH := Lib.hid hρB
        have HEX : Hid (val l / val r ≤ g ∧ g ≤ val l / val r + 1) := ⟨HI.out.2.1, digit_exit hVL.out hVR.out hAR.out HT.out HI.out.2.2 hg htop hr0 (by left; have := HRH.out; omega) HY0.out⟩
        by_cases hneg : val l < g * val r
        · have HV : Hid (decide (val l < g * val r) = true) := decide_eq_true hneg
          have hg1 : 1 ≤ g := by
            rcases Nat.eq_zero_or_pos g with h | h
            · subst h; rw [Nat.zero_mul] at hneg; omega
            · exact h
          have HNEG := Lib.hid hneg; clear hneg
          go_wp2_with fail
          go_quiet (fail)
          go_wp2_with (go_at_call 353; refine (subtractTimes_v b o (j + 3) c (j + 2) c' g _ pre post l r _ true (hm.drewN _) HLIM.out HO.out HLEN.out.symm hnc (hy.drewN _) HOFF.out rfl (by omega) (by omega) HV).mono ?_; rintro e w2 ⟨rfl, L1, hm2, hgr2, hlen2, hlim2, hval2⟩)
          go_wp2_with (go_at_call 354; refine (addBack_any b o (j + 3) c (j + 2) c' _ pre post L1 r _ hm2 hlim2 HO.out hlen2.symm hnc ((hy.drewN _).grown hgr2 HOFF.out) HOFF.out rfl (by omega)).mono ?_; rintro e w3 ⟨rfl, L2, hm3, hgr3, hlen3, hlim3, hval3⟩)
          go_ret
          have hYn : val r < P (j + 3) := Nat.lt_of_lt_of_le (val_lt hy.lim) (P_le (by have := hy.len; omega))
          obtain ⟨r1, r2⟩ := digit_neg (q := g - 1) HEX.out.1 HEX.out.2 HY0.out HNEG.out hval2 hYn hval3 (by omega)
          exact ⟨ret_int (by rw [← r1]; omega), L2, hm3, grown_trans' (grown_from hgr2) hgr3, hlen3, hlim3, r2⟩
        · have HV : Hid (decide (val l < g * val r) = false) := decide_eq_false hneg
          have HNEG := Lib.hid hneg; clear hneg
          go_wp2_with fail
          go_quiet (fail)
          go_wp2_with (go_at_call 353; refine (subtractTimes_v b o (j + 3) c (j + 2) c' g _ pre post l r _ false (hm.drewN _) HLIM.out HO.out HLEN.out.symm hnc (hy.drewN _) HOFF.out rfl (by omega) (by omega) HV).mono ?_; rintro e w2 ⟨rfl, L1, hm2, hgr2, hlen2, hlim2, hval2⟩)
          go_ret
          obtain ⟨r1, r2⟩ := digit_pos HEX.out.1 HY0.out HNEG.out hval2
          exact ⟨ret_int (by rw [← r1]), L1, hm2, grown_from hgr2, hlen2, hlim2, r2⟩
  · obtain rfl : 4294967295 = g0 := by rw [← HG0.out, if_neg hb]
    clear HG0 hE2 hE3 hg0t hg0b
    have hE4 : IntKind.u64.wrap ((top : Int) - 4294967295 * (y1 : Int)) = (ρ0 : Int) := by
      have h1 := HR0.out; have h2 := HRB.out
      rw [IntKind.wrap_u64]; omega
    go_wp2_with fail
    go_loopw [7, 8] (fun sg sr wr => ∃ (g ρ q : Nat), g ≤ 4294967295 ∧ sg = .int .u64 g ∧ sr = .int .u64 ρ ∧ wr = w.drewN q ∧ Hid (ρ < 4294967296 * 4294967296 ∧ Guess (val l / val r) top y1 g ρ)) (fun sg _ _ => (intOf sg).toNat)
    case atStart => exact ⟨4294967295, ρ0, nq, Nat.le_refl _, congrArg (Value.int _) (by omega), rfl, rfl, show Hid _ from ⟨HRB.out, HQ.out, HR0.out⟩⟩
    case round =>
      clear hE1 hE4 hor1
      obtain ⟨g, ρ, q, hg, rfl, rfl, rfl, HI⟩ := hrel
      by_cases hρB : ρ < 4294967296
      · have hmulN : g * y0 ≤ 4294967295 * 4294967295 := Nat.mul_le_mul (show g ≤ 4294967295 by omega) (show y0 ≤ 4294967295 by omega)
        obtain ⟨v, hv⟩ : ∃ v, g * y0 = v := ⟨_, rfl⟩
        have hwm : IntKind.u64.wrap ((g : Int) * (y0 : Int)) = (v : Int) := by rw [← Int.natCast_mul, hv, IntKind.wrap_u64]; omega
        have hd0 : decide ((ρ : Int) < 4294967296) = true := by simp; omega
        obtain ⟨u, hu⟩ : ∃ u, ρ * 4294967296 + x0 = u := ⟨_, rfl⟩
        have hor2 : bits .or .u64 ((ρ : Int) * 4294967296) (x0 : Int) = (u : Int) := by
          rw [show (ρ : Int) * 4294967296 = ((ρ * 4294967296 : Nat) : Int) from by omega, u64_or_nat _ _ (by omega) (by omega), nat_join 32 (ρ * 4294967296) x0 (by omega) (by omega), hu]
        by_cases hgt : ρ * 4294967296 + x0 < g * y0
        · have hgt' : (u : Int) < (v : Int) := by omega
          have hg1 : 1 ≤ g := by
            rcases Nat.eq_zero_or_pos g with h | h
            · subst h; rw [Nat.zero_mul] at hgt; omega
            · exact h
          have HGT := Lib.hid hgt
          clear hmulN hgt hu hv
          go_wp2_with fail
          go_quiet (fail)
          go_wp2_with fail
          go_roundw
          case rel =>
            have hI := HI.out
            have h1 := digit_round hVL.out hAL.out hVR.out HT.out hI.2.1 hI.2.2 HGT.out
            refine ⟨g - 1, ρ + y1, _, by omega, congrArg (Value.int _) (by omega), congrArg (Value.int _) (by omega), rfl, show Hid _ from ⟨by omega, by omega, ?_⟩⟩
            have h2 := hI.2.2
            obtain ⟨k, rfl⟩ : ∃ k, g = k + 1 := ⟨g - 1, by omega⟩
            rw [Nat.add_mul, Nat.one_mul] at h2
            rw [Nat.add_sub_cancel]; omega
          case measure => simp [intOf]; omega
        · have hd : decide ((u : Int) < (v : Int)) = false := by simp; omega
          have hd' : decide (u < v) = false := by simp; omega
          have HGT := Lib.hid hgt
          clear hmulN hgt hu hv
          have HEX : Hid (val l / val r ≤ g ∧ g ≤ val l / val r + 1) := ⟨HI.out.2.1, digit_exit hVL.out hVR.out hAR.out HT.out HI.out.2.2 hg htop hr0 (by right; have := HGT.out; omega) HY0.out⟩
          by_cases hneg : val l < g * val r
          · have HV : Hid (decide (val l < g * val r) = true) := decide_eq_true hneg
            have hg1 : 1 ≤ g := by
              rcases Nat.eq_zero_or_pos g with h | h
              · subst h; rw [Nat.zero_mul] at hneg; omega
              · exact h
            have HNEG := Lib.hid hneg; clear hneg
            go_wp2_with fail
            go_quiet (fail)
            go_wp2_with (go_at_call 353; refine (subtractTimes_v b o (j + 3) c (j + 2) c' g _ pre post l r _ true (hm.drewN _) HLIM.out HO.out HLEN.out.symm hnc (hy.drewN _) HOFF.out rfl (by omega) (by omega) HV).mono ?_; rintro e w2 ⟨rfl, L1, hm2, hgr2, hlen2, hlim2, hval2⟩)
            go_wp2_with (go_at_call 354; refine (addBack_any b o (j + 3) c (j + 2) c' _ pre post L1 r _ hm2 hlim2 HO.out hlen2.symm hnc ((hy.drewN _).grown hgr2 HOFF.out) HOFF.out rfl (by omega)).mono ?_; rintro e w3 ⟨rfl, L2, hm3, hgr3, hlen3, hlim3, hval3⟩)
            go_ret
            have hYn : val r < P (j + 3) := Nat.lt_of_lt_of_le (val_lt hy.lim) (P_le (by have := hy.len; omega))
            obtain ⟨r1, r2⟩ := digit_neg (q := g - 1) HEX.out.1 HEX.out.2 HY0.out HNEG.out hval2 hYn hval3 (by omega)
            exact ⟨ret_int (by rw [← r1]; omega), L2, hm3, grown_trans' (grown_from hgr2) hgr3, hlen3, hlim3, r2⟩
          · have HV : Hid (decide (val l < g * val r) = false) := decide_eq_false hneg
            have HNEG := Lib.hid hneg; clear hneg
            go_wp2_with fail
            go_quiet (fail)
            go_wp2_with (go_at_call 353; refine (subtractTimes_v b o (j + 3) c (j + 2) c' g _ pre post l r _ false (hm.drewN _) HLIM.out HO.out HLEN.out.symm hnc (hy.drewN _) HOFF.out rfl (by omega) (by omega) HV).mono ?_; rintro e w2 ⟨rfl, L1, hm2, hgr2, hlen2, hlim2, hval2⟩)
            go_ret
            obtain ⟨r1, r2⟩ := digit_pos HEX.out.1 HY0.out HNEG.out hval2
            exact ⟨ret_int (by rw [← r1]), L1, hm2, grown_from hgr2, hlen2, hlim2, r2⟩
      · have hd : decide ((ρ : Int) < 4294967296) = false := by simp; omega
        have HRH := Lib.hid hρB
        have HEX : Hid (val l / val r ≤ g ∧ g ≤ val l / val r + 1) := ⟨HI.out.2.1, digit_exit hVL.out hVR.out hAR.out HT.out HI.out.2.2 hg htop hr0 (by left; have := HRH.out; omega) HY0.out⟩
        by_cases hneg : val l < g * val r
        · have HV : Hid (decide (val l < g * val r) = true) := decide_eq_true hneg
          have hg1 : 1 ≤ g := by
            rcases Nat.eq_zero_or_pos g with h | h
            · subst h; rw [Nat.zero_mul] at hneg; omega
            · exact h
          have HNEG := Lib.hid hneg; clear hneg
          go_wp2_with fail
          go_quiet (fail)
          go_wp2_with (go_at_call 353; refine (subtractTimes_v b o (j + 3) c (j + 2) c' g _ pre post l r _ true (hm.drewN _) HLIM.out HO.out HLEN.out.symm hnc (hy.drewN _) HOFF.out rfl (by omega) (by omega) HV).mono ?_; rintro e w2 ⟨rfl, L1, hm2, hgr2, hlen2, hlim2, hval2⟩)
          go_wp2_with (go_at_call 354; refine (addBack_any b o (j + 3) c (j + 2) c' _ pre post L1 r _ hm2 hlim2 HO.out hlen2.symm hnc ((hy.drewN _).grown hgr2 HOFF.out) HOFF.out rfl (by omega)).mono ?_; rintro e w3 ⟨rfl, L2, hm3, hgr3, hlen3, hlim3, hval3⟩)
          go_ret
          have hYn : val r < P (j + 3) := Nat.lt_of_lt_of_le (val_lt hy.lim) (P_le (by have := hy.len; omega))
          obtain ⟨r1, r2⟩ := digit_neg (q := g - 1) HEX.out.1 HEX.out.2 HY0.out HNEG.out hval2 hYn hval3 (by omega)
          exact ⟨ret_int (by rw [← r1]; omega), L2, hm3, grown_trans' (grown_from hgr2) hgr3, hlen3, hlim3, r2⟩
        · have HV : Hid (decide (val l < g * val r) = false) := decide_eq_false hneg
          have HNEG := Lib.hid hneg; clear hneg
          go_wp2_with fail
          go_quiet (fail)
          go_wp2_with (go_at_call 353; refine (subtractTimes_v b o (j + 3) c (j + 2) c' g _ pre post l r _ false (hm.drewN _) HLIM.out HO.out HLEN.out.symm hnc (hy.drewN _) HOFF.out rfl (by omega) (by omega) HV).mono ?_; rintro e w2 ⟨rfl, L1, hm2, hgr2, hlen2, hlim2, hval2⟩)
          go_ret
          obtain ⟨r1, r2⟩ := digit_pos HEX.out.1 HY0.out HNEG.out hval2
          exact ⟨ret_int (by rw [← r1]), L1, hm2, grown_from hgr2, hlen2, hlim2, r2⟩
/-- digit, the lengths as they stand at the call. -/
theorem digit_v (b o c j nx ny c' : Nat) (A' : Option Addr) (pre post : List Value) (l r : List Nat) (w : World) (hm : Mid w b pre l post) (hl : Lim l) (ho : pre.length = o) (hlen : l.length = j + 3) (hnc : j + 3 ≤ c) (hnx : nx = j + 3) (hny : ny = j + 2)
    (hy : Num w r A' ny c') (hoff : Off A' b) (htop : 2147483648 ≤ r.getD (j + 1) 0) (hX : val l < val r * 4294967296) (hn : j ≤ 536870912) (q : Nat) (H : Hid (val l / val r = q)) :
    Calls Tryz.prog 331 #[.slice (some ⟨b, o, none⟩) nx c, .slice A' ny c'] w
      (RetMid w (.int .u32 (q : Int)) b pre post (j + 3) fun L => val L = val l % val r) := by
  rw [← H.out]
  subst hnx; subst hny
  obtain ⟨b', o', rfl, _, _⟩ := hy.cells (by omega)
  exact digit_any b o c j b' o' c' pre post l r w hm hl ho hlen hnc hy (hoff _ rfl) htop hX hn
end Go.Proofs.YtohbelnfjomcdaaGreatDoor
