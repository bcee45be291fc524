/- appendChunk. -/
import Derived.Test.YtggmmgojpamcpaaGreatDoorQ02
import Derived.Test.YtggmmgojpamcpaaGreatDoorQ01
import Derived.Lib.ParseIntBCases
import Derived.Shelf.Small.Bits
import Derived.Shelf.Small.Wraps
import Derived.Shelf.Strconv.Itoa0
import Derived.Shelf.Strconv.Itoa1
import Derived.Shelf.LaysM
import Derived.Shelf.Strconv.Itoa2
import Derived.Shelf.Strconv.Itoa3
import Derived.Shelf.Strconv.Lower
import Derived.Shelf.Strconv.ParseUint10
import Derived.Shelf.Strconv.ParseUintEmpty
import Derived.Shelf.Strconv.ParseUint10b64
import Derived.Shelf.Strconv.ParseUint10b32
import Derived.Shelf.Strconv.ParseUint10b16
import Derived.Shelf.Strconv.ParseUint10b8
import Derived.Shelf.Strconv.ParseUint10At
import Derived.Ground.MpProg
import Derived.Shelf.Pu.ParseUintPublic10
import Derived.Shelf.Pu.ErrVarParseUint
import Derived.Shelf.Strings.Search1
import Derived.Shelf.Strings.Search2
import Derived.Shelf.Strings.Cut
import Derived.Shelf.Strings.Shaped
import Derived.Shelf.Strconv.AppendUint10
import Derived.Shelf.Strconv.AppendInt10
import Derived.Shelf.Strings.Prefix
import Derived.Test.YtggmmgojpamcpaaGreatDoorProg
import Derived.Test.YtggmmgojpamcpaaGreatDoorQ03
import Derived.Test.YtggmmgojpamcpaaGreatDoorQ07
import Derived.RangeFuncNested
import Derived.RangeFuncBound
import Derived.RangeFuncCalls
import Derived.RangeFuncLeaves
import Derived.Shelf.Abstract
import Derived.Shelf.RegionOpen
import Derived.WalkKit
import Derived.OwnWalkIn
import Derived.TacticsInMore
import Derived.LoopNIn
import Derived.LoopIn
namespace Go.Proofs.YtggmmgojpamcpaaGreatDoor
open Go.RowKit

/-- A row of limbs that is the call's own and may grow, handed back; memory below B is as it was. -/
def RetR (w0 : World) (B : Nat) (l : List Nat) (e : Ending) (w' : World) : Prop := ∃ v', e = .returned v' ∧ OwnR w' B v' l ∧ Below B w0 w'

theorem OwnR.mid {w : World} {B g n c : Nat} {l : List Nat} (h : OwnR w B (.slice (some ⟨g, 0, none⟩) n c) l) : n = l.length ∧ B ≤ g ∧ n ≤ c ∧ c ≤ maxLen ∧ ∃ post, Mid w g [] l post ∧ l.length + post.length = c := by
  rcases h.2 with ⟨h0, _⟩ | ⟨g', cap, cur, hv, hB, hh, hnc, hcm, hsz, hcur⟩
  · cases h0
  · injection hv with h1 h2 h3
    injection h1 with h1
    injection h1 with h1
    subst h1 h2 h3
    refine ⟨rfl, hB, hnc, hcm, cur.toList.drop (l.length * 1), ?_, ?_⟩
    · unfold Mid
      rw [hh, List.nil_append, ← hcur, List.take_append_drop, Array.toArray_toList]
    · have h1 : cur.toList.length = c := by rw [Array.length_toList, hsz, Nat.mul_one]
      rw [List.length_drop, h1]; show l.length + (c - l.length * 1) = c; omega
theorem Mid.ownR {w : World} {B g c : Nat} {l : List Nat} {post : List Value} (h : Mid w g [] l post) (hB : B ≤ g) (hc : l.length + post.length = c) (hm : c ≤ maxLen) {n : Nat} (hn : n = l.length) : OwnR w B (.slice (some ⟨g, 0, none⟩) n c) l := by
  subst hn
  refine ⟨by rw [u32s_length]; omega, .inr ⟨g, c, _, rfl, hB, h, by omega, hm, ?_, ?_⟩⟩
  · simp [u32s_length]; omega
  · rw [List.nil_append, show l.length * 1 = (u32s l).length from by rw [u32s_length]; omega]
    simp
theorem OwnR.shape {w : World} {B : Nat} {v : Value} {l : List Nat} (h : OwnR w B v l) : ∃ A c, v = .slice A l.length c ∧ (l ≠ [] → ∃ g, A = some ⟨g, 0, none⟩) := by
  rcases h.2 with ⟨rfl, hn⟩ | ⟨g, cap, cur, rfl, _⟩
  · exact ⟨none, 0, by rw [hn], fun hl => absurd (List.eq_nil_of_length_eq_zero hn) hl⟩
  · exact ⟨_, cap, rfl, fun _ => ⟨g, rfl⟩⟩

theorem Mid.cell0 {w : World} {g : Nat} {l : List Nat} {post : List Value} (h : Mid w g [] l post) {k : Nat} (hk : k < l.length) : w.cell? ⟨g, k, none⟩ = some (.int .u32 ((l.getD k 0 : Nat) : Int)) := by
  have := h.cell hk
  simpa using this
theorem Mid.set00 {w : World} {g : Nat} {l : List Nat} {post : List Value} (h : Mid w g [] l post) {k : Nat} (hk : k < l.length) (x : Nat) {e : Int} (he : e = (x : Int)) : Mid (w.setCell ⟨g, k, none⟩ (.int .u32 e)) g [] (l.set k x) post := by
  have := h.set' hk x he (o := 0) rfl
  simpa using this
theorem chunk_end {X u : Nat} {L : List Nat} {k cr : Nat} (hk : k = (limbs X).length) (h : L.length = k ∧ Lim L ∧ val (L.take k) + P k * cr = val ((limbs X).take k) * 1000000000 + u) (hX : X ≠ 0) (hcr : cr < 4294967296) :
    limbs (X * 1000000000 + u) = if cr = 0 then L else L ++ [cr] := by
  obtain ⟨h1, h2, h3⟩ := h
  rw [List.take_of_length_le (by omega), List.take_of_length_le (by omega), val_limbs] at h3
  rw [← h3]
  split
  · next h0 =>
    rw [h0, Nat.mul_zero, Nat.add_zero]
    refine limbs_canon h2 fun e => ?_
    rcases List.eq_nil_or_concat L with rfl | ⟨r, x, rfl⟩
    · simp at e
    · simp only [List.concat_eq_append] at *
      simp at e
      subst e
      have hr : val r < P r.length := val_lt h2.left
      rw [h0, Nat.mul_zero, Nat.add_zero, val_snoc, Nat.mul_zero, Nat.add_zero] at h3
      have hk1 : k = r.length + 1 := by rw [← h1]; simp
      have hle := limbs_length_le (n := X) (k := r.length) (by omega)
      omega
  · next h0 =>
    rw [← h1, ← val_snoc]
    exact limbs_snoc h2 hcr h0

set_option maxRecDepth 20000 in
set_option maxHeartbeats 1000000 in
theorem appendChunk_any (B X u : Nat) (v : Value) (w : World) (hown : OwnR w B v (limbs X)) (hB : B ≤ w.heap.size) (hu : u < 4294967296) (hn : (limbs X).length ≤ 1000000) :
    Calls Tryz.prog 110 #[v, .int .u64 (u : Int)] w (RetR w B (limbs (X * 1000000000 + u))) := by
  obtain ⟨A, c, rfl, hA⟩ := hown.shape
  by_cases h0 : X = 0
  · subst h0
    rw [limbs_zero] at *
    clear hA
    have hul : Lim [u] := Lim.cons hu Lim.nil
    go_enter Tryz.func110, Tryz.ntmps110
    go_wp2_with fail
    go_loopw [5, 11] (fun sc si wr => sc = .int .u64 (u : Int) ∧ si = .int .i64 0 ∧ wr = w) (fun _ _ _ => 0)
    case atStart => exact ⟨rfl, rfl, rfl⟩
    case round =>
      obtain ⟨rfl, rfl, rfl⟩ := hrel
      by_cases hu0 : u = 0
      · subst hu0
        go_wp2_with fail
        go_ret
        exact ⟨_, rfl, by rw [Nat.zero_mul, Nat.zero_add, limbs_zero]; exact hown, Below.refl _ _⟩
      · have hd : decide ((0 : Int) < (u : Int)) = true := by simp; omega
        have hnum : Num (wr.alloc (.cells #[.int .u32 (u : Int)] 58)) [u] (some ⟨wr.heap.size, 0, none⟩) 1 1 := (show Row _ _ [u] from heap_alloc_new wr _).num hul rfl (Nat.le_refl _)
        have hbA : Below B wr (wr.alloc (.cells #[.int .u32 (u : Int)] 58)) := (Below.refl _ _).alloc hB _
        go_wp2_with (at_builtin; refine wpList_app rfl (.tmp 31) (.tmp 34) rfl rfl B _ [] [u] rfl (World.ownsRow.alloc hown _) _ 1 1 rfl hnum ?c1 ?c2 ?_)
        case c1 => simp
        case c2 => simp; omega
        intro v' w' hown2 hgr _
        go_wp2
        go_ret
        refine ⟨v', rfl, ?_, hbA.grown hgr (by simp; omega) (fun k hk => (World.ownsRow.lt hown k hk).1)⟩
        have e : limbs (0 * 1000000000 + u) = [] ++ [u] := by
          rw [Nat.zero_mul, Nat.zero_add, limbs_pos hu0, Nat.mod_eq_of_lt hu, Nat.div_eq_of_lt hu, limbs_zero]; rfl
        rw [e]; exact hown2
  · obtain ⟨g, rfl⟩ := hA (fun h => h0 (limbs_nil.1 h))
    obtain ⟨-, hBg, hnc, hcm, post, hmid, hpl⟩ := hown.mid
    have hll := lim_limbs X
    have hlen : (limbs X).length = (limbs X).length := rfl
    generalize hl : limbs X = l at *
    obtain ⟨n, hn'⟩ : ∃ n, l.length = n := ⟨_, rfl⟩
    rw [hn'] at hn hnc hpl
    rw [hn'] at hown ⊢
    have HL := Lib.hid hl
    have HN := Lib.hid hn'
    have HX := Lib.hid h0
    clear hl hn' h0 hA hlen hown
    go_enter Tryz.func110, Tryz.ntmps110
    go_wp2_with fail
    go_loopw [5, 11] (fun sc si wr => ∃ (k cr : Nat) (L : List Nat), k ≤ n ∧ cr < 4294967296 ∧ sc = .int .u64 (cr : Int) ∧ si = .int .i64 (k : Int) ∧ Mid wr g [] L post ∧ Below B w wr ∧
      Hid (L.length = n ∧ Lim L ∧ (∀ j, k ≤ j → L.getD j 0 = l.getD j 0) ∧ val (L.take k) + P k * cr = val (l.take k) * 1000000000 + u)) (fun _ si _ => n - (intOf si).toNat)
    case atStart => exact ⟨0, u, l, Nat.zero_le _, hu, rfl, rfl, hmid, Below.refl _ _, show Hid _ from ⟨HN.out, hll, fun j _ => rfl, by simp [val, P_zero]⟩⟩
    case round =>
      obtain ⟨k, cr, L, hk, hcr, rfl, rfl, hm, hb, HI⟩ := hrel
      by_cases hkn : k < n
      · obtain ⟨x, hx⟩ : ∃ x, L.getD k 0 = x := ⟨_, rfl⟩
        have hx4 : x < 4294967296 := by rw [← hx]; exact HI.out.2.1.getD _
        have hkL : k < L.length := by rw [HI.out.1]; exact hkn
        have hcs := hm.cell0 hkL
        have hfs := hm.frozen k
        rw [hx] at hcs
        have HXX := Lib.hid hx; clear hx
        obtain ⟨p, hp⟩ : ∃ p, x * 1000000000 = p := ⟨_, rfl⟩
        obtain ⟨t, ht⟩ : ∃ t, cr + p = t := ⟨_, rfl⟩
        have hw1 : IntKind.u64.wrap ((x : Int) * 1000000000) = (p : Int) := by rw [IntKind.wrap_u64]; omega
        have hw2 : IntKind.u64.wrap ((cr : Int) + (p : Int)) = (t : Int) := by rw [IntKind.wrap_u64]; omega
        have htl : t < 18446744073709551616 := by omega
        have HP := Lib.hid hp
        have HT := Lib.hid ht
        clear hp ht
        go_wp2_with fail
        go_roundw
        case rel =>
          refine ⟨k + 1, t / 4294967296, L.set k (t % 4294967296), by omega, by omega, congrArg (Value.int _) (by omega), congrArg (Value.int _) (by omega), hm.set00 hkL _ (by omega), hb.setCell hBg _, ?_⟩
          show Hid _
          have hI := HI.out
          have h := put_step (k := k) (by rw [← hI.1]; exact hkL) ⟨hI.1, hI.2.1, hI.2.2.2⟩ p HT.out.symm
          refine ⟨h.1, h.2.1, fun j hj => ?_, ?_⟩
          · rw [getD_set_ne _ (by omega)]; exact hI.2.2.1 j (by omega)
          · rw [h.2.2, val_take_succ', ← hI.2.2.1 k (Nat.le_refl _), HXX.out, ← HP.out]
            grind
        case measure => simp [intOf]; omega
      · obtain rfl : k = n := by omega
        have hE : Hid (limbs (X * 1000000000 + u) = if cr = 0 then L else L ++ [cr]) := by
          have h := HI.out
          refine chunk_end (k := k) (by rw [HL.out, HN.out]) ⟨h.1, h.2.1, by rw [HL.out]; exact h.2.2.2⟩ HX.out hcr
        have hkL : k = L.length := HI.out.1.symm
        have hownL : OwnR wr B (.slice (some ⟨g, 0, none⟩) k c) L := hm.ownR hBg (by rw [← hkL]; exact hpl) hcm hkL
        have hsz : B ≤ wr.heap.size := by have := hm.lt; omega
        clear hkL
        by_cases hc0 : cr = 0
        · subst hc0
          rw [if_pos rfl] at hE
          go_wp2_with fail
          go_ret
          exact ⟨_, rfl, by rw [hE.out]; exact hownL, hb⟩
        · have hd : decide ((0 : Int) < (cr : Int)) = true := by simp; omega
          rw [if_neg hc0] at hE
          have hul : Lim [cr] := Lim.cons hcr Lim.nil
          have hnum : Num (wr.alloc (.cells #[.int .u32 (cr : Int)] 58)) [cr] (some ⟨wr.heap.size, 0, none⟩) 1 1 := (show Row _ _ [cr] from heap_alloc_new wr _).num hul rfl (Nat.le_refl _)
          have hbA : Below B w (wr.alloc (.cells #[.int .u32 (cr : Int)] 58)) := hb.alloc hsz _
          have hlenL : L.length ≤ 1000000 := by have := HI.out.1; omega
          go_wp2_with (at_builtin; refine wpList_app rfl (.tmp 31) (.tmp 34) rfl rfl B _ L [cr] rfl (World.ownsRow.alloc hownL _) _ 1 1 rfl hnum ?c1 ?c2 ?_)
          case c1 => simp; omega
          case c2 => simp; omega
          intro v' w' hown2 hgr _
          go_wp2
          go_ret
          exact ⟨v', rfl, by rw [hE.out]; exact hown2, hbA.grown hgr (by simp; omega) (fun k hk => (World.ownsRow.lt hownL k hk).1)⟩
end Go.Proofs.YtggmmgojpamcpaaGreatDoor

namespace Go.Proofs.YtggmmgojpamcpaaGreatDoor
open Go

def isDig (c : UInt8) : Bool := decide (48 ≤ c.toNat ∧ c.toNat ≤ 57)
/-- acc, then the digits of l behind it; none at a byte that is no digit. -/
def decVal (acc : Nat) : List UInt8 → Option Nat
  | [] => some acc
  | c :: r => if isDig c then decVal (acc * 10 + (c.toNat - 48)) r else none
theorem decVal_append (acc : Nat) (a b : List UInt8) : decVal acc (a ++ b) = (decVal acc a).bind fun x => decVal x b := by
  induction a generalizing acc with
  | nil => rfl
  | cons c r ih =>
    simp only [List.cons_append, decVal]
    split
    · exact ih _
    · rfl
theorem decVal_shift (acc : Nat) (l : List UInt8) : decVal acc l = (decVal 0 l).map fun u => acc * 10 ^ l.length + u := by
  induction l generalizing acc with
  | nil => simp [decVal]
  | cons c r ih =>
    simp only [decVal]
    split
    · rw [ih, ih (0 * 10 + _), Option.map_map]
      congr 1
      funext u
      simp only [Function.comp, List.length_cons, Nat.pow_succ, Nat.zero_mul, Nat.zero_add]
      grind
    · rfl
theorem decVal_lt {l : List UInt8} {u : Nat} (h : decVal 0 l = some u) : u < 10 ^ l.length := by
  induction l generalizing u with
  | nil => simp [decVal] at h; subst h; simp
  | cons c r ih =>
    simp only [decVal] at h
    split at h
    · next hc =>
      have hd : c.toNat - 48 ≤ 9 := by have := of_decide_eq_true hc; omega
      rw [decVal_shift] at h
      obtain ⟨x, hx, rfl⟩ := Option.map_eq_some_iff.1 h
      have h1 := ih hx
      have h2 : (c.toNat - 48) * 10 ^ r.length ≤ 9 * 10 ^ r.length := Nat.mul_le_mul_right _ hd
      rw [List.length_cons, Nat.pow_succ, Nat.zero_mul, Nat.zero_add]
      omega
    · cases h
/-- What the library answers to bytes that are no digits. -/
abbrev synt := Lib.parseUintB 32 []
theorem parse_chunk (l : List UInt8) (acc j : Nat) (ha : acc < 10 ^ j) (hj : j + l.length ≤ 9) : Lib.parseUintM 4294967295 acc l = match decVal acc l with | some u => .ok u | none => synt := by
  induction l generalizing acc j with
  | nil => rfl
  | cons c r ih =>
    have hj' : j + 1 + r.length ≤ 9 := by simp only [List.length_cons] at hj; omega
    have hp : 10 ^ (j + 1) ≤ 10 ^ 9 := Nat.pow_le_pow_right (by decide) (by omega)
    simp only [Lib.parseUintM, decVal]
    split
    · next hc =>
      have hlt : acc * 10 + (c.toNat - 48) < 10 ^ (j + 1) := by
        rw [Nat.pow_succ]; omega
      have h9 : (10 : Nat) ^ 9 = 1000000000 := by decide
      rw [if_neg (by omega), if_neg (by omega), ih _ (j + 1) hlt hj']
      rw [if_pos (show isDig c = true from decide_eq_true hc)]
    · next hc =>
      rw [if_neg (show ¬ isDig c = true from fun h => hc (of_decide_eq_true h))]
      rfl
/-- A chunk of at most 9 bytes. -/
theorem parse32 {l : List UInt8} (h0 : l ≠ []) (h : l.length ≤ 9) : (∃ u, Lib.parseUintB 32 l = .ok u ∧ decVal 0 l = some u ∧ u < 4294967296) ∨ (Lib.parseUintB 32 l = synt ∧ decVal 0 l = none) := by
  have hp := parse_chunk l 0 0 (by decide) (by omega)
  unfold Lib.parseUintB
  rw [if_neg h0, show 2 ^ 32 - 1 = 4294967295 from rfl, hp]
  cases hd : decVal 0 l with
  | none => exact .inr ⟨rfl, rfl⟩
  | some u =>
    have h1 := decVal_lt hd
    have h2 : 10 ^ l.length ≤ 10 ^ 9 := Nat.pow_le_pow_right (by decide) h
    have h9 : (10 : Nat) ^ 9 = 1000000000 := by decide
    exact .inl ⟨u, rfl, rfl, by omega⟩
/-- The digits of a number as the grammar asks: at most 2000, no zero in front. -/
def readDec (l : List UInt8) : Option Nat :=
  if l.length = 0 ∨ 2000 < l.length ∨ (1 < l.length ∧ l.getD 0 0 = 48) then none else decVal 0 l
theorem pow_ten_P {n m : Nat} (h : n ≤ m) : 10 ^ n ≤ P m := by
  refine Nat.le_trans ?_ (P_le h)
  unfold P
  exact Nat.pow_le_pow_left (by decide) n
/-- One chunk more. -/
theorem dec_step {l t : List UInt8} {X k u : Nat} (hX : decVal 0 l = decVal X t) (hb : X < 10 ^ (l.length - t.length)) (hk : X = 0 ∨ k = 9) (hkt : k ≤ t.length) (htl : t.length ≤ l.length) (h : decVal 0 (t.take k) = some u) :
    decVal 0 l = decVal (X * 1000000000 + u) (t.drop k) ∧ X * 1000000000 + u < 10 ^ (l.length - (t.drop k).length) := by
  have hlen : (t.take k).length = k := by rw [List.length_take]; omega
  have hXk : X * 1000000000 = X * 10 ^ k := by
    rcases hk with h | h
    · rw [h]; simp
    · rw [h]
  have hu := decVal_lt h
  rw [hlen] at hu
  refine ⟨?_, ?_⟩
  · rw [hX]
    conv => lhs; rw [← List.take_append_drop k t]
    rw [decVal_append, decVal_shift, h, hlen, hXk]; rfl
  · rw [hXk, List.length_drop, show l.length - (t.length - k) = (l.length - t.length) + k from by omega, Nat.pow_add]
    have : X * 10 ^ k + 10 ^ k ≤ 10 ^ (l.length - t.length) * 10 ^ k := by
      rw [← Nat.succ_mul]; exact Nat.mul_le_mul_right _ hb
    omega
theorem dec_none {l t : List UInt8} {X k : Nat} (hX : decVal 0 l = decVal X t) (h : decVal 0 (t.take k) = none) : decVal 0 l = none := by
  rw [hX, ← List.take_append_drop k t, decVal_append, decVal_shift, h]; rfl
end Go.Proofs.YtggmmgojpamcpaaGreatDoor

namespace Go.Proofs.Lx
open Go.Shelf
def Tryz.lays103_ren : Go.Shelf.Ren := ⟨fun | 103 => 81 | 210 => 107 | 206 => 122 | n => n, fun | 9 => 9 | 4 => 4 | 24 => 66 | 3 => 3 | n => n, fun | n => n⟩
theorem Tryz.lays103 : Go.Proofs.Lays.n103 Tryz.prog Tryz.lays103_ren := {
  mixed := by kernel_rfl
  f103 := Tryz.func81.trans (congrArg some (by kernel_rfl))
  f206 := Tryz.func122.trans (congrArg some (by kernel_rfl))
  f210 := Tryz.func107.trans (congrArg some (by kernel_rfl))
  t3 := Tryz.underlying3
  a3 := Tryz.isAgg3
  z3 := Tryz.sizeOf3
  v3 := Tryz.zeroValue3
  t4 := Tryz.underlying4
  a4 := Tryz.isAgg4
  z4 := Tryz.sizeOf4
  v4 := Tryz.zeroValue4
  t9 := Tryz.underlying9
  a9 := Tryz.isAgg9
  z9 := Tryz.sizeOf9
  v9 := Tryz.zeroValue9
  t24 := Tryz.underlying66
  a24 := Tryz.isAgg66
  z24 := Tryz.sizeOf66
  v24 := Tryz.zeroValue66 }
open Go.RowKit in
/-- strings.CutPrefix: "CutPrefix returns s without the provided leading prefix string and reports whether it found the prefix. If s doesn't start with prefix, CutPrefix returns s, false. If prefix is the empty string, CutPrefix returns s, true.": IT RETURNS '(Lib.trimPrefix s p, Lib.hasPrefix s p)'; the world is as it was. (LAID: no walk: one application.) -/
theorem Tryz.strings_CutPrefix (s p : ByteArray) (w : World) :
    Calls Tryz.prog 81 #[.string s, .string p] w fun e w' => e = .returned (.tuple #[.string ⟨(Lib.trimPrefix s.data.toList p.data.toList).toArray⟩, .bool (Lib.hasPrefix s.data.toList p.data.toList)]) ∧ w' = w := Any.strings_CutPrefix Tryz.lays103 s p w
def Tryz.laysM171_ren : Go.Shelf.Ren := ⟨fun | 171 => 114 | 243 => 129 | 246 => 150 | 283 => 146 | 284 => 147 | 285 => 148 | 286 => 149 | 129 => 159 | 317 => 158 | 318 => 160 | 319 => 161 | 320 => 162 | 337 => 121 | 338 => 115 | n => n, fun | 3 => 3 | 9 => 9 | 2 => 2 | 4 => 4 | 171 => 123 | 0 => 0 | 53 => 51 | 37 => 72 | 5 => 5 | 173 => 125 | 212 => 136 | 51 => 58 | 20 => 20 | 213 => 137 | 46 => 55 | 232 => 115 | 233 => 109 | n => n, fun | 17 => 6 | 18 => 1 | 19 => 0 | n => n⟩
theorem Tryz.laysM171 : Go.Proofs.LaysM.n171 Tryz.prog Tryz.laysM171_ren := {
  mixed := by kernel_rfl
  f129 := Tryz.func159.trans (congrArg some (by kernel_rfl))
  f171 := Tryz.func114.trans (congrArg some (by kernel_rfl))
  f243 := Tryz.func129.trans (congrArg some (by kernel_rfl))
  f246 := Tryz.func150.trans (congrArg some (by kernel_rfl))
  f283 := Tryz.func146.trans (congrArg some (by kernel_rfl))
  f284 := Tryz.func147.trans (congrArg some (by kernel_rfl))
  f285 := Tryz.func148.trans (congrArg some (by kernel_rfl))
  f286 := Tryz.func149.trans (congrArg some (by kernel_rfl))
  f317 := Tryz.func158.trans (congrArg some (by kernel_rfl))
  f318 := Tryz.func160.trans (congrArg some (by kernel_rfl))
  f319 := Tryz.func161.trans (congrArg some (by kernel_rfl))
  f320 := Tryz.func162.trans (congrArg some (by kernel_rfl))
  f337 := Tryz.func121.trans (congrArg some (by kernel_rfl))
  f338 := Tryz.func115.trans (congrArg some (by kernel_rfl))
  t0 := Tryz.underlying0
  a0 := Tryz.isAgg0
  z0 := Tryz.sizeOf0
  v0 := Tryz.zeroValue0
  t2 := Tryz.underlying2
  a2 := Tryz.isAgg2
  z2 := Tryz.sizeOf2
  v2 := Tryz.zeroValue2
  t3 := Tryz.underlying3
  a3 := Tryz.isAgg3
  z3 := Tryz.sizeOf3
  v3 := Tryz.zeroValue3
  t4 := Tryz.underlying4
  a4 := Tryz.isAgg4
  z4 := Tryz.sizeOf4
  v4 := Tryz.zeroValue4
  t5 := Tryz.underlying5
  a5 := Tryz.isAgg5
  z5 := Tryz.sizeOf5
  v5 := Tryz.zeroValue5
  t9 := Tryz.underlying9
  a9 := Tryz.isAgg9
  z9 := Tryz.sizeOf9
  v9 := Tryz.zeroValue9
  t20 := Tryz.underlying20
  a20 := Tryz.isAgg20
  z20 := Tryz.sizeOf20
  v20 := Tryz.zeroValue20
  t37 := Tryz.underlying72
  a37 := Tryz.isAgg72
  z37 := Tryz.sizeOf72
  v37 := Tryz.zeroValue72
  t46 := Tryz.underlying55
  a46 := Tryz.isAgg55
  z46 := Tryz.sizeOf55
  v46 := Tryz.zeroValue55
  t51 := Tryz.underlying58
  a51 := Tryz.isAgg58
  z51 := Tryz.sizeOf58
  v51 := Tryz.zeroValue58
  t53 := Tryz.underlying51
  a53 := Tryz.isAgg51
  z53 := Tryz.sizeOf51
  v53 := Tryz.zeroValue51
  t171 := Tryz.underlying123
  a171 := Tryz.isAgg123
  z171 := Tryz.sizeOf123
  v171 := Tryz.zeroValue123
  t173 := Tryz.underlying125
  a173 := Tryz.isAgg125
  z173 := Tryz.sizeOf125
  v173 := Tryz.zeroValue125
  t212 := Tryz.underlying136
  a212 := Tryz.isAgg136
  z212 := Tryz.sizeOf136
  v212 := Tryz.zeroValue136
  t213 := Tryz.underlying137
  a213 := Tryz.isAgg137
  z213 := Tryz.sizeOf137
  t232 := Tryz.underlying115
  a232 := Tryz.isAgg115
  z232 := Tryz.sizeOf115
  v232 := Tryz.zeroValue115
  t233 := Tryz.underlying109
  a233 := Tryz.isAgg109
  z233 := Tryz.sizeOf109
  v233 := Tryz.zeroValue109
  g17 := by kernel_rfl
  g18 := by kernel_rfl
  g19 := by kernel_rfl
  i0 := by kernel_rfl
  i2 := by kernel_rfl
  i3 := by kernel_rfl
  i4 := by kernel_rfl
  i5 := by kernel_rfl
  i9 := by kernel_rfl
  i20 := by kernel_rfl
  i37 := by kernel_rfl
  i46 := by kernel_rfl
  i51 := by kernel_rfl
  i53 := by kernel_rfl
  i171 := by kernel_rfl
  i173 := by kernel_rfl
  i212 := by kernel_rfl
  i232 := by kernel_rfl
  i233 := by kernel_rfl
  m17 := by kernel_rfl
  m18 := by kernel_rfl
  m19 := by kernel_rfl }
open Go.RowKit Go.Sort Go.Lib in
/-- strconv.Itoa: "Itoa is equivalent to FormatInt(int64(i), 10).": i's DECIMAL NUMERAL ('Lib.itoa': a '-' where i is negative, then the digits), FOR EVERY int. The world behind the call: the world before it, new blocks behind the heap (the library's 'var a [24]byte'), draws. (LAID: no walk: one application.) -/
theorem Tryz.strconv_Itoa (n : Int) (h0 : -9223372036854775808 ≤ n) (h1 : n ≤ 9223372036854775807) (w : World) (htab : Lib.TabIs Tryz.prog w "internal/strconv.uint64pow10" .u64 Lib.pow10Tab) :
    Calls Tryz.prog 114 #[.int .i64 n] w fun e w' => e = .returned (.string ⟨(Lib.itoa n).toArray⟩) ∧ ∃ k os, w' = grow (w.drewN k) os := Any.strconv_Itoa Tryz.laysM171 n h0 h1 w htab
def Tryz.laysPu14_ren : Go.Shelf.Ren := ⟨fun | 14 => 109 | 16 => 124 | 17 => 125 | 19 => 140 | 20 => 141 | 21 => 142 | 22 => 143 | 23 => 144 | 24 => 145 | 25 => 156 | 27 => 114 | 26 => 157 | 28 => 129 | 29 => 150 | 30 => 146 | 31 => 147 | 32 => 148 | 33 => 149 | 35 => 159 | 34 => 158 | 36 => 160 | 37 => 161 | 38 => 162 | 39 => 121 | 40 => 115 | n => n, fun | 9 => 9 | 3 => 3 | 22 => 51 | 24 => 89 | 25 => 90 | 4 => 4 | 34 => 117 | 5 => 5 | 36 => 55 | 37 => 72 | 0 => 0 | 39 => 120 | 21 => 21 | 44 => 133 | 47 => 142 | 50 => 145 | 48 => 143 | 2 => 2 | 52 => 123 | 55 => 125 | 59 => 136 | 60 => 58 | 20 => 20 | 61 => 137 | 65 => 115 | 66 => 109 | 67 => 147 | n => n, fun | 0 => 4 | 1 => 5 | 2 => 6 | 3 => 1 | 4 => 0 | n => n⟩
theorem Tryz.laysPu14 : Go.Proofs.LaysPu.n14 Tryz.prog Tryz.laysPu14_ren := {
  mixed := by kernel_rfl
  f14 := Tryz.func109.trans (congrArg some (by kernel_rfl))
  f16 := Tryz.func124.trans (congrArg some (by kernel_rfl))
  f17 := Tryz.func125.trans (congrArg some (by kernel_rfl))
  f19 := Tryz.func140.trans (congrArg some (by kernel_rfl))
  f20 := Tryz.func141.trans (congrArg some (by kernel_rfl))
  f21 := Tryz.func142.trans (congrArg some (by kernel_rfl))
  f22 := Tryz.func143.trans (congrArg some (by kernel_rfl))
  f23 := Tryz.func144.trans (congrArg some (by kernel_rfl))
  f24 := Tryz.func145.trans (congrArg some (by kernel_rfl))
  f25 := Tryz.func156.trans (congrArg some (by kernel_rfl))
  f26 := Tryz.func157.trans (congrArg some (by kernel_rfl))
  f27 := Tryz.func114.trans (congrArg some (by kernel_rfl))
  f28 := Tryz.func129.trans (congrArg some (by kernel_rfl))
  f29 := Tryz.func150.trans (congrArg some (by kernel_rfl))
  f30 := Tryz.func146.trans (congrArg some (by kernel_rfl))
  f31 := Tryz.func147.trans (congrArg some (by kernel_rfl))
  f32 := Tryz.func148.trans (congrArg some (by kernel_rfl))
  f33 := Tryz.func149.trans (congrArg some (by kernel_rfl))
  f34 := Tryz.func158.trans (congrArg some (by kernel_rfl))
  f35 := Tryz.func159.trans (congrArg some (by kernel_rfl))
  f36 := Tryz.func160.trans (congrArg some (by kernel_rfl))
  f37 := Tryz.func161.trans (congrArg some (by kernel_rfl))
  f38 := Tryz.func162.trans (congrArg some (by kernel_rfl))
  f39 := Tryz.func121.trans (congrArg some (by kernel_rfl))
  f40 := Tryz.func115.trans (congrArg some (by kernel_rfl))
  t0 := Tryz.underlying0
  a0 := Tryz.isAgg0
  z0 := Tryz.sizeOf0
  v0 := Tryz.zeroValue0
  i0 := by kernel_rfl
  t2 := Tryz.underlying2
  a2 := Tryz.isAgg2
  z2 := Tryz.sizeOf2
  v2 := Tryz.zeroValue2
  i2 := by kernel_rfl
  t3 := Tryz.underlying3
  a3 := Tryz.isAgg3
  z3 := Tryz.sizeOf3
  v3 := Tryz.zeroValue3
  i3 := by kernel_rfl
  t4 := Tryz.underlying4
  a4 := Tryz.isAgg4
  z4 := Tryz.sizeOf4
  v4 := Tryz.zeroValue4
  i4 := by kernel_rfl
  t5 := Tryz.underlying5
  a5 := Tryz.isAgg5
  z5 := Tryz.sizeOf5
  v5 := Tryz.zeroValue5
  i5 := by kernel_rfl
  t9 := Tryz.underlying9
  a9 := Tryz.isAgg9
  z9 := Tryz.sizeOf9
  v9 := Tryz.zeroValue9
  i9 := by kernel_rfl
  t20 := Tryz.underlying20
  a20 := Tryz.isAgg20
  z20 := Tryz.sizeOf20
  v20 := Tryz.zeroValue20
  i20 := by kernel_rfl
  t21 := Tryz.underlying21
  a21 := Tryz.isAgg21
  z21 := Tryz.sizeOf21
  v21 := Tryz.zeroValue21
  i21 := by kernel_rfl
  t22 := Tryz.underlying51
  a22 := Tryz.isAgg51
  z22 := Tryz.sizeOf51
  v22 := Tryz.zeroValue51
  i22 := by kernel_rfl
  t24 := Tryz.underlying89
  a24 := Tryz.isAgg89
  z24 := Tryz.sizeOf89
  v24 := Tryz.zeroValue89
  i24 := by kernel_rfl
  t25 := Tryz.underlying90
  a25 := Tryz.isAgg90
  z25 := Tryz.sizeOf90
  v25 := Tryz.zeroValue90
  i25 := by kernel_rfl
  t34 := Tryz.underlying117
  a34 := Tryz.isAgg117
  z34 := Tryz.sizeOf117
  v34 := Tryz.zeroValue117
  i34 := by kernel_rfl
  c34 := by kernel_rfl
  t36 := Tryz.underlying55
  a36 := Tryz.isAgg55
  z36 := Tryz.sizeOf55
  v36 := Tryz.zeroValue55
  i36 := by kernel_rfl
  t37 := Tryz.underlying72
  a37 := Tryz.isAgg72
  z37 := Tryz.sizeOf72
  v37 := Tryz.zeroValue72
  i37 := by kernel_rfl
  t39 := Tryz.underlying120
  a39 := Tryz.isAgg120
  z39 := Tryz.sizeOf120
  v39 := Tryz.zeroValue120
  i39 := by kernel_rfl
  t44 := Tryz.underlying133
  a44 := Tryz.isAgg133
  z44 := Tryz.sizeOf133
  v44 := Tryz.zeroValue133
  i44 := by kernel_rfl
  t47 := Tryz.underlying142
  a47 := Tryz.isAgg142
  z47 := Tryz.sizeOf142
  v47 := Tryz.zeroValue142
  i47 := by kernel_rfl
  t48 := Tryz.underlying143
  a48 := Tryz.isAgg143
  z48 := Tryz.sizeOf143
  v48 := Tryz.zeroValue143
  i48 := by kernel_rfl
  t50 := Tryz.underlying145
  a50 := Tryz.isAgg145
  z50 := Tryz.sizeOf145
  v50 := Tryz.zeroValue145
  i50 := by kernel_rfl
  t52 := Tryz.underlying123
  a52 := Tryz.isAgg123
  z52 := Tryz.sizeOf123
  v52 := Tryz.zeroValue123
  i52 := by kernel_rfl
  t55 := Tryz.underlying125
  a55 := Tryz.isAgg125
  z55 := Tryz.sizeOf125
  v55 := Tryz.zeroValue125
  i55 := by kernel_rfl
  t59 := Tryz.underlying136
  a59 := Tryz.isAgg136
  z59 := Tryz.sizeOf136
  v59 := Tryz.zeroValue136
  i59 := by kernel_rfl
  t60 := Tryz.underlying58
  a60 := Tryz.isAgg58
  z60 := Tryz.sizeOf58
  v60 := Tryz.zeroValue58
  i60 := by kernel_rfl
  t61 := Tryz.underlying137
  a61 := Tryz.isAgg137
  z61 := Tryz.sizeOf137
  t65 := Tryz.underlying115
  a65 := Tryz.isAgg115
  z65 := Tryz.sizeOf115
  v65 := Tryz.zeroValue115
  i65 := by kernel_rfl
  t66 := Tryz.underlying109
  a66 := Tryz.isAgg109
  z66 := Tryz.sizeOf109
  v66 := Tryz.zeroValue109
  i66 := by kernel_rfl
  t67 := Tryz.underlying147
  a67 := Tryz.isAgg147
  z67 := Tryz.sizeOf147
  v67 := Tryz.zeroValue147
  i67 := by kernel_rfl
  g0 := by kernel_rfl
  m0 := by kernel_rfl
  g1 := by kernel_rfl
  m1 := by kernel_rfl
  g2 := by kernel_rfl
  m2 := by kernel_rfl
  g3 := by kernel_rfl
  m3 := by kernel_rfl
  g4 := by kernel_rfl
  m4 := by kernel_rfl }
open Go.RowKit in
/-- strconv.ParseUint(s, 10, 32), AT EVERY STRING THAT SPELLS A uint32 ('Lib.parseUintB 32 s.data.toList = .ok u'): u, AND NO ERROR. (LAID: no walk: one application.) -/
theorem Tryz.strconv_ParseUint_10_at32_ok (s : ByteArray) (hmax : s.size ≤ 9223372036854775806) (u : Nat) (h : Lib.parseUintB 32 s.data.toList = .ok u) (w : World) :
    Calls Tryz.prog 109 #[.string s, .int .i64 10, .int .i64 32] w fun e w' => e = .returned (.tuple #[.int .u64 u, .nilIface]) ∧ (w' = w ∨ w' = Lib.bytesWorld w 5 s) := Any.strconv_ParseUint_10_at32_ok Tryz.laysPu14 s hmax u h w
def Tryz.lays145_ren : Go.Shelf.Ren := ⟨fun | 145 => 82 | 220 => 108 | 219 => 123 | 217 => 136 | 225 => 137 | 224 => 138 | 267 => 139 | 266 => 154 | 314 => 155 | n => n, fun | 9 => 9 | 4 => 4 | 59 => 68 | 3 => 3 | 5 => 5 | 46 => 55 | 146 => 106 | 51 => 58 | n => n, fun | 1 => 2 | n => n⟩
theorem Tryz.lays145 : Go.Proofs.Lays.n145 Tryz.prog Tryz.lays145_ren := {
  mixed := by kernel_rfl
  f145 := Tryz.func82.trans (congrArg some (by kernel_rfl))
  f217 := Tryz.func136.trans (congrArg some (by kernel_rfl))
  f219 := Tryz.func123.trans (congrArg some (by kernel_rfl))
  f220 := Tryz.func108.trans (congrArg some (by kernel_rfl))
  f224 := Tryz.func138.trans (congrArg some (by kernel_rfl))
  f225 := Tryz.func137.trans (congrArg some (by kernel_rfl))
  f266 := Tryz.func154.trans (congrArg some (by kernel_rfl))
  f267 := Tryz.func139.trans (congrArg some (by kernel_rfl))
  f314 := Tryz.func155.trans (congrArg some (by kernel_rfl))
  t3 := Tryz.underlying3
  a3 := Tryz.isAgg3
  z3 := Tryz.sizeOf3
  v3 := Tryz.zeroValue3
  t4 := Tryz.underlying4
  a4 := Tryz.isAgg4
  z4 := Tryz.sizeOf4
  v4 := Tryz.zeroValue4
  t5 := Tryz.underlying5
  a5 := Tryz.isAgg5
  z5 := Tryz.sizeOf5
  v5 := Tryz.zeroValue5
  t9 := Tryz.underlying9
  a9 := Tryz.isAgg9
  z9 := Tryz.sizeOf9
  v9 := Tryz.zeroValue9
  t46 := Tryz.underlying55
  a46 := Tryz.isAgg55
  z46 := Tryz.sizeOf55
  v46 := Tryz.zeroValue55
  t51 := Tryz.underlying58
  a51 := Tryz.isAgg58
  z51 := Tryz.sizeOf58
  v51 := Tryz.zeroValue58
  t59 := Tryz.underlying68
  a59 := Tryz.isAgg68
  z59 := Tryz.sizeOf68
  v59 := Tryz.zeroValue68
  t146 := Tryz.underlying106
  a146 := Tryz.isAgg106
  z146 := Tryz.sizeOf106
  v146 := Tryz.zeroValue106
  g1 := by kernel_rfl }
open Go.RowKit Go.Lib in
/-- strings.Cut: "Cut slices s around the first instance of sep, returning the text before and after sep. The found result reports whether sep appears in s. If sep does not appear in s, cut returns s, "", false.": IT RETURNS 'Lib.cut s sep'; the world is as it was but for the count of draws. (LAID: no walk: one application.) -/
theorem Tryz.strings_Cut (s sep : ByteArray) (m : Int) (w : World) (hs : s.size < 4294967281) (hm : w.cell? ⟨2, 0, none⟩ = some (.int .i64 m)) :
    Calls Tryz.prog 82 #[.string s, .string sep] w fun e w' => e = .returned (.tuple #[.string ⟨(Lib.cut s.data.toList sep.data.toList).1.toArray⟩, .string ⟨(Lib.cut s.data.toList sep.data.toList).2.1.toArray⟩, .bool (Lib.cut s.data.toList sep.data.toList).2.2]) ∧ ∃ n, w' = w.drewN n := Any.strings_Cut Tryz.lays145 s sep m w hs hm
def Tryz.laysM288_ren : Go.Shelf.Ren := ⟨fun | 288 => 127 | 283 => 146 | 284 => 147 | 285 => 148 | 286 => 149 | 129 => 159 | 317 => 158 | 318 => 160 | 319 => 161 | 320 => 162 | 337 => 121 | 338 => 115 | n => n, fun | 37 => 72 | 53 => 51 | 3 => 3 | 4 => 4 | 9 => 9 | 171 => 123 | 0 => 0 | 173 => 125 | 212 => 136 | 51 => 58 | 5 => 5 | 20 => 20 | 213 => 137 | 46 => 55 | 232 => 115 | 233 => 109 | n => n, fun | 17 => 6 | 18 => 1 | 19 => 0 | n => n⟩
theorem Tryz.laysM288 : Go.Proofs.LaysM.n288 Tryz.prog Tryz.laysM288_ren := {
  mixed := by kernel_rfl
  f129 := Tryz.func159.trans (congrArg some (by kernel_rfl))
  f283 := Tryz.func146.trans (congrArg some (by kernel_rfl))
  f284 := Tryz.func147.trans (congrArg some (by kernel_rfl))
  f285 := Tryz.func148.trans (congrArg some (by kernel_rfl))
  f286 := Tryz.func149.trans (congrArg some (by kernel_rfl))
  f288 := Tryz.func127.trans (congrArg some (by kernel_rfl))
  f317 := Tryz.func158.trans (congrArg some (by kernel_rfl))
  f318 := Tryz.func160.trans (congrArg some (by kernel_rfl))
  f319 := Tryz.func161.trans (congrArg some (by kernel_rfl))
  f320 := Tryz.func162.trans (congrArg some (by kernel_rfl))
  f337 := Tryz.func121.trans (congrArg some (by kernel_rfl))
  f338 := Tryz.func115.trans (congrArg some (by kernel_rfl))
  t0 := Tryz.underlying0
  a0 := Tryz.isAgg0
  z0 := Tryz.sizeOf0
  v0 := Tryz.zeroValue0
  t3 := Tryz.underlying3
  a3 := Tryz.isAgg3
  z3 := Tryz.sizeOf3
  v3 := Tryz.zeroValue3
  t4 := Tryz.underlying4
  a4 := Tryz.isAgg4
  z4 := Tryz.sizeOf4
  v4 := Tryz.zeroValue4
  t5 := Tryz.underlying5
  a5 := Tryz.isAgg5
  z5 := Tryz.sizeOf5
  v5 := Tryz.zeroValue5
  t9 := Tryz.underlying9
  a9 := Tryz.isAgg9
  z9 := Tryz.sizeOf9
  v9 := Tryz.zeroValue9
  t20 := Tryz.underlying20
  a20 := Tryz.isAgg20
  z20 := Tryz.sizeOf20
  v20 := Tryz.zeroValue20
  t37 := Tryz.underlying72
  a37 := Tryz.isAgg72
  z37 := Tryz.sizeOf72
  v37 := Tryz.zeroValue72
  t46 := Tryz.underlying55
  a46 := Tryz.isAgg55
  z46 := Tryz.sizeOf55
  v46 := Tryz.zeroValue55
  t51 := Tryz.underlying58
  a51 := Tryz.isAgg58
  z51 := Tryz.sizeOf58
  v51 := Tryz.zeroValue58
  t53 := Tryz.underlying51
  a53 := Tryz.isAgg51
  z53 := Tryz.sizeOf51
  v53 := Tryz.zeroValue51
  t171 := Tryz.underlying123
  a171 := Tryz.isAgg123
  z171 := Tryz.sizeOf123
  v171 := Tryz.zeroValue123
  t173 := Tryz.underlying125
  a173 := Tryz.isAgg125
  z173 := Tryz.sizeOf125
  v173 := Tryz.zeroValue125
  t212 := Tryz.underlying136
  a212 := Tryz.isAgg136
  z212 := Tryz.sizeOf136
  v212 := Tryz.zeroValue136
  t213 := Tryz.underlying137
  a213 := Tryz.isAgg137
  z213 := Tryz.sizeOf137
  t232 := Tryz.underlying115
  a232 := Tryz.isAgg115
  z232 := Tryz.sizeOf115
  v232 := Tryz.zeroValue115
  t233 := Tryz.underlying109
  a233 := Tryz.isAgg109
  z233 := Tryz.sizeOf109
  v233 := Tryz.zeroValue109
  g17 := by kernel_rfl
  g18 := by kernel_rfl
  g19 := by kernel_rfl
  i0 := by kernel_rfl
  i3 := by kernel_rfl
  i4 := by kernel_rfl
  i5 := by kernel_rfl
  i9 := by kernel_rfl
  i20 := by kernel_rfl
  i37 := by kernel_rfl
  i46 := by kernel_rfl
  i51 := by kernel_rfl
  i53 := by kernel_rfl
  i171 := by kernel_rfl
  i173 := by kernel_rfl
  i212 := by kernel_rfl
  i232 := by kernel_rfl
  i233 := by kernel_rfl
  m17 := by kernel_rfl
  m18 := by kernel_rfl
  m19 := by kernel_rfl }
open Go.RowKit Go.Sort Go.Lib in
/-- internal/strconv.AppendUint(dst, i, 10): the two contracts as one. NO WALK. (LAID: no walk: one application.) -/
theorem Tryz.internal_strconv_AppendUint_10 (B n u : Nat) (hu64 : u < 18446744073709551616) (sv : Value) (xs : List Value) (w : World) (hown : w.ownsRow B 5 1 sv n xs) (hBw : B ≤ w.heap.size) (hlim : n + 20 ≤ 140737488355328) (htab : Lib.TabIs Tryz.prog w "internal/strconv.uint64pow10" .u64 Lib.pow10Tab) :
    Calls Tryz.prog 127 #[sv, .int .u64 u, .int .i64 10] w fun e w' => ∃ v', e = .returned v' ∧ w'.ownsRow B 5 1 v' (n + (Lib.decDigits u).length) (xs ++ Lib.byteCells (Lib.decDigits u)) ∧ Below B w w' ∧ Lib.OthersKept 5 none w w' := Any.internal_strconv_AppendUint_10 Tryz.laysM288 B n u hu64 sv xs w hown hBw hlim htab
end Go.Proofs.Lx

namespace Go.Proofs.YtggmmgojpamcpaaGreatDoor
open Go.RowKit

theorem var_keep {P : Program} {w w' : World} {n : String} {cs : Array Value} (h : w.var? P n = some cs) (hk : ∀ b, b < w.heap.size → w'.heap[b]? = w.heap[b]?) : w'.var? P n = some cs := by
  unfold World.var? at *
  cases hg : P.globalNamed n with
  | none => rw [hg] at h; exact h
  | some g =>
    rw [hg] at h
    simp only [Option.bind_some] at *
    cases ho : w.heap[g]? with
    | none => rw [ho] at h; cases h
    | some o =>
      rw [hk g (heap_lt ho), ho]
      rw [ho] at h
      exact h
/-- What the library's texts lean on: the tables, the variable of the error, the machine's word MaxLen. -/
structure Txt (w : World) : Prop where
  tab : Tab w
  pow : Lib.TabIs Tryz.prog w "internal/strconv.uint64pow10" .u64 Lib.pow10Tab
  syn : ∃ tp p, w.var? Tryz.prog "strconv.ErrSyntax" = some #[.iface tp p]
  max : ∃ m, w.cell? ⟨2, 0, none⟩ = some (.int .i64 m)
theorem Txt.keep {w w' : World} (h : Txt w) (hk : ∀ b, b < w.heap.size → w'.heap[b]? = w.heap[b]?) : Txt w' := by
  obtain ⟨tp, p, hs⟩ := h.syn
  obtain ⟨m, hm⟩ := h.max
  exact ⟨h.tab.keep hk, var_keep h.pow hk, ⟨tp, p, var_keep hs hk⟩, ⟨m, (World.cell?_of_block (w := w) (hk _ (block_lt_of_cell hm))).trans hm⟩⟩
theorem Txt.below {w w' : World} (h : Txt w) (hb : Below w.heap.size w w') : Txt w' := h.keep hb.block
theorem OwnR.below {w w' : World} {B : Nat} {v : Value} {l : List Nat} (h : OwnR w B v l) (hb : Below w.heap.size w w') : OwnR w' B v l := by
  refine ⟨h.1, ?_⟩
  rcases h.2 with h1 | ⟨g, cap, cur, h1, h2, h3, h4⟩
  · exact .inl h1
  · exact .inr ⟨g, cap, cur, h1, h2, (hb.block g (heap_lt h3)).trans h3, h4⟩

theorem bytes_take (t : ByteArray) (k : Nat) : (t.extract 0 k).data.toList = t.data.toList.take k := by
  obtain ⟨⟨l⟩⟩ := t
  rw [ByteArray.extract_mk]
  simp
theorem bytes_drop (t : ByteArray) (k n : Nat) (h : t.size ≤ n) : (t.extract k n).data.toList = t.data.toList.drop k := by
  obtain ⟨⟨l⟩⟩ := t
  rw [ByteArray.extract_mk]
  have : l.length ≤ n := h
  simp
  rw [List.take_of_length_le]
  simp; omega
def szOf : Value → Nat
  | .string t => t.size
  | _ => 0
/-- What decimal hands back. -/
def RetDec (w0 : World) (r : Option Nat) (e : Ending) (w' : World) : Prop :=
  match r with
  | some a => ∃ A n c, e = .returned (.tuple #[.slice A n c, .bool true]) ∧ Own w' w0.heap.size (limbs a) A n c ∧ Below w0.heap.size w0 w'
  | none => e = .returned (.tuple #[.slice none 0 0, .bool false]) ∧ Below w0.heap.size w0 w'

set_option maxRecDepth 20000 in
set_option maxHeartbeats 1000000 in
theorem decimal_any (s : ByteArray) (w : World) (hT : Txt w) (r : Option Nat) (hr : readDec s.data.toList = r) :
    Calls Tryz.prog 83 #[.string s] w (RetDec w r) := by
  have hsl : s.data.toList.length = s.size := by rw [Array.length_toList]; rfl
  have HR := Lib.hid hr
  clear hr
  have hfst : ∀ h : 0 < s.size, s.data.toList.getD 0 0 = s[0]'h := fun h => by
    rw [List.getD_eq_getElem?_getD, List.getElem?_eq_getElem (by rw [hsl]; exact h)]
    rfl
  by_cases hA : s.size = 0
  · have hr0 : r = none := by rw [← HR.out]; unfold readDec; rw [hsl, if_pos (.inl hA)]
    have e0 : ((s.size : Int) == 0) = true := beq_iff_eq.2 (by omega)
    subst hr0
    clear hfst hsl hA
    go_enter Tryz.func83, Tryz.ntmps83
    go_wp2_with fail
    go_ret2
    exact ⟨rfl, Below.refl _ _⟩
  have e0 : ((s.size : Int) == 0) = false := by
    rw [beq_eq_false_iff_ne]; omega
  by_cases hB : 2000 < s.size
  · have hr0 : r = none := by rw [← HR.out]; unfold readDec; rw [hsl, if_pos (.inr (.inl hB))]
    have e1 : decide ((2000 : Int) < (s.size : Int)) = true := decide_eq_true (by omega)
    subst hr0
    clear hfst hsl hA hB
    go_enter Tryz.func83, Tryz.ntmps83
    go_wp2_with fail
    go_ret2
    exact ⟨rfl, Below.refl _ _⟩
  have e1 : decide ((2000 : Int) < (s.size : Int)) = false := decide_eq_false (by omega)
  have hpos : 0 < s.size := by omega
  by_cases hC : 1 < s.size ∧ s[0].toNat = 48
  · have hr0 : r = none := by
      rw [← HR.out]; unfold readDec
      rw [hsl, hfst hpos, if_pos (.inr (.inr ⟨hC.1, UInt8.toNat_inj.1 hC.2⟩))]
    have e2 : decide ((1 : Int) < (s.size : Int)) = true := decide_eq_true (by omega)
    have e3 : ((s[0].toNat : Int) == 48) = true := by
      rw [beq_iff_eq]; have := hC.2; omega
    subst hr0
    clear hfst hsl hA hB hC
    go_enter Tryz.func83, Tryz.ntmps83
    go_wp2_with fail
    go_ret2
    exact ⟨rfl, Below.refl _ _⟩
  have hr1 : decVal 0 s.data.toList = r := by
    rw [← HR.out]; unfold readDec
    rw [hsl, hfst hpos, if_neg]
    rintro (h | h | ⟨h, h'⟩)
    · exact hA h
    · exact hB h
    · exact hC ⟨h, by rw [h']; rfl⟩
  have HR1 := Lib.hid hr1
  clear hr1 HR
  obtain ⟨k0, hk0⟩ : ∃ k0, (s.size - 1) % 9 + 1 = k0 := ⟨_, rfl⟩
  have hw1 : IntKind.i64.wrap ((s.size : Int) - 1) = ((s.size - 1 : Nat) : Int) := by rw [IntWalk.i64_in _ (by omega)]; omega
  have hcase : (s.size = 1) ∨ (1 < s.size ∧ s[0].toNat ≠ 48) := by
    rcases Nat.lt_or_ge 1 s.size with h | h
    · exact .inr ⟨h, fun h' => hC ⟨h, h'⟩⟩
    · exact .inl (by omega)
  have hK : Hid (1 ≤ k0 ∧ k0 ≤ 9 ∧ k0 ≤ s.size ∧ (s.size - k0) % 9 = 0 ∧ s.size ≤ 2000) := by
    show _ ∧ _
    omega
  have HK0 := Lib.hid hk0
  clear hC hfst hA hB hk0
  refine Or.elim hcase (fun hc => ?ca) (fun hc => ?cb)
  all_goals clear hcase
  case' ca =>
    have e2 : decide ((1 : Int) < (s.size : Int)) = false := decide_eq_false (by omega)
    clear hc
    go_enter Tryz.func83, Tryz.ntmps83
    go_wp2_with fail
  case' cb =>
    have e2 : decide ((1 : Int) < (s.size : Int)) = true := decide_eq_true (by omega)
    have e3 : ((s[0].toNat : Int) == 48) = false := by
      rw [beq_eq_false_iff_ne]; have := hc.2; omega
    clear hc
    go_enter Tryz.func83, Tryz.ntmps83
    go_wp2_with fail
  all_goals
    go_loopw [0, 2, 4] (fun s0 s2 s4 wr => ∃ (t : ByteArray) (v : Value) (X k : Nat), s0 = .string t ∧ s2 = v ∧ s4 = .int .i64 (k : Int) ∧ OwnR wr w.heap.size v (limbs X) ∧ Below w.heap.size w wr ∧
      Hid (decVal 0 s.data.toList = decVal X t.data.toList ∧ X < 10 ^ (s.size - t.size) ∧ (X = 0 ∨ k = 9) ∧ t.size ≤ s.size ∧ s.size ≤ 2000 ∧ (0 < t.size → 1 ≤ k ∧ k ≤ 9 ∧ k ≤ t.size ∧ (t.size - k) % 9 = 0))) (fun s0 _ _ _ => szOf s0)
    case atStart =>
      refine ⟨s, _, 0, k0, rfl, rfl, congrArg (Value.int _) (by have := HK0.out; omega), by rw [limbs_zero]; exact OwnR.nil _ _, Below.refl _ _, ?_⟩
      show Hid _
      have := hK.out
      exact ⟨rfl, by rw [Nat.sub_self]; decide, .inl rfl, Nat.le_refl _, this.2.2.2.2, fun _ => ⟨this.1, this.2.1, this.2.2.1, this.2.2.2.1⟩⟩
    case round =>
      obtain ⟨t, v, X, k, rfl, rfl, rfl, hv, hb, HI⟩ := hrel
      by_cases ht : 0 < t.size
      · have hdt : decide ((0 : Int) < (t.size : Int)) = true := decide_eq_true (by omega)
        obtain ⟨i1, i2, i3, i4, i5, i6⟩ := HI.out
        obtain ⟨i7, i8, i9, i10⟩ := i6 ht
        have hkt : (k : Int) ≤ (t.size : Int) := by omega
        have hk0' : (0 : Int) ≤ (k : Int) := by omega
        have hts : (t.size : Int) ≤ 2000 := by omega
        have htl : t.data.toList.length = t.size := by rw [Array.length_toList]; rfl
        have hne : t.data.toList.take k ≠ [] := fun h => by
          have := congrArg List.length h
          rw [List.length_take, htl, List.length_nil] at this
          omega
        have hcl : (t.data.toList.take k).length ≤ 9 := by rw [List.length_take]; omega
        have hex : (t.extract 0 k).data.toList = t.data.toList.take k := bytes_take t k
        have hsz : (t.extract 0 k).size ≤ 9 := by
          have : (t.extract 0 k).data.toList.length = (t.extract 0 k).size := by rw [Array.length_toList]; rfl
          rw [← this, hex]; exact hcl
        have hXl : (limbs X).length ≤ 2000 := limbs_length_le (Nat.lt_of_lt_of_le i2 (pow_ten_P (by omega)))
        clear i1 i2 i3 i4 i5 i6 i7 i8 i9 i10 e1 e0
        rcases parse32 hne hcl with ⟨u, hp, hd, hu⟩ | ⟨hp, hd⟩
        · rw [← hex] at hp
          have HP := Lib.hid hp
          have HDV := Lib.hid hd
          clear hp hd hne hcl hex
          go_wp2_with fail
          refine (Lx.Tryz.strconv_ParseUint_10_at32_ok (t.extract 0 k) (by omega) u HP.out _).mono ?_
          rintro e w2 ⟨rfl, hw2⟩
          have hb2 : Below wr.heap.size wr w2 := by
            rcases hw2 with rfl | rfl
            · exact Below.refl _ _
            · exact Lib.bytesWorld_below _ _ _
          clear hw2
          go_wp2_with fail
          have hb12 := hb.trans (hb2.mono hb.size)
          refine (appendChunk_any w.heap.size X u _ _ (hv.below hb2) hb12.size hu (by omega)).mono ?_
          rintro e w3 ⟨v3, rfl, hv3, hb3⟩
          have hb13 := hb12.trans hb3
          go_wp2_with fail
          go_roundw
          case rel =>
            obtain ⟨i1, i2, i3, i4, i5, i6⟩ := HI.out
            obtain ⟨i7, i8, i9, i10⟩ := i6 ht
            have hdl : (t.extract k t.size).data.toList = t.data.toList.drop k := bytes_drop t k t.size (Nat.le_refl _)
            have hds : (t.extract k t.size).size = t.size - k := by
              have : (t.extract k t.size).data.toList.length = (t.extract k t.size).size := by rw [Array.length_toList]; rfl
              rw [← this, hdl, List.length_drop, htl]
            have hst := dec_step (l := s.data.toList) (t := t.data.toList) i1 (by rw [hsl, htl]; exact i2) i3 (by omega) (by omega) HDV.out
            refine ⟨t.extract k t.size, _, X * 1000000000 + u, 9, rfl, rfl, rfl, hv3, hb13, ?_⟩
            show Hid _
            rw [hdl, hds]
            rw [List.length_drop, hsl, htl] at hst
            exact ⟨hst.1, hst.2, .inr rfl, by omega, i5, fun h => by omega⟩
          case measure =>
            have hds : (t.extract k t.size).size = t.size - k := by
              have : (t.extract k t.size).data.toList.length = (t.extract k t.size).size := by rw [Array.length_toList]; rfl
              rw [← this, bytes_drop t k t.size (Nat.le_refl _), List.length_drop, htl]
            have := HI.out.2.2.2.2.2 ht
            simp only [szOf]
            omega
        · rw [← hex] at hp
          have HP := Lib.hid hp
          have HDV := Lib.hid hd
          clear hp hd hne hcl hex
          obtain ⟨tp, p, hsyn⟩ := (hT.below hb).syn
          go_wp2_with fail
          refine (Any.strconv_ParseUint_10_at32_syntax_var Lx.Tryz.laysPu14 (t.extract 0 k) (by omega) HP.out tp p _ hsyn).mono ?_
          rintro e w2 ⟨N, rfl, _, _, hb2⟩
          have hr0 : r = none := by rw [← HR1.out]; exact dec_none HI.out.1 HDV.out
          subst hr0
          clear hsyn
          go_wp2_with fail
          go_ret2
          exact ⟨rfl, hb.trans (hb2.mono hb.size)⟩
      · have ht0 : t.size = 0 := by omega
        have hdt : decide ((0 : Int) < (t.size : Int)) = false := decide_eq_false (by omega)
        have hr0 : r = some X := by
          rw [← HR1.out, HI.out.1]
          have : t.data.toList = [] := List.eq_nil_of_length_eq_zero (by rw [Array.length_toList]; exact ht0)
          rw [this]; rfl
        subst hr0
        obtain ⟨A, c, rfl, ho⟩ := hv.own (lim_limbs X)
        clear ht
        go_wp2_with fail
        go_ret2
        exact ⟨_, _, _, rfl, ho, hb⟩
end Go.Proofs.YtggmmgojpamcpaaGreatDoor

namespace Go.Proofs.YtggmmgojpamcpaaGreatDoor
open Go.RowKit

/-- What Parse reads. -/
def parseQ (l : List UInt8) : Option Rat :=
  let neg := Lib.hasPrefix l [45]
  let c := Lib.cut (Lib.trimPrefix l [45]) [47]
  match readDec c.1 with
  | none => none
  | some n => if c.2.2 then (match readDec c.2.1 with | none => none | some d => if d = 0 then none else some (qv neg n d)) else some (qv neg n 1)
def RetParse (w0 : World) (r : Option Rat) (e : Ending) (w' : World) : Prop :=
  ∃ v, e = .returned (.tuple #[v, .bool r.isSome]) ∧ RatQ w' v (r.getD 0) ∧ Below w0.heap.size w0 w'
theorem readDec_length {l : List UInt8} {n : Nat} (h : readDec l = some n) : (limbs n).length ≤ 2000 := by
  unfold readDec at h
  split at h
  · cases h
  · next hc =>
    exact limbs_length_le (Nat.lt_of_lt_of_le (decVal_lt h) (pow_ten_P (by omega)))

theorem cutPrefix_v (s s1 : ByteArray) (neg : Bool) (w : World) (H : Hid ((⟨(Lib.trimPrefix s.data.toList [45]).toArray⟩ : ByteArray) = s1 ∧ Lib.hasPrefix s.data.toList [45] = neg)) :
    Calls Tryz.prog 81 #[.string s, .string ⟨#[45]⟩] w fun e w' => e = .returned (.tuple #[.string s1, .bool neg]) ∧ w = w' := by
  refine (Lx.Tryz.strings_CutPrefix s ⟨#[45]⟩ w).mono ?_
  rintro e w' ⟨rfl, rfl⟩
  rw [← H.out.1, ← H.out.2]
  exact ⟨rfl, rfl⟩
theorem cut_v (s a b : ByteArray) (sl : Bool) (w : World) (hT : Txt w) (hs : s.size < 4294967281) (H : Hid ((⟨(Lib.cut s.data.toList [47]).1.toArray⟩ : ByteArray) = a ∧ (⟨(Lib.cut s.data.toList [47]).2.1.toArray⟩ : ByteArray) = b ∧ (Lib.cut s.data.toList [47]).2.2 = sl)) :
    Calls Tryz.prog 82 #[.string s, .string ⟨#[47]⟩] w (RetQ w (.tuple #[.string a, .string b, .bool sl])) := by
  obtain ⟨m, hm⟩ := hT.max
  refine (Lx.Tryz.strings_Cut s ⟨#[47]⟩ m w hs hm).mono ?_
  rintro e w' ⟨rfl, q, rfl⟩
  rw [← H.out.1, ← H.out.2.1, ← H.out.2.2]
  exact ⟨rfl, q, rfl⟩
theorem Txt.drewN {w : World} (h : Txt w) (n : Nat) : Txt (w.drewN n) := ⟨h.tab.drewN n, h.pow, h.syn, h.max⟩

set_option maxRecDepth 20000 in
set_option maxHeartbeats 1000000 in
theorem Parse_any (s : ByteArray) (w : World) (hT : Txt w) (hs : s.size < 4294967281) (r : Option Rat) (hr : parseQ s.data.toList = r) :
    Calls Tryz.prog 40 #[.string s] w (RetParse w r) := by
  have HR := Lib.hid hr
  clear hr
  have hbA : Below w.heap.size w (w.alloc R0) := (Below.refl _ _).alloc (Nat.le_refl _) _
  have hrr := Rc.new w (.bool false) (.slice none 0 0) (.slice none 0 0)
  go_enter Tryz.func40, Tryz.ntmps40
  go_wp2_with fail
  obtain ⟨s1, hs1⟩ : ∃ s1 : ByteArray, (⟨(Lib.trimPrefix s.data.toList [45]).toArray⟩ : ByteArray) = s1 := ⟨_, rfl⟩
  obtain ⟨neg, hneg⟩ : ∃ neg, Lib.hasPrefix s.data.toList [45] = neg := ⟨_, rfl⟩
  obtain ⟨a, ha⟩ : ∃ a : ByteArray, (⟨(Lib.cut s1.data.toList [47]).1.toArray⟩ : ByteArray) = a := ⟨_, rfl⟩
  obtain ⟨b, hb⟩ : ∃ b : ByteArray, (⟨(Lib.cut s1.data.toList [47]).2.1.toArray⟩ : ByteArray) = b := ⟨_, rfl⟩
  obtain ⟨sl, hsl⟩ : ∃ sl, (Lib.cut s1.data.toList [47]).2.2 = sl := ⟨_, rfl⟩
  have hs1l : s1.size < 4294967281 := by
    rw [← hs1]
    show (Lib.trimPrefix s.data.toList [45]).length < _
    have : s.data.toList.length = s.size := by rw [Array.length_toList]; rfl
    unfold Lib.trimPrefix
    split
    · rw [List.length_drop]; omega
    · omega
  have hq : (match readDec a.data.toList with
      | none => none
      | some n => if sl then (match readDec b.data.toList with | none => none | some d => if d = 0 then none else some (qv neg n d)) else some (qv neg n 1)) = r := by
    rw [← HR.out]
    unfold parseQ
    rw [← ha, ← hb, ← hsl, ← hneg, ← hs1]
  have H1 := Lib.hid (And.intro hs1 hneg)
  have H2 := Lib.hid (And.intro ha (And.intro hb hsl))
  have HQ := Lib.hid hq
  clear hs1 hneg ha hb hsl hq HR
  refine (cutPrefix_v s s1 neg _ H1).mono ?_
  rintro e w' ⟨rfl, rfl⟩
  go_wp2_with fail
  refine (cut_v s1 a b sl _ (hT.below hbA) hs1l H2).mono ?_
  rintro e w' ⟨rfl, q, rfl⟩
  have hbq : Below w.heap.size w ((w.alloc R0).drewN q) := below_drewN hbA q
  replace hrr : Rc ((w.alloc R0).drewN q) _ _ _ _ := hrr.drewN q
  obtain ⟨ra, hra⟩ : ∃ ra, readDec a.data.toList = ra := ⟨_, rfl⟩
  rw [hra] at HQ
  go_wp2_with fail
  generalize (w.alloc R0).drewN q = W at *
  refine (decimal_any a _ (hT.below hbq) ra hra).mono ?_
  cases ra with
  | none =>
    rintro e w1 ⟨rfl, hb1⟩
    have hr0 : r = none := HQ.out.symm
    subst hr0
    have hrr1 := hrr.below hb1 hrr.lt
    obtain ⟨r0, r1, r2⟩ := hrr1.cells
    obtain ⟨f0, f1, f2⟩ := hrr1.frozen
    go_wp2_with fail
    refine ret_rc_tmp Tryz.results40 rfl rfl (hrr1.set _ _ _) rfl ?_
    exact ⟨_, rfl, ratq_zero _, below_set3 (hbq.trans (hb1.mono hbq.size)) (Nat.le_refl _) _ _ _⟩
  | some n =>
    rintro e w1 ⟨A1, n1, c1, rfl, h1, hb1⟩
    have hb01 := hbq.trans (hb1.mono hbq.size)
    have hl1 : n1 ≤ 2000 := by rw [h1.len]; exact readDec_length hra
    simp only at HQ
    cases sl with
    | false =>
      have hr1 : r = some (qv neg n 1) := HQ.out.symm
      subst hr1
      clear HQ
      go_wp2_with fail
      refine (fraction_any neg _ _ _ _ _ _ n 1 [] _ h1.num (Num.nil _ _ _) (by omega) (by omega) (.inr ⟨rfl, rfl⟩)).mono ?_
      rintro e w2 hr
      obtain ⟨v, rfl, h3, hb2⟩ := RetFrac.rat (by decide) (Nat.gcd_one_right _) rfl hr
      have hb12 := hb1.trans (hb2.mono hb1.size)
      have hrr3 := hrr.below hb12 hrr.lt
      obtain ⟨nb, A, k, c, B, m, e, rfl⟩ := h3.agg
      obtain ⟨r0, r1, r2⟩ := hrr3.cells
      obtain ⟨f0, f1, f2⟩ := hrr3.frozen
      go_wp2_with fail
      refine ret_rc_tmp Tryz.results40 rfl rfl (hrr3.set _ _ _) rfl ?_
      exact ⟨_, rfl, h3.set3 hrr3 _ _ _, below_set3 (hbq.trans (hb12.mono hbq.size)) (Nat.le_refl _) _ _ _⟩
    | true =>
      obtain ⟨rb, hrb⟩ : ∃ rb, readDec b.data.toList = rb := ⟨_, rfl⟩
      rw [hrb] at HQ
      go_wp2_with fail
      refine (decimal_any b _ ((hT.below hbq).below hb1) rb hrb).mono ?_
      cases rb with
      | none =>
        rintro e w2 ⟨rfl, hb2⟩
        have hr0 : r = none := HQ.out.symm
        subst hr0
        have hb12 := hb1.trans (hb2.mono hb1.size)
        have hrr1 := hrr.below hb12 hrr.lt
        obtain ⟨r0, r1, r2⟩ := hrr1.cells
        obtain ⟨f0, f1, f2⟩ := hrr1.frozen
        go_wp2_with fail
        refine ret_rc_tmp Tryz.results40 rfl rfl (hrr1.set _ _ _) rfl ?_
        exact ⟨_, rfl, ratq_zero _, below_set3 (hbq.trans (hb12.mono hbq.size)) (Nat.le_refl _) _ _ _⟩
      | some d =>
        rintro e w2 ⟨A2, n2, c2, rfl, h2, hb2⟩
        have hb12 := hb1.trans (hb2.mono hb1.size)
        have hl2 : n2 ≤ 2000 := by rw [h2.len]; exact readDec_length hrb
        have hn2 : n2 = 0 ↔ d = 0 := by rw [h2.len]; exact limbs_length_zero
        by_cases hd : d = 0
        · have hr0 : r = none := by rw [← HQ.out]; simp [hd]
          subst hr0
          obtain rfl := hn2.2 hd
          have hrr1 := hrr.below hb12 hrr.lt
          obtain ⟨r0, r1, r2⟩ := hrr1.cells
          obtain ⟨f0, f1, f2⟩ := hrr1.frozen
          clear hn2 hd HQ
          go_wp2_with fail
          refine ret_rc_tmp Tryz.results40 rfl rfl (hrr1.set _ _ _) rfl ?_
          exact ⟨_, rfl, ratq_zero _, below_set3 (hbq.trans (hb12.mono hbq.size)) (Nat.le_refl _) _ _ _⟩
        · obtain ⟨q1, hq1⟩ : ∃ q1, qv neg n d = q1 := ⟨_, rfl⟩
          have hr1 : r = some q1 := by rw [← HQ.out, ← hq1]; simp [hd]
          subst hr1
          have hne : ((n2 : Int) == 0) = false := by
            rw [beq_eq_false_iff_ne]; exact fun h => hd (hn2.1 (by omega))
          have HD := Lib.hid hd
          have HQ1 := Lib.hid hq1
          clear hn2 hd HQ hq1
          go_wp2_with fail
          refine (reduced_any neg _ _ _ _ _ _ n d _ ((hT.below hbq).below hb12).tab (h1.num.below hb2) h2.num (by omega) (by omega) HD.out).mono ?_
          rintro e w3 hr
          obtain ⟨j1, j2, j3⟩ := qv_reduce neg (a := n) HD.out
          obtain ⟨v, rfl, h3, hb3⟩ := RetFrac.rat j2 j3 (j1.trans HQ1.out) hr
          have hb13 := hb12.trans (hb3.mono hb12.size)
          have hrr3 := hrr.below hb13 hrr.lt
          clear j1 j2 j3
          obtain ⟨nb, A, k, c, B, m, e, rfl⟩ := h3.agg
          obtain ⟨r0, r1, r2⟩ := hrr3.cells
          obtain ⟨f0, f1, f2⟩ := hrr3.frozen
          go_wp2_with fail
          refine ret_rc_tmp Tryz.results40 rfl rfl (hrr3.set _ _ _) rfl ?_
          exact ⟨_, rfl, h3.set3 hrr3 _ _ _, below_set3 (hbq.trans (hb13.mono hbq.size)) (Nat.le_refl _) _ _ _⟩
end Go.Proofs.YtggmmgojpamcpaaGreatDoor

namespace Go.Proofs.YtggmmgojpamcpaaGreatDoor
open Go.RowKit Go.Shelf
attribute [local go_sem] Oper.semAt_some

/-- The first k pairs that Backward hands over a list of n. -/
def bk (cs : List Nat) (n k : Nat) : List (Nat × Nat) := (List.range k).map fun j => (n - 1 - j, cs.getD (n - 1 - j) 0)
theorem bk_succ (cs : List Nat) (n k : Nat) : bk cs n (k + 1) = bk cs n k ++ [(n - 1 - k, cs.getD (n - 1 - k) 0)] := by simp [bk, List.range_succ]
theorem bk_length (cs : List Nat) (n k : Nat) : (bk cs n k).length = k := by simp [bk]
abbrev encB (x : Nat × Nat) : Array Value := #[.int .i64 (x.1 : Int), .int .u32 (x.2 : Int)]
/-- What a round must keep: the row and the variable of the slice. -/
def KpB (b Bs : Nat) (W W' : World) : Prop := W'.heap[b]? = W.heap[b]? ∧ W'.heap[Bs]? = W.heap[Bs]?
theorem KpB.refl (b Bs : Nat) (W : World) : KpB b Bs W W := ⟨rfl, rfl⟩
theorem KpB.trans {b Bs : Nat} {A B C : World} (h : KpB b Bs A B) (k : KpB b Bs B C) : KpB b Bs A C := ⟨k.1.trans h.1, k.2.trans h.2⟩

set_option maxRecDepth 100000 in
set_option maxHeartbeats 2000000 in
theorem back1_in (F : Fence) (m : Nat) (hF : F.fn 128) (hro : F.round = none) (hm : 1 ≤ m) (l Bs b n cap : Nat) (cs : List Nat) (hn : n ≤ 4000000) (J Jx : List (Nat × Nat) → World → Prop)
    (hY : ∀ pre x W, J pre W → pre.length < n → YieldAt F (m - 1) Tryz.prog l (encB x) W fun e W' =>
      (e = .returned (.bool true) ∧ J (pre ++ [x]) W' ∧ KpB b Bs W W') ∨ (e = .returned (.bool false) ∧ Jx (pre ++ [x]) W'))
    (W : World) (hBs : W.cell? ⟨Bs, 0, none⟩ = some (.slice (some ⟨b, 0, none⟩) n cap)) (hc : ∀ j, j < n → W.cell? ⟨b, j, none⟩ = some (.int .u32 ((cs.getD j 0 : Nat) : Int))) (h0 : J [] W) :
    CallsIn F m Tryz.prog 128 #[.func (.yield l) #[] #[], .pointer (some ⟨Bs, 0, none⟩)] W fun e W' => (∃ v, e = .returned v) ∧
      ((∃ ys, ys = bk cs n n ∧ J ys W') ∨ (∃ pre, (∃ k, k ≤ n ∧ pre = bk cs n k) ∧ Jx pre W')) := by
  refine callsIn_of_wp Tryz.func128 rfl hF ?_ hro
  simp only [Tryz.ntmps128, List.size_toArray, List.length_cons, List.length_nil, Nat.reduceAdd, Nat.reduceSub, Array.replicate_succ, Array.replicate_zero, List.push_toArray, List.append_toArray, List.nil_append, List.cons_append]
  have hw1 : IntKind.i64.wrap ((n : Int) - 1) = (n : Int) - 1 := IntWalk.i64_in _ (by omega)
  gi_wp2
  gi_loopw [3] (fun i wr => ∃ k : Nat, k ≤ n ∧ i = .int .i64 ((n : Int) - 1 - (k : Int)) ∧ J (bk cs n k) wr ∧ KpB b Bs W wr) (fun i _ => (intOf i + 1).toNat)
  case atStart => exact ⟨0, Nat.zero_le _, by simp, h0, KpB.refl _ _ _⟩
  case round =>
    obtain ⟨k, hk, rfl, hJs, hnx⟩ := hrel
    by_cases hlt : k < n
    · have hcx : wr.cell? ⟨b, n - 1 - k, none⟩ = some (.int .u32 ((cs.getD (n - 1 - k) 0 : Nat) : Int)) := (World.cell?_of_block hnx.1).trans (hc _ (by omega))
      have hBs' : wr.cell? ⟨Bs, 0, none⟩ = some (.slice (some ⟨b, 0, none⟩) n cap) := (World.cell?_of_block hnx.2).trans hBs
      obtain ⟨j, hj⟩ : ∃ j, n - 1 - k = j := ⟨_, rfl⟩
      have hji : (n : Int) - 1 - (k : Int) = (j : Int) := by omega
      obtain ⟨c, hcd⟩ : ∃ c, cs.getD (n - 1 - k) 0 = c := ⟨_, rfl⟩
      have hbk : bk cs n (k + 1) = bk cs n k ++ [(j, c)] := by rw [bk_succ, hcd, hj]
      obtain ⟨fn, tmps, assign, body, hy, hR⟩ := hY _ (j, c) wr hJs (by rw [bk_length]; exact hlt)
      rw [hcd, hj] at hcx
      have hjn : j < n := by omega
      have hj0 : (0 : Int) ≤ (j : Int) := by omega
      rw [hji]
      have HJ := Lib.hid hj
      have HBK := Lib.hid hbk
      clear hj hcd hbk hji hc hBs
      gi_wp2
      refine hR.mono ?_
      rintro e W3 (⟨rfl, hJ3, hk3⟩ | ⟨rfl, hJx3⟩)
      · have hw2 : IntKind.i64.wrap ((j : Int) - 1) = (j : Int) - 1 := IntWalk.i64_in _ (by omega)
        gi_wp2
        go_roundw
        case rel => exact ⟨k + 1, by omega, congrArg (Value.int _) (by have := HJ.out; omega), by rw [HBK.out]; exact hJ3, hnx.trans hk3⟩
        case measure => simp [intOf]
      · gi_wp2
        refine bodyPost_ret (results_none rfl _ _ _) rfl ?_
        exact ⟨⟨_, rfl⟩, .inr ⟨_, ⟨k + 1, by omega, HBK.out.symm⟩, hJx3⟩⟩
    · obtain rfl : k = n := by omega
      have hneg : ¬ (0 : Int) ≤ (k : Int) - 1 - (k : Int) := by omega
      gi_wp2
      go_end0
      exact ⟨⟨_, rfl⟩, .inl hJs⟩
theorem back_stops (F : Fence) (m : Nat) (hF : F.fn 128) (hro : F.round = none) (hm : 1 ≤ m) (Bs b n cap : Nat) (cs : List Nat) (hn : n ≤ 4000000) (w : World) (hBs : Bs < w.heap.size) (hb : b < w.heap.size)
    (hc : w.cell? ⟨Bs, 0, none⟩ = some (.slice (some ⟨b, 0, none⟩) n cap)) (hcs : ∀ j, j < n → w.cell? ⟨b, j, none⟩ = some (.int .u32 ((cs.getD j 0 : Nat) : Int))) :
    SeqStopsK F m Tryz.prog 128 #[.pointer (some ⟨Bs, 0, none⟩)] encB (KpB b Bs) (fun ys => ys = bk cs n n) (fun pre => ∃ k, k ≤ n ∧ pre = bk cs n k) n w :=
  fun l J Jx W hW _ _ hY h0 =>
    back1_in F m hF hro hm l Bs b n cap cs hn J Jx hY W ((hW.cell (p := ⟨Bs, 0, none⟩) hBs).trans hc) (fun j hj => (hW.cell (p := ⟨b, j, none⟩) hb).trans (hcs j hj)) h0

end Go.Proofs.YtggmmgojpamcpaaGreatDoor
