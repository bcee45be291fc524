/- texts -/
import Derived.Test.YtifeekomegoijaaGreatDoorU36
import Derived.Test.YtifeekomegoijaaGreatDoorU22
set_option linter.unusedVariables false
set_option linter.unusedSimpArgs false
namespace Go.Proofs.YtifeekomegoijaaGreatDoor
open Go.RowKit

def signT : Bool → Bool → List UInt8
 | true, true => [45]
 | true, false => []
 | false, true => [32, 45, 32]
 | false, false => [32, 43, 32]
set_option maxRecDepth 20000 in
theorem sign_any (f n : Bool) (w : World) : Calls Tryz.prog 77 #[.bool f, .bool n] w (fun e w' => e = .returned (.string ⟨(signT f n).toArray⟩) ∧ w' = w) := by
 cases f <;> cases n
 all_goals
  go_enter Tryz.func77, Tryz.ntmps77
  go_wp2_with fail
  go_ret
  exact ⟨rfl, rfl⟩

abbrev ST : TypeId := 9
theorem info_str : (Tryz.prog.info? 9).map (fun i => (i.zero, i.size, i.bytes)) = some (some (.string ⟨#[]⟩), 1, 16) := by kernel_rfl
theorem appX_run (w : World) (B : Nat) (v : Value) (n : Nat) (xs : List Value) (hown : w.ownsRow B ST 1 v n xs) (g : Nat) (x : ByteArray) (hg : Cs w g [.string x] ST) (hn : n ≤ 1000000) (hB : B ≤ w.heap.size) :
  ∃ v' w', (Builtin.append_ #[96, 96] 96 #[v, .slice (some ⟨g, 0, none⟩) 1 1]).run Tryz.prog w = .ok v' w' ∧ w'.ownsRow B ST 1 v' (n + 1) (xs ++ [.string x]) ∧ w.grownBy w' v.ownBlock := by
 obtain ⟨i0, hi, hz0, hz1, hz2⟩ := info_parts info_str
 obtain ⟨v', w', h2, h3, h4, _⟩ := run_append_own_at (P := Tryz.prog) w B 96 96 ST i0 _ 1 16 Tryz.underlying96 hi hz0 hz1 hz2 rfl (by decide) v n xs hown ⟨g, 0, none⟩ 1 1 [.string x] rfl
  (fun j u hju => by
   have e : (⟨g, 0, none⟩ : Addr).add j = ⟨g, j, none⟩ := by unfold Addr.add; split <;> simp_all
   rw [e]; exact hg.cell hju) (by intro u hu; simp at hu; subst hu; rfl) (by unfold maxLen; omega) (by omega) hB
 exact ⟨v', w', h2, h3, h4⟩
theorem wpList_appX {w : World} {ops : Array Oper} {rest : List Oper} {o : Oper} {a : Act} {Q : Exit → Act → World → Prop} (hgd : o.guard = none) (sl x : Operand)
  (ho : o.op = .call { callee := .builtin .append, args := #[sl, x], argTypes := #[96, 96] }) (hty : o.type = 96) (v v' u : Value) (w' : World) (hs : a.eval sl = v) (hx : a.eval x = u)
  (hrun : Hid ((Builtin.append_ #[96, 96] 96 #[v, u]).run Tryz.prog w = .ok v' w')) (h : wpList Tryz.prog ops Q rest (a.put o.dst v') w') : wpList Tryz.prog ops Q (o :: rest) a w := by
 refine wpList_plain hgd fun K hK => ?_
 have hr := hrun.out
 unfold Oper.wp
 simp [execOp, ho, hty, resolve, invoke, builtin, hs, hx, hr, Result.andThen]
 exact hK _ _ h
theorem step_appX {w : World} {ops : Array Oper} {o : Oper} {a : Act} {Q : Exit → Act → World → Prop} {K : Act → World → Prop} {E : Prop} (hgd : o.guard = none) (sl x : Operand)
  (ho : o.op = .call { callee := .builtin .append, args := #[sl, x], argTypes := #[96, 96] }) (hty : o.type = 96) (v v' u : Value) (w' : World) (hs : a.eval sl = v) (hx : a.eval x = u)
  (hrun : Hid ((Builtin.append_ #[96, 96] 96 #[v, u]).run Tryz.prog w = .ok v' w')) (hK : K (a.put o.dst v') w') :
  if Region.wanted o (yielded ops a.tmps) = true then Oper.wp Tryz.prog o a w K Q else E := by
 have hw : Region.wanted o (yielded ops a.tmps) = true := by simp [Region.wanted, hgd]
 have hr := hrun.out
 rw [if_pos hw]
 unfold Oper.wp
 simp [execOp, ho, hty, resolve, invoke, builtin, hs, hx, hr, Result.andThen]
 exact hK

theorem bne_iff_decide_cmp (a : Rat) : (cmpQ a 1 != 0) = decide (a ≠ 1) := by
 unfold cmpQ
 by_cases h : a < 1
 ·have : a ≠ 1 := fun e => by rw [e] at h; exact absurd h (by decide)
  simp [h, this]
 ·by_cases h' : 1 < a
  ·have : a ≠ 1 := fun e => by rw [e] at h'; exact absurd h' (by decide)
   simp [h, h', this]
  ·have : a = 1 := by
    have h1 := Rat.not_lt.1 h
    have h2 := Rat.not_lt.1 h'
    exact Rat.le_antisymm h2 h1
   simp [this]
theorem below_of_drew {B : Nat} {a w : World} (h : Below B a.drew w) : Below B a w := ⟨h.os, h.tape, h.output, h.size, h.block⟩
theorem TxF.drew' {w : World} (h : TxF w) : TxF w.drew := h.keep (fun _ _ => rfl)

def absq (q : Rat) : Rat := qv false q.num.natAbs q.den
def letter (k : Nat) : ByteArray := (⟨#[97, 98, 99]⟩ : ByteArray).extract k (k + 1)
def partK (k n : Nat) : List ByteArray := if n = 1 then [letter k] else if 1 < n then [letter k ++ ⟨#[94]⟩ ++ ⟨(Lib.decDigits n).toArray⟩] else []
def comp (e : Ex) : Nat → Nat
 | 0 => e.1
 | 1 => e.2.1
 | _ => e.2.2
def parts (e : Ex) (k : Nat) : List ByteArray := (List.range k).flatMap fun i => partK i (comp e i)
theorem parts_succ (e : Ex) (k : Nat) : parts e (k + 1) = parts e k ++ partK k (comp e k) := by
 unfold parts
 rw [List.range_succ, List.flatMap_append, List.flatMap_singleton]
def numPart (e : Ex) (a : Rat) : List ByteArray := if e = (0, 0, 0) ∨ a ≠ 1 then [⟨(fmtQ a).toArray⟩] else []
def factL (m : Mon) : List ByteArray := numPart m.1 (absq m.2) ++ parts m.1 3
def RowS (w : World) (B : Nat) (v : Value) (l : List ByteArray) : Prop := w.ownsRow B ST 1 v l.length (l.map Value.string)
theorem RowS.snoc {w : World} {B n : Nat} {v : Value} {l : List ByteArray} {x : ByteArray} (hn : n = l.length) (h : w.ownsRow B ST 1 v (n + 1) (l.map Value.string ++ [.string x])) : RowS w B v (l ++ [x]) := by
 subst hn
 unfold RowS
 rw [List.length_append, List.map_append]; exact h
theorem RowS.below {w w' : World} {B : Nat} {v : Value} {l : List ByteArray} (h : RowS w B v l) (hb : Below w.heap.size w w') : RowS w' B v l := ow_below h hb
def RetRowS (w0 : World) (l : List ByteArray) (e : Ending) (w' : World) : Prop := ∃ v, e = .returned v ∧ RowS w' w0.heap.size v l ∧ Below w0.heap.size w0 w'

theorem itoa_dig (x : Nat) (h : x < 100) (w : World) : Calls Tryz.prog 119 #[.int .i64 (x : Int)] w (fun e w' => e = .returned (.string ⟨(Lib.decDigits x).toArray⟩) ∧ w' = w) := Lx.Tryz.strconv_Itoa_small x h w
theorem dec_small (x : Nat) (h : x < 10) : (⟨(Lib.decDigits x).toArray⟩ : ByteArray).size = 1 := by
 rw [Lib.decDigits, dif_pos h]; rfl
theorem letter_size {k : Nat} (h : k < 3) : (letter k).size = 1 :=
 match k, h with
 | 0, _ => by kernel_rfl
 | 1, _ => by kernel_rfl
 | 2, _ => by kernel_rfl
theorem partK_more (k : Nat) {x : Nat} (h : 1 < x) : partK k x = [letter k ++ ⟨#[94]⟩ ++ ⟨(Lib.decDigits x).toArray⟩] := by unfold partK; rw [if_neg (by omega), if_pos h]
theorem partK_len (k x : Nat) : (partK k x).length ≤ 1 := by
 unfold partK; split
 ·simp
 ·split <;> simp
theorem parts_len (e : Ex) (a : Rat) (k : Nat) (hk : k ≤ 3) : (numPart e a ++ parts e k).length ≤ 1000000 := by
 have h1 : (numPart e a).length ≤ 1 := by unfold numPart; split <;> simp
 have h2 : ∀ k, (parts e k).length ≤ k := by
  intro k
  induction k with
  | zero => simp [parts]
  | succ k ih => rw [parts_succ, List.length_append]; have := partK_len k (comp e k); omega
 rw [List.length_append]; have := h2 k; omega
theorem idx_arr (e : Ex) {k : Nat} (hk : k < 3) : ∀ w : World, (Instr.index 57 (.agg #[.int .i64 (e.1 : Int), .int .i64 (e.2.1 : Int), .int .i64 (e.2.2 : Int)]) (.int .i64 (k : Int))).run Tryz.prog w = .ok (.int .i64 (comp e k : Int)) w := fun w =>
 match k, hk with
 | 0, _ => by kernel_rfl
 | 1, _ => by kernel_rfl
 | 2, _ => by kernel_rfl
theorem comp_le {e : Ex} (he : deg e ≤ 5) (k : Nat) : comp e k ≤ 5 := by
 unfold deg at he
 match k with
 | 0 => show e.1 ≤ 5; omega
 | 1 => show e.2.1 ≤ 5; omega
 | _ + 2 => show e.2.2 ≤ 5; omega

set_option maxRecDepth 20000 in
set_option maxHeartbeats 4000000 in
theorem factors_any (e : Ex) (nb : Bool) (A B : Option Addr) (n c m k : Nat) (q a : Rat) (L : Nat) (w : World) (hT : TxF w) (he : deg e ≤ 5) (hq : RatQ w (.agg #[.bool nb, .slice A n c, .slice B m k]) q) (hS : Sz q L) (hL : L ≤ 10000) (ha : Hid (absq q = a)) :
  Calls Tryz.prog 79 #[.agg #[.int .i64 (e.1 : Int), .int .i64 (e.2.1 : Int), .int .i64 (e.2.2 : Int), .bool nb, .slice A n c, .slice B m k]] w (RetRowS w (numPart e a ++ parts e 3)) := by
 have hSa : Sz a L := sz_abs hS ha.out
 obtain ⟨hb1, d1⟩ := new6 w (.int .i64 (e.1 : Int)) (.int .i64 (e.2.1 : Int)) (.int .i64 (e.2.2 : Int)) (.bool nb) (.slice A n c) (.slice B m k)
 have y := d1.c6
 have hq1 := hq.below hb1
 have hT1 := hT.below hb1
 clear hq hT
 go_enter Tryz.func79, Tryz.ntmps79
 go_wp2_with fail
 refine (Abs_any _ q a L _ hT1.tab (hq1.inp hS (by omega)) (hS.mono (by omega)) ha.out).mono ?_
 rintro e1 w1 ⟨v1, rfl, h1, hb2⟩
 obtain ⟨na, Aa, n1, c1, Ba, m1, k1, rfl⟩ := h1.agg
 obtain ⟨hb3, d3⟩ := blk1 w1 [.bool na, .slice Aa n1 c1, .slice Ba m1 k1] 25
 have hb12 := hb1.trans (hb2.mono hb1.size)
 have hB3 := hb12.trans (hb3.mono hb12.size)
 replace hT1 := (hT1.below hb2).below hb3
 replace d1 := (d1.below hb2 d1.lt).below hb3 (d1.below hb2 d1.lt).lt
 replace h1 := h1.below hb3
 clear y hb1 hb2 hb3 hq1
 obtain ⟨y0, y1, y2, _, _, _⟩ := d1.c6
 obtain ⟨z0, z1, z2⟩ := d3.c3
 have hsz := hB3.size
 go_wp2_with fail
 have hmx : Tryz.prog.follows .mixedOrders = true := by kernel_rfl
 have HT1 := Lib.hid hT1
 have HD1 := Lib.hid d1
 clear hT1
 obtain ⟨V, hV⟩ : ∃ V, cmpQ a 1 = V := ⟨_, rfl⟩
 have hV1 : (V != 0) = decide (a ≠ 1) := by
  rw [← hV, bne_iff_decide_cmp]
 have HV := Lib.hid hV
 clear hV
 generalize hW : (w1.alloc (.cells #[.bool na, .slice Aa n1 c1, .slice Ba m1 k1] 25)) = W at *
 clear hW
 go_cut [19] from 10 to 19 (fun t wx => t = .bool (decide (e = (0, 0, 0) ∨ a ≠ 1)) ∧ Below W.heap.size W wx)
 case first =>
  by_cases h0 : e = (0, 0, 0)
  ·have e0 : e.1 = 0 := by rw [h0]
   have e1 : e.2.1 = 0 := by rw [h0]
   have e2 : e.2.2 = 0 := by rw [h0]
   have heq : ∀ w : World, (Op.equalIn 10000 57 (.agg #[.int .i64 (e.1 : Int), .int .i64 (e.2.1 : Int), .int .i64 (e.2.2 : Int)]) (.agg #[.int .i64 0, .int .i64 0, .int .i64 0])).run Tryz.prog w = .ok true w := fun w => by
    rw [eq_exps, e0, e1, e2]; rfl
   have HD : Hid (decide (e = (0, 0, 0) ∨ a ≠ 1) = true) := decide_eq_true (Or.inl h0)
   clear h0 e0 e1 e2
   go_big_region_o
   all_goals go_wp2_with fail
   all_goals go_meet
   case rel => exact ⟨by rw [HD.out], (Below.refl _ _).drew⟩
  ·have heq : ∀ w : World, (Op.equalIn 10000 57 (.agg #[.int .i64 (e.1 : Int), .int .i64 (e.2.1 : Int), .int .i64 (e.2.2 : Int)]) (.agg #[.int .i64 0, .int .i64 0, .int .i64 0])).run Tryz.prog w = .ok false w := fun w => by
    rw [eq_exps]
    congr 1
    rw [Bool.eq_false_iff]
    intro h
    simp only [Bool.and_eq_true, beq_iff_eq] at h
    exact h0 (Prod.ext (by show e.1 = 0; omega) (Prod.ext (by show e.2.1 = 0; omega) (by show e.2.2 = 0; omega)))
   have HD : Hid (decide (e = (0, 0, 0) ∨ a ≠ 1) = decide (a ≠ 1)) := decide_eq_decide.2 ⟨fun h => h.resolve_left h0, Or.inr⟩
   have hS1 : Sz 1 1000000 := sz_one _ (by decide)
   have hSa6 : Sz a 1000000 := hSa.mono (by omega)
   have t1 := (HT1.out.drew').tab
   have r1 : RatQ W.drew _ a := h1.below (Below.refl _ _).drew
   replace y0 : W.drew.cell? _ = _ := y0
   replace y1 : W.drew.cell? _ = _ := y1
   replace y2 : W.drew.cell? _ = _ := y2
   replace z0 : W.drew.cell? _ = _ := z0
   replace z1 : W.drew.cell? _ = _ := z1
   replace z2 : W.drew.cell? _ = _ := z2
   clear h0
   have g1 := d1.lt
   have g3 := d3.lt
   replace d1 := d1.drew
   replace d3 := d3.drew
   go_region_held3 (fun w' => (w'.cell? ⟨w.heap.size, 0, none⟩ = some (.int .i64 (e.1 : Int)) ∧ w'.cell? ⟨w.heap.size, 1, none⟩ = some (.int .i64 (e.2.1 : Int)) ∧ w'.cell? ⟨w.heap.size, 2, none⟩ = some (.int .i64 (e.2.2 : Int))) ∧ (w'.cell? ⟨w1.heap.size, 0, none⟩ = some (.bool na) ∧ w'.cell? ⟨w1.heap.size, 1, none⟩ = some (.slice Aa n1 c1) ∧ w'.cell? ⟨w1.heap.size, 2, none⟩ = some (.slice Ba m1 k1)))
    (first | with_reducible exact ⟨⟨y0, y1, y2⟩, ⟨z0, z1, z2⟩⟩ | with_reducible exact ⟨ya, za⟩ | with_reducible exact ⟨yb, zb⟩ | fail)
    (first
     | (go_at_call 66; refine (Compare_any _ _ a 1 1000000 V _ (t1.below hb5) ((r1.below hb5).inp hSa6 (by decide)) (h5.inp hS1 (by decide)) hSa6 hS1 HV).mono ?_; rintro e6 x6 ⟨rfl, hb6⟩; have yb : _ ∧ _ ∧ _ := ⟨((d1.below hb5 d1.lt).below hb6 (d1.below hb5 d1.lt).lt).cell (k := 0) rfl, ((d1.below hb5 d1.lt).below hb6 (d1.below hb5 d1.lt).lt).cell (k := 1) rfl, ((d1.below hb5 d1.lt).below hb6 (d1.below hb5 d1.lt).lt).cell (k := 2) rfl⟩; have zb := ((d3.below hb5 d3.lt).below hb6 (d3.below hb5 d3.lt).lt).c3)
     | (go_at_call 63; refine (pone_any _).mono ?_; rintro e5 x5 ⟨v5, rfl, h5, hb5⟩; have ya : _ ∧ _ ∧ _ := ⟨(d1.below hb5 d1.lt).cell (k := 0) rfl, (d1.below hb5 d1.lt).cell (k := 1) rfl, (d1.below hb5 d1.lt).cell (k := 2) rfl⟩; have za := (d3.below hb5 d3.lt).c3)
     | fail)
   all_goals go_wp2_with fail
   all_goals go_meet
   case rel => exact ⟨by rw [HD.out]; simp, below_of_drew (hb5.trans (hb6.mono hb5.size))⟩
 case rest =>
  obtain ⟨rfl, hbc⟩ := hcut
  have hTc := HT1.out.below hbc
  replace d1 := d1.below hbc d1.lt
  replace d3 := d3.below hbc d3.lt
  replace h1 := h1.below hbc
  have hBc := hB3.trans (hbc.mono hB3.size)
  clear HT1 hbc y0 y1 y2 z0 z1 z2 HV hV1 HD1 hB3
  obtain ⟨y0, y1, y2, _, _, _⟩ := d1.c6
  obtain ⟨z0, z1, z2⟩ := d3.c3
  have hszc := hBc.size
  by_cases hb : e = (0, 0, 0) ∨ a ≠ 1
  ·have HNP : Hid (numPart e a = [⟨(fmtQ a).toArray⟩]) := if_pos hb
   rw [decide_eq_true hb]
   clear hb
   go_wp2_with fail
   refine (Format_anyF _ a L _ hTc (h1.inp hSa (by omega)) (hSa.mono hL)).mono ?_
   rintro e7 w7 ⟨rfl, hb7⟩
   have hB7 := hBc.trans (hb7.mono hBc.size)
   obtain ⟨hb8, d8⟩ := blk1 w7 [.string ⟨(fmtQ a).toArray⟩] 9
   have hB8 := hB7.trans (hb8.mono hB7.size)
   obtain ⟨v9, w9, hrun, hrow, hg9⟩ := appX_run _ w.heap.size _ 0 [] (World.ownsRow_nil ..) w7.heap.size _ d8 (by omega) hB8.size
   have HRUN := Lib.hid hrun
   have hB9 : Below w.heap.size w w9 := hB8.grown hg9 hB8.size (fun j e => by cases e)
   have d7 := ((d1.below hb7 d1.lt).below hb8 (d1.below hb7 d1.lt).lt).grw hg9 (by simp [Value.ownBlock])
   have hT9 : TxF w9 := ((hTc.below hb7).below hb8).keep (fun b hb => hg9.block b hb (by simp [Value.ownBlock]))
   clear y0 y1 y2
   obtain ⟨y0, y1, y2, _, _, _⟩ := d7.c6
   have HROW : Hid (RowS w9 w.heap.size v9 (numPart e a)) := by
    show RowS _ _ _ _
    rw [HNP.out]
    exact hrow
   have HB9 := Lib.hid hB9
   have HT9 := Lib.hid hT9
   clear hrun hrow hg9 d8 hb8 hb7 hB8 hB7 hTc hBc z0 z1 z2 d1 d3 h1 hB9 hT9
   go_wp2_with (at_builtin; refine wpList_appX rfl (.tmp 20) (.tmp 23) rfl rfl _ _ _ _ rfl rfl HRUN ?_)
   go_wp2_with fail
   go_loopw [3, 27] (fun sl i wr => ∃ k' : Nat, k' ≤ 3 ∧ i = .int .i64 (k' : Int) ∧ RowS wr w.heap.size sl (numPart e a ++ parts e k') ∧ Below w.heap.size w wr) (fun _ i _ => (3 - intOf i).toNat)
   case atStart => exact ⟨0, by decide, rfl, by rw [show parts e 0 = [] from rfl, List.append_nil]; exact HROW.out, HB9.out⟩
   case round =>
    obtain ⟨k', hk, rfl, hrow, hBr⟩ := hrel
    by_cases hlt : k' < 3
    ·have hlt' : (k' : Int) < 3 := by omega
     have hix := idx_arr e hlt
     have hcx := comp_le he k'
     obtain ⟨x, hx⟩ : ∃ x, comp e k' = x := ⟨_, rfl⟩
     rw [hx] at hix hcx
     have HX := Lib.hid hx
     have hw1 : IntKind.i64.wrap ((k' : Int) + 1) = (k' : Int) + 1 := IntWalk.i64_in _ (by omega)
     have hl1 : ¬ ((k' : Int) + 1 < (k' : Int)) := by omega
     have hl2 : (k' : Int) + 1 ≤ 3 := by omega
     clear hx
     rcases (show x = 0 ∨ x = 1 ∨ 1 < x by omega) with h0 | h1 | h2
     ·subst h0
      go_wp2_with fail
      go_roundw
      case rel =>
       refine ⟨k' + 1, hlt, congrArg (Value.int _) (by omega), ?_, hBr⟩
       rw [parts_succ, HX.out, show partK k' 0 = [] from rfl, List.append_nil]
       exact hrow
      case measure => simp [intOf]; omega
     ·subst h1
      obtain ⟨hb8, d8⟩ := blk1 wr [.string ((⟨#[97, 98, 99]⟩ : ByteArray).extract k' (k' + 1))] 9
      obtain ⟨v5, w5, hrun, hrow5, hg5⟩ := appX_run _ w.heap.size _ _ _ (hrow.below hb8) wr.heap.size _ d8 (parts_len e a k' hk) (Nat.le_trans hBr.size hb8.size)
      have HRUN := Lib.hid hrun
      have hB5 : Below w.heap.size w w5 := (hBr.trans (hb8.mono hBr.size)).grown hg5 (Nat.le_trans hBr.size hb8.size) (fun j e => (hrow.lt j e).1)
      have HROW5 : Hid (RowS w5 w.heap.size v5 (numPart e a ++ parts e (k' + 1))) := by
       show RowS _ _ _ _
       rw [parts_succ, HX.out, show partK k' 1 = [letter k'] from rfl, ← List.append_assoc]
       exact RowS.snoc rfl hrow5
      clear hrun hrow5 hg5 d8 hb8 hrow
      go_wp2_with (at_builtin; refine wpList_appX rfl (.tmp 34) (.tmp 39) rfl rfl _ _ _ _ rfl rfl HRUN ?_)
      go_wp2_with fail
      go_roundw
      case rel => exact ⟨k' + 1, hlt, congrArg (Value.int _) (by omega), HROW5.out, hB5⟩
      case measure => simp [intOf]; omega
     ·have hx1 : ¬ ((x : Int) = 1) := by omega
      have hx2 : (1 : Int) < (x : Int) := by omega
      obtain ⟨D, hD⟩ : ∃ D : ByteArray, (⟨(Lib.decDigits x).toArray⟩ : ByteArray) = D := ⟨_, rfl⟩
      have hit := itoa_dig x (by omega)
      rw [hD] at hit
      have hDs : D.size = 1 := by rw [← hD]; exact dec_small x (by omega)
      obtain ⟨E1, hE1⟩ : ∃ E1 : ByteArray, (⟨#[97, 98, 99]⟩ : ByteArray).extract k' (k' + 1) = E1 := ⟨_, rfl⟩
      have hEs : E1.size = 1 := by rw [← hE1]; exact letter_size hlt
      obtain ⟨M, hM⟩ : ∃ M : ByteArray, E1 ++ ⟨#[94]⟩ = M := ⟨_, rfl⟩
      have hMs : M.size = 2 := by rw [← hM, ByteArray.size_append, hEs]; rfl
      have HE1 : Hid (letter k' = E1) := hE1
      have HM := Lib.hid hM
      have HD := Lib.hid hD
      clear hD
      have HIT := Lib.hid hit
      obtain ⟨hb8, d8⟩ := blk1 wr.drew [.string (M ++ D)] 9
      have hBd := hBr.drew
      have hrowd := hrow.below (Below.refl _ wr).drew
      obtain ⟨v5, w5, hrun, hrow5, hg5⟩ := appX_run _ w.heap.size _ _ _ (hrowd.below hb8) wr.drew.heap.size _ d8 (parts_len e a k' hk) (Nat.le_trans hBd.size hb8.size)
      have HRUN := Lib.hid hrun
      have hB5 : Below w.heap.size w w5 := (hBd.trans (hb8.mono hBd.size)).grown hg5 (Nat.le_trans hBd.size hb8.size) (fun j e => (hrow.lt j e).1)
      have HROW5 : Hid (RowS w5 w.heap.size v5 (numPart e a ++ parts e (k' + 1))) := by
       show RowS _ _ _ _
       rw [parts_succ, HX.out, partK_more k' h2, HD.out, HE1.out, HM.out, ← List.append_assoc]
       exact RowS.snoc rfl hrow5
      clear hrun hrow5 hg5 d8 hb8 hrow hit hrowd
      go_wp2_with fail
      go_region_held3 (fun _ => True) (first | exact trivial)
       (first
        | (refine step_appX rfl (.tmp 44) (.tmp 53) rfl rfl _ _ _ _ rfl rfl HRUN ?_)
        | (go_at_call 119; refine (HIT.out _).mono ?_; rintro e5 x5 ⟨rfl, rfl⟩)
        | fail)
      go_wp2_with fail
      go_roundw
      case rel => exact ⟨k' + 1, hlt, congrArg (Value.int _) (by omega), HROW5.out, hB5⟩
      case measure => simp [intOf]; omega
    ·obtain rfl : k' = 3 := by omega
     have hlt' : ¬ ((3 : Int) < 3) := by decide
     have HR9 := Lib.hid hrow
     clear hrow
     go_wp2_with fail
     go_ret
     exact ⟨_, rfl, HR9.out, hBr⟩
  ·have HNP : Hid (numPart e a = []) := if_neg hb
   rw [decide_eq_false hb]
   have HROW : Hid (RowS wc w.heap.size (.slice none 0 0) (numPart e a)) := by
    show RowS _ _ _ _
    rw [HNP.out]
    exact World.ownsRow_nil ..
   have HB9 := Lib.hid hBc
   clear hb z0 z1 z2 d1 d3 h1 hBc hTc
   go_wp2_with fail
   go_loopw [3, 27] (fun sl i wr => ∃ k' : Nat, k' ≤ 3 ∧ i = .int .i64 (k' : Int) ∧ RowS wr w.heap.size sl (numPart e a ++ parts e k') ∧ Below w.heap.size w wr) (fun _ i _ => (3 - intOf i).toNat)
   case atStart => exact ⟨0, by decide, rfl, by rw [show parts e 0 = [] from rfl, List.append_nil]; exact HROW.out, HB9.out⟩
   case round =>
    obtain ⟨k', hk, rfl, hrow, hBr⟩ := hrel
    by_cases hlt : k' < 3
    ·have hlt' : (k' : Int) < 3 := by omega
     have hix := idx_arr e hlt
     have hcx := comp_le he k'
     obtain ⟨x, hx⟩ : ∃ x, comp e k' = x := ⟨_, rfl⟩
     rw [hx] at hix hcx
     have HX := Lib.hid hx
     have hw1 : IntKind.i64.wrap ((k' : Int) + 1) = (k' : Int) + 1 := IntWalk.i64_in _ (by omega)
     have hl1 : ¬ ((k' : Int) + 1 < (k' : Int)) := by omega
     have hl2 : (k' : Int) + 1 ≤ 3 := by omega
     clear hx
     rcases (show x = 0 ∨ x = 1 ∨ 1 < x by omega) with h0 | h1 | h2
     ·subst h0
      go_wp2_with fail
      go_roundw
      case rel =>
       refine ⟨k' + 1, hlt, congrArg (Value.int _) (by omega), ?_, hBr⟩
       rw [parts_succ, HX.out, show partK k' 0 = [] from rfl, List.append_nil]
       exact hrow
      case measure => simp [intOf]; omega
     ·subst h1
      obtain ⟨hb8, d8⟩ := blk1 wr [.string ((⟨#[97, 98, 99]⟩ : ByteArray).extract k' (k' + 1))] 9
      obtain ⟨v5, w5, hrun, hrow5, hg5⟩ := appX_run _ w.heap.size _ _ _ (hrow.below hb8) wr.heap.size _ d8 (parts_len e a k' hk) (Nat.le_trans hBr.size hb8.size)
      have HRUN := Lib.hid hrun
      have hB5 : Below w.heap.size w w5 := (hBr.trans (hb8.mono hBr.size)).grown hg5 (Nat.le_trans hBr.size hb8.size) (fun j e => (hrow.lt j e).1)
      have HROW5 : Hid (RowS w5 w.heap.size v5 (numPart e a ++ parts e (k' + 1))) := by
       show RowS _ _ _ _
       rw [parts_succ, HX.out, show partK k' 1 = [letter k'] from rfl, ← List.append_assoc]
       exact RowS.snoc rfl hrow5
      clear hrun hrow5 hg5 d8 hb8 hrow
      go_wp2_with (at_builtin; refine wpList_appX rfl (.tmp 34) (.tmp 39) rfl rfl _ _ _ _ rfl rfl HRUN ?_)
      go_wp2_with fail
      go_roundw
      case rel => exact ⟨k' + 1, hlt, congrArg (Value.int _) (by omega), HROW5.out, hB5⟩
      case measure => simp [intOf]; omega
     ·have hx1 : ¬ ((x : Int) = 1) := by omega
      have hx2 : (1 : Int) < (x : Int) := by omega
      obtain ⟨D, hD⟩ : ∃ D : ByteArray, (⟨(Lib.decDigits x).toArray⟩ : ByteArray) = D := ⟨_, rfl⟩
      have hit := itoa_dig x (by omega)
      rw [hD] at hit
      have hDs : D.size = 1 := by rw [← hD]; exact dec_small x (by omega)
      obtain ⟨E1, hE1⟩ : ∃ E1 : ByteArray, (⟨#[97, 98, 99]⟩ : ByteArray).extract k' (k' + 1) = E1 := ⟨_, rfl⟩
      have hEs : E1.size = 1 := by rw [← hE1]; exact letter_size hlt
      obtain ⟨M, hM⟩ : ∃ M : ByteArray, E1 ++ ⟨#[94]⟩ = M := ⟨_, rfl⟩
      have hMs : M.size = 2 := by rw [← hM, ByteArray.size_append, hEs]; rfl
      have HE1 : Hid (letter k' = E1) := hE1
      have HM := Lib.hid hM
      have HD := Lib.hid hD
      clear hD
      have HIT := Lib.hid hit
      obtain ⟨hb8, d8⟩ := blk1 wr.drew [.string (M ++ D)] 9
      have hBd := hBr.drew
      have hrowd := hrow.below (Below.refl _ wr).drew
      obtain ⟨v5, w5, hrun, hrow5, hg5⟩ := appX_run _ w.heap.size _ _ _ (hrowd.below hb8) wr.drew.heap.size _ d8 (parts_len e a k' hk) (Nat.le_trans hBd.size hb8.size)
      have HRUN := Lib.hid hrun
      have hB5 : Below w.heap.size w w5 := (hBd.trans (hb8.mono hBd.size)).grown hg5 (Nat.le_trans hBd.size hb8.size) (fun j e => (hrow.lt j e).1)
      have HROW5 : Hid (RowS w5 w.heap.size v5 (numPart e a ++ parts e (k' + 1))) := by
       show RowS _ _ _ _
       rw [parts_succ, HX.out, partK_more k' h2, HD.out, HE1.out, HM.out, ← List.append_assoc]
       exact RowS.snoc rfl hrow5
      clear hrun hrow5 hg5 d8 hb8 hrow hit hrowd
      go_wp2_with fail
      go_region_held3 (fun _ => True) (first | exact trivial)
       (first
        | (refine step_appX rfl (.tmp 44) (.tmp 53) rfl rfl _ _ _ _ rfl rfl HRUN ?_)
        | (go_at_call 119; refine (HIT.out _).mono ?_; rintro e5 x5 ⟨rfl, rfl⟩)
        | fail)
      go_wp2_with fail
      go_roundw
      case rel => exact ⟨k' + 1, hlt, congrArg (Value.int _) (by omega), HROW5.out, hB5⟩
      case measure => simp [intOf]; omega
    ·obtain rfl : k' = 3 := by omega
     have hlt' : ¬ ((3 : Int) < 3) := by decide
     have HR9 := Lib.hid hrow
     clear hrow
     go_wp2_with fail
     go_ret
     exact ⟨_, rfl, HR9.out, hBr⟩
end Go.Proofs.YtifeekomegoijaaGreatDoor
