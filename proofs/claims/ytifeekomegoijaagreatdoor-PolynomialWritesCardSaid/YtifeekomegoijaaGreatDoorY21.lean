import Derived.Lib.ItoaNum
import Derived.Test.YtifeekomegoijaaGreatDoorY16
import Derived.Test.YtifeekomegoijaaGreatDoorY20
import Derived.Deep.LoopGhost
import Derived.Lib.ItoaLen
import Derived.RangeFuncFrom
import Derived.Deep.CutRange
set_option linter.unusedVariables false
set_option linter.unusedSimpArgs false
set_option maxRecDepth 20000
set_option maxHeartbeats 2000000
namespace Go.Proofs.YtifeekomegoijaaGreatDoor
open Go
def cval : List Nat -> Nat
 | [] => 0
 | c :: l => c + 1000000000 * cval l
theorem cval_snoc (l : List Nat) (c : Nat) : cval (l ++ [c]) = cval l + 1000000000 ^ l.length * c := by
 induction l with
 | nil => simp [cval]
 | cons x l ih => simp only [List.cons_append, cval, ih, List.length_cons, Nat.pow_succ]; grind
def pad9 (c : Nat) : List UInt8 := (Lib.decDigits (1000000000 + c)).drop 1
theorem decDigits_pos (u : Nat) : 1 <= (Lib.decDigits u).length := by
 unfold Lib.decDigits; split <;> simp
theorem decDigits_big {u : Nat} (h : ¬ u < 10) : Lib.decDigits u = Lib.decDigits (u / 10) ++ [UInt8.ofNat (48 + u % 10)] := by
 conv => lhs; rw [Lib.decDigits]
 rw [dif_neg h]
theorem decDigits_split (k : Nat) : ∀ (a c : Nat), 0 < a -> c < 10 ^ k -> Lib.decDigits (a * 10 ^ k + c) = Lib.decDigits a ++ (Lib.decDigits (10 ^ k + c)).drop 1 := by
 induction k with
 | zero =>
   intro a c ha hc
   have : c = 0 := by simpa using hc
   subst this
   have h1 : Lib.decDigits 1 = [49] := by unfold Lib.decDigits; rfl
   simp [h1]
 | succ k ih =>
   intro a c ha hc
   have hp : 0 < 10 ^ k := Nat.pow_pos (by decide)
   have ha1 : 10 ^ k <= a * 10 ^ k := Nat.le_mul_of_pos_left _ ha
   rw [Nat.pow_succ] at *
   rw [decDigits_big (u := a * (10 ^ k * 10) + c) (by rw [<- Nat.mul_assoc]; omega), decDigits_big (u := 10 ^ k * 10 + c) (by omega)]
   rw [show (a * (10 ^ k * 10) + c) / 10 = a * 10 ^ k + c / 10 from by rw [<- Nat.mul_assoc]; omega, show (10 ^ k * 10 + c) / 10 = 10 ^ k + c / 10 from by omega,
    show (a * (10 ^ k * 10) + c) % 10 = c % 10 from by rw [<- Nat.mul_assoc]; omega, show (10 ^ k * 10 + c) % 10 = c % 10 from by omega,
    ih a (c / 10) ha (by omega), List.drop_append_of_le_length (decDigits_pos _), List.append_assoc]
theorem dec_chunk {a c : Nat} (ha : 0 < a) (hc : c < 1000000000) : Lib.decDigits (a * 1000000000 + c) = Lib.decDigits a ++ pad9 c := by
 have := decDigits_split 9 a c ha (by simpa using hc)
 simpa [pad9] using this
theorem dec_chunks (l : List Nat) (hl : ∀ c ∈ l, c < 1000000000) (a : Nat) (ha : 0 < a) : Lib.decDigits (a * 1000000000 ^ l.length + cval l) = Lib.decDigits a ++ (l.reverse.map pad9).flatten := by
 induction l with
 | nil => simp [cval]
 | cons c r ih =>
   have h1 := ih (fun x hx => hl x (List.mem_cons_of_mem _ hx))
   have h0 : a * 1000000000 ^ (c :: r).length + cval (c :: r) = (a * 1000000000 ^ r.length + cval r) * 1000000000 + c := by
    simp only [List.length_cons, Nat.pow_succ, cval]; grind
   have hpos : 0 < a * 1000000000 ^ r.length + cval r := Nat.add_pos_left (Nat.mul_pos ha (Nat.pow_pos (by decide))) _
   rw [h0, dec_chunk hpos (hl c List.mem_cons_self), h1]
   simp
theorem dec_text {cs : List Nat} {n X : Nat} (hn : cs.length = n + 1) (hX : cval cs = X) (hl : ∀ c ∈ cs, c < 1000000000) (htop : cs.getD n 0 ≠ 0) :
 Lib.decDigits X = Lib.decDigits (cs.getD n 0) ++ ((cs.take n).reverse.map pad9).flatten := by
 have hsp : cs = cs.take n ++ [cs.getD n 0] := by
  conv => lhs; rw [<- List.take_of_length_le (Nat.le_of_eq hn), take_snoc (by omega)]
 have hlen : (cs.take n).length = n := by rw [List.length_take]; omega
 have := dec_chunks (cs.take n) (fun c hc => hl c (List.mem_of_mem_take hc)) (cs.getD n 0) (Nat.pos_of_ne_zero htop)
 rw [<- this, hlen, <- hX]
 congr 1
 conv => lhs; rw [hsp]
 rw [cval_snoc, hlen]
 grind
end Go.Proofs.YtifeekomegoijaaGreatDoor
namespace Go.Proofs.YtifeekomegoijaaGreatDoor
open Go.RowKit Go.Shelf
attribute [local go_sem] Oper.semAt_some
theorem others_grown {w w' : World} {B : Nat} {b : Option Nat} {v : Value} {l : List UInt8} (hown : OwnB w B v l) (hg : w.grownBy w' v.ownBlock) : Lib.OthersKept 5 b w w' := by
 intro k o hk _ ho
 refine (hg.block k (heap_lt hk) fun e => ?_).trans hk
 rcases hown.2 with ⟨h1, _⟩ | ⟨g, cap, cur, h1, h2, h3, h4⟩
 ·rw [h1] at e; cases e
 ·rw [h1] at e
  cases e
  rw [hk] at h3
  exact ho cur (0, 0) (Option.some.inj h3)
theorem others_set {e : TypeId} {w w' : World} (h : Lib.OthersKept e none w w') (u : Value) : Lib.OthersKept e none w (w'.setCell ⟨w.heap.size, 0, none⟩ u) :=
 fun k o hk hb ho => (Below.heap_setCell _ _ _ k (by have := heap_lt hk; simp; omega)).trans (h k o hk hb ho)
theorem step_appS {F : Fence} {n' : Nat} {w : World} {ops : Array Oper} {o : Oper} {a : Act} {Q : Exit -> Act -> World -> Prop} {K : Act -> World -> Prop} {E : Prop} (hgd : o.guard = none) (sl x : Operand)
 (ho : o.op = .call { callee := .builtin .append, args := #[sl, x], argTypes := #[87, 9] }) (hty : o.type = 87) (v v' : Value) (s : ByteArray) (w' : World) (hs : a.eval sl = v) (hx : a.eval x = .string s)
 (hrun : (Builtin.append_ #[87, 9] 87 #[v, .string s]).run Tryz.prog w = .ok v' w') (hK : K (a.put o.dst v') w') :
 if Region.wanted o (yielded ops a.tmps) = true then Oper.wpIn F n' Tryz.prog o a w K Q else E := by
 have hw : Region.wanted o (yielded ops a.tmps) = true := by simp [Region.wanted, hgd]
 rw [if_pos hw]
 unfold Oper.wpIn
 refine ⟨?_, ?_⟩
 ·simp [Oper.about, ho, resolve, Target.leads, Sem.run_pure]
 ·rw [Oper.semAt_plain F _ _ (by rw [ho]; intro c hc'; cases hc')]
  simp [execOp, ho, hty, resolve, invoke, builtin, hs, hx, hrun, Result.andThen]
  exact hK
def padI (c : Nat) : List UInt8 := (Lib.itoa (IntKind.i64.wrap (1000000000 + IntKind.i64.wrap (c : Int)))).drop 1
theorem padI_eq {c : Nat} (h : c < 1000000000) : padI c = pad9 c := by
 unfold padI pad9
 rw [show IntKind.i64.wrap (c : Int) = c from IntWalk.i64_in _ (by omega), show IntKind.i64.wrap (1000000000 + (c : Int)) = ((1000000000 + c : Nat) : Int) from (IntWalk.i64_in _ (by omega)).trans (by omega), Lib.itoa_nonneg]
theorem made_back {w W w4 : World} {B g kk : Nat} {os : Array Obj} {v : Value} {l : List UInt8} (hw : w4 = Sort.grow (W.drew.drewN kk) os) (hb : Boxed W g 87 v) (ho : OwnB W B v l) (hB : Below B w W) (hBs : B <= W.heap.size) :
 Boxed w4 g 87 v /\ OwnB w4 B v l /\ Below B w w4 /\ Below W.heap.size W w4 := by
 have h4 : Below W.heap.size W w4 := by rw [hw]; exact (Below.drew (Below.refl _ _)).trans (Lib.below_grow W.heap.size W.drew (Nat.le_refl _) kk os)
 exact ⟨(h4.block g hb.lt).trans hb, ho.keep (fun k hk => h4.block k (ho.lt k hk).2), hB.trans (h4.mono hBs), h4⟩
theorem others_below {e : TypeId} {b : Option Nat} {w w' : World} (h : Below w.heap.size w w') : Lib.OthersKept e b w w' := fun k o hk _ _ => (h.block k (heap_lt hk)).trans hk
theorem others_put {e : TypeId} {w : World} (g : Nat) (u : Value) : Lib.OthersKept e (some g) w (w.setCell ⟨g, 0, none⟩ u) := fun k o hk hb _ => (Below.heap_setCell w ⟨g, 0, none⟩ u k (fun h => hb (by rw [h]))).trans hk
theorem others_all {w W : World} (h : Below w.heap.size w W) : KeepsOthers w W := ⟨h.size, fun k o hk _ => (h.block k (heap_lt hk)).trans hk⟩
theorem others_old {e : TypeId} {w W W' : World} {g : Nat} (h : Lib.OthersKept e none w W) (hg : w.heap.size <= g) (h' : Lib.OthersKept e (some g) W W') : Lib.OthersKept e none w W' :=
 fun k o hk hb ho => h' k o (h k o hk hb ho) (fun hh => by cases hh; have := heap_lt hk; omega) ho
theorem round_end {w W2 W3 w4 w5 : World} {B g : Nat} {v3 v5 : Value} {l l' : List UInt8} (hb4 : Boxed w4 g 87 v3) (ho4 : OwnB w4 B v3 l) (hB4 : Below B w w4) (hk4 : Below W3.heap.size W3 w4) (hB : B <= w.heap.size) (hgw : B <= g) (hg5 : w4.grownBy w5 v3.ownBlock) (ho5 : OwnB w5 B v5 l') :
 KeepsOthers W3 (w5.setCell ⟨g, 0, none⟩ v5) /\ Boxed (w5.setCell ⟨g, 0, none⟩ v5) g 87 v5 /\ OwnB (w5.setCell ⟨g, 0, none⟩ v5) B v5 l' /\ Below B w (w5.setCell ⟨g, 0, none⟩ v5) /\ Lib.OthersKept 5 (some g) W3 (w5.setCell ⟨g, 0, none⟩ v5) := by
 have hb5 : Boxed w5 g 87 v3 := hb4.kept hg5 (hb4.not_row (by decide) ho4)
 have hnr := hb5.not_row (by decide) ho5
 refine ⟨(others_all hk4).trans ((KeepsOthers.of_grownBy hg5 ?_).trans (KeepsOthers.setCell _ _ _)), hb5.set _, ?_, ?_, (others_below hk4).trans ((others_grown ho4 hg5).trans (others_put _ _))⟩
 ·intro j o hj ho
  rcases ho4.2 with ⟨h1, _⟩ | ⟨g', cap, cur, h1, _, h3, _⟩
  ·rw [h1] at hj; cases hj
  ·rw [h1] at hj; cases hj
   rw [h3] at ho; cases ho; rfl
 ·exact ho5.keep (fun k hk => Below.heap_setCell _ ⟨g, 0, none⟩ _ k (fun e => hnr (by rw [hk]; exact (congrArg some e).symm)))
 ·exact (hB4.grown hg5 (Nat.le_trans hB hB4.size) (fun k hk => (ho4.lt k hk).1)).setCell (p := ⟨g, 0, none⟩) hgw _
theorem appS_run (w : World) (B : Nat) (v : Value) (l : List UInt8) (s : ByteArray) (hown : OwnB w B v l) (h63 : l.length + s.size <= 140737488355328) (hB : B <= w.heap.size) :
 ∃ v' w', (Builtin.append_ #[87, 9] 87 #[v, .string s]).run Tryz.prog w = .ok v' w' /\ OwnB w' B v' (l ++ s.data.toList) /\ w.grownBy w' v.ownBlock := by
 obtain ⟨i, hi, hz, hsz, hby⟩ := info_u8
 obtain ⟨v', w', hr, h2, h3, _⟩ := Lib.run_append_own_string (P := Tryz.prog) w B 87 9 87 5 i Tryz.underlying87 (by kernel_rfl) hi hz hsz hby v l.length (Lib.byteCells l) hown s (by unfold maxLen; omega) h63 hB
 refine ⟨v', w', hr, ?_, h3⟩
 unfold OwnB
 rw [List.length_append, Lib.byteCells_append]
 exact h2
theorem ownFrom_others {β : Type} {e : TypeId} {b : Option Nat} {w : World} {B : Nat} (hB : w.heap.size <= B) : OwnFrom B (fun (_ : β) W => Lib.OthersKept e b w W) :=
 fun _ X Y row hs hg hr k o hk hb ho => by
  refine (hg.block k ?_ (fun e' => ?_)).trans (hs k o hk hb ho)
  ·exact heap_lt (hs k o hk hb ho)
  ·have := (hr k e'.symm).1
   have := heap_lt hk
   omega
theorem dec_length (u : Nat) (h : u < 9223372036854775808) : (Lib.decDigits u).length <= 21 := by
 have := Lib.itoa_length_le (u : Int) (by omega) (by omega)
 rwa [Lib.itoa_nonneg] at this
theorem padI_length (c : Nat) : (padI c).length <= 20 := by
 unfold padI
 have := Lib.itoa_length_le (IntKind.i64.wrap (1000000000 + IntKind.i64.wrap (c : Int))) (by rw [IntKind.wrap_i64]; omega) (by rw [IntKind.wrap_i64]; omega)
 rw [List.length_drop]
 omega
theorem pads_length (l : List (Nat × Nat)) : (l.map fun y => padI y.2).flatten.length <= 20 * l.length := by
 induction l with
 | nil => simp
 | cons x l ih =>
   have := padI_length x.2
   simp only [List.map_cons, List.flatten_cons, List.length_append, List.length_cons]
   omega
theorem bk_text {cs : List Nat} {m : Nat} (hm : m <= cs.length) (hl : ∀ c ∈ cs, c < 1000000000) : ((bk cs m m).map fun y => padI y.2) = (cs.take m).reverse.map pad9 := by
 apply List.ext_getElem
 ·simp [bk]; omega
 ·intro j h1 h2
  have hj : j < m := by simpa [bk] using h1
  have hc : m - 1 - j < cs.length := by omega
  have hx := hl _ (List.getElem_mem hc)
  simp only [bk, List.getElem_map, List.getElem_range, List.getElem_reverse, List.getElem_take, List.length_take]
  rw [List.getD_eq_getElem?_getD, List.getElem?_eq_getElem hc, Option.getD_some, padI_eq hx]
  congr 2
  omega
theorem itoa_pos (n : Int) : 1 <= (Lib.itoa n).length := by
 unfold Lib.itoa
 split
 ·simp
 ·exact decDigits_pos _
theorem backward_any (A : Option Addr) (n c : Nat) (w : World) :
 Calls Tryz.prog 180 #[.slice A n c] w fun e w' => e = .returned (.func (.func 212) #[] #[.pointer (some ⟨w.heap.size, 0, none⟩)]) /\ w' = w.alloc (.cells #[.slice A n c] 23) := by
 go_enter Tryz.func180, Tryz.ntmps180
 go_wp2
 go_ret
 exact ⟨rfl, rfl⟩
theorem appendDecimal_zero (B c : Nat) (A : Option Addr) (v : Value) (l : List UInt8) (w : World) (hown : OwnB w B v l) (hB : B <= w.heap.size) (hl : l.length <= 1000000) :
 Calls Tryz.prog 148 #[v, .slice A 0 c] w (RetTx w B (l ++ [48])) := by
 obtain ⟨A', c', rfl⟩ := hown.shape
 refine (callsIn_wide (n := 6)).1 ?_
 refine callsIn_of_wp_marks Tryz.func148 rfl trivial ?_ rfl
 simp only [Tryz.ntmps148, List.size_toArray, List.length_cons, List.length_nil, Nat.reduceAdd, Nat.reduceSub, Array.replicate_succ, Array.replicate_zero, List.push_toArray, List.append_toArray, List.nil_append, List.cons_append]
 refine wpIn_wide.2 ?_
 have hbA : Below B w ((w.alloc (.cells #[.slice A' l.length c'] 87)).alloc (.cells #[.int .u8 48] 5)) := ((Below.refl _ _).alloc hB _).alloc (by simp; omega) _
 have hownA : OwnB ((w.alloc (.cells #[.slice A' l.length c'] 87)).alloc (.cells #[.int .u8 48] 5)) B (.slice A' l.length c') l := (hown.alloc _).alloc _
 have hlit : ((w.alloc (.cells #[.slice A' l.length c'] 87)).alloc (.cells #[.int .u8 48] 5)).cell? ⟨w.heap.size + 1, 0, none⟩ = some (.int .u8 ((48 : UInt8).toNat : Int)) := by
  have := Boxed.new (w.alloc (.cells #[.slice A' l.length c'] 87)) 5 (.int .u8 48)
  rw [World.size_alloc] at this
  exact this.cell
 go_wp2_with (at_builtin; refine wpList_appB rfl (.tmp 13) (.tmp 14) rfl rfl B _ l 48 rfl hownA _ rfl hlit (by omega) (by simp; omega) ?_)
 intro v' w' h1 hg
 go_wp2_with fail
 refine ⟨_, results_tmp rfl _ _ _, v', rfl, h1, hbA.grown hg (Nat.le_trans hB (by simp; omega)) (fun k hk => (hownA.lt k hk).1), ?_⟩
 exact (((Lib.OthersKept.refl _ _ w).alloc _).alloc _).trans (others_grown hownA hg)
theorem pow_chunks (K : Nat) : P K <= 1000000000 ^ (2 * K) := by
 unfold P
 rw [Nat.pow_mul]
 exact Nat.pow_le_pow_left (by decide) K
theorem chunk_len {X R len K : Nat} {c : Nat} (h : c + 1000000000 ^ len * R = X) (hR : 0 < R) (hX : X < P K) : len <= 2 * K := by
 rcases Nat.lt_or_ge (2 * K) len with hl | hl
 ·exfalso
  have h1 := Nat.pow_le_pow_right (n := 1000000000) (by decide) (Nat.le_of_lt hl)
  have h2 := pow_chunks K
  have h3 := Nat.le_mul_of_pos_right (1000000000 ^ len) hR
  omega
 ·exact hl
theorem appendDecimal_pos (B X n c : Nat) (A : Option Addr) (v : Value) (l : List UInt8) (w : World) (HT : Hid (∀ W, Below B w W -> TxF W)) (hown : OwnB w B v l) (hB : B <= w.heap.size) (hl : l.length <= 100000000) (hx : Num w (limbs X) A n c) (hn : n <= 1000000) (hX : X ≠ 0) :
 Calls Tryz.prog 148 #[v, .slice A n c] w (RetTx w B (l ++ Lib.decDigits X)) := by
 obtain ⟨A', c', rfl⟩ := hown.shape
 have hn0 : ((n : Int) == 0) = false := by
  rw [beq_eq_false_iff_ne]
  intro h
  have : n = 0 := by omega
  rw [hx.len] at this
  exact hX (limbs_length_zero.1 this)
 have hXP : X < P 1000000 := Nat.lt_of_lt_of_le (lt_P_length X) (P_le (by have := hx.len; omega))
 have hbA : Below B w (w.alloc (.cells #[.slice A' l.length c'] 87)) := (Below.refl _ _).alloc hB _
 have hbA' : Below w.heap.size w (w.alloc (.cells #[.slice A' l.length c'] 87)) := (Below.refl _ _).alloc (Nat.le_refl _) _
 have hbox : Boxed (w.alloc (.cells #[.slice A' l.length c'] 87)) w.heap.size 87 (.slice A' l.length c') := Boxed.new _ _ _
 have hownA : OwnB (w.alloc (.cells #[.slice A' l.length c'] 87)) B (.slice A' l.length c') l := hown.alloc _
 have hotA : Lib.OthersKept 5 none w (w.alloc (.cells #[.slice A' l.length c'] 87)) := (Lib.OthersKept.refl _ _ w).alloc _
 have hxA := hx.below hbA'
 have hszA : (w.alloc (.cells #[.slice A' l.length c'] 87)).heap.size = w.heap.size + 1 := World.size_alloc ..
 have HX := Lib.hid hX
 have HXP := Lib.hid hXP
 have HSZ := Lib.hid hszA
 clear hX hXP hszA
 refine (callsIn_wide (n := 6)).1 ?_
 refine callsIn_of_wp_marks Tryz.func148 rfl trivial ?_ rfl
 simp only [Tryz.ntmps148, List.size_toArray, List.length_cons, List.length_nil, Nat.reduceAdd, Nat.reduceSub, Array.replicate_succ, Array.replicate_zero, List.push_toArray, List.append_toArray, List.nil_append, List.cons_append]
 refine wpIn_wide.2 ?_
 go_wp2_with fail
 generalize w.alloc (.cells #[.slice A' l.length c'] 87) = W at *
 refine (clone_l _ _ _ (limbs X) _ hxA (by omega)).mono ?_
 rintro e w1 ⟨A1, n1, c1, rfl, h1, hb1⟩
 have hn1 : n1 <= 1000000 := by have := h1.len; have := hx.len; omega
 go_wp2_with fail
 go_loopg [5, 6] X (fun g s5 s6 wr => ∃ (A1 : Option Addr) (n1 c1 : Nat) (vc : Value) (cs : List Nat) (R : Nat), s5 = vc /\ s6 = .slice A1 n1 c1 /\ Own wr W.heap.size (limbs R) A1 n1 c1 /\ OwnR wr W.heap.size vc cs /\
  (∀ a, A1 = some a -> vc.ownBlock ≠ some a.block) /\ Below W.heap.size W wr /\ n1 <= 1000000 /\ R <= g /\
  Hid (cval cs + 1000000000 ^ cs.length * R = X /\ (∀ x ∈ cs, x < 1000000000) /\ cs.length <= 2000001 /\ (cs = [] -> R ≠ 0) /\ (R = 0 -> cs.getD (cs.length - 1) 0 ≠ 0)))
 case atStart =>
  refine ⟨A1, n1, c1, _, [], X, rfl, rfl, h1, OwnR.nil _ _, (fun a _ e => by cases e), hb1, hn1, Nat.le_refl _, ?_⟩
  exact ⟨by simp [cval], fun x hx => by simp at hx, by simp, fun _ => HX.out, fun h => absurd h HX.out⟩
 case round =>
  obtain ⟨A2, n2, c2, vc, cs, R, rfl, rfl, hR, hC, hne, hb, hn2, hg, HI⟩ := hrel
  by_cases hR0 : R = 0
  ·have hn20 : n2 = 0 := by rw [hR.len, hR0, limbs_zero]; rfl
   subst hn20
   obtain ⟨h1', h2', h3', h4', h5'⟩ := HI.out
   subst hR0
   have hcs0 : cs ≠ [] := fun h => h4' h rfl
   obtain ⟨m, hm⟩ : ∃ m, cs.length = m + 1 := ⟨cs.length - 1, by have := List.length_pos_iff.2 hcs0; omega⟩
   have hcsl : ∀ x ∈ cs, x < 4294967296 := fun x hx => Nat.lt_trans (h2' x hx) (by decide)
   obtain ⟨Ac, cc, hv, hAc⟩ := hC.shape
   obtain ⟨gc, rfl⟩ := hAc hcs0
   rw [hm] at hv
   subst hv
   clear HI
   obtain ⟨-, hBg, hnc, hcm, post, hmid, hpl⟩ := hC.mid
   obtain ⟨top, htop⟩ : ∃ t, cs.getD m 0 = t := ⟨_, rfl⟩
   have htl : top < 1000000000 := by
    rw [<- htop, List.getD_eq_getElem?_getD, List.getElem?_eq_getElem (by omega)]
    exact h2' _ (List.getElem_mem _)
   have hcell := hmid.cell0 (k := m) (by omega)
   rw [htop] at hcell
   have hszW := HSZ.out
   have hbx : Boxed wr w.heap.size 87 (.slice A' l.length c') := (hb.block _ (by omega)).trans hbox
   have hob : OwnB wr B (.slice A' l.length c') l := hownA.keep (fun k hk => hb.block k (hownA.lt k hk).2)
   have hbw : Below B w wr := hbA.trans (hb.mono (by omega))
   have hot : Lib.OthersKept 5 none w wr := hotA.trans (fun k o hk _ _ => (hb.block k (heap_lt hk)).trans hk)
   have hTr := HT.out _ hbw
   have hw1 : IntKind.i64.wrap (((m + 1 : Nat) : Int) - 1) = (m : Int) := by rw [IntWalk.i64_in _ (by omega)]; omega
   have hw2 : IntKind.u64.wrap (top : Int) = (top : Int) := IntWalk.u64_in _ (by omega)
   have HTOP := Lib.hid htop
   have HTN : Hid (top ≠ 0) := by
    have := h5' rfl
    rw [hm, Nat.add_sub_cancel, htop] at this
    exact this
   have HCV : Hid (cval cs = X) := by show _ = _; rw [<- h1']; simp
   have HCL := Lib.hid h2'
   have HM := Lib.hid hm
   have hszr := hb.size
   have hmm : (m : Int) < (m : Int) + 1 := by omega
   have hmm' : ((m : Int) <= (m : Int) + 1) := by omega
   have hm2 : m <= 2000000 := by omega
   have hBr : B <= wr.heap.size := by omega
   clear HXP HX
   clear h1' h2' h3' h4' h5' htop hm hszW hcs0 hcsl hne hg hR hownA hbA hbA' hbox hotA hb1 hxA
   have hc0 := hbx.cell
   have hf0 := hbx.frozen
   go_upto_region 9 with (fail)
   obtain ⟨L1, hL1⟩ : ∃ L1, l ++ Lib.decDigits top = L1 := ⟨_, rfl⟩
   have HL1 := Lib.hid hL1
   have hL1len : L1.length <= 100000021 := by
    rw [<- hL1, List.length_append]
    have := dec_length top (by omega)
    omega
   clear hL1
   go_cut [] from 31 to 37 (fun wx => ∃ v', Boxed wx w.heap.size 87 v' /\ OwnB wx B v' L1 /\ Below B w wx /\ Lib.OthersKept 5 none w wx /\ Mid wx gc [] cs post /\ TxF wx)
   case first =>
    refine wp_region_still_tail 6 (by kernel_rfl) (by kernel_rfl) ?_
    simp only [List.take_succ_cons, List.take_zero, List.drop_succ_cons, List.drop_zero]
    have ewd : ({ wr with drawn := wr.drawn + 1 } : World) = wr.drew := rfl
    rw [ewd]
    clear ewd
    have hwsz : w.heap.size < wr.drew.heap.size := hbx.lt
    replace hbx := (show Boxed wr.drew _ _ _ from hbx)
    replace hob := hob.drew
    replace hbw := hbw.drew
    replace hot : Lib.OthersKept 5 none w wr.drew := hot
    replace hTr : TxF wr.drew := hTr.keep (fun _ _ => rfl)
    replace hmid := hmid.drew
    replace hcell : wr.drew.cell? _ = _ := hcell
    replace hc0 : wr.drew.cell? _ = _ := hc0
    replace hf0 : wr.drew.frozen? _ = _ := hf0
    replace hBr : B <= wr.drew.heap.size := hBr
    clear hb hC hszr
    generalize wr.drew = wd at *
    repeat still_step
    refine wpStill_nil ?_
    go_wp2_with fail
    refine (appendUint_any B top _ l _ hTr hob hBr (by omega) (by omega)).mono ?_
    rintro e wz ⟨vz, rfl, hz1, hz2, hz3⟩
    rw [HL1.out] at hz1
    have hbz : Boxed wz w.heap.size 87 _ := hz3 _ _ hbx (by simp) (fun c fz e => by injection e with _ e2; exact absurd e2 (by decide))
    have hmz : Mid wz gc [] cs post := hz3 _ _ hmid (by simp) (fun c fz e => by injection e with _ e2; exact absurd e2 (by decide))
    have hnr := hbz.not_row (by decide) hz1
    obtain ⟨Az, cz, rfl⟩ := hz1.shape
    have hcz := hbz.cell
    have hfz := hbz.frozen
    go_wp2_with fail
    go_meet
    case rel =>
     have hgw : W.heap.size = w.heap.size + 1 := HSZ.out
     refine ⟨_, hbz.set _, hz1.keep (fun k hk => Below.heap_setCell _ ⟨w.heap.size, 0, none⟩ _ k (fun e => hnr (by rw [hk]; exact (congrArg some e).symm))), (hbw.trans hz2).setCell hB _, others_set (hot.trans hz3) _, (Below.heap_setCell _ _ _ gc (by simp; omega)).trans hmz, ?_⟩
     exact HT.out _ ((hbw.trans hz2).setCell hB _)
   case rest =>
    obtain ⟨v', hx1, hx2, hx3, hx4, hx5, hx6⟩ := hcut
    go_wp2_with fail
    refine (backward_any _ m cc _).mono ?_
    rintro e wy ⟨rfl, rfl⟩
    have hgw : W.heap.size = w.heap.size + 1 := HSZ.out
    have hwc : w.heap.size < wc.heap.size := hx1.lt
    have hgc : gc < wc.heap.size := hx5.lt
    have hs0 : Boxed (wc.alloc (.cells #[.slice (some ⟨gc, 0, none⟩) m cc] 23)) wc.heap.size 23 _ := Boxed.new _ _ _
    have hBs : wc.heap.size < (wc.alloc (.cells #[.slice (some ⟨gc, 0, none⟩) m cc] 23)).heap.size := by simp
    have hy1 := hx1.alloc (.cells #[.slice (some ⟨gc, 0, none⟩) m cc] 23)
    have hy2 := hx2.alloc (.cells #[.slice (some ⟨gc, 0, none⟩) m cc] 23)
    have hy3 := hx3.alloc (Nat.le_trans hB (Nat.le_of_lt hwc)) (.cells #[.slice (some ⟨gc, 0, none⟩) m cc] 23)
    have hy4 := hx4.alloc (.cells #[.slice (some ⟨gc, 0, none⟩) m cc] 23)
    have hy5 : Mid (wc.alloc (.cells #[.slice (some ⟨gc, 0, none⟩) m cc] 23)) gc [] cs post := (Below.heap_alloc _ _ gc hx5.lt).trans hx5
    generalize wc.alloc (.cells #[.slice (some ⟨gc, 0, none⟩) m cc] 23) = W2 at *
    go_wp2_with fail
    have hB2 : B <= W2.heap.size := by omega
    refine (wpIn_wide (n := 6)).1 ?_
    refine wpIn_rangeFunc_ownF rfl (by omega) (gf := 212) (lb := #[.pointer (some ⟨wc.heap.size, 0, none⟩)]) rfl trivial (enters_of Tryz.func212 (by kernel_rfl) rfl)
     (back_stops Fence.wide _ trivial rfl (by omega) wc.heap.size gc m cc cs (by omega) W2 hBs (by omega) hs0.cell (fun j hj => hy5.cell0 (by have := HM.out; omega)))
     (fun h k => h.trans k) ?kb (Below.refl _ _) (fun _ => rfl)
     (fun pre W3 => (∃ v, Boxed W3 w.heap.size 87 v /\ W3.ownsRow B 5 1 v (L1 ++ (pre.map fun y => padI y.2).flatten).length (Lib.byteCells (L1 ++ (pre.map fun y => padI y.2).flatten)) /\ True) /\ Below B w W3 /\ Lib.OthersKept 5 (some w.heap.size) W2 W3)
     (fun _ _ _ => False)
     (OwnFrom.and (Own.from (holdsRow_own B w.heap.size 87 5 1 (fun (pre : List (Nat × Nat)) => (L1 ++ (pre.map fun y => padI y.2).flatten).length) (fun pre => Lib.byteCells (L1 ++ (pre.map fun y => padI y.2).flatten)) (fun _ _ => True)) _) (OwnFrom.and (ownFrom_below hB hB2) (ownFrom_others (Nat.le_refl _))))
     (fun _ _ _ _ _ hs _ _ => hs)
     ⟨⟨v', hy1, by rw [List.map_nil, List.flatten_nil, List.append_nil]; exact hy2, trivial⟩, hy3, Lib.OthersKept.refl _ _ _⟩
     ?a1 ?assign ?body ?done ?stop
    case kb =>
     intro W l' o o' hl' hlo _ _
     have := heap_lt hlo
     exact ⟨(grownBy_putObj' W l' o').block gc (by omega) (fun e => by cases e; omega), (grownBy_putObj' W l' o').block wc.heap.size (by omega) (fun e => by cases e; omega)⟩
    case assign =>
     intro l x W K hK
     gi_wp2
     exact hK
    case body =>
     rintro lr pre x W3 ⟨⟨v3, hb3, ho3, -⟩, hB3, hO3⟩ hlen
     have hmx : Tryz.prog.follows .mixedOrders = true := by kernel_rfl
     obtain ⟨x1, x2⟩ := x
     obtain ⟨T1, hT1⟩ : ∃ T1, L1 ++ (pre.map fun y => padI y.2).flatten = T1 := ⟨_, rfl⟩
     obtain ⟨y1, hy1⟩ : ∃ y1, IntKind.i64.wrap (x2 : Int) = y1 := ⟨_, rfl⟩
     obtain ⟨y2, hy2⟩ : ∃ y2, IntKind.i64.wrap (1000000000 + y1) = y2 := ⟨_, rfl⟩
     have hr2 : -9223372036854775808 <= y2 /\ y2 <= 9223372036854775807 := by rw [<- hy2, IntKind.wrap_i64]; omega
     rw [hT1] at ho3
     have HT1 := Lib.hid hT1
     have HPAD : Hid (padI x2 = (Lib.itoa y2).drop 1) := by show _ = _; unfold padI; rw [hy1, hy2]
     clear hT1
     have hc3 := hb3.cell
     have hf3 := hb3.frozen
     have hpow : Lib.TabIs Tryz.prog W3.drew "internal/strconv.uint64pow10" .u64 Lib.pow10Tab := (HT.out _ hB3.drew).pow
     have hBs3 : B <= W3.heap.size := Nat.le_trans hB hB3.size
     gi_wp2
     have hm3 : Mid W3 gc [] cs post := hO3 _ _ hy5 (fun h => by have := Option.some.inj h; omega) (fun c fz e => by injection e with _ e2; exact absurd e2 (by decide))
     have hs3 : Boxed W3 wc.heap.size 23 _ := hO3 _ _ hs0 (fun h => by have := Option.some.inj h; omega) (fun c fz e => by injection e with _ e2; exact absurd e2 (by decide))
     have hT1l : T1.length <= 200000000 := by
      rw [<- HT1.out, List.length_append]
      have := pads_length pre
      omega
     have hsz1 : (⟨(Lib.itoa y2).toArray⟩ : ByteArray).size = (Lib.itoa y2).length := by simp [ByteArray.size]
     have hi1 := itoa_pos y2
     have hi2 := Lib.itoa_length_le y2 hr2.1 hr2.2
     obtain ⟨t, ht⟩ : ∃ t, (⟨(Lib.itoa y2).toArray⟩ : ByteArray) = t := ⟨_, rfl⟩
     obtain ⟨ts, hts⟩ : ∃ ts, t.size = ts + 1 := ⟨t.size - 1, by rw [<- ht, hsz1]; omega⟩
     have hts1 : ts <= 20 := by have := hts; rw [<- ht, hsz1] at this; omega
     obtain ⟨sx, hsx⟩ : ∃ sx, t.extract 1 (ts + 1) = sx := ⟨_, rfl⟩
     have hsl : sx.data.toList = (Lib.itoa y2).drop 1 := by rw [<- hsx, bytes_drop t 1 (ts + 1) (by omega), <- ht]
     have HSL := Lib.hid hsl
     have HTT := Lib.hid ht
     have hsxs : sx.size <= 20 := by rw [<- hsx, ByteArray.size_extract]; omega
     have hle1 : (1 : Int) <= (ts : Int) + 1 := by omega
     clear hsl ht hsz1 hi1 hi2
     obtain ⟨T2, hT2⟩ : ∃ T2, T1 ++ sx.data.toList = T2 := ⟨_, rfl⟩
     have HEND : Hid (∀ (Wz : World) (vz : Value), OwnB Wz B vz T2 -> Wz.ownsRow B 5 1 vz (L1 ++ ((pre ++ [(x1, x2)]).map fun y => padI y.2).flatten).length (Lib.byteCells (L1 ++ ((pre ++ [(x1, x2)]).map fun y => padI y.2).flatten))) := by
      intro Wz vz hz
      have e : L1 ++ ((pre ++ [(x1, x2)]).map fun y => padI y.2).flatten = T2 := by
       rw [<- hT2, <- HT1.out, HSL.out, <- HPAD.out]
       simp
      rw [e]
      exact hz
     have HT2 := Lib.hid hT2
     clear hT2
     refine wpIn_region_any hmx ?_
     change wpAnyIn _ _ _ _ _ _ _ _ _ (World.drew _)
     refine wpAnyIn_ready (rs := [0, 1]) (by kernel_rfl) (by simp) ?_
     refine AllReadyIn.cons rfl (fun K hK => ?_) (AllReadyIn.cons rfl (fun K hK => ?_) (AllReadyIn.nil))
     ·go_simp
      refine hK _ _ ?_
      clear hK K
      refine wpAnyIn_ready (rs := [1]) (by kernel_rfl) (by simp) ?_
      refine AllReadyIn.cons rfl (fun K hK => ?_) (AllReadyIn.nil)
      go_simp
      refine hK _ _ ?_
      clear hK K
      refine wpAnyIn_ready (rs := [2]) (by kernel_rfl) (by simp) ?_
      refine AllReadyIn.cons rfl (fun K hK => ?_) (AllReadyIn.nil)
      go_simp
      refine hK _ _ ?_
      clear hK K
      refine wpAnyIn_ready (rs := [3]) (by kernel_rfl) (by simp) ?_
      refine AllReadyIn.cons rfl (fun K hK => ?_) (AllReadyIn.nil)
      go_simp
      refine hK _ _ ?_
      clear hK K
      refine wpAnyIn_ready (rs := [4]) (by kernel_rfl) (by simp) ?_
      refine AllReadyIn.cons rfl (fun K hK => ?_) (AllReadyIn.nil)
      go_simp
      refine ⟨trivial, ?_⟩
      refine (CallsIn.inRound lr (callsIn_wide.2 (Lx.Tryz.strconv_Itoa y2 hr2.1 hr2.2 _ hpow))).mono ?_
      rintro e w4 ⟨rfl, kk, os, hw4⟩
      rw [HTT.out]
      obtain ⟨hb4, ho4, hB4, hk4⟩ := made_back hw4 hb3 ho3 hB3 hBs3
      clear hw4
      have hc4 := hb4.cell
      obtain ⟨v5, w5, hrun, ho5, hg5⟩ := appS_run w4 B v3 T1 sx ho4 (by omega) (Nat.le_trans hB hB4.size)
      rw [HT2.out] at ho5
      have hend := round_end (W2 := W2) hb4 ho4 hB4 hk4 hB (by omega) hg5 ho5
      have hb5 : Boxed w5 w.heap.size 87 v3 := hb4.kept hg5 (hb4.not_row (by decide) ho4)
      have hc5 := hb5.cell
      have hf5 := hb5.frozen
      obtain ⟨A5, c5, rfl⟩ := ho5.shape
      refine hK _ _ ?_
      clear hK K
      refine wpAnyIn_ready (rs := [5]) (by kernel_rfl) (by simp) ?_
      refine AllReadyIn.cons rfl (fun K hK => ?_) (AllReadyIn.nil)
      go_simp
      refine hK _ _ ?_
      clear hK K
      refine wpAnyIn_ready (rs := [6]) (by kernel_rfl) (by simp) ?_
      refine AllReadyIn.cons rfl (fun K hK => ?_) (AllReadyIn.nil)
      refine step_appS rfl (.tmp 44) (.tmp 49) rfl rfl _ _ _ _ rfl rfl hrun ?_
      refine hK _ _ ?_
      clear hK K hrun
      refine wpAnyIn_ready (rs := [7]) (by kernel_rfl) (by simp) ?_
      refine AllReadyIn.cons rfl (fun K hK => ?_) (AllReadyIn.nil)
      go_simp
      refine hK _ _ ?_
      clear hK K
      refine wpAnyIn_done (by kernel_rfl) ?_ _
      gi_wp2
      exact ⟨hend.1, ⟨(hend.2.2.2.2 _ _ hm3 (fun h => by have := Option.some.inj h; omega) (fun c fz e => by injection e with _ e2; exact absurd e2 (by decide))).trans hm3.symm, (hend.2.2.2.2 _ _ hs3 (fun h => by have := Option.some.inj h; omega) (fun c fz e => by injection e with _ e2; exact absurd e2 (by decide))).trans hs3.symm⟩, ⟨_, hend.2.1, HEND.out _ _ hend.2.2.1, trivial⟩, hend.2.2.2.1, hO3.trans hend.2.2.2.2⟩
     ·go_simp
      refine hK _ _ ?_
      clear hK K
      refine wpAnyIn_ready (rs := [0, 2]) (by kernel_rfl) (by simp) ?_
      refine AllReadyIn.cons rfl (fun K hK => ?_) (AllReadyIn.cons rfl (fun K hK => ?_) (AllReadyIn.nil))
      ·go_simp
       refine hK _ _ ?_
       clear hK K
       refine wpAnyIn_ready (rs := [2]) (by kernel_rfl) (by simp) ?_
       refine AllReadyIn.cons rfl (fun K hK => ?_) (AllReadyIn.nil)
       go_simp
       refine hK _ _ ?_
       clear hK K
       refine wpAnyIn_ready (rs := [3]) (by kernel_rfl) (by simp) ?_
       refine AllReadyIn.cons rfl (fun K hK => ?_) (AllReadyIn.nil)
       go_simp
       refine hK _ _ ?_
       clear hK K
       refine wpAnyIn_ready (rs := [4]) (by kernel_rfl) (by simp) ?_
       refine AllReadyIn.cons rfl (fun K hK => ?_) (AllReadyIn.nil)
       go_simp
       refine ⟨trivial, ?_⟩
       refine (CallsIn.inRound lr (callsIn_wide.2 (Lx.Tryz.strconv_Itoa y2 hr2.1 hr2.2 _ hpow))).mono ?_
       rintro e w4 ⟨rfl, kk, os, hw4⟩
       rw [HTT.out]
       obtain ⟨hb4, ho4, hB4, hk4⟩ := made_back hw4 hb3 ho3 hB3 hBs3
       clear hw4
       have hc4 := hb4.cell
       obtain ⟨v5, w5, hrun, ho5, hg5⟩ := appS_run w4 B v3 T1 sx ho4 (by omega) (Nat.le_trans hB hB4.size)
       rw [HT2.out] at ho5
       have hend := round_end (W2 := W2) hb4 ho4 hB4 hk4 hB (by omega) hg5 ho5
       have hb5 : Boxed w5 w.heap.size 87 v3 := hb4.kept hg5 (hb4.not_row (by decide) ho4)
       have hc5 := hb5.cell
       have hf5 := hb5.frozen
       obtain ⟨A5, c5, rfl⟩ := ho5.shape
       refine hK _ _ ?_
       clear hK K
       refine wpAnyIn_ready (rs := [5]) (by kernel_rfl) (by simp) ?_
       refine AllReadyIn.cons rfl (fun K hK => ?_) (AllReadyIn.nil)
       go_simp
       refine hK _ _ ?_
       clear hK K
       refine wpAnyIn_ready (rs := [6]) (by kernel_rfl) (by simp) ?_
       refine AllReadyIn.cons rfl (fun K hK => ?_) (AllReadyIn.nil)
       refine step_appS rfl (.tmp 44) (.tmp 49) rfl rfl _ _ _ _ rfl rfl hrun ?_
       refine hK _ _ ?_
       clear hK K hrun
       refine wpAnyIn_ready (rs := [7]) (by kernel_rfl) (by simp) ?_
       refine AllReadyIn.cons rfl (fun K hK => ?_) (AllReadyIn.nil)
       go_simp
       refine hK _ _ ?_
       clear hK K
       refine wpAnyIn_done (by kernel_rfl) ?_ _
       gi_wp2
       exact ⟨hend.1, ⟨(hend.2.2.2.2 _ _ hm3 (fun h => by have := Option.some.inj h; omega) (fun c fz e => by injection e with _ e2; exact absurd e2 (by decide))).trans hm3.symm, (hend.2.2.2.2 _ _ hs3 (fun h => by have := Option.some.inj h; omega) (fun c fz e => by injection e with _ e2; exact absurd e2 (by decide))).trans hs3.symm⟩, ⟨_, hend.2.1, HEND.out _ _ hend.2.2.1, trivial⟩, hend.2.2.2.1, hO3.trans hend.2.2.2.2⟩
      ·go_simp
       refine hK _ _ ?_
       clear hK K
       refine wpAnyIn_ready (rs := [0, 3]) (by kernel_rfl) (by simp) ?_
       refine AllReadyIn.cons rfl (fun K hK => ?_) (AllReadyIn.cons rfl (fun K hK => ?_) (AllReadyIn.nil))
       ·go_simp
        refine hK _ _ ?_
        clear hK K
        refine wpAnyIn_ready (rs := [3]) (by kernel_rfl) (by simp) ?_
        refine AllReadyIn.cons rfl (fun K hK => ?_) (AllReadyIn.nil)
        go_simp
        refine hK _ _ ?_
        clear hK K
        refine wpAnyIn_ready (rs := [4]) (by kernel_rfl) (by simp) ?_
        refine AllReadyIn.cons rfl (fun K hK => ?_) (AllReadyIn.nil)
        go_simp
        refine ⟨trivial, ?_⟩
        refine (CallsIn.inRound lr (callsIn_wide.2 (Lx.Tryz.strconv_Itoa y2 hr2.1 hr2.2 _ hpow))).mono ?_
        rintro e w4 ⟨rfl, kk, os, hw4⟩
        rw [HTT.out]
        obtain ⟨hb4, ho4, hB4, hk4⟩ := made_back hw4 hb3 ho3 hB3 hBs3
        clear hw4
        have hc4 := hb4.cell
        obtain ⟨v5, w5, hrun, ho5, hg5⟩ := appS_run w4 B v3 T1 sx ho4 (by omega) (Nat.le_trans hB hB4.size)
        rw [HT2.out] at ho5
        have hend := round_end (W2 := W2) hb4 ho4 hB4 hk4 hB (by omega) hg5 ho5
        have hb5 : Boxed w5 w.heap.size 87 v3 := hb4.kept hg5 (hb4.not_row (by decide) ho4)
        have hc5 := hb5.cell
        have hf5 := hb5.frozen
        obtain ⟨A5, c5, rfl⟩ := ho5.shape
        refine hK _ _ ?_
        clear hK K
        refine wpAnyIn_ready (rs := [5]) (by kernel_rfl) (by simp) ?_
        refine AllReadyIn.cons rfl (fun K hK => ?_) (AllReadyIn.nil)
        go_simp
        refine hK _ _ ?_
        clear hK K
        refine wpAnyIn_ready (rs := [6]) (by kernel_rfl) (by simp) ?_
        refine AllReadyIn.cons rfl (fun K hK => ?_) (AllReadyIn.nil)
        refine step_appS rfl (.tmp 44) (.tmp 49) rfl rfl _ _ _ _ rfl rfl hrun ?_
        refine hK _ _ ?_
        clear hK K hrun
        refine wpAnyIn_ready (rs := [7]) (by kernel_rfl) (by simp) ?_
        refine AllReadyIn.cons rfl (fun K hK => ?_) (AllReadyIn.nil)
        go_simp
        refine hK _ _ ?_
        clear hK K
        refine wpAnyIn_done (by kernel_rfl) ?_ _
        gi_wp2
        exact ⟨hend.1, ⟨(hend.2.2.2.2 _ _ hm3 (fun h => by have := Option.some.inj h; omega) (fun c fz e => by injection e with _ e2; exact absurd e2 (by decide))).trans hm3.symm, (hend.2.2.2.2 _ _ hs3 (fun h => by have := Option.some.inj h; omega) (fun c fz e => by injection e with _ e2; exact absurd e2 (by decide))).trans hs3.symm⟩, ⟨_, hend.2.1, HEND.out _ _ hend.2.2.1, trivial⟩, hend.2.2.2.1, hO3.trans hend.2.2.2.2⟩
       ·go_simp
        refine hK _ _ ?_
        clear hK K
        refine wpAnyIn_ready (rs := [0, 4]) (by kernel_rfl) (by simp) ?_
        refine AllReadyIn.cons rfl (fun K hK => ?_) (AllReadyIn.cons rfl (fun K hK => ?_) (AllReadyIn.nil))
        ·go_simp
         refine hK _ _ ?_
         clear hK K
         refine wpAnyIn_ready (rs := [4]) (by kernel_rfl) (by simp) ?_
         refine AllReadyIn.cons rfl (fun K hK => ?_) (AllReadyIn.nil)
         go_simp
         refine ⟨trivial, ?_⟩
         refine (CallsIn.inRound lr (callsIn_wide.2 (Lx.Tryz.strconv_Itoa y2 hr2.1 hr2.2 _ hpow))).mono ?_
         rintro e w4 ⟨rfl, kk, os, hw4⟩
         rw [HTT.out]
         obtain ⟨hb4, ho4, hB4, hk4⟩ := made_back hw4 hb3 ho3 hB3 hBs3
         clear hw4
         have hc4 := hb4.cell
         obtain ⟨v5, w5, hrun, ho5, hg5⟩ := appS_run w4 B v3 T1 sx ho4 (by omega) (Nat.le_trans hB hB4.size)
         rw [HT2.out] at ho5
         have hend := round_end (W2 := W2) hb4 ho4 hB4 hk4 hB (by omega) hg5 ho5
         have hb5 : Boxed w5 w.heap.size 87 v3 := hb4.kept hg5 (hb4.not_row (by decide) ho4)
         have hc5 := hb5.cell
         have hf5 := hb5.frozen
         obtain ⟨A5, c5, rfl⟩ := ho5.shape
         refine hK _ _ ?_
         clear hK K
         refine wpAnyIn_ready (rs := [5]) (by kernel_rfl) (by simp) ?_
         refine AllReadyIn.cons rfl (fun K hK => ?_) (AllReadyIn.nil)
         go_simp
         refine hK _ _ ?_
         clear hK K
         refine wpAnyIn_ready (rs := [6]) (by kernel_rfl) (by simp) ?_
         refine AllReadyIn.cons rfl (fun K hK => ?_) (AllReadyIn.nil)
         refine step_appS rfl (.tmp 44) (.tmp 49) rfl rfl _ _ _ _ rfl rfl hrun ?_
         refine hK _ _ ?_
         clear hK K hrun
         refine wpAnyIn_ready (rs := [7]) (by kernel_rfl) (by simp) ?_
         refine AllReadyIn.cons rfl (fun K hK => ?_) (AllReadyIn.nil)
         go_simp
         refine hK _ _ ?_
         clear hK K
         refine wpAnyIn_done (by kernel_rfl) ?_ _
         gi_wp2
         exact ⟨hend.1, ⟨(hend.2.2.2.2 _ _ hm3 (fun h => by have := Option.some.inj h; omega) (fun c fz e => by injection e with _ e2; exact absurd e2 (by decide))).trans hm3.symm, (hend.2.2.2.2 _ _ hs3 (fun h => by have := Option.some.inj h; omega) (fun c fz e => by injection e with _ e2; exact absurd e2 (by decide))).trans hs3.symm⟩, ⟨_, hend.2.1, HEND.out _ _ hend.2.2.1, trivial⟩, hend.2.2.2.1, hO3.trans hend.2.2.2.2⟩
        ·go_simp
         refine ⟨trivial, ?_⟩
         refine (CallsIn.inRound lr (callsIn_wide.2 (Lx.Tryz.strconv_Itoa y2 hr2.1 hr2.2 _ hpow))).mono ?_
         rintro e w4 ⟨rfl, kk, os, hw4⟩
         rw [HTT.out]
         obtain ⟨hb4, ho4, hB4, hk4⟩ := made_back hw4 hb3 ho3 hB3 hBs3
         clear hw4
         have hc4 := hb4.cell
         obtain ⟨v5, w5, hrun, ho5, hg5⟩ := appS_run w4 B v3 T1 sx ho4 (by omega) (Nat.le_trans hB hB4.size)
         rw [HT2.out] at ho5
         have hend := round_end (W2 := W2) hb4 ho4 hB4 hk4 hB (by omega) hg5 ho5
         have hb5 : Boxed w5 w.heap.size 87 v3 := hb4.kept hg5 (hb4.not_row (by decide) ho4)
         have hc5 := hb5.cell
         have hf5 := hb5.frozen
         obtain ⟨A5, c5, rfl⟩ := ho5.shape
         refine hK _ _ ?_
         clear hK K
         refine wpAnyIn_ready (rs := [0, 5]) (by kernel_rfl) (by simp) ?_
         refine AllReadyIn.cons rfl (fun K hK => ?_) (AllReadyIn.cons rfl (fun K hK => ?_) (AllReadyIn.nil))
         ·go_simp
          refine hK _ _ ?_
          clear hK K
          refine wpAnyIn_ready (rs := [5]) (by kernel_rfl) (by simp) ?_
          refine AllReadyIn.cons rfl (fun K hK => ?_) (AllReadyIn.nil)
          go_simp
          refine hK _ _ ?_
          clear hK K
          refine wpAnyIn_ready (rs := [6]) (by kernel_rfl) (by simp) ?_
          refine AllReadyIn.cons rfl (fun K hK => ?_) (AllReadyIn.nil)
          refine step_appS rfl (.tmp 44) (.tmp 49) rfl rfl _ _ _ _ rfl rfl hrun ?_
          refine hK _ _ ?_
          clear hK K hrun
          refine wpAnyIn_ready (rs := [7]) (by kernel_rfl) (by simp) ?_
          refine AllReadyIn.cons rfl (fun K hK => ?_) (AllReadyIn.nil)
          go_simp
          refine hK _ _ ?_
          clear hK K
          refine wpAnyIn_done (by kernel_rfl) ?_ _
          gi_wp2
          exact ⟨hend.1, ⟨(hend.2.2.2.2 _ _ hm3 (fun h => by have := Option.some.inj h; omega) (fun c fz e => by injection e with _ e2; exact absurd e2 (by decide))).trans hm3.symm, (hend.2.2.2.2 _ _ hs3 (fun h => by have := Option.some.inj h; omega) (fun c fz e => by injection e with _ e2; exact absurd e2 (by decide))).trans hs3.symm⟩, ⟨_, hend.2.1, HEND.out _ _ hend.2.2.1, trivial⟩, hend.2.2.2.1, hO3.trans hend.2.2.2.2⟩
         ·go_simp
          refine hK _ _ ?_
          clear hK K
          refine wpAnyIn_ready (rs := [0]) (by kernel_rfl) (by simp) ?_
          refine AllReadyIn.cons rfl (fun K hK => ?_) (AllReadyIn.nil)
          go_simp
          refine hK _ _ ?_
          clear hK K
          refine wpAnyIn_ready (rs := [6]) (by kernel_rfl) (by simp) ?_
          refine AllReadyIn.cons rfl (fun K hK => ?_) (AllReadyIn.nil)
          refine step_appS rfl (.tmp 44) (.tmp 49) rfl rfl _ _ _ _ rfl rfl hrun ?_
          refine hK _ _ ?_
          clear hK K hrun
          refine wpAnyIn_ready (rs := [7]) (by kernel_rfl) (by simp) ?_
          refine AllReadyIn.cons rfl (fun K hK => ?_) (AllReadyIn.nil)
          go_simp
          refine hK _ _ ?_
          clear hK K
          refine wpAnyIn_done (by kernel_rfl) ?_ _
          gi_wp2
          exact ⟨hend.1, ⟨(hend.2.2.2.2 _ _ hm3 (fun h => by have := Option.some.inj h; omega) (fun c fz e => by injection e with _ e2; exact absurd e2 (by decide))).trans hm3.symm, (hend.2.2.2.2 _ _ hs3 (fun h => by have := Option.some.inj h; omega) (fun c fz e => by injection e with _ e2; exact absurd e2 (by decide))).trans hs3.symm⟩, ⟨_, hend.2.1, HEND.out _ _ hend.2.2.1, trivial⟩, hend.2.2.2.1, hO3.trans hend.2.2.2.2⟩
    case done =>
     rintro D xs W4 hD rfl ⟨⟨v6, hb6, ho6, -⟩, hB6, hO6⟩ hK
     have hc6 := hb6.cell
     have ht6 : L1 ++ ((bk cs m m).map fun y => padI y.2).flatten = l ++ Lib.decDigits X := by
      rw [bk_text (by have := HM.out; omega) HCL.out, dec_text HM.out HCV.out HCL.out (by rw [HTOP.out]; exact HTN.out), HTOP.out, <- List.append_assoc, HL1.out]
     rw [ht6] at ho6
     clear ht6
     gi_wp2
     go_wp2_with fail
     refine ⟨by simp, .inl ⟨_, _, rfl, run_takeDeferred hK, ?_⟩⟩
     refine ⟨_, results_tmp rfl _ _ _, v6, rfl, ownsRow_putObj ho6 _ hK rfl, ?_, ?_⟩
     ·exact hB6.grown (grownBy_putObj' _ D _) (Nat.le_trans hB hB6.size) (fun k e => by have := Option.some.inj e; omega)
     ·have h7 := others_old hy4 (Nat.le_refl _) hO6
      exact fun k o hk hb ho => ((grownBy_putObj' _ D _).block k (heap_lt (h7 k o hk hb ho)) (fun e => by have := Option.some.inj e; have := heap_lt hk; omega)).trans (h7 k o hk hb ho)
    case stop =>
     rintro D c pre W _ _ h _
     exact h.elim
  ·have hnp : 0 < n2 := by
    rcases Nat.eq_zero_or_pos n2 with h | h
    ·rw [hR.len] at h; exact absurd (limbs_length_zero.1 h) hR0
    ·exact h
   have hdp : decide ((0 : Int) < (n2 : Int)) = true := decide_eq_true (by omega)
   obtain ⟨b, pre, post, rfl, hBb, hmid⟩ := hR.row hnp
   have hlr := lim_limbs R
   obtain ⟨rm, hrm⟩ : ∃ rm, R % 1000000000 = rm := ⟨_, rfl⟩
   have HRM : Hid (val (limbs R) % 1000000000 = rm) := by show _ = _; rw [val_limbs]; exact hrm
   have hneb := hne _ rfl
   have hlen2 := hR.len
   have hcap2 := hR.cap
   have HR0 := Lib.hid hR0
   have HN2 := Lib.hid hlen2
   clear hlen2 hR0 hR
   go_wp2_with fail
   refine (divideLimb_v b pre.length n2 c2 1000000000 rm pre post (limbs R) _ hmid hlr rfl HN2.out hcap2 (by omega) (by omega) (by omega) HRM).mono ?_
   rintro e w2 ⟨rfl, L, hm2, hg2, hL1, hL2, hL3⟩
   rw [val_limbs] at hL3
   have hC2 : OwnR w2 W.heap.size _ cs := World.ownsRow.kept hC hg2 (.inr hneb)
   have hrl : rm < 4294967296 := by omega
   have hul : Lim [rm] := Lim.cons hrl Lim.nil
   have hb2 : Below W.heap.size W w2 := hb.grown hg2 hb.size (fun k hk => by cases hk; exact hBb)
   have hnum : Num (w2.alloc (.cells #[.int .u32 (rm : Int)] 78)) [rm] (some ⟨w2.heap.size, 0, none⟩) 1 1 := (show Row _ _ [rm] from heap_alloc_new w2 _).num hul rfl (Nat.le_refl _)
   have hb3 : Below W.heap.size W (w2.alloc (.cells #[.int .u32 (rm : Int)] 78)) := hb2.alloc hb2.size _
   go_wp2_with (at_builtin; refine wpList_app rfl (.tmp 23) (.tmp 26) rfl rfl W.heap.size _ cs [rm] rfl (World.ownsRow.alloc hC2 _) _ 1 1 rfl hnum ?c1 ?c2 ?_)
   case c1 => have := HI.out.2.2.1; simp; omega
   case c2 => exact hb3.size
   intro v3 w3 hC3 hg3 hsame
   have hb4 : Below W.heap.size W w3 := hb3.grown hg3 hb3.size (fun k hk => (World.ownsRow.lt hC2 k hk).1)
   have hm3 : Mid w3 b pre L post := (hg3.block b (by have := hm2.lt; simp; omega) (fun e => hneb e.symm)).trans ((Below.heap_alloc w2 _ b hm2.lt).trans hm2)
   have hown3 : Own w3 W.heap.size L (some ⟨b, pre.length, none⟩) n2 c2 := hm3.own hBb hL2 rfl hL1.symm hcap2
   go_wp2_with fail
   refine (trimmed_any _ n2 c2 L _ hown3.num (by omega)).mono ?_
   rintro e w4 ⟨rfl, rfl⟩
   have hv3 : v3.ownBlock ≠ some b := by
    rcases hsame with h | h
    ·rw [h]; exact hneb
    ·rw [h]; intro e; injection e with e; have := hm2.lt; have := World.size_alloc w2 (.cells #[.int .u32 (rm : Int)] 78); omega
   have hT3 := hown3.trim
   rw [hL3] at hT3
   go_wp2_with fail
   go_roundg (R / 1000000000)
   case rel =>
    have hI := HI.out
    refine ⟨_, _, _, _, cs ++ [rm], R / 1000000000, rfl, rfl, hT3, hC3, (fun a ha e => by cases ha; exact hv3 e), hb4, ?_, Nat.le_refl _, ?_⟩
    ·have := length_mono (Nat.div_le_self R 1000000000); have := HN2.out; omega
    ·refine ⟨?_, ?_, ?_, ?_, ?_⟩
     ·rw [cval_snoc, List.length_append, <- hI.1]
      simp only [List.length_cons, List.length_nil, Nat.zero_add, Nat.pow_succ]
      have := Nat.div_add_mod R 1000000000
      rw [hrm] at this
      rw [<- this]
      grind
     ·intro x hx
      rcases List.mem_append.1 hx with hx | hx
      ·exact hI.2.1 x hx
      ·simp at hx; subst hx; omega
     ·have := chunk_len hI.1 (Nat.pos_of_ne_zero HR0.out) HXP.out
      rw [List.length_append]; simp; omega
     ·intro h; simp at h
     ·intro h0
      rw [List.length_append]
      simp
      have := HR0.out
      omega
   case measure => have := HR0.out; omega
end Go.Proofs.YtifeekomegoijaaGreatDoor
