/- texts -/
import Derived.Test.YtifeekomegoijaaGreatDoorR46
import Derived.Test.YtifeekomegoijaaGreatDoorR48
set_option linter.unusedVariables false
set_option linter.unusedSimpArgs false
namespace Go.Proofs.YtifeekomegoijaaGreatDoor
open Go.RowKit

structure GP (w : World) (v : Value) (p : List Mon) : Prop where
 pi : PI w v p 2
 pir : PIr w v p 2
theorem GP.below {w w' : World} {v : Value} {p : List Mon} (h : GP w v p) (hb : Below w.heap.size w w') : GP w' v p := ⟨h.pi.below hb, h.pir.below hb⟩
theorem PRaw.gp {w : World} {A : Option Addr} {n c : Nat} {l : List FldM} (h : PRaw w A n c l) (hl : lightL l = true) : GP w (.slice A n c) (polL l) := ⟨h.pi hl, h.pir hl⟩
structure GQ (w : World) (v : Value) (x : Rat) : Prop where
 inp : Inp w v x 2
 inr : Inr w v x
theorem GQ.below {w w' : World} {v : Value} {x : Rat} (h : GQ w v x) (hb : Below w.heap.size w w') : GQ w' v x := ⟨h.inp.below hb, h.inr.below hb⟩
theorem GQ.sz {w : World} {v : Value} {x : Rat} (h : GQ w v x) : Sz x 2 := h.inp.sz
def lgt2q (ln ld : List Nat) : Bool := decide (ln.length ≤ 2) && decide (ld.length ≤ 2)
theorem gq_of {w : World} {v : Value} {neg : Bool} {ln ld : List Nat} (h : Fld w v neg ln ld) (hl : lgt2q ln ld = true) : GQ w v (fq neg ln ld) := by
 unfold lgt2q at hl
 rw [Bool.and_eq_true] at hl
 have := fld_in2 h (of_decide_eq_true hl.1) (of_decide_eq_true hl.2)
 exact ⟨this.1, this.2.1⟩
theorem light2q (v : Value) (neg : Bool) (ln ld : List Nat) (w : World) (h : Fld w v neg ln ld) (V : Bool) (H : Hid (lgt2q ln ld = V)) : Calls Tryz.prog 12 #[v, .int .i64 2] w (RetV w (.bool V)) := by
 obtain ⟨A, n, c, A', m, c', rfl, h1, h2⟩ := h.out
 exact r_Light neg A A' n c m c' 2 w V (Lib.hid (by rw [h1.len, h2.len]; exact H.out))
structure PS (w : World) (v : Value) (l : List Mon) : Prop where
 pol : Pol w v l
 vp : VP l
 sz : SzL l 5000
theorem PS.below {w w' : World} {v : Value} {l : List Mon} (h : PS w v l) (hb : Below w.heap.size w w') : PS w' v l := ⟨h.pol.below hb, h.vp, h.sz⟩
def RetPS (w0 : World) (l : List Mon) (e : Ending) (w' : World) : Prop := ∃ v, e = .returned v ∧ PS w' v l ∧ Below w0.heap.size w0 w'
theorem RetPol.ps {w0 w' : World} {c : Co} {e : Ending} (h : RetPol w0 (listOf c) e w') (hs : SzL (listOf c) 5000) : RetPS w0 (listOf c) e w' := by
 obtain ⟨v, rfl, hp, hb⟩ := h
 exact ⟨v, rfl, ⟨hp, vp_listOf c, hs⟩, hb⟩
theorem szL_addP {p q : List Mon} (hp : VP p) (hq : VP q) (h : SzL p 2) (h' : SzL q 2) : SzL (listOf (addC (co p) (co q))) 5000 := by
 have := szL_add (low_co hp) (low_co hq) (L := 2) (M := 2) (by rw [listOf_co hp]; exact h) (by rw [listOf_co hq]; exact h')
 exact this.mono (by omega)
theorem szL_mulP {p q : List Mon} (hp : VP p) (hq : VP q) (h : SzL p 2) (h' : SzL q 2) : SzL (listOf (mulC (co p) (co q))) 5000 := by
 have := szL_mul hp hq h' h
 have h2 := Nat.mul_le_mul_right (2 + 2 + 1) (vp_length hp)
 exact this.mono (by omega)
theorem szL_scaleP {p : List Mon} {x : Rat} (hp : VP p) (h : SzL p 2) (hx : Sz x 2) : SzL (listOf (mulC (co p) (constC x))) 5000 := by
 have := szL_mulP hp (vp_listOf (constC x)) h (szL_const hx (by omega))
 rw [co_const] at this
 exact this
theorem Add_g (v u : Value) (p q : List Mon) (w : World) (hT : TxF w) (h : GP w v p) (h' : GP w u q) : Calls Tryz.prog 17 #[v, u] w (RetPS w (listOf (addC (co p) (co q)))) :=
 (Add_p v u p q 2 w hT.tab h.pi h'.pi (by omega)).mono fun _ _ hr => hr.ps (szL_addP h.pi.vp h'.pi.vp h.pi.szl h'.pi.szl)
theorem Add_gr (v u : Value) (p q : List Mon) (w : World) (h : GP w v p) (h' : GP w u q) : Calls Tryz.prog 18 #[v, u] w (RetPS w (listOf (addC (co p) (co q)))) :=
 (r2_Add v u p q 2 w h.pir h'.pir (by omega) (by omega)).mono fun _ _ hr => hr.ps (szL_addP h.pi.vp h'.pi.vp h.pi.szl h'.pi.szl)
theorem Mul_g (v u : Value) (p q : List Mon) (w : World) (hT : TxF w) (h : GP w v p) (h' : GP w u q) : Calls Tryz.prog 19 #[v, u] w (RetPS w (listOf (mulC (co p) (co q)))) := by
 have h2 := Nat.mul_le_mul_right (2 + 2 + 1) (vp_length h.pi.vp)
 exact (Mul_p v u p q 2 2 w hT.tab h.pi h'.pi (by omega) (by omega)).mono fun _ _ hr => hr.ps (szL_mulP h.pi.vp h'.pi.vp h.pi.szl h'.pi.szl)
theorem Mul_gr (v u : Value) (p q : List Mon) (w : World) (h : GP w v p) (h' : GP w u q) : Calls Tryz.prog 20 #[v, u] w (RetPS w (listOf (mulC (co p) (co q)))) :=
 (r2_Mul v u p q 2 2 300 w h.pir h'.pir (by omega) (by omega) (by omega) (szC_take h'.pi.vp h'.pi.szl h.pi.szl (vp_length h.pi.vp) (by omega))).mono fun _ _ hr => hr.ps (szL_mulP h.pi.vp h'.pi.vp h.pi.szl h'.pi.szl)
theorem Scale_g (v z : Value) (p : List Mon) (x : Rat) (w : World) (hT : TxF w) (h : GP w v p) (hx : GQ w z x) : Calls Tryz.prog 21 #[v, z] w (RetPS w (listOf (mulC (co p) (constC x)))) :=
 (Scale_p v z p x 2 2 w hT.tab h.pi hx.inp (by omega)).mono fun _ _ hr => hr.ps (szL_scaleP h.pi.vp h.pi.szl hx.sz)
theorem Scale_gr (v z : Value) (p : List Mon) (x : Rat) (w : World) (h : GP w v p) (hx : GQ w z x) : Calls Tryz.prog 22 #[v, z] w (RetPS w (listOf (mulC (co p) (constC x)))) :=
 (r2_Scale v z p x 2 2 w h.pir hx.inr hx.sz (by omega) (by omega)).mono fun _ _ hr => hr.ps (szL_scaleP h.pi.vp h.pi.szl hx.sz)
theorem Constant_g (z : Value) (x : Rat) (w : World) (hT : TxF w) (hx : GQ w z x) : Calls Tryz.prog 26 #[z] w (RetPS w (listOf (constC x))) :=
 (Constant_p z x w hT.tab (hx.inp.lift (by omega))).mono fun _ _ hr => hr.ps ((szL_const hx.sz (by omega)).mono (by omega))
theorem Constant_gr (z : Value) (x : Rat) (w : World) (hx : GQ w z x) : Calls Tryz.prog 27 #[z] w (RetPS w (listOf (constC x))) :=
 (r2_Constant z x w hx.inr (hx.sz.mono (by omega))).mono fun _ _ hr => hr.ps ((szL_const hx.sz (by omega)).mono (by omega))
theorem Same_g (v u : Value) (l : List Mon) (w : World) (h : PS w v l) (h' : PS w u l) : Calls Tryz.prog 16 #[v, u] w (RetV w (.bool true)) := by
 have hlen := vp_length h.vp
 have := r2_Same v u l l w h.pol h'.pol (h.sz.mono (by omega)) (h'.sz.mono (by omega)) (by omega) (by omega)
 rwa [decide_eq_true rfl] at this
def parL (i : Int) : List Mon := if i < 0 ∨ 3 ≤ i then [] else [(uE i.toNat, 1)]
theorem ps_par {w : World} {v : Value} {i : Int} (h : Pol w v (parL i)) : PS w v (parL i) := by
 refine ⟨h, ?_, ?_⟩
 ·unfold parL
  split
  ·exact ⟨fun m hm => (by cases hm), List.Pairwise.nil⟩
  ·exact vp_uE _
 ·unfold parL
  split
  ·exact fun m hm => by cases hm
  ·exact (szL_uE _).mono (by omega)
theorem Parameter_g (i : Int) (w : World) : Calls Tryz.prog 28 #[.int .i64 i] w (RetPS w (parL i)) := by
 by_cases h : i < 0 ∨ 3 ≤ i
 ·refine (Parameter_out i w (by omega)).mono ?_
  rintro e w' ⟨v, rfl, hp, hb⟩
  exact ⟨v, rfl, ps_par (by unfold parL; rw [if_pos h]; exact hp), hb⟩
 ·obtain ⟨k, rfl⟩ : ∃ k : Nat, i = (k : Int) := ⟨i.toNat, by omega⟩
  refine (Parameter_in k w (by omega)).mono ?_
  rintro e w' ⟨v, rfl, hp, hb⟩
  exact ⟨v, rfl, ps_par (by unfold parL; rw [if_neg h]; exact hp), hb⟩
theorem Parameter_gr (i : Int) (w : World) : Calls Tryz.prog 29 #[.int .i64 i] w (RetPS w (parL i)) := by
 by_cases h : i < 0 ∨ 3 ≤ i
 ·refine (r2_Parameter_out i w (by omega)).mono ?_
  rintro e w' ⟨v, rfl, hp, hb⟩
  exact ⟨v, rfl, ps_par (by unfold parL; rw [if_pos h]; exact hp), hb⟩
 ·obtain ⟨k, rfl⟩ : ∃ k : Nat, i = (k : Int) := ⟨i.toNat, by omega⟩
  refine (r2_Parameter k w (by omega)).mono ?_
  rintro e w' ⟨v, rfl, hp, hb⟩
  exact ⟨v, rfl, ps_par (by unfold parL; rw [if_neg h]; exact hp), hb⟩
theorem Eval_g (v a0 a1 a2 a3 a4 a5 a6 a7 a8 : Value) (x y z : Rat) (p : List Mon) (w : World) (hT : TxF w) (h : GP w v p) (hx : GQ w (.agg #[a0, a1, a2]) x) (hy : GQ w (.agg #[a3, a4, a5]) y) (hz : GQ w (.agg #[a6, a7, a8]) z) :
  Calls Tryz.prog 30 #[v, .agg #[a0, a1, a2, a3, a4, a5, a6, a7, a8]] w (RetRat w (evalL p x y z)) :=
 Eval_p v (fun i => [a0, a1, a2, a3, a4, a5, a6, a7, a8].getD i undef) (ar3 x y z) p 2 2 46 w hT.tab h.pi (fun i hi => match i, hi with
  | 0, _ => hx.inp
  | 1, _ => hy.inp
  | 2, _ => hz.inp) (sz_ar3 hx.sz hy.sz hz.sz) (by omega) (by omega)
theorem Eval_gr (v a0 a1 a2 a3 a4 a5 a6 a7 a8 : Value) (x y z : Rat) (p : List Mon) (w : World) (h : GP w v p) (hx : GQ w (.agg #[a0, a1, a2]) x) (hy : GQ w (.agg #[a3, a4, a5]) y) (hz : GQ w (.agg #[a6, a7, a8]) z) :
  Calls Tryz.prog 31 #[v, .agg #[a0, a1, a2, a3, a4, a5, a6, a7, a8]] w (RetRat w (evalL p x y z)) :=
 r2_Eval v (fun i => [a0, a1, a2, a3, a4, a5, a6, a7, a8].getD i undef) (ar3 x y z) p 2 2 46 w h.pir (fun i hi => match i, hi with
  | 0, _ => hx.inr
  | 1, _ => hy.inr
  | 2, _ => hz.inr) (sz_ar3 hx.sz hy.sz hz.sz) (by omega) (by omega)
theorem sz_evalG {p : List Mon} (hv : VP p) (hs : SzL p 2) {x y z : Rat} (hx : Sz x 2) (hy : Sz y 2) (hz : Sz z 2) : Sz (evalL p x y z) 5000 := by
 have h1 := sz_evTo (M := 46) hv hs (sz_ar3 hx hy hz) (by omega) _ (Nat.le_refl _)
 rw [evTo_all] at h1
 have h2 := Nat.mul_le_mul_right (46 + 1) (vp_length hv)
 exact h1.mono (by omega)
end Go.Proofs.YtifeekomegoijaaGreatDoor
