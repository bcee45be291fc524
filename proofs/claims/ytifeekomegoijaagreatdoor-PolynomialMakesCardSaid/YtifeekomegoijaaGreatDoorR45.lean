/- texts -/
import Derived.Test.YtifeekomegoijaaGreatDoorR44
import Derived.Test.YtifeekomegoijaaGreatDoorR39
import Derived.Test.YtifeekomegoijaaGreatDoorR16
set_option linter.unusedVariables false
set_option linter.unusedSimpArgs false
namespace Go.Proofs.YtifeekomegoijaaGreatDoor
open Go.RowKit

def PIr (w : World) (v : Value) (p : List Mon) (L : Nat) : Prop := ∃ raw, PRe w v raw ∧ cleanL raw = p ∧ SzL p L
theorem PIr.below {w w' : World} {v : Value} {p : List Mon} {L : Nat} (h : PIr w v p L) (hb : Below w.heap.size w w') : PIr w' v p L := by
 obtain ⟨raw, h1, h2, h3⟩ := h
 exact ⟨raw, h1.below hb, h2, h3⟩
theorem PIr.vp {w : World} {v : Value} {p : List Mon} {L : Nat} (h : PIr w v p L) : VP p := by
 obtain ⟨raw, _, rfl, _⟩ := h
 exact vp_cleanL raw
theorem PIr.szl {w : World} {v : Value} {p : List Mon} {L : Nat} (h : PIr w v p L) : SzL p L := h.choose_spec.2.2
theorem Pol.pre {w : World} {v : Value} {l : List Mon} {L : Nat} (h : Pol w v l) (hs : SzL l L) (hL : L ≤ 1000000) (hn : l.length ≤ 1000000) : PRe w v (l.map rawOf) := by
 refine ⟨?_, by rw [List.length_map]; exact hn⟩
 obtain ⟨A, n, c, xs, e, h1, h2, h3⟩ := h
 refine ⟨A, n, c, xs, e, h1, h2, fun i e q hi => ?_⟩
 obtain ⟨z0, z1, z2, hx, hr⟩ := h3 i e q hi
 refine ⟨z0, z1, z2, hx, hr.inr ?_ hL⟩
 rw [List.getElem?_map] at hi
 obtain ⟨m, hm, he⟩ := Option.map_eq_some_iff.1 hi
 have := hs m (List.mem_of_getElem? hm)
 rw [show m.2 = q from congrArg Prod.snd he] at this
 exact this
theorem Pol.pir {w : World} {v : Value} {p : List Mon} {L : Nat} (h : Pol w v p) (hv : VP p) (hs : SzL p L) (hL : L ≤ 1000000) : PIr w v p L :=
 ⟨p.map rawOf, h.pre hs hL (by have := vp_length hv; omega), cleanL_raw hv, hs⟩
theorem r2_Take_p (v : Value) (p : List Mon) (L : Nat) (w : World) (h : PIr w v p L) : Calls Tryz.prog 56 #[v] w (RetOwnP w p) := by
 obtain ⟨raw, h1, rfl, _⟩ := h
 exact r2_Take v raw w h1
theorem szL_listOf {c : Co} {L : Nat} (h : SzC c L) : SzL (listOf c) L := fun m hm => by
 obtain ⟨h1, _, h3⟩ := mem_listOf.1 hm
 rw [h3]; exact h m.1 h1
theorem szC_co {p : List Mon} {L : Nat} (hp : VP p) (h : SzL p L) (hL : 1 ≤ L) : SzC (co p) L := fun e _ => by
 by_cases hh : ∃ m ∈ p, m.1 = e
 ·obtain ⟨m, hm, rfl⟩ := hh
  rw [co_mem hp hm]; exact h m hm
 ·rw [co_absent (fun m hm e' => hh ⟨m, hm, e'⟩)]; exact sz_zero L hL

set_option maxRecDepth 20000 in
set_option maxHeartbeats 4000000 in
theorem r2_Constant (v : Value) (q : Rat) (w : World) (h : Inr w v q) (hs : Sz q 200000) : Calls Tryz.prog 27 #[v] w (RetPol w (listOf (constC q))) := by
 obtain ⟨z0, Z, zn, zc, Z', zm, ze, rfl⟩ := h.agg
 obtain ⟨hb1, c1⟩ := blk1 w [.bool z0, .slice Z zn zc, .slice Z' zm ze] 25
 have h1 := h.below hb1
 have HE : Hid (listOf (addAt (co []) (0, 0, 0) q) = listOf (constC q)) := Lib.hid (listOf_congr fun e _ => by unfold addAt constC co sumL; simp only [List.foldr_nil]; split <;> grind)
 rw [← HE.out]
 have y0 := c1.cell (k := 0) rfl
 have y1 := c1.cell (k := 1) rfl
 have y2 := c1.cell (k := 2) rfl
 go_enter Tryz.func27, Tryz.ntmps27
 go_wp2_with fail
 refine (r_Take _ q _ h1).mono ?_
 rintro e2 w2 ⟨v2, rfl, hq2, hb2⟩
 have hB2 := hb1.trans (hb2.mono hb1.size)
 obtain ⟨x0, X, xn, xc, X', xm, xe, rfl⟩ := hq2.agg
 clear y0 y1 y2 hb2
 go_wp2_with fail
 refine (r2_put (.slice none 0 0) [] (0, 0, 0) q x0 X X' xn xc xm xe w2 (Pol.nil _ _ _) ⟨fun m hm => absurd hm (List.not_mem_nil), List.Pairwise.nil⟩ (fun m hm => absurd hm (List.not_mem_nil)) hq2 hs).mono ?_
 rintro e3 w3 ⟨v3, rfl, hp3, hb3⟩
 go_wp2_with fail
 go_ret
 exact ⟨v3, rfl, hp3, hB2.trans (hb3.mono hB2.size)⟩

set_option maxRecDepth 20000 in
set_option maxHeartbeats 4000000 in
theorem r2_Add (v u : Value) (p q : List Mon) (L : Nat) (w : World) (h : PIr w v p L) (h' : PIr w u q L) (hL1 : 1 ≤ L) (hL : L ≤ 90000) : Calls Tryz.prog 18 #[v, u] w (RetPol w (listOf (addC (co p) (co q)))) := by
 have hvp := h.vp
 have hvq := h'.vp
 have hsp := h.szl
 have hsq := h'.szl
 have hlq := vp_length hvq
 have hz2 : SzC (addL (co p) q) 200000 := szC_addL (szC_co hvp hsp hL1) hvq hsq (by omega)
 have HT := Lib.hid h'
 have HVP := Lib.hid hvp
 have HVQ := Lib.hid hvq
 have HSQ := Lib.hid hsq
 have HSP := Lib.hid hsp
 clear hvp hvq hsp hsq
 go_enter Tryz.func18, Tryz.ntmps18
 go_wp2_with fail
 refine (r2_Take_p _ p L _ h).mono ?_
 rintro e2 w2 ⟨v2, rfl, hp2, hb2⟩
 clear h h'
 go_wp2_with fail
 refine (r2_Take_p _ q L _ (HT.out.below hb2)).mono ?_
 rintro e3 w3 ⟨v3, rfl, hp3, hb3⟩
 have hB3 := hb2.trans (hb3.mono hb2.size)
 have HP := Lib.hid (hp2.pol.below hb3)
 have HQ := Lib.hid hp3.pol
 obtain ⟨A3, c3, rfl⟩ := hp3.pol.slice
 have HB3 := Lib.hid hB3
 clear hp2 hp3 hb2 hb3 hB3 HT
 go_wp2_with fail
 go_loopw [5, 6] (fun out i wr => ∃ k, k ≤ q.length ∧ i = .int .i64 (k : Int) ∧ Pol wr out (listOf (addL (co p) (q.take k))) ∧ Below w3.heap.size w3 wr) (fun _ i _ => (q.length - intOf i).toNat)
 case atStart => exact ⟨0, Nat.zero_le _, rfl, by rw [List.take_zero]; show Pol _ _ (listOf (co p)); rw [listOf_co HVP.out]; exact HP.out, Below.refl _ _⟩
 case round =>
  obtain ⟨k, hk, rfl, hout, hbb⟩ := hrel
  rcases Nat.lt_or_ge k q.length with hkn | hkn
  ·obtain ⟨m, hm⟩ : ∃ m, q[k]? = some m := ⟨q[k], List.getElem?_eq_getElem hkn⟩
   obtain ⟨bq, oq, y0, y1, y2, rfl, hbq, hat, hcoef⟩ := HQ.out.at hm
   obtain ⟨nb, Ay, ny, cy, By, my, ey, heq⟩ := hcoef.agg
   simp only [Value.agg.injEq, Array.mk.injEq, List.cons.injEq, and_true] at heq
   obtain ⟨rfl, rfl, rfl⟩ := heq
   have hmq : m ∈ q := List.mem_of_getElem? hm
   obtain ⟨x0, x1, x2, x3, x4, x5⟩ := hat.below hbb hbq
   have hqw := hcoef.below hbb
   have hlt : (k : Int) < (q.length : Int) := by omega
   have HK := Lib.hid hkn
   have HM := Lib.hid hm
   have HBB := Lib.hid hbb
   have HZ : Hid (SzL (listOf (addL (co p) (q.take k))) 200000) := Lib.hid (szL_listOf (szC_addL (szC_co HVP.out HSP.out hL1) (L := L) (vp_take HVQ.out k) (fun m hm => HSQ.out m (List.mem_of_mem_take hm)) (by omega)))
   have HSM := Lib.hid ((HSQ.out m hmq).mono (show L ≤ 200000 by omega))
   have HO := Lib.hid hout
   have HQW := Lib.hid hqw
   clear hk hkn hm hat hcoef hout hqw hbb hmq
   go_wp2_with fail
   refine (r2_put u5 _ m.1 m.2 nb Ay By ny cy my ey wr HO.out (vp_listOf _) HZ.out HQW.out HSM.out).mono ?_
   rintro e6 w6 ⟨v6, rfl, hp6, hb6⟩
   clear x0 x1 x2 x3 x4 x5
   go_wp2_with fail
   go_roundw
   case rel =>
    refine ⟨k + 1, by have := HK.out; omega, congrArg (Value.int _) (by omega), ?_, HBB.out.trans (hb6.mono HBB.out.size)⟩
    rw [List.take_succ_eq_append_getElem HK.out, (List.getElem?_eq_some_iff.1 HM.out).2, addL_snoc]
    rw [put_listOf] at hp6
    exact hp6
   case measure => simp [intOf]; have := HK.out; omega
  ·obtain rfl : k = q.length := by omega
   rw [List.take_length] at hout
   have hlt : ¬ (q.length : Int) < (q.length : Int) := by omega
   have e1 : listOf (addC (co p) (co q)) = listOf (addL (co p) q) := listOf_congr (fun e _ => by
    rw [addL_eq]; rfl)
   have HO := Lib.hid hout
   have HBB := Lib.hid (HB3.out.trans (hbb.mono HB3.out.size))
   have HE := Lib.hid e1
   clear hout hbb e1
   go_wp2_with fail
   go_ret
   exact ⟨_, rfl, by rw [HE.out]; exact HO.out, HBB.out⟩
end Go.Proofs.YtifeekomegoijaaGreatDoor

namespace Go.Proofs.YtifeekomegoijaaGreatDoor
open Go.RowKit

def hits (q : List Mon) (f : Ex) (m : Mon) : Bool := q.any (fun n => decide (eadd n.1 m.1 = f))
theorem hits_le {p q : List Mon} (hp : (p.map (·.1)).Nodup) (f : Ex) : p.countP (hits q f) ≤ q.length := by
 rw [List.countP_eq_length_filter]
 have hsub : ∀ x ∈ ((p.filter (hits q f)).map (fun m : Mon => ((f.1 - m.1.1, f.2.1 - m.1.2.1, f.2.2 - m.1.2.2) : Ex))), x ∈ q.map (·.1) := by
  intro x hx
  obtain ⟨m, hm, rfl⟩ := List.mem_map.1 hx
  have hh := (List.mem_filter.1 hm).2
  obtain ⟨n, hn, he⟩ := List.any_eq_true.1 hh
  have he := of_decide_eq_true he
  refine List.mem_map.2 ⟨n, hn, ?_⟩
  rw [← he]
  unfold eadd
  simp
 have hnd : ((p.filter (hits q f)).map (fun m : Mon => ((f.1 - m.1.1, f.2.1 - m.1.2.1, f.2.2 - m.1.2.2) : Ex))).Nodup := by
  have h1 : ((p.filter (hits q f)).map (·.1)).Nodup := hp.sublist (List.filter_sublist.map _)
  rw [List.nodup_iff_pairwise_ne, List.pairwise_map] at h1 ⊢
  refine (List.Pairwise.and_mem.1 h1).imp (fun {a b} h e => ?_)
  obtain ⟨ha, hb, hne⟩ := h
  obtain ⟨n, _, h2⟩ := List.any_eq_true.1 (List.mem_filter.1 ha).2
  obtain ⟨n', _, h3⟩ := List.any_eq_true.1 (List.mem_filter.1 hb).2
  have h2 := of_decide_eq_true h2
  have h3 := of_decide_eq_true h3
  unfold eadd at h2 h3
  refine hne (Prod.ext ?_ (Prod.ext ?_ ?_))
  ·have := congrArg Prod.fst e; have a1 := congrArg Prod.fst h2; have a2 := congrArg Prod.fst h3; simp only at this a1 a2; omega
  ·have := congrArg (fun z : Ex => z.2.1) e; have a1 := congrArg (fun z : Ex => z.2.1) h2; have a2 := congrArg (fun z : Ex => z.2.1) h3; simp only at this a1 a2; omega
  ·have := congrArg (fun z : Ex => z.2.2) e; have a1 := congrArg (fun z : Ex => z.2.2) h2; have a2 := congrArg (fun z : Ex => z.2.2) h3; simp only at this a1 a2; omega
 have := hnd.length_le_of_subset hsub
 simpa using this
def SzF (c : Co) (B : Ex → Nat) : Prop := ∀ e, deg e ≤ 5 → Sz (c e) (B e)
theorem szF_addM {c : Co} {B : Ex → Nat} (h : SzF c B) {q : List Mon} (hq : (q.map (·.1)).Nodup) {m : Mon} {L Lq : Nat} (hx : Sz m.2 L) (hl : SzL q Lq) : SzF (addM c q m.1 m.2) (fun f => B f + if hits q f m then Lq + L + 1 else 0) := fun f hf => by
 rcases addM_at hq c m.1 m.2 f with ⟨n, hn, he, hv⟩ | ⟨hno, hv⟩
 ·have hh : hits q f m = true := List.any_eq_true.2 ⟨n, hn, decide_eq_true he⟩
  rw [hv]
  simp only [hh, if_true]
  exact (sz_add (h f hf) (sz_mul (hl n hn) hx (Nat.le_refl _)) (Nat.le_refl _)).mono (by omega)
 ·rw [hv]; exact (h f hf).mono (Nat.le_add_right _ _)
theorem szF_mulTo {q : List Mon} (hq : (q.map (·.1)).Nodup) {L Lq : Nat} (hl : SzL q Lq) : ∀ (p : List Mon) (c : Co) (B : Ex → Nat), SzF c B → SzL p L → SzF (p.foldl (fun c m => addM c q m.1 m.2) c) (fun f => B f + p.countP (hits q f) * (Lq + L + 1))
 | [], c, B, h, _ => fun f hf => by simpa using h f hf
 | m :: p, c, B, h, hp => fun f hf => by
  have h1 := szF_addM h hq (hp m (by simp)) hl
  have h2 := szF_mulTo hq hl p _ _ h1 (fun x hx => hp x (by simp [hx])) f hf
  refine h2.mono ?_
  dsimp only
  rw [List.countP_cons]
  by_cases hh : hits q f m = true
  ·rw [if_pos hh, if_pos hh, Nat.add_mul]; omega
  ·simp [hh]
theorem szC_mulMin {p q : List Mon} (hp : VP p) (hq : VP q) {L Lq M : Nat} (hl : SzL q Lq) (hlp : SzL p L) (hM : 1 + q.length * (Lq + L + 1) ≤ M) : SzC (mulTo q p) M := fun f hf => by
 have h := szF_mulTo (vp_nodup hq) hl p zeroC (fun _ => 1) (fun e _ => sz_zero 1 (Nat.le_refl _)) hlp f hf
 refine h.mono (Nat.le_trans (Nat.add_le_add_left (Nat.mul_le_mul_right _ (hits_le (vp_nodup hp) f)) 1) hM)
theorem addM_part {q : List Mon} (hq : (q.map (·.1)).Nodup) (c : Co) (e : Ex) (x : Rat) (k : Nat) (f : Ex) : addM c (q.take k) e x f = c f ∨ addM c (q.take k) e x f = addM c q e x f := by
 have hk : ((q.take k).map (·.1)).Nodup := hq.sublist ((List.take_sublist _ _).map _)
 rcases addM_at hk c e x f with ⟨n, hn, he, hv⟩ | ⟨_, hv⟩
 ·right
  rcases addM_at hq c e x f with ⟨n', hn', he', hv'⟩ | ⟨hno, _⟩
  ·have h1 : n.1 = n'.1 := by
    rw [← he'] at he
    unfold eadd at he
    simp only [Prod.mk.injEq] at he
    exact Prod.ext (by omega) (Prod.ext (by omega) (by omega))
   have h2 : n = n' := by
    obtain ⟨i, hi, rfl⟩ := List.getElem_of_mem (List.mem_of_mem_take hn)
    obtain ⟨i', hi', rfl⟩ := List.getElem_of_mem hn'
    have hnd := List.pairwise_iff_getElem.1 (List.nodup_iff_pairwise_ne.1 hq)
    by_cases hii : i = i'
    ·subst hii; rfl
    ·exfalso
     rcases Nat.lt_or_gt_of_ne hii with h | h
     ·exact hnd i i' (by simpa using hi) (by simpa using hi') h (by simpa using h1)
     ·exact hnd i' i (by simpa using hi') (by simpa using hi) h (by simpa using h1.symm)
   rw [hv, hv', h2]
  ·exact absurd he (hno n (List.mem_of_mem_take hn))
 ·left; exact hv
theorem szC_part {q : List Mon} (hq : VP q) {c : Co} {e : Ex} {x : Rat} {M : Nat} (h1 : SzC c M) (h2 : SzC (addM c q e x) M) (k : Nat) : SzC (addM c (q.take k) e x) M := fun f hf => by
 rcases addM_part (vp_nodup hq) c e x k f with h | h
 ·rw [h]; exact h1 f hf
 ·rw [h]; exact h2 f hf
def exs (e f : Ex) (j : Nat) : List Value := [if 0 < j then Value.int .i64 ((comp e 0 + comp f 0 : Nat) : Int) else .int .i64 0, if 1 < j then Value.int .i64 ((comp e 1 + comp f 1 : Nat) : Int) else .int .i64 0, if 2 < j then Value.int .i64 ((comp e 2 + comp f 2 : Nat) : Int) else .int .i64 0]
theorem pol_zero (w : World) (q : List Mon) : Pol w (.slice none 0 0) (listOf (mulTo q [])) := by
 have : listOf (mulTo q []) = [] := by
  show listOf zeroC = []
  unfold listOf zeroC
  simp
 rw [this]; exact Pol.nil _ _ _
structure MulB (w0 : World) (g : Nat) (e f : Ex) (j : Nat) (yb : Bool) (yA : Option Addr) (yn yc : Nat) (yB : Option Addr) (ym yd : Nat) (x : Rat) (W : World) : Prop where
 cs : Cs W g (exs e f j ++ [.bool yb, .slice yA yn yc, .slice yB ym yd]) MT
 q : RatQ W (.agg #[.bool yb, .slice yA yn yc, .slice yB ym yd]) x
 below : Below w0.heap.size w0 W
 ge : w0.heap.size ≤ g
theorem exs_no (e f : Ex) (j : Nat) (yb : Bool) (yA : Option Addr) (yn yc : Nat) (yB : Option Addr) (ym yd : Nat) : ∀ v ∈ exs e f j ++ [.bool yb, .slice yA yn yc, .slice yB ym yd], ∀ x : Nat, v ≠ .int .u32 (x : Int) := by
 intro v hv x hx
 subst hx
 unfold exs at hv
 simp only [List.cons_append, List.nil_append, List.mem_cons, List.not_mem_nil, or_false] at hv
 rcases hv with h | h | h | h | h | h
 ·split at h <;> cases h
 ·split at h <;> cases h
 ·split at h <;> cases h
 ·cases h
 ·cases h
 ·cases h
theorem At6.exp {w : World} {b o : Nat} {e : Ex} {z3 z4 z5 : Value} (h : At6 w b o (.int .i64 (e.1 : Int)) (.int .i64 (e.2.1 : Int)) (.int .i64 (e.2.2 : Int)) z3 z4 z5) {j : Nat} (hj : j < 3) : w.cell? ⟨b, o + j, none⟩ = some (.int .i64 (comp e j : Int)) := by
 match j, hj with
 | 0, _ => exact h.1
 | 1, _ => exact h.2.1
 | 2, _ => exact h.2.2.1
theorem exs_set (e f : Ex) {j : Nat} (hj : j < 3) (zs : List Value) : (exs e f j ++ zs).set j (.int .i64 ((comp e j + comp f j : Nat) : Int)) = exs e f (j + 1) ++ zs := by
 match j, hj with
 | 0, _ => rfl
 | 1, _ => rfl
 | 2, _ => rfl
theorem MulB.step {w0 : World} {g : Nat} {e f : Ex} {j : Nat} {yb : Bool} {yA : Option Addr} {yn yc : Nat} {yB : Option Addr} {ym yd : Nat} {x : Rat} {W : World} (h : MulB w0 g e f j yb yA yn yc yB ym yd x W) (hj : j < 3) : MulB w0 g e f (j + 1) yb yA yn yc yB ym yd x (W.setCell ⟨g, j, none⟩ (.int .i64 ((comp e j + comp f j : Nat) : Int))) := by
 refine ⟨?_, h.q.set1c h.cs (exs_no _ _ _ _ _ _ _ _ _ _) _, h.below.setCell (p := ⟨g, j, none⟩) h.ge _, h.ge⟩
 have := h.cs.set j (.int .i64 ((comp e j + comp f j : Nat) : Int))
 rw [exs_set e f hj] at this
 exact this
theorem MulB.keep {w0 : World} {g : Nat} {e f : Ex} {j : Nat} {yb : Bool} {yA : Option Addr} {yn yc : Nat} {yB : Option Addr} {ym yd : Nat} {x : Rat} {W W' : World} (h : MulB w0 g e f j yb yA yn yc yB ym yd x W) (hb : Below W.heap.size W W') : MulB w0 g e f j yb yA yn yc yB ym yd x W' := ⟨h.cs.below hb h.cs.lt, h.q.below hb, h.below.trans (hb.mono h.below.size), h.ge⟩
theorem MulB.cell {w0 : World} {g : Nat} {e f : Ex} {j : Nat} {yb : Bool} {yA : Option Addr} {yn yc : Nat} {yB : Option Addr} {ym yd : Nat} {x : Rat} {W : World} (h : MulB w0 g e f j yb yA yn yc yB ym yd x W) (hj : j < 3) : ∃ v, W.cell? ⟨g, j, none⟩ = some v := by
 match j, hj with
 | 0, _ => exact ⟨_, h.cs.cell (k := 0) rfl⟩
 | 1, _ => exact ⟨_, h.cs.cell (k := 1) rfl⟩
 | 2, _ => exact ⟨_, h.cs.cell (k := 2) rfl⟩
theorem MulB.made {w0 W : World} {g : Nat} (e f : Ex) {yb : Bool} {yA : Option Addr} {yn yc : Nat} {yB : Option Addr} {ym yd : Nat} {x : Rat} (hc : Cs W g [.int .i64 0, .int .i64 0, .int .i64 0, .bool false, .slice none 0 0, .slice none 0 0] MT) (hq : RatQ W (.agg #[.bool yb, .slice yA yn yc, .slice yB ym yd]) x) (hb : Below w0.heap.size w0 W) (hg : w0.heap.size ≤ g) :
  MulB w0 g e f 0 yb yA yn yc yB ym yd x (setL W g 0 [.int .i64 0, .int .i64 0, .int .i64 0, .bool yb, .slice yA yn yc, .slice yB ym yd]) :=
 ⟨hc.setL _ rfl, hq.setL hc (by simp) _, below_setL hg _ _ hb, hg⟩
theorem MulB.full {w0 W : World} {g : Nat} {e f : Ex} {yb : Bool} {yA : Option Addr} {yn yc : Nat} {yB : Option Addr} {ym yd : Nat} {x : Rat} (h : MulB w0 g e f 3 yb yA yn yc yB ym yd x W) : Cs W g [.int .i64 ((eadd e f).1 : Int), .int .i64 ((eadd e f).2.1 : Int), .int .i64 ((eadd e f).2.2 : Int), .bool yb, .slice yA yn yc, .slice yB ym yd] MT := h.cs

set_option maxRecDepth 40000 in
set_option maxHeartbeats 8000000 in
theorem r2_Mul (v u : Value) (p q : List Mon) (L Lq M : Nat) (w : World) (h : PIr w v p L) (h' : PIr w u q Lq) (hL : L ≤ 90000) (hLq : Lq ≤ 90000) (hM : M ≤ 200000) (hz : ∀ i, SzC (mulTo q (p.take i)) M) : Calls Tryz.prog 20 #[v, u] w (RetPol w (listOf (mulC (co p) (co q)))) := by
 have HVP := Lib.hid h.vp
 have HVQ := Lib.hid h'.vp
 have hlp := vp_length h.vp
 have hlq := vp_length h'.vp
 have HSP := Lib.hid h.szl
 have HSQ := Lib.hid h'.szl
 have HT := Lib.hid h'
 have HZ := Lib.hid hz
 clear hz
 go_enter Tryz.func20, Tryz.ntmps20
 go_wp2_with fail
 refine (r2_Take_p _ p L _ h).mono ?_
 rintro e2 w2 ⟨v2, rfl, hp2, hb2⟩
 clear h h'
 go_wp2_with fail
 refine (r2_Take_p _ q Lq _ (HT.out.below hb2)).mono ?_
 rintro e3 w3 ⟨v3, rfl, hp3, hb3⟩
 have HP := Lib.hid (hp2.pol.below hb3)
 have HQ := Lib.hid hp3.pol
 obtain ⟨A2, cp, rfl⟩ := hp2.pol.slice
 obtain ⟨A3, cq, rfl⟩ := hp3.pol.slice
 have HB3 := Lib.hid (hb2.trans (hb3.mono hb2.size))
 clear hp2 hp3 hb2 hb3 HT
 go_wp2_with fail
 go_loopw [5, 6] (fun out i wo => ∃ i0, i0 ≤ p.length ∧ i = .int .i64 (i0 : Int) ∧ Pol wo out (listOf (mulTo q (p.take i0))) ∧ Below w3.heap.size w3 wo) (fun _ i _ => (p.length - intOf i).toNat)
 case atStart => exact ⟨0, Nat.zero_le _, rfl, by rw [List.take_zero]; exact pol_zero _ _, Below.refl _ _⟩
 case round =>
  obtain ⟨i0, hi0, rfl, hout, hbb⟩ := hrel
  obtain ⟨wo, rfl⟩ : ∃ wo, wo = wr := ⟨_, rfl⟩
  rcases Nat.lt_or_ge i0 p.length with hin | hin
  ·obtain ⟨m, hm⟩ : ∃ m, p[i0]? = some m := ⟨p[i0], List.getElem?_eq_getElem hin⟩
   obtain ⟨bp, op, zp0, zp1, zp2, rfl, hbp, hatp, hcp⟩ := HP.out.at hm
   have hlti : (i0 : Int) < (p.length : Int) := by omega
   have HI := Lib.hid hin
   have HMM := Lib.hid hm
   have HBO := Lib.hid hbb
   have HOO := Lib.hid hout
   have HATP := Lib.hid hatp
   have HBP := Lib.hid hbp
   have HCP0 := Lib.hid hcp
   have HZP := Lib.hid ((HSP.out m (List.mem_of_getElem? hm)).mono hL)
   have HZ1 : Hid (SzC (mulTo q (p.take i0)) M) := Lib.hid (HZ.out i0)
   have HZ2 : Hid (SzC (addM (mulTo q (p.take i0)) q m.1 m.2) M) := Lib.hid (by
    have := HZ.out (i0 + 1)
    rwa [List.take_succ_eq_append_getElem hin, (List.getElem?_eq_some_iff.1 hm).2, mulTo_snoc] at this)
   obtain ⟨cc, hcc⟩ : ∃ cc, mulTo q (p.take i0) = cc := ⟨_, rfl⟩
   rw [hcc] at HZ1 HZ2 HOO
   have HCC := Lib.hid hcc
   clear hi0 hin hm hatp hcp hbp hbb hout hcc
   go_wp2_with fail
   go_loopw [5, 7] (fun out i wr => ∃ k, k ≤ q.length ∧ i = .int .i64 (k : Int) ∧ Pol wr out (listOf (addM cc (q.take k) m.1 m.2)) ∧ Below wo.heap.size wo wr) (fun _ i _ => (q.length - intOf i).toNat)
   case atStart => exact ⟨0, Nat.zero_le _, rfl, by rw [List.take_zero]; exact HOO.out, Below.refl _ _⟩
   case round =>
    obtain ⟨k, hk, rfl, hout, hbb⟩ := hrel
    obtain ⟨wk, rfl⟩ : ∃ wk, wk = wr := ⟨_, rfl⟩
    rcases Nat.lt_or_ge k q.length with hkn | hkn
    ·obtain ⟨n, hn⟩ : ∃ n, q[k]? = some n := ⟨q[k], List.getElem?_eq_getElem hkn⟩
     obtain ⟨bq, oq, zq0, zq1, zq2, rfl, hbq, hatq, hcq⟩ := HQ.out.at hn
     have hltk : (k : Int) < (q.length : Int) := by omega
     have HK := Lib.hid hkn
     have HN := Lib.hid hn
     have HBK := Lib.hid hbb
     have HBW := Lib.hid (HBO.out.trans (hbb.drew.mono HBO.out.size))
     have HO := Lib.hid (hout.below (Below.refl _ _).drew)
     have HAP : Hid (At6 wk.drew bp (op + i0 * 6) _ _ _ _ _ _) := Lib.hid (HATP.out.below HBW.out HBP.out)
     have HLP : Hid (bp < wk.drew.heap.size) := Lib.hid (Nat.lt_of_lt_of_le HBP.out HBW.out.size)
     have HAQ : Hid (At6 wk.drew bq (oq + k * 6) _ _ _ _ _ _) := Lib.hid (hatq.below HBW.out hbq)
     have HLQ : Hid (bq < wk.drew.heap.size) := Lib.hid (Nat.lt_of_lt_of_le hbq HBW.out.size)
     have HCP := Lib.hid (HCP0.out.below HBW.out)
     have HCQ := Lib.hid (hcq.below HBW.out)
     have HDM : Hid (∀ j, comp m.1 j ≤ 5) := Lib.hid (fun j => comp_le (HVP.out.1 m (List.mem_of_getElem? HMM.out)).1 j)
     have HDN : Hid (∀ j, comp n.1 j ≤ 5) := Lib.hid (fun j => comp_le (HVQ.out.1 n (List.mem_of_getElem? hn)).1 j)
     have HZQ := Lib.hid ((HSQ.out n (List.mem_of_getElem? hn)).mono hLq)
     have HZO : Hid (SzL (listOf (addM cc (q.take k) m.1 m.2)) 200000) := Lib.hid (szL_listOf ((szC_part HVQ.out HZ1.out HZ2.out k).mono hM))
     clear hk hkn hn hatq hcq hbq hbb hout
     go_upto_region 9 with (fail)
     refine wp_region6 13 [26, 27, 28, 29, 30, 31, 32, 33, 34, 35, 36, 37, 8] [.val (.slice (some ⟨bp, op, none⟩) p.length cp), .val (.int .i64 (i0 : Int)), .val (.pointer (some ⟨bp, op + i0 * 6, none⟩)), .val (.pointer (some ⟨bp, op + i0 * 6 + 3, none⟩)), .val (.agg #[zp0, zp1, zp2]), .val (.slice (some ⟨bq, oq, none⟩) q.length cq), .val (.int .i64 (k : Int)), .val (.pointer (some ⟨bq, oq + k * 6, none⟩)), .val (.pointer (some ⟨bq, oq + k * 6 + 3, none⟩)), .val (.agg #[zq0, zq1, zq2]), .st (fun w a => RatQ w a (m.2 * n.2)), .st (fun w a => MonV ((0, 0, 0), m.2 * n.2) w a), .blk (wk.drew.heap.size) [.int .i64 0, .int .i64 0, .int .i64 0, .bool false, .slice none 0 0, .slice none 0 0] MT] (by kernel_rfl) (by kernel_rfl) (by kernel_rfl) (by kernel_rfl) ?stepm 1 (by kernel_rfl) _ rfl ?finm
     case stepm =>
      intro i hi oi ho f wx hB hdep K hK
      simp only [frontAct, List.foldl_cons, List.foldl_nil, List.setIfInBounds_toArray, List.set_cons_succ, List.set_cons_zero] at hK ⊢
      obtain ⟨x0, x1, x2, x3, x4, x5⟩ := HAP.out.below hB HLP.out
      obtain ⟨u0, u1, u2, u3, u4, u5⟩ := HAQ.out.below hB HLQ.out
      obtain rfl | rfl | rfl | rfl | rfl | rfl | rfl | rfl | rfl | rfl | rfl | rfl | rfl : i = 0 ∨ i = 1 ∨ i = 2 ∨ i = 3 ∨ i = 4 ∨ i = 5 ∨ i = 6 ∨ i = 7 ∨ i = 8 ∨ i = 9 ∨ i = 10 ∨ i = 11 ∨ i = 12 := by omega
      all_goals
       obtain rfl := Option.some.inj ho
       simp only [Act.put, List.setIfInBounds_toArray, List.set_cons_succ, List.set_cons_zero] at hK
      rotate_left
      rotate_left
      have e26 := dv6 (hdep ⟨0, .data⟩ (by simp) rfl) rfl
      have e27 := dv6 (hdep ⟨1, .data⟩ (by simp) rfl) rfl
      simp only [List.getD_cons_succ, List.getD_cons_zero] at e26 e27
      generalize f 26 = f26 at *; subst e26
      generalize f 27 = f27 at *; subst e27
      rotate_left
      have e28 := dv6 (hdep ⟨2, .data⟩ (by simp) rfl) rfl
      simp only [List.getD_cons_succ, List.getD_cons_zero] at e28
      generalize f 28 = f28 at *; subst e28
      rotate_left
      have e29 := dv6 (hdep ⟨3, .data⟩ (by simp) rfl) rfl
      simp only [List.getD_cons_succ, List.getD_cons_zero] at e29
      generalize f 29 = f29 at *; subst e29
      rotate_left
      rotate_left
      rotate_left
      have e31 := dv6 (hdep ⟨5, .data⟩ (by simp) rfl) rfl
      have e32 := dv6 (hdep ⟨6, .data⟩ (by simp) rfl) rfl
      simp only [List.getD_cons_succ, List.getD_cons_zero] at e31 e32
      generalize f 31 = f31 at *; subst e31
      generalize f 32 = f32 at *; subst e32
      rotate_left
      have e33 := dv6 (hdep ⟨7, .data⟩ (by simp) rfl) rfl
      simp only [List.getD_cons_succ, List.getD_cons_zero] at e33
      generalize f 33 = f33 at *; subst e33
      rotate_left
      have e34 := dv6 (hdep ⟨8, .data⟩ (by simp) rfl) rfl
      simp only [List.getD_cons_succ, List.getD_cons_zero] at e34
      generalize f 34 = f34 at *; subst e34
      rotate_left
      ·have e30 := dv6 (hdep ⟨4, .data⟩ (by simp) rfl) rfl
       have e35 := dv6 (hdep ⟨9, .data⟩ (by simp) rfl) rfl
       simp only [List.getD_cons_succ, List.getD_cons_zero] at e30 e35
       generalize f 30 = f30 at *; subst e30
       generalize f 35 = f35 at *; subst e35
       go_simp
       refine (r_Mul _ _ m.2 n.2 wx ((HCP.out.below hB).inr HZP.out (by omega)) ((HCQ.out.below hB).inr HZQ.out (by omega)) (HZP.out.mono (by omega)) (HZQ.out.mono (by omega))).mono ?_
       rintro e0 w' ⟨val, rfl, hr, hb⟩
       exact hK val w' (gs6 rfl (fun w2 h2 => hr.below h2)) hb (hB.trans (hb.mono hB.size)) (nb6 rfl rfl)
      ·have e36 := ds6 (hdep ⟨10, .data⟩ (by simp) rfl) rfl
       replace e36 := (show RatQ wx (f 36) (m.2 * n.2) from e36)
       generalize f 36 = f36 at *
       obtain ⟨yb, yA, yn, yc, yB, ym, yd, rfl⟩ := e36.agg
       go_simp
       exact hK _ wx (gs6 rfl (fun w2 h2 => ⟨_, _, _, _, _, _, _, rfl, RatQ.below e36 h2⟩)) (Below.refl _ _) hB (nb6 rfl rfl)
      ·have hbl := blk1 wx [.int .i64 0, .int .i64 0, .int .i64 0, .bool false, .slice none 0 0, .slice none 0 0] MT
       go_simp
       exact hK _ _ (gb6 rfl hB.size hbl.2) hbl.1 (hB.trans (hbl.1.mono hB.size)) (fun _ => ⟨_, rfl, Nat.le_refl _⟩)
      all_goals go_simp
      all_goals exact hK _ wx (gv6 rfl) (Below.refl _ _) hB (nb6 rfl rfl)
     case finm =>
      intro f wx hB hG hne
      have e37 : MonV ((0, 0, 0), m.2 * n.2) wx (f 37) := ds6 (hG 11 (by decide)) rfl
      obtain ⟨g, e8, hgl, cs⟩ := db6 (a := f 8) (hG 12 (by decide)) rfl
      clear hG hne
      simp only [frontAct, List.foldl_cons, List.foldl_nil, List.setIfInBounds_toArray, List.set_cons_succ, List.set_cons_zero]
      generalize f 37 = f37 at *
      generalize f 8 = f8 at *; subst e8
      obtain ⟨yb, yA, yn, yc, yB, ym, yd, rfl, hyq⟩ := e37
      have HRC := Lib.hid hyq
      have HCS := Lib.hid cs
      have HBR9 := Lib.hid hB
      have HGL := Lib.hid hgl
      obtain ⟨a0, a1, a2, a3, a4, a5⟩ := cs.c6
      have f0 := cs.frozen 0
      have f1 := cs.frozen 1
      have f2 := cs.frozen 2
      have f3 := cs.frozen 3
      have f4 := cs.frozen 4
      have f5 := cs.frozen 5
      clear hyq cs hgl hB
      refine wpAny_ready (rs := [13]) (by kernel_rfl) (by simp) ?_
      refine AllReady.cons rfl (fun K hK => ?_) AllReady.nil
      have HQ := Lib.hid hK
      clear hK
      go_simp
      refine HQ.out _ _ ?_
      clear HQ K
      refine wpAny_done (by kernel_rfl) ?_ _
      clear a0 a1 a2 a3 a4 a5 f0 f1 f2 f3 f4 f5
      have HMI := Lib.hid (MulB.made m.1 n.1 HCS.out HRC.out HBR9.out HGL.out)
      go_wp2_with fail
      go_loopw [9] (fun jv wj => ∃ j : Nat, j ≤ 3 ∧ jv = .int .i64 (j : Int) ∧ MulB wk.drew g m.1 n.1 j yb yA yn yc yB ym yd (m.2 * n.2) wj) (fun jv _ => (3 - intOf jv).toNat)
      case atStart => exact ⟨0, by omega, rfl, HMI.out⟩
      case round =>
       obtain ⟨j, hj, rfl, hmb⟩ := hrel
       obtain ⟨wj, rfl⟩ : ∃ wj, wj = wr := ⟨_, rfl⟩
       rcases Nat.lt_or_ge j 3 with hj3 | hj3
       ·have HJ3 := Lib.hid hj3
        have HJ4 : Hid ((j : Int) < 3) := Lib.hid (by omega)
        have HMB := Lib.hid (hmb.keep (Below.refl _ _).drew)
        have HAP2 : Hid (At6 wj.drew bp (op + i0 * 6) _ _ _ _ _ _) := Lib.hid (HAP.out.below HMB.out.below HLP.out)
        have HLP2 : Hid (bp < wj.drew.heap.size) := Lib.hid (Nat.lt_of_lt_of_le HLP.out HMB.out.below.size)
        have HAQ2 : Hid (At6 wj.drew bq (oq + k * 6) _ _ _ _ _ _) := Lib.hid (HAQ.out.below HMB.out.below HLQ.out)
        have HLQ2 : Hid (bq < wj.drew.heap.size) := Lib.hid (Nat.lt_of_lt_of_le HLQ.out HMB.out.below.size)
        have HWR : Hid (IntKind.i64.wrap ((comp m.1 j : Int) + (comp n.1 j : Int)) = (comp m.1 j : Int) + (comp n.1 j : Int)) := Lib.hid (IntWalk.i64_in _ (by have := HDM.out j; have := HDN.out j; omega))
        have hjl : (j : Int) < 3 := by omega
        clear hj hj3 hmb
        go_upto_region 13 with (fail)
        refine wp_region6 18 [42, 43, 44, 45, 46, 47, 48, 49, 50, 51, 52, 53, 54, 55, 56, 57, 58, 59] [.val (.int .i64 (j : Int)), .val (.slice (some ⟨bp, op, none⟩) p.length cp), .val (.int .i64 (i0 : Int)), .val (.int .i64 (j : Int)), .val (.pointer (some ⟨bp, op + i0 * 6, none⟩)), .val (.pointer (some ⟨bp, op + i0 * 6, none⟩)), .val (.pointer (some ⟨bp, op + i0 * 6 + j, none⟩)), .val (.int .i64 (comp m.1 j : Int)), .val (.slice (some ⟨bq, oq, none⟩) q.length cq), .val (.int .i64 (k : Int)), .val (.int .i64 (j : Int)), .val (.pointer (some ⟨bq, oq + k * 6, none⟩)), .val (.pointer (some ⟨bq, oq + k * 6, none⟩)), .val (.pointer (some ⟨bq, oq + k * 6 + j, none⟩)), .val (.int .i64 (comp n.1 j : Int)), .val (.int .i64 ((comp m.1 j : Int) + (comp n.1 j : Int))), .val (.pointer (some ⟨g, 0, none⟩)), .val (.pointer (some ⟨g, j, none⟩))] (by kernel_rfl) (by kernel_rfl) (by kernel_rfl) (by kernel_rfl) ?stepj 1 (by kernel_rfl) _ rfl ?finj
        case stepj =>
         intro i hi oi ho f wx hB hdep K hK
         simp only [frontAct, List.foldl_cons, List.foldl_nil, List.setIfInBounds_toArray, List.set_cons_succ, List.set_cons_zero] at hK ⊢
         have xj := (HAP2.out.below hB HLP2.out).exp HJ3.out
         have uj := (HAQ2.out.below hB HLQ2.out).exp HJ3.out
         have hj3 := HJ4.out
         obtain rfl | rfl | rfl | rfl | rfl | rfl | rfl | rfl | rfl | rfl | rfl | rfl | rfl | rfl | rfl | rfl | rfl | rfl : i = 0 ∨ i = 1 ∨ i = 2 ∨ i = 3 ∨ i = 4 ∨ i = 5 ∨ i = 6 ∨ i = 7 ∨ i = 8 ∨ i = 9 ∨ i = 10 ∨ i = 11 ∨ i = 12 ∨ i = 13 ∨ i = 14 ∨ i = 15 ∨ i = 16 ∨ i = 17 := by omega
         all_goals
          obtain rfl := Option.some.inj ho
          simp only [Act.put, List.setIfInBounds_toArray, List.set_cons_succ, List.set_cons_zero] at hK
         rotate_left
         rotate_left
         rotate_left
         rotate_left
         have e43 := dv6 (hdep ⟨1, .data⟩ (by simp) rfl) rfl
         have e44 := dv6 (hdep ⟨2, .data⟩ (by simp) rfl) rfl
         simp only [List.getD_cons_succ, List.getD_cons_zero] at e43 e44
         generalize f 43 = f43 at *; subst e43
         generalize f 44 = f44 at *; subst e44
         rotate_left
         have e46 := dv6 (hdep ⟨4, .data⟩ (by simp) rfl) rfl
         simp only [List.getD_cons_succ, List.getD_cons_zero] at e46
         generalize f 46 = f46 at *; subst e46
         rotate_left
         have e47 := dv6 (hdep ⟨5, .data⟩ (by simp) rfl) rfl
         have e45 := dv6 (hdep ⟨3, .data⟩ (by simp) rfl) rfl
         simp only [List.getD_cons_succ, List.getD_cons_zero] at e47 e45
         generalize f 47 = f47 at *; subst e47
         generalize f 45 = f45 at *; subst e45
         rotate_left
         have e48 := dv6 (hdep ⟨6, .data⟩ (by simp) rfl) rfl
         simp only [List.getD_cons_succ, List.getD_cons_zero] at e48
         generalize f 48 = f48 at *; subst e48
         rotate_left
         rotate_left
         rotate_left
         rotate_left
         have e50 := dv6 (hdep ⟨8, .data⟩ (by simp) rfl) rfl
         have e51 := dv6 (hdep ⟨9, .data⟩ (by simp) rfl) rfl
         simp only [List.getD_cons_succ, List.getD_cons_zero] at e50 e51
         generalize f 50 = f50 at *; subst e50
         generalize f 51 = f51 at *; subst e51
         rotate_left
         have e53 := dv6 (hdep ⟨11, .data⟩ (by simp) rfl) rfl
         simp only [List.getD_cons_succ, List.getD_cons_zero] at e53
         generalize f 53 = f53 at *; subst e53
         rotate_left
         have e54 := dv6 (hdep ⟨12, .data⟩ (by simp) rfl) rfl
         have e52 := dv6 (hdep ⟨10, .data⟩ (by simp) rfl) rfl
         simp only [List.getD_cons_succ, List.getD_cons_zero] at e54 e52
         generalize f 54 = f54 at *; subst e54
         generalize f 52 = f52 at *; subst e52
         rotate_left
         have e55 := dv6 (hdep ⟨13, .data⟩ (by simp) rfl) rfl
         simp only [List.getD_cons_succ, List.getD_cons_zero] at e55
         generalize f 55 = f55 at *; subst e55
         rotate_left
         have e49 := dv6 (hdep ⟨7, .data⟩ (by simp) rfl) rfl
         have e56 := dv6 (hdep ⟨14, .data⟩ (by simp) rfl) rfl
         simp only [List.getD_cons_succ, List.getD_cons_zero] at e49 e56
         generalize f 49 = f49 at *; subst e49
         generalize f 56 = f56 at *; subst e56
         have hw1 := HWR.out
         rotate_left
         rotate_left
         have e58 := dv6 (hdep ⟨16, .data⟩ (by simp) rfl) rfl
         have e42 := dv6 (hdep ⟨0, .data⟩ (by simp) rfl) rfl
         simp only [List.getD_cons_succ, List.getD_cons_zero] at e58 e42
         generalize f 58 = f58 at *; subst e58
         generalize f 42 = f42 at *; subst e42
         rotate_left
         all_goals go_simp
         all_goals exact hK _ wx (gv6 rfl) (Below.refl _ _) hB (nb6 rfl rfl)
        case finj =>
         intro f wx hB hG hne
         have e57 := dv6 (a := f 57) (hG 15 (by decide)) rfl
         have e59 := dv6 (a := f 59) (hG 17 (by decide)) rfl
         clear hG hne
         simp only [frontAct, List.foldl_cons, List.foldl_nil, List.setIfInBounds_toArray, List.set_cons_succ, List.set_cons_zero]
         generalize f 57 = f57 at *; subst e57
         generalize f 59 = f59 at *; subst e59
         have hmb := HMB.out.keep hB
         have HEND := Lib.hid (hmb.step HJ3.out)
         obtain ⟨vj, hvj⟩ := hmb.cell HJ3.out
         have hfz := hmb.cs.frozen j
         clear hmb hB
         refine wpAny_ready (rs := [18]) (by kernel_rfl) (by simp) ?_
         refine AllReady.cons rfl (fun K hK => ?_) AllReady.nil
         have HQ := Lib.hid hK
         clear hK
         go_simp
         refine HQ.out _ _ ?_
         clear HQ K
         refine wpAny_done (by kernel_rfl) ?_ _
         go_wp2_with fail
         go_roundw
         case rel => exact ⟨j + 1, HJ3.out, congrArg (Value.int _) (by omega), HEND.out⟩
         case measure => simp [intOf]; have := HJ3.out; omega
       ·obtain rfl : j = 3 := by omega
        have hjl : ¬ ((3 : Nat) : Int) < 3 := by omega
        have HB2 := Lib.hid hmb.below
        have hfull := hmb.full
        obtain ⟨a0, a1, a2, a3, a4, a5⟩ := hfull.c6
        have HQM := Lib.hid hmb.q
        have HO3 := Lib.hid (HO.out.below hmb.below)
        clear hmb hfull hj hj3
        go_wp2_with fail
        refine (r2_put u5 _ (eadd m.1 n.1) (m.2 * n.2) yb yA yB yn yc ym yd _ HO3.out (vp_listOf _) HZO.out HQM.out ((sz_mul HZP.out HZQ.out (Nat.le_refl _)).mono (by omega))).mono ?_
        rintro e6 w6 ⟨v6, rfl, hp6, hb6⟩
        clear a0 a1 a2 a3 a4 a5
        have HEND := Lib.hid (And.intro hp6 ((HBK.out.drew.trans (HB2.out.mono HBK.out.size)).trans (hb6.mono (Nat.le_trans HBK.out.size HB2.out.size))))
        clear hp6 hb6
        go_wp2_with fail
        go_roundw
        case rel =>
         refine ⟨k + 1, HK.out, congrArg (Value.int _) (by omega), ?_, HEND.out.2⟩
         rw [List.take_succ_eq_append_getElem HK.out, (List.getElem?_eq_some_iff.1 HN.out).2, addM_snoc, eadd_comm, Rat.mul_comm n.2]
         have h9 := HEND.out.1
         rw [put_listOf] at h9
         exact h9
        case measure => simp [intOf]; have := HK.out; omega
    ·obtain rfl : k = q.length := by omega
     rw [List.take_length] at hout
     have hltk : ¬ (q.length : Int) < (q.length : Int) := by omega
     have HEND := Lib.hid (And.intro hout (HBO.out.trans (hbb.mono HBO.out.size)))
     clear hout hbb
     go_wp2_with fail
     go_roundw
     case rel =>
      refine ⟨i0 + 1, HI.out, congrArg (Value.int _) (by omega), ?_, HEND.out.2⟩
      rw [List.take_succ_eq_append_getElem HI.out, (List.getElem?_eq_some_iff.1 HMM.out).2, mulTo_snoc, HCC.out]
      exact HEND.out.1
     case measure => simp [intOf]; have := HI.out; omega
  ·obtain rfl : i0 = p.length := by omega
   rw [List.take_length] at hout
   have hlti : ¬ (p.length : Int) < (p.length : Int) := by omega
   have HE : Hid (listOf (mulC (co p) (co q)) = listOf (mulTo q p)) := Lib.hid (listOf_congr (fun f hf => by rw [mulTo_all, mulL_mulC HVP.out HVQ.out hf]))
   have HEND := Lib.hid (And.intro hout (HB3.out.trans (hbb.mono HB3.out.size)))
   clear hout hbb
   go_wp2_with fail
   go_ret
   exact ⟨_, rfl, by rw [HE.out]; exact HEND.out.1, HEND.out.2⟩
end Go.Proofs.YtifeekomegoijaaGreatDoor

namespace Go.Proofs.YtifeekomegoijaaGreatDoor
open Go.RowKit

theorem scale_eq {p : List Mon} (hp : VP p) (x : Rat) : listOf (mulC (co p) (constC x)) = listOf (addM zeroC p (0, 0, 0) x) := listOf_congr (fun e _ => by
 rw [mulC_const _ (low_co hp), addM_eq]
 unfold zeroC co
 rw [← sumL_mul']
 rw [Rat.zero_add]
 exact sumL_congr (fun m _ => by
  rw [eadd_zero]
  split <;> simp))
theorem const_length (x : Rat) : (listOf (constC x)).length ≤ 56 := vp_length (vp_listOf _)
theorem szL_const {x : Rat} {L : Nat} (h : Sz x L) (hL : 1 ≤ L) : SzL (listOf (constC x)) L := szL_listOf (szC_const h hL)
theorem co_const (x : Rat) : co (listOf (constC x)) = constC x := co_of_listOf (low_const x)

set_option maxRecDepth 20000 in
set_option maxHeartbeats 2000000 in
theorem r2_Scale (v : Value) (z : Value) (p : List Mon) (x : Rat) (L Lx : Nat) (w : World) (h : PIr w v p L) (hx : Inr w z x) (sx : Sz x Lx) (hL1 : 1 ≤ Lx) (hL : 57 * (Lx + L + 1) ≤ 200000) : Calls Tryz.prog 22 #[v, z] w (RetPol w (listOf (mulC (co p) (constC x)))) := by
 obtain ⟨z0, Z, zn, zc, Z', zm, ze, rfl⟩ := hx.agg
 obtain ⟨hb1, c1⟩ := blk1 w [.bool z0, .slice Z zn zc, .slice Z' zm ze] 25
 have hx1 := hx.below hb1
 have h1 := h.below hb1
 have HH := Lib.hid h1
 have y0 := c1.cell (k := 0) rfl
 have y1 := c1.cell (k := 1) rfl
 have y2 := c1.cell (k := 2) rfl
 clear h h1 hx
 go_enter Tryz.func22, Tryz.ntmps22
 go_wp2_with fail
 refine (r2_Constant _ x _ hx1 (sx.mono (by omega))).mono ?_
 rintro e2 w2 ⟨v2, rfl, hp2, hb2⟩
 clear y0 y1 y2 hx1
 have hB2 := hb1.trans (hb2.mono hb1.size)
 have hvp := HH.out.vp
 have hsp := HH.out.szl
 go_wp2_with fail
 refine (r2_Mul v v2 p (listOf (constC x)) L Lx 200000 w2 (HH.out.below hb2) (hp2.pir (vp_listOf _) (szL_const sx hL1) (by omega)) (by omega) (by omega) (Nat.le_refl _) (fun i => szC_mulMin (vp_take hvp i) (vp_listOf _) (szL_const sx hL1) (fun m hm => hsp m (List.mem_of_mem_take hm)) (by
  have := Nat.mul_le_mul_right (Lx + L + 1) (const_length x)
  omega))).mono ?_
 rintro e3 w3 ⟨v3, rfl, hp3, hb3⟩
 rw [co_const] at hp3
 go_wp2_with fail
 go_ret
 exact ⟨v3, rfl, hp3, hB2.trans (hb3.mono hB2.size)⟩

set_option maxRecDepth 20000 in
set_option maxHeartbeats 2000000 in
theorem Parameter_out (i : Int) (w : World) (h : i < 0 ∨ ¬ i < 0 ∧ 3 ≤ i) : Calls Tryz.prog 28 #[.int .i64 i] w (RetPol w []) := by
 rcases h with h | ⟨h1, h2⟩
 all_goals
  go_enter Tryz.func28, Tryz.ntmps28
  go_wp2_with fail
  go_ret
  exact ⟨_, rfl, Pol.nil _ _ _, Below.refl _ _⟩
set_option maxRecDepth 20000 in
set_option maxHeartbeats 2000000 in
theorem Parameter_in (i : Nat) (w : World) (h : i < 3) : Calls Tryz.prog 28 #[.int .i64 (i : Int)] w (RetPol w [(uE i, 1)]) := by
 match i, h with
 | 0, _ =>
  go_enter Tryz.func28, Tryz.ntmps28
  go_wp2_with fail
  refine (pone_any _).mono ?_
  rintro e1 w1 ⟨v1, rfl, hq, hb⟩
  obtain ⟨nb, A, n, c, B, m, k, rfl⟩ := hq.agg
  obtain ⟨hb6, d6⟩ := new6 w1 (.int .i64 1) (.int .i64 0) (.int .i64 0) (.bool nb) (.slice A n c) (.slice B m k)
  obtain ⟨hb7, d7⟩ := new6 (w1.alloc (M6 (.int .i64 1) (.int .i64 0) (.int .i64 0) (.bool nb) (.slice A n c) (.slice B m k))) (.int .i64 1) (.int .i64 0) (.int .i64 0) (.bool nb) (.slice A n c) (.slice B m k)
  obtain ⟨_, d5⟩ := new6 w1 (.int .i64 0) (.int .i64 0) (.int .i64 0) (.bool nb) (.slice A n c) (.slice B m k)
  have f0 := d5.frozen 0
  have y := d5.c6
  have y6 := d6.c6
  have hq7 := (hq.below hb6).below hb7
  have hB := hb.trans (hb6.mono hb.size)
  go_wp2_with fail
  refine bodyPost_ret (results_tmp rfl _ _ _) rfl ?_
  rw [World.size_alloc] at d7
  exact ⟨_, rfl, pol_one (e := uE 0) d7 hq7, hB.trans (hb7.mono hB.size)⟩
 | 1, _ =>
  go_enter Tryz.func28, Tryz.ntmps28
  go_wp2_with fail
  refine (pone_any _).mono ?_
  rintro e1 w1 ⟨v1, rfl, hq, hb⟩
  obtain ⟨nb, A, n, c, B, m, k, rfl⟩ := hq.agg
  obtain ⟨hb6, d6⟩ := new6 w1 (.int .i64 0) (.int .i64 1) (.int .i64 0) (.bool nb) (.slice A n c) (.slice B m k)
  obtain ⟨hb7, d7⟩ := new6 (w1.alloc (M6 (.int .i64 0) (.int .i64 1) (.int .i64 0) (.bool nb) (.slice A n c) (.slice B m k))) (.int .i64 0) (.int .i64 1) (.int .i64 0) (.bool nb) (.slice A n c) (.slice B m k)
  obtain ⟨_, d5⟩ := new6 w1 (.int .i64 0) (.int .i64 0) (.int .i64 0) (.bool nb) (.slice A n c) (.slice B m k)
  have f0 := d5.frozen 1
  have y := d5.c6
  have y6 := d6.c6
  have hq7 := (hq.below hb6).below hb7
  have hB := hb.trans (hb6.mono hb.size)
  go_wp2_with fail
  refine bodyPost_ret (results_tmp rfl _ _ _) rfl ?_
  rw [World.size_alloc] at d7
  exact ⟨_, rfl, pol_one (e := uE 1) d7 hq7, hB.trans (hb7.mono hB.size)⟩
 | 2, _ =>
  go_enter Tryz.func28, Tryz.ntmps28
  go_wp2_with fail
  refine (pone_any _).mono ?_
  rintro e1 w1 ⟨v1, rfl, hq, hb⟩
  obtain ⟨nb, A, n, c, B, m, k, rfl⟩ := hq.agg
  obtain ⟨hb6, d6⟩ := new6 w1 (.int .i64 0) (.int .i64 0) (.int .i64 1) (.bool nb) (.slice A n c) (.slice B m k)
  obtain ⟨hb7, d7⟩ := new6 (w1.alloc (M6 (.int .i64 0) (.int .i64 0) (.int .i64 1) (.bool nb) (.slice A n c) (.slice B m k))) (.int .i64 0) (.int .i64 0) (.int .i64 1) (.bool nb) (.slice A n c) (.slice B m k)
  obtain ⟨_, d5⟩ := new6 w1 (.int .i64 0) (.int .i64 0) (.int .i64 0) (.bool nb) (.slice A n c) (.slice B m k)
  have f0 := d5.frozen 2
  have y := d5.c6
  have y6 := d6.c6
  have hq7 := (hq.below hb6).below hb7
  have hB := hb.trans (hb6.mono hb.size)
  go_wp2_with fail
  refine bodyPost_ret (results_tmp rfl _ _ _) rfl ?_
  rw [World.size_alloc] at d7
  exact ⟨_, rfl, pol_one (e := uE 2) d7 hq7, hB.trans (hb7.mono hB.size)⟩
end Go.Proofs.YtifeekomegoijaaGreatDoor

namespace Go.Proofs.YtifeekomegoijaaGreatDoor

end Go.Proofs.YtifeekomegoijaaGreatDoor

namespace Go.Proofs.YtifeekomegoijaaGreatDoor

def pA : List Mon := [((1, 0, 0), 1)]
def pB : List Mon := [((0, 1, 0), 1)]
def pAB : List Mon := [((1, 0, 0), 1), ((0, 1, 0), 1)]
def pAH : List Mon := [((1, 0, 0), 1), ((0, 0, 0), mkRat 1 2)]
def pSq : List Mon := [((2, 0, 0), 1), ((1, 1, 0), 2), ((0, 2, 0), 1)]
def pSt : List Mon := [((5, 0, 0), 64), ((4, 0, 0), 32), ((3, 0, 0), 16), ((2, 0, 0), 8), ((1, 0, 0), 4), ((0, 0, 0), 2)]
theorem vpB_of {l : List Mon} (h : (l.all (fun m => decide (deg m.1 ≤ 5 ∧ m.2 ≠ 0)) && decide (l.Pairwise (fun m n => elt n.1 m.1 = true))) = true) : VP l := by
 simp only [Bool.and_eq_true, List.all_eq_true, decide_eq_true_eq] at h
 exact h
theorem vp_pA : VP pA := vpB_of (by decide +kernel)
theorem vp_pB : VP pB := vpB_of (by decide +kernel)
theorem vp_pAB : VP pAB := vpB_of (by decide +kernel)
theorem vp_pAH : VP pAH := vpB_of (by decide +kernel)
theorem vp_pSq : VP pSq := vpB_of (by decide +kernel)
theorem vp_pSt : VP pSt := vpB_of (by decide +kernel)
theorem ex_add : listOf (addC (co pA) (co pB)) = pAB := by decide +kernel
theorem ex_half : listOf (addC (co pA) (constC (mkRat 1 2))) = pAH := by decide +kernel
theorem ex_sq : listOf (mulC (co pAB) (co pAB)) = pSq := by
 rw [show listOf (mulC (co pAB) (co pAB)) = listOf (mulL pAB pAB) from listOf_congr (fun e he => (mulL_mulC vp_pAB vp_pAB he).symm)]
 decide +kernel
theorem ex_star : listOf (starC [((1, 0, 0), 1)] 2) = pSt := by decide +kernel
end Go.Proofs.YtifeekomegoijaaGreatDoor

namespace Go.Proofs.YtifeekomegoijaaGreatDoor
open Go.RowKit

set_option maxRecDepth 20000 in
set_option maxHeartbeats 2000000 in
theorem Scale_p (v z : Value) (p : List Mon) (x : Rat) (L Lx : Nat) (w : World) (hT : Tab w) (h : PI w v p L) (hx : Inp w z x Lx) (hL : L + Lx ≤ 800000) : Calls Tryz.prog 21 #[v, z] w (RetPol w (listOf (mulC (co p) (constC x)))) := by
 obtain ⟨A0, n0, c0, rfl⟩ := h.slice
 obtain ⟨z0, Z, zn, zc, Z', zm, ze, rfl⟩ := hx.agg
 have hmm := @run_makeMap Tryz.prog
 obtain ⟨hb1, c1⟩ := blk1 w [.bool z0, .slice Z zn zc, .slice Z' zm ze] 25
 have hmade := Sums.made (w.alloc (R1 (.bool z0) (.slice Z zn zc) (.slice Z' zm ze)))
 rw [World.size_alloc] at hmade
 have hb2 : Below w.heap.size w ((w.alloc (R1 (.bool z0) (.slice Z zn zc) (.slice Z' zm ze))).alloc (.map #[] 0)) := hb1.alloc hb1.size _
 replace c1 := (c1.alloc (.map #[] 0)).drew
 have HVP := Lib.hid h.vp
 have HSP := Lib.hid h.szl
 have HLP := Lib.hid (vp_length h.vp)
 have HP := Lib.hid ((h.below hb2).below (Below.refl _ _).drew)
 have HX := Lib.hid ((hx.below hb2).below (Below.refl _ _).drew)
 have HSX := Lib.hid hx.sz
 have HMD := Lib.hid (hmade.below (Below.refl _ _).drew)
 have HB2 := Lib.hid hb2.drew
 have HT := Lib.hid hT
 have HC1 := Lib.hid c1
 have HCL := Lib.hid c1.lt
 clear h hx hT hmade hb2 c1 hb1
 go_enter Tryz.func21, Tryz.ntmps21
 go_upto_region 2 with (fail)
 refine wp_region6 5 [7, 8, 9, 10, 11] [.val (.map (some (w.heap.size + 1))), .val (.slice A0 n0 c0), .st (fun w a => Pol w a p), .val (exV (0, 0, 0)), .val (.agg #[.bool z0, .slice Z zn zc, .slice Z' zm ze])] (by kernel_rfl) (by kernel_rfl) (by kernel_rfl) (by kernel_rfl) ?step 1 (by kernel_rfl) _ rfl ?fin
 case step =>
  intro i hi oi ho f wx hB hdep K hK
  simp only [frontAct, List.foldl_cons, List.foldl_nil, List.setIfInBounds_toArray, List.set_cons_succ, List.set_cons_zero] at hK ⊢
  obtain ⟨x0, x1, x2⟩ := (HC1.out.below hB HCL.out).c3
  obtain rfl | rfl | rfl | rfl | rfl : i = 0 ∨ i = 1 ∨ i = 2 ∨ i = 3 ∨ i = 4 := by omega
  all_goals
   obtain rfl := Option.some.inj ho
   simp only [Act.put, List.setIfInBounds_toArray, List.set_cons_succ, List.set_cons_zero] at hK
  rotate_left
  rotate_left
  ·have e8 := dv6 (hdep ⟨1, .data⟩ (by simp) rfl) rfl
   simp only [List.getD_cons_succ, List.getD_cons_zero] at e8
   generalize f 8 = f8 at *; subst e8
   go_simp
   refine (clean_p _ p L wx (HT.out.below (HB2.out.trans (hB.mono HB2.out.size))) (HP.out.below hB)).mono ?_
   rintro e0 w' ⟨val, rfl, hr, hb⟩
   exact hK val w' (gs6 rfl (fun w2 h2 => hr.below h2)) hb (hB.trans (hb.mono hB.size)) (nb6 rfl rfl)
  rotate_left
  rotate_left
  all_goals go_simp
  all_goals exact hK _ wx (gv6 rfl) (Below.refl _ _) hB (nb6 rfl rfl)
 case fin =>
  intro f wx hB hG hne
  have e7 := dv6 (a := f 7) (hG 0 (by decide)) rfl
  have e9 : Pol wx (f 9) p := ds6 (hG 2 (by decide)) rfl
  have e10 := dv6 (a := f 10) (hG 3 (by decide)) rfl
  have e11 := dv6 (a := f 11) (hG 4 (by decide)) rfl
  clear hG hne
  simp only [frontAct, List.foldl_cons, List.foldl_nil, List.setIfInBounds_toArray, List.set_cons_succ, List.set_cons_zero]
  generalize f 7 = f7 at *; subst e7
  generalize f 9 = f9 at *
  generalize f 10 = f10 at *; subst e10
  generalize f 11 = f11 at *; subst e11
  have hb23 := HB2.out.trans (hB.mono HB2.out.size)
  have HADD := Lib.hid (sums_addM (w.heap.size + 1) 0 _ p (0, 0, 0) _ x zeroC 1 Lx L wx (HT.out.below hb23) (HMD.out.below hB) e9 (vp_nodup HVP.out) (fun m hm => (HVP.out.1 m hm).1) (by have := HLP.out; omega) (by decide) (HX.out.below hB) (szC_zero 1 (Nat.le_refl _)) HSP.out (by omega))
  have HB23 := Lib.hid hb23
  clear e9 hB hb23
  refine wpAny_ready (rs := [5]) (by kernel_rfl) (by simp) ?_
  refine AllReady.cons rfl (fun K hK => ?_) AllReady.nil
  have HQ := Lib.hid hK
  clear hK
  go_simp
  refine HADD.out.mono ?_
  rintro e4 w4 ⟨rfl, ⟨n4, hn4, hS4⟩, hg4⟩
  refine HQ.out _ _ ?_
  clear HQ K
  refine wpAny_done (by kernel_rfl) ?_ _
  have hb4 := HB23.out.grown hg4 HB23.out.size (fun k e => by cases e; omega)
  have hlp := HLP.out
  go_wp2_with fail
  refine (sums_list _ n4 _ w4 (HT.out.below hb4) hS4 (by omega) (szC_addM (szC_zero 1 (Nat.le_refl _)) (vp_nodup HVP.out) HSX.out HSP.out (by omega))).mono ?_
  rintro e5 w5 ⟨v5, rfl, hp5, hb5⟩
  have HEND := Lib.hid (And.intro hp5 (hb4.trans (hb5.mono hb4.size)))
  have HE := Lib.hid (scale_eq HVP.out x)
  go_wp2_with fail
  go_ret
  exact ⟨v5, rfl, by rw [HE.out]; exact HEND.out.1, HEND.out.2⟩
end Go.Proofs.YtifeekomegoijaaGreatDoor

namespace Go.Proofs.YtifeekomegoijaaGreatDoor
open Go.RowKit

def pw (m : Mon) (a : Nat → Rat) : Nat → Rat
 | 0 => m.2
 | i + 1 => pw m a i * powR (a i) (comp m.1 i)
theorem pw_three (m : Mon) (a : Nat → Rat) : pw m a 3 = m.2 * monV (a 0) (a 1) (a 2) m.1 := by
 show m.2 * powR (a 0) m.1.1 * powR (a 1) m.1.2.1 * powR (a 2) m.1.2.2 = _
 unfold monV
 simp only [Rat.mul_assoc]
theorem pw_step (m : Mon) (a : Nat → Rat) (i j : Nat) : pw m a i * powR (a i) j * a i = pw m a i * powR (a i) (j + 1) := by
 show _ = pw m a i * (powR (a i) j * a i)
 rw [Rat.mul_assoc]
theorem sz_powR {x : Rat} {L : Nat} (h : Sz x L) : ∀ j, Sz (powR x j) (1 + j * L)
 | 0 => sz_one' _ (by omega)
 | j + 1 => (sz_mul (sz_powR h j) h (Nat.le_refl _)).mono (by rw [Nat.add_mul]; omega)
theorem sz_pw {m : Mon} {a : Nat → Rat} {L La : Nat} (hd : deg m.1 ≤ 5) (hm : Sz m.2 L) (ha : ∀ i, Sz (a i) La) : ∀ i, Sz (pw m a i) (L + i * (1 + 5 * La))
 | 0 => by rw [Nat.zero_mul, Nat.add_zero]; exact hm
 | i + 1 => by
  refine (sz_mul (sz_pw hd hm ha i) (sz_powR (ha i) _) (Nat.le_refl _)).mono ?_
  have h1 : comp m.1 i * La ≤ 5 * La := Nat.mul_le_mul_right _ (comp_le hd i)
  rw [Nat.add_mul]
  omega
theorem sz_pwj {m : Mon} {a : Nat → Rat} {L La : Nat} (hd : deg m.1 ≤ 5) (hm : Sz m.2 L) (ha : ∀ i, Sz (a i) La) {i j : Nat} (hi : i ≤ 3) (hj : j ≤ 5) : Sz (pw m a i * powR (a i) j) (L + 4 * (1 + 5 * La)) := by
 refine (sz_mul (sz_pw hd hm ha i) (sz_powR (ha i) j) (Nat.le_refl _)).mono ?_
 have h1 : j * La ≤ 5 * La := Nat.mul_le_mul_right _ hj
 have h2 : i * (1 + 5 * La) ≤ 3 * (1 + 5 * La) := Nat.mul_le_mul_right _ hi
 omega
def evTo (p : List Mon) (a : Nat → Rat) (k : Nat) : Rat := evalL (p.take k) (a 0) (a 1) (a 2)
theorem evTo_zero (p : List Mon) (a : Nat → Rat) : evTo p a 0 = 0 := by
 unfold evTo evalL
 simp
theorem evTo_succ {p : List Mon} {a : Nat → Rat} {k : Nat} {m : Mon} (h : p[k]? = some m) : evTo p a k + pw m a 3 = evTo p a (k + 1) := by
 obtain ⟨hk, e⟩ := List.getElem?_eq_some_iff.1 h
 unfold evTo evalL
 rw [List.take_succ_eq_append_getElem hk, sumL_append, pw_three, e]
 simp [Rat.add_zero]
theorem evTo_all (p : List Mon) (a : Nat → Rat) : evTo p a p.length = evalL p (a 0) (a 1) (a 2) := by
 unfold evTo
 rw [List.take_length]
theorem sz_evTo {p : List Mon} {a : Nat → Rat} {L La M : Nat} (hv : VP p) (hs : SzL p L) (ha : ∀ i, Sz (a i) La) (hM : L + 4 * (1 + 5 * La) ≤ M) : ∀ k, k ≤ p.length → Sz (evTo p a k) (1 + k * (M + 1))
 | 0, _ => by rw [evTo_zero]; exact sz_zero _ (by omega)
 | k + 1, hk => by
  obtain ⟨m, hm⟩ : ∃ m, p[k]? = some m := ⟨p[k], List.getElem?_eq_getElem (by omega)⟩
  rw [← evTo_succ hm]
  have h1 := sz_pwj (hv.1 m (List.mem_of_getElem? hm)).1 (hs m (List.mem_of_getElem? hm)) ha (i := 3) (j := 0) (Nat.le_refl _) (Nat.zero_le _)
  rw [show powR (a 3) 0 = 1 from rfl, Rat.mul_one] at h1
  refine (sz_add (sz_evTo hv hs ha hM k (by omega)) h1 (Nat.le_refl _)).mono ?_
  rw [Nat.add_mul]
  omega
def RB (w : World) (g : Nat) (q : Rat) : Prop := ∃ nb A n c B m e, Cs w g [.bool nb, .slice A n c, .slice B m e] 25 ∧ RatQ w (.agg #[.bool nb, .slice A n c, .slice B m e]) q
theorem RB.lt {w : World} {g : Nat} {q : Rat} (h : RB w g q) : g < w.heap.size := by
 obtain ⟨_, _, _, _, _, _, _, h1, _⟩ := h
 exact h1.lt
theorem RB.below {w w' : World} {g : Nat} {q : Rat} (h : RB w g q) (hb : Below w.heap.size w w') : RB w' g q := by
 obtain ⟨nb, A, n, c, B, m, e, h1, h2⟩ := h
 exact ⟨nb, A, n, c, B, m, e, h1.below hb h1.lt, h2.below hb⟩
theorem RB.drew {w : World} {g : Nat} {q : Rat} (h : RB w g q) : RB w.drew g q := h.below (Below.refl _ _).drew
theorem RB.new {w : World} {nb : Bool} {A B : Option Addr} {n c m e : Nat} {q : Rat} (h : RatQ w (.agg #[.bool nb, .slice A n c, .slice B m e]) q) : RB (w.alloc (R1 (.bool nb) (.slice A n c) (.slice B m e))) w.heap.size q := by
 obtain ⟨hb, hc⟩ := blk1 w [.bool nb, .slice A n c, .slice B m e] 25
 exact ⟨nb, A, n, c, B, m, e, hc, h.below hb⟩
theorem RB.set {w : World} {g : Nat} {q0 q : Rat} (h : RB w g q0) {nb : Bool} {A B : Option Addr} {n c m e : Nat} (hq : RatQ w (.agg #[.bool nb, .slice A n c, .slice B m e]) q) : RB (setL w g 0 [.bool nb, .slice A n c, .slice B m e]) g q := by
 obtain ⟨_, _, _, _, _, _, _, h1, _⟩ := h
 exact ⟨nb, A, n, c, B, m, e, h1.setL _ rfl, hq.setL h1 (by simp) _⟩
theorem RB.keep {w : World} {g g' : Nat} {q q' : Rat} (h : RB w g q) (h' : RB w g' q') (hne : g ≠ g') (us : List Value) : RB (setL w g' 0 us) g q := by
 obtain ⟨nb, A, n, c, B, m, e, h1, h2⟩ := h
 obtain ⟨_, _, _, _, _, _, _, k1, _⟩ := h'
 exact ⟨nb, A, n, c, B, m, e, h1.farL hne us 0, h2.setL k1 (by simp) _⟩
theorem Pol.setL {w : World} {v : Value} {l : List Mon} (h : Pol w v l) {g k : Nat} {ls : List Value} {t : TypeId} (hr : Cs w g ls t) (hl : ∀ v ∈ ls, (∀ x : Nat, v ≠ .int .u32 (x : Int)) ∧ ∀ x : Int, v ≠ .int .i64 x) (us : List Value) : Pol (Go.Proofs.YtifeekomegoijaaGreatDoor.setL w g k us) v l := by
 obtain ⟨A, n, c, xs, rfl, hrd, hlen, hat⟩ := h
 refine ⟨A, n, c, xs, rfl, ⟨hrd.len, hrd.cap, fun hn => ?_⟩, hlen, fun i e q hi => ?_⟩
 ·obtain ⟨b, o, rfl, hb, hc⟩ := hrd.cells hn
  refine ⟨b, o, rfl, by rw [size_setL]; exact hb, ?_⟩
  have hne : b ≠ g := by
   rintro rfl
   obtain ⟨⟨e, q⟩, h0⟩ : ∃ m, (l.map rawOf)[0]? = some m := ⟨_, List.getElem?_eq_getElem (by have := hrd.len; omega)⟩
   obtain ⟨z0, z1, z2, hx, _⟩ := hat 0 e q h0
   have hc0 := hc 0 _ hx 0 _ rfl
   rw [cell_of_row w b _ _ _ _ hr, List.getElem?_toArray] at hc0
   exact (hl _ (List.mem_of_getElem? hc0)).2 _ rfl
  intro i x hx j u hu
  have h1 := hc i x hx j u hu
  unfold World.cell? at h1 ⊢
  simp only [] at h1 ⊢
  rw [heap_setL hne us k w]
  exact h1
 ·obtain ⟨z0, z1, z2, hx, hq⟩ := hat i e q hi
  exact ⟨z0, z1, z2, hx, hq.setL hr (fun v hv => (hl v hv).1) us⟩
theorem RB.pol {w : World} {g : Nat} {q : Rat} (h : RB w g q) {v : Value} {l : List Mon} (hp : Pol w v l) (us : List Value) : Pol (setL w g 0 us) v l := by
 obtain ⟨nb, A, n, c, B, m, e, h1, h2⟩ := h
 exact hp.setL h1 (by simp) us
theorem RB.cs {w : World} {g : Nat} {q : Rat} (h : RB w g q) {g' : Nat} {l : List Value} {t : TypeId} (hc : Cs w g' l t) (hne : g' ≠ g) (us : List Value) : Cs (setL w g 0 us) g' l t := hc.farL hne us 0
abbrev A9 (z : Nat → Value) : List Value := [z 0, z 1, z 2, z 3, z 4, z 5, z 6, z 7, z 8]
theorem A9.at {w : World} {g : Nat} {z : Nat → Value} {t : TypeId} (h : Cs w g (A9 z) t) {i : Nat} (hi : i < 3) : w.cell? ⟨g, i * 3, none⟩ = some (z (i * 3)) ∧ w.cell? ⟨g, i * 3 + 1, none⟩ = some (z (i * 3 + 1)) ∧ w.cell? ⟨g, i * 3 + 2, none⟩ = some (z (i * 3 + 2)) := by
 match i, hi with
 | 0, _ => exact ⟨h.cell rfl, h.cell rfl, h.cell rfl⟩
 | 1, _ => exact ⟨h.cell rfl, h.cell rfl, h.cell rfl⟩
 | 2, _ => exact ⟨h.cell rfl, h.cell rfl, h.cell rfl⟩
end Go.Proofs.YtifeekomegoijaaGreatDoor

namespace Go.Proofs.YtifeekomegoijaaGreatDoor
open Go.RowKit

structure EvO (w : World) (z : Nat → Value) (p : List Mon) (W : World) (q : Rat) (A : Option Addr) (c : Nat) : Prop where
 a9 : Cs W w.heap.size (A9 z) 35
 res : Cs W (w.heap.size + 1) [.bool false, .slice none 0 0, .slice none 0 0] 25
 tot : RB W (w.heap.size + 1 + 1) q
 pol : Pol W (.slice A p.length c) p
 below : Below w.heap.size w W
theorem EvO.keep {w : World} {z : Nat → Value} {p : List Mon} {W W' : World} {q : Rat} {A : Option Addr} {c : Nat} (h : EvO w z p W q A c) (hb : Below W.heap.size W W') : EvO w z p W' q A c :=
 ⟨h.a9.below hb h.a9.lt, h.res.below hb h.res.lt, h.tot.below hb, h.pol.below hb, h.below.trans (hb.mono h.below.size)⟩
theorem EvO.put {w : World} {z : Nat → Value} {p : List Mon} {W : World} {q q' : Rat} {A : Option Addr} {c : Nat} (h : EvO w z p W q A c) {nb : Bool} {B C : Option Addr} {n k m d : Nat} (hq : RatQ W (.agg #[.bool nb, .slice B n k, .slice C m d]) q') :
  EvO w z p (setL W (w.heap.size + 1 + 1) 0 [.bool nb, .slice B n k, .slice C m d]) q' A c :=
 ⟨h.tot.cs h.a9 (by omega) _, h.tot.cs h.res (by omega) _, h.tot.set hq, h.tot.pol h.pol _, below_setL (by omega) _ _ h.below⟩

set_option maxRecDepth 40000 in
set_option maxHeartbeats 8000000 in
theorem Eval_p (v : Value) (z : Nat → Value) (ar : Nat → Rat) (p : List Mon) (L La M : Nat) (w : World) (hT : Tab w) (h : PI w v p L) (ha : ∀ i, i < 3 → Inp w (.agg #[z (i * 3), z (i * 3 + 1), z (i * 3 + 2)]) (ar i) La) (hz : ∀ i, Sz (ar i) La) (hM : L + 4 * (1 + 5 * La) ≤ M) (hM2 : M ≤ 10000) : Calls Tryz.prog 30 #[v, .agg #[z 0, z 1, z 2, z 3, z 4, z 5, z 6, z 7, z 8]] w (RetRat w (evalL p (ar 0) (ar 1) (ar 2))) := by
 obtain ⟨_, _, _, rfl⟩ := h.slice
 obtain ⟨hb3, c1, c2, c3⟩ := blk3 w (A9 z) [.bool false, .slice none 0 0, .slice none 0 0] [.bool false, .slice none 0 0, .slice none 0 0] 35 25 25
 have HVP := Lib.hid h.vp
 have HSP := Lib.hid h.szl
 have hlp := vp_length h.vp
 have HC1 := Lib.hid (clean_p _ p L _ (hT.below hb3) (h.below hb3))
 have HT := Lib.hid hT
 have HA := Lib.hid ha
 have HZ := Lib.hid hz
 clear h hT ha hz
 go_enter Tryz.func30, Tryz.ntmps30
 go_wp2_with fail
 refine HC1.out.mono ?_
 rintro e4 w4 ⟨v4, rfl, hp4, hb4⟩
 obtain ⟨A4, cc4, rfl⟩ := hp4.slice
 have HEV : Hid (EvO w z p w4 (evTo p ar 0) A4 cc4) := Lib.hid ⟨c1.below hb4 c1.lt, c2.below hb4 c2.lt, by rw [evTo_zero]; exact ⟨_, _, _, _, _, _, _, c3.below hb4 c3.lt, ratq_zero _⟩, hp4, hb3.trans (hb4.mono hb3.size)⟩
 clear c1 c2 c3 hp4 hb3 hb4 HC1
 go_wp2_with fail
 go_loopw [14] (fun iv wr => ∃ k : Nat, k ≤ p.length ∧ iv = .int .i64 (k : Int) ∧ EvO w z p wr (evTo p ar k) A4 cc4) (fun iv _ => (p.length - intOf iv).toNat)
 case atStart => exact ⟨0, Nat.zero_le _, rfl, HEV.out⟩
 case round =>
  obtain ⟨k, hk, rfl, hev⟩ := hrel
  obtain ⟨wo, rfl⟩ : ∃ wo, wo = wr := ⟨_, rfl⟩
  rcases Nat.lt_or_ge k p.length with hkn | hkn
  ·obtain ⟨m, hm⟩ : ∃ m, p[k]? = some m := ⟨p[k], List.getElem?_eq_getElem hkn⟩
   obtain ⟨bq, oq, y0, y1, y2, rfl, hbq, hat, hcoef⟩ := hev.pol.at hm
   obtain ⟨nb, Ay, ny, cy, By, my, ey, heq⟩ := hcoef.agg
   simp only [Value.agg.injEq, Array.mk.injEq, List.cons.injEq, and_true] at heq
   obtain ⟨rfl, rfl, rfl⟩ := heq
   have hdm := (HVP.out.1 m (List.mem_of_getElem? hm)).1
   obtain ⟨x0, x1, x2, x3, x4, x5⟩ := hat
   obtain ⟨hb6, d6⟩ := new6 wo (.int .i64 (m.1.1 : Int)) (.int .i64 (m.1.2.1 : Int)) (.int .i64 (m.1.2.2 : Int)) (.bool nb) (.slice Ay ny cy) (.slice By my ey)
   have hc6 := d6.c6
   have hrb := RB.new (hcoef.below hb6)
   rw [World.size_alloc] at hrb
   have hbR := hb6.alloc hb6.size (R1 (.bool nb) (.slice Ay ny cy) (.slice By my ey))
   have hlt : (k : Int) < (p.length : Int) := by omega
   have HK := Lib.hid hkn
   have HM := Lib.hid hm
   have HEO := Lib.hid hev
   have HDM := Lib.hid hdm
   have HSM := Lib.hid (HSP.out m (List.mem_of_getElem? hm))
   have HRB0 := Lib.hid (And.intro hrb hbR)
   clear hk hkn hm hev hcoef hdm hrb hbR HEV d6 hb6 hbq
   go_wp2_with fail
   clear hc6 x0 x1 x2 x3 x4 x5
   go_loopw [22] (fun iv wr => ∃ i : Nat, i ≤ 3 ∧ iv = .int .i64 (i : Int) ∧ RB wr (wo.heap.size + 1) (pw m ar i) ∧ Below wo.heap.size wo wr) (fun iv _ => (3 - intOf iv).toNat)
   case atStart => exact ⟨0, by omega, rfl, HRB0.out.1, HRB0.out.2⟩
   case round =>
    obtain ⟨i, hi, rfl, hrb, hbi⟩ := hrel
    obtain ⟨wi, rfl⟩ : ∃ wi, wi = wr := ⟨_, rfl⟩
    rcases Nat.lt_or_ge i 3 with hi3 | hi3
    ·have hidx := idx_arr m.1 hi3
     have HRBI : Hid (RB wi (wo.heap.size + 1) (pw m ar i * powR (ar i) 0)) := Lib.hid (by rw [show powR (ar i) 0 = 1 from rfl, Rat.mul_one]; exact hrb)
     have HBI := Lib.hid hbi
     have HI := Lib.hid hi3
     have hlt3 : (i : Int) < 3 := by omega
     obtain ⟨ce, hce⟩ : ∃ ce, comp m.1 i = ce := ⟨_, rfl⟩
     rw [hce] at hidx
     have HCE := Lib.hid hce
     have HC5 : Hid (ce ≤ 5) := Lib.hid (hce ▸ comp_le HDM.out i)
     clear hi hi3 hrb hbi hce
     go_wp2_with fail
     clear hidx
     go_loopw [27] (fun jv wr => ∃ j : Nat, j ≤ ce ∧ jv = .int .i64 (j : Int) ∧ RB wr (wo.heap.size + 1) (pw m ar i * powR (ar i) j) ∧ Below wo.heap.size wo wr) (fun jv _ => (ce - intOf jv).toNat)
     case atStart => exact ⟨0, Nat.zero_le _, rfl, HRBI.out, HBI.out⟩
     case round =>
      obtain ⟨j, hj, rfl, hrb, hbj⟩ := hrel
      obtain ⟨wj, rfl⟩ : ∃ wj, wj = wr := ⟨_, rfl⟩
      rcases Nat.lt_or_ge j ce with hjc | hjc
      ·have HRB := Lib.hid hrb.drew
       obtain ⟨nb, A, n, c, B, m2, d, hvb, hvq⟩ := hrb.drew
       have HVB := Lib.hid hvb
       have HVL := Lib.hid hvb.lt
       have HVQ := Lib.hid hvq
       have HBJ := Lib.hid hbj.drew
       have HJ := Lib.hid hjc
       have HE2 : Hid (EvO w z p wj.drew (evTo p ar k) _ cc4) := Lib.hid (HEO.out.keep hbj.drew)
       have HA9 := Lib.hid HE2.out.a9
       have HAL := Lib.hid HE2.out.a9.lt
       have HTJ := Lib.hid (HT.out.below HE2.out.below)
       have HIN := Lib.hid ((HA.out i HI.out).below HE2.out.below)
       have HSV : Hid (Sz (pw m ar i * powR (ar i) j) 10000) := Lib.hid ((sz_pwj HDM.out HSM.out HZ.out (Nat.le_of_lt HI.out) (by have := HC5.out; omega)).mono (by omega))
       have HSA : Hid (Sz (ar i) 10000) := Lib.hid ((HZ.out i).mono (by omega))
       have HGE : Hid (wo.heap.size ≤ wo.heap.size + 1) := Lib.hid (by omega)
       have hjl : (j : Int) < (ce : Int) := by omega
       clear hj hjc hrb hvb hvq hbj
       go_upto_region 11 with (fail)
       refine wp_region6 5 [29, 30, 31, 32, 33] [.val (.agg #[.bool nb, .slice A n c, .slice B m2 d]), .val (.int .i64 (i : Int)), .val (.pointer (some ⟨w.heap.size, i * 3, none⟩)), .val (.agg #[z (i * 3), z (i * 3 + 1), z (i * 3 + 2)]), .st (fun w a => RatQ w a (pw m ar i * powR (ar i) j * ar i))] (by kernel_rfl) (by kernel_rfl) (by kernel_rfl) (by kernel_rfl) ?step 1 (by kernel_rfl) _ rfl ?fin
       case step =>
        intro i hi oi ho f wx hB hdep K hK
        simp only [frontAct, List.foldl_cons, List.foldl_nil, List.setIfInBounds_toArray, List.set_cons_succ, List.set_cons_zero] at hK ⊢
        obtain ⟨x0, x1, x2⟩ := (HVB.out.below hB HVL.out).c3
        obtain ⟨a0, a1, a2⟩ := A9.at (HA9.out.below hB HAL.out) HI.out
        obtain rfl | rfl | rfl | rfl | rfl : i = 0 ∨ i = 1 ∨ i = 2 ∨ i = 3 ∨ i = 4 := by omega
        all_goals
         obtain rfl := Option.some.inj ho
         simp only [Act.put, List.setIfInBounds_toArray, List.set_cons_succ, List.set_cons_zero] at hK
        rotate_left
        rotate_left
        have e30 := dv6 (hdep ⟨1, .data⟩ (by simp) rfl) rfl
        simp only [List.getD_cons_succ, List.getD_cons_zero] at e30
        generalize f 30 = f30 at *; subst e30
        rotate_left
        have e31 := dv6 (hdep ⟨2, .data⟩ (by simp) rfl) rfl
        simp only [List.getD_cons_succ, List.getD_cons_zero] at e31
        generalize f 31 = f31 at *; subst e31
        rotate_left
        ·have e29 := dv6 (hdep ⟨0, .data⟩ (by simp) rfl) rfl
         have e32 := dv6 (hdep ⟨3, .data⟩ (by simp) rfl) rfl
         simp only [List.getD_cons_succ, List.getD_cons_zero] at e29 e32
         generalize f 29 = f29 at *; subst e29
         generalize f 32 = f32 at *; subst e32
         go_simp
         refine (Mul_any _ _ (pw m ar i * powR (ar i) j) (ar i) _ 10000 wx (HTJ.out.below hB) ((HVQ.out.below hB).inp HSV.out (by omega)) ((HIN.out.below hB).lift (by omega)) (HSV.out.mono (by omega)) (HSA.out.mono (by omega)) rfl).mono ?_
         rintro e0 w' ⟨val, rfl, hr, hb⟩
         exact hK val w' (gs6 rfl (fun w2 h2 => hr.below h2)) hb (hB.trans (hb.mono hB.size)) (nb6 rfl rfl)
        all_goals go_simp
        all_goals exact hK _ wx (gv6 rfl) (Below.refl _ _) hB (nb6 rfl rfl)
       case fin =>
        intro f wx hB hG hne
        have e33 : RatQ wx (f 33) (pw m ar i * powR (ar i) j * ar i) := ds6 (hG 4 (by decide)) rfl
        clear hG hne
        simp only [frontAct, List.foldl_cons, List.foldl_nil, List.setIfInBounds_toArray, List.set_cons_succ, List.set_cons_zero]
        generalize f 33 = f33 at *
        obtain ⟨yb, yA, yn, yc, yB, ym, yd, rfl⟩ := e33.agg
        have hrb := HRB.out.below hB
        have HEND : Hid (RB (setL wx (wo.heap.size + 1) 0 [.bool yb, .slice yA yn yc, .slice yB ym yd]) (wo.heap.size + 1) (pw m ar i * powR (ar i) (j + 1)) ∧ Below wo.heap.size wo (setL wx (wo.heap.size + 1) 0 [.bool yb, .slice yA yn yc, .slice yB ym yd])) := Lib.hid ⟨by rw [← pw_step]; exact hrb.set e33, below_setL HGE.out _ _ (HBJ.out.trans (hB.mono HBJ.out.size))⟩
        have hcs := HVB.out.below hB HVL.out
        have f0 := hcs.frozen 0
        have f1 := hcs.frozen 1
        have f2 := hcs.frozen 2
        obtain ⟨r0, r1, r2⟩ := hcs.c3
        clear hrb hcs e33 hB
        refine wpAny_ready (rs := [5]) (by kernel_rfl) (by simp) ?_
        refine AllReady.cons rfl (fun K hK => ?_) AllReady.nil
        have HQ := Lib.hid hK
        clear hK
        go_simp
        refine HQ.out _ _ ?_
        clear HQ K
        refine wpAny_done (by kernel_rfl) ?_ _
        have hc5 := HC5.out
        have hj9 := HJ.out
        go_wp2_with fail
        go_roundw
        case rel => exact ⟨j + 1, HJ.out, congrArg (Value.int _) (by omega), HEND.out⟩
        case measure => simp [intOf]; have := HJ.out; omega
      ·obtain rfl : j = ce := by omega
       have hjl : ¬ (j : Int) < (j : Int) := by omega
       have HEND := Lib.hid (And.intro hrb hbj)
       clear hrb hbj hj hjc
       go_wp2_with fail
       go_roundw
       case rel => exact ⟨i + 1, HI.out, congrArg (Value.int _) (by omega), by show RB _ _ (pw m ar i * powR (ar i) (comp m.1 i)); rw [HCE.out]; exact HEND.out.1, HEND.out.2⟩
       case measure => simp [intOf]; have := HI.out; omega
    ·obtain rfl : i = 3 := by omega
     obtain ⟨nb1, A1, n1, c1, B1, m1, d1, hvb, hvq⟩ := hrb
     have hev := HEO.out.keep hbi
     obtain ⟨nb2, A2, n2, c2, B2, m2, d2, htb, htq⟩ := hev.tot
     obtain ⟨x0, x1, x2⟩ := hvb.c3
     obtain ⟨y0, y1, y2⟩ := htb.c3
     have h33 : ¬ (3 : Int) < 3 := by omega
     have hs1 : Sz (evTo p ar k) 1000000 := (sz_evTo HVP.out HSP.out HZ.out hM k (Nat.le_of_lt HK.out)).mono (by
      have := Nat.mul_le_mul (show k ≤ 56 by have := HK.out; omega) (show M + 1 ≤ 10001 by omega)
      omega)
     have hs2 : Sz (pw m ar 3) 1000000 := (sz_pw HDM.out HSM.out HZ.out 3).mono (by omega)
     have HADD := Lib.hid (Add_any _ _ _ _ _ 1000000 wi (HT.out.below hev.below) (htq.inp hs1 (by omega)) (hvq.inp hs2 (by omega)) hs1 hs2 (evTo_succ HM.out))
     have HE3 := Lib.hid hev
     have HBI := Lib.hid hbi
     clear hvb hvq htb htq hev hs1 hs2 hbi hi hi3
     go_wp2_with fail
     refine HADD.out.mono ?_
     rintro e6 w6 ⟨v6, rfl, hq6, hb6⟩
     obtain ⟨nb6, A6, n6, c6, B6, m6, d6, rfl⟩ := hq6.agg
     have he6 := HE3.out.keep hb6
     obtain ⟨_, _, _, _, _, _, _, ht6, _⟩ := he6.tot
     have f0 := ht6.frozen 0
     have f1 := ht6.frozen 1
     have f2 := ht6.frozen 2
     obtain ⟨r0, r1, r2⟩ := ht6.c3
     have HEND := Lib.hid (he6.put hq6)
     clear he6 ht6 hq6 hb6 x0 x1 x2 y0 y1 y2
     go_wp2_with fail
     go_roundw
     case rel => exact ⟨k + 1, HK.out, congrArg (Value.int _) (by omega), HEND.out⟩
     case measure => simp [intOf]; have := HK.out; omega
  ·obtain rfl : k = p.length := by omega
   have hlt : ¬ (p.length : Int) < (p.length : Int) := by omega
   obtain ⟨nb2, A2, n2, c2, B2, m2, d2, htb, htq⟩ := hev.tot
   obtain ⟨y0, y1, y2⟩ := htb.c3
   have hrs := hev.res
   have f0 := hrs.frozen 0
   have f1 := hrs.frozen 1
   have f2 := hrs.frozen 2
   obtain ⟨r0, r1, r2⟩ := hrs.c3
   rw [evTo_all] at htq
   have HCS := Lib.hid (hrs.setL [.bool nb2, .slice A2 n2 c2, .slice B2 m2 d2] rfl)
   have HEND := Lib.hid (And.intro (htq.setL hrs (by simp) (k := 0) [.bool nb2, .slice A2 n2 c2, .slice B2 m2 d2]) (below_setL (g := w.heap.size + 1) (by omega) [.bool nb2, .slice A2 n2 c2, .slice B2 m2 d2] 0 hev.below))
   clear hev htb htq hrs hk hkn HEV
   go_wp2_with fail
   refine ret_cs Tryz.results30 Tryz.underlying25 (by kernel_rfl) rfl HCS.out rfl ?_
   exact ⟨_, rfl, HEND.out⟩
end Go.Proofs.YtifeekomegoijaaGreatDoor

namespace Go.Proofs.YtifeekomegoijaaGreatDoor
open Go.RowKit

structure EvS (w : World) (z : Nat → Value) (p : List Mon) (W : World) (q : Rat) (A : Option Addr) (c gt : Nat) : Prop where
 a9 : Cs W w.heap.size (A9 z) 35
 res : Cs W (w.heap.size + 1) [.bool false, .slice none 0 0, .slice none 0 0] 25
 tot : RB W gt q
 pol : Pol W (.slice A p.length c) p
 below : Below w.heap.size w W
 gt : w.heap.size + 1 < gt
theorem EvS.keep {w : World} {z : Nat → Value} {p : List Mon} {W W' : World} {q : Rat} {A : Option Addr} {c gt : Nat} (h : EvS w z p W q A c gt) (hb : Below W.heap.size W W') : EvS w z p W' q A c gt :=
 ⟨h.a9.below hb h.a9.lt, h.res.below hb h.res.lt, h.tot.below hb, h.pol.below hb, h.below.trans (hb.mono h.below.size), h.gt⟩
theorem EvS.put {w : World} {z : Nat → Value} {p : List Mon} {W : World} {q q' : Rat} {A : Option Addr} {c gt : Nat} (h : EvS w z p W q A c gt) {nb : Bool} {B C : Option Addr} {n k m d : Nat} (hq : RatQ W (.agg #[.bool nb, .slice B n k, .slice C m d]) q') :
  EvS w z p (setL W gt 0 [.bool nb, .slice B n k, .slice C m d]) q' A c gt :=
 ⟨h.tot.cs h.a9 (by have := h.gt; omega) _, h.tot.cs h.res (by have := h.gt; omega) _, h.tot.set hq, h.tot.pol h.pol _, below_setL (by have := h.gt; omega) _ _ h.below, h.gt⟩

set_option maxRecDepth 40000 in
set_option maxHeartbeats 8000000 in
theorem r2_Eval (v : Value) (z : Nat → Value) (ar : Nat → Rat) (p : List Mon) (L La M : Nat) (w : World) (h : PIr w v p L) (ha : ∀ i, i < 3 → Inr w (.agg #[z (i * 3), z (i * 3 + 1), z (i * 3 + 2)]) (ar i)) (hz : ∀ i, Sz (ar i) La) (hM : L + 4 * (1 + 5 * La) ≤ M) (hM2 : M ≤ 5000) : Calls Tryz.prog 31 #[v, .agg #[z 0, z 1, z 2, z 3, z 4, z 5, z 6, z 7, z 8]] w (RetRat w (evalL p (ar 0) (ar 1) (ar 2))) := by
 obtain ⟨hb3, c1, c2⟩ := blk2 w (A9 z) [.bool false, .slice none 0 0, .slice none 0 0] 35 25
 have HVP := Lib.hid h.vp
 have HSP := Lib.hid h.szl
 have hlp := vp_length h.vp
 have HC1 := Lib.hid (r2_Take_p _ p L _ (h.below hb3))
 have HA := Lib.hid ha
 have HZ := Lib.hid hz
 clear h ha hz
 go_enter Tryz.func31, Tryz.ntmps31
 go_wp2_with fail
 refine HC1.out.mono ?_
 rintro e4 w4 ⟨v4, rfl, ho4, hb4⟩
 have hp4 := ho4.pol
 obtain ⟨A4, cc4, rfl⟩ := hp4.slice
 obtain ⟨hb5, c5⟩ := blk1 w4 [.bool false, .slice none 0 0, .slice none 0 0] 25
 have hB5 := (hb3.trans (hb4.mono hb3.size)).trans (hb5.mono (hb3.trans (hb4.mono hb3.size)).size)
 have HEV : Hid (EvS w z p _ (evTo p ar 0) A4 cc4 w4.heap.size) := Lib.hid ⟨(c1.below hb4 c1.lt).below hb5 (c1.below hb4 c1.lt).lt, (c2.below hb4 c2.lt).below hb5 (c2.below hb4 c2.lt).lt, by rw [evTo_zero]; exact ⟨_, _, _, _, _, _, _, c5, ratq_zero _⟩, hp4.below hb5, hB5, (c2.below hb4 c2.lt).lt⟩
 clear c1 c2 c5 hp4 ho4 hb3 hb4 hb5 hB5 HC1
 go_wp2_with fail
 go_loopw [6] (fun iv wr => ∃ k : Nat, k ≤ p.length ∧ iv = .int .i64 (k : Int) ∧ EvS w z p wr (evTo p ar k) A4 cc4 w4.heap.size) (fun iv _ => (p.length - intOf iv).toNat)
 case atStart => exact ⟨0, Nat.zero_le _, rfl, HEV.out⟩
 case round =>
  obtain ⟨k, hk, rfl, hev⟩ := hrel
  obtain ⟨wo, rfl⟩ : ∃ wo, wo = wr := ⟨_, rfl⟩
  rcases Nat.lt_or_ge k p.length with hkn | hkn
  ·obtain ⟨m, hm⟩ : ∃ m, p[k]? = some m := ⟨p[k], List.getElem?_eq_getElem hkn⟩
   obtain ⟨bq, oq, y0, y1, y2, rfl, hbq, hat, hcoef⟩ := hev.pol.at hm
   obtain ⟨nb, Ay, ny, cy, By, my, ey, heq⟩ := hcoef.agg
   simp only [Value.agg.injEq, Array.mk.injEq, List.cons.injEq, and_true] at heq
   obtain ⟨rfl, rfl, rfl⟩ := heq
   have hdm := (HVP.out.1 m (List.mem_of_getElem? hm)).1
   have HAT := Lib.hid hat
   have HBQ := Lib.hid hbq
   obtain ⟨x0, x1, x2, x3, x4, x5⟩ := hat
   have hrb := RB.new hcoef
   have hbR := (blk1 wo [.bool nb, .slice Ay ny cy, .slice By my ey] 25).1
   have hlt : (k : Int) < (p.length : Int) := by omega
   have HK := Lib.hid hkn
   have HM := Lib.hid hm
   have HEO := Lib.hid hev
   have HDM := Lib.hid hdm
   have HSM := Lib.hid (HSP.out m (List.mem_of_getElem? hm))
   have HRB0 := Lib.hid (And.intro hrb hbR)
   clear hk hkn hm hev hcoef hdm hrb hbR HEV hbq
   go_wp2_with fail
   clear x0 x1 x2 x3 x4 x5
   go_loopw [8] (fun iv wr => ∃ i : Nat, i ≤ 3 ∧ iv = .int .i64 (i : Int) ∧ RB wr wo.heap.size (pw m ar i) ∧ Below wo.heap.size wo wr) (fun iv _ => (3 - intOf iv).toNat)
   case atStart => exact ⟨0, by omega, rfl, HRB0.out.1, HRB0.out.2⟩
   case round =>
    obtain ⟨i, hi, rfl, hrb, hbi⟩ := hrel
    obtain ⟨wi, rfl⟩ : ∃ wi, wi = wr := ⟨_, rfl⟩
    rcases Nat.lt_or_ge i 3 with hi3 | hi3
    ·have HRBI : Hid (RB wi wo.heap.size (pw m ar i * powR (ar i) 0)) := Lib.hid (by rw [show powR (ar i) 0 = 1 from rfl, Rat.mul_one]; exact hrb)
     have HBI := Lib.hid hbi
     have HI := Lib.hid hi3
     have hlt3 : (i : Int) < 3 := by omega
     obtain ⟨ce, hce⟩ : ∃ ce, comp m.1 i = ce := ⟨_, rfl⟩
     have HCE := Lib.hid hce
     have HC5 : Hid (ce ≤ 5) := Lib.hid (hce ▸ comp_le HDM.out i)
     clear hi hi3 hrb hbi hce
     go_wp2_with fail
     go_loopw [9] (fun jv wr => ∃ j : Nat, j ≤ ce ∧ jv = .int .i64 (j : Int) ∧ RB wr wo.heap.size (pw m ar i * powR (ar i) j) ∧ Below wo.heap.size wo wr) (fun jv _ => (ce - intOf jv).toNat)
     case atStart => exact ⟨0, Nat.zero_le _, rfl, HRBI.out, HBI.out⟩
     case round =>
      obtain ⟨j, hj, rfl, hrb, hbj⟩ := hrel
      obtain ⟨wj, rfl⟩ : ∃ wj, wj = wr := ⟨_, rfl⟩
      have hce1 := (HAT.out.below hbj HBQ.out).exp HI.out
      rw [HCE.out] at hce1
      rcases Nat.lt_or_ge j ce with hjc | hjc
      ·have HRB := Lib.hid hrb.drew
       obtain ⟨nb, A, n, c, B, m2, d, hvb, hvq⟩ := hrb.drew
       have HVB := Lib.hid hvb
       have HVL := Lib.hid hvb.lt
       have HVQ := Lib.hid hvq
       have HBJ := Lib.hid hbj.drew
       have HJ := Lib.hid hjc
       have HE2 : Hid (EvS w z p wj.drew (evTo p ar k) _ cc4 w4.heap.size) := Lib.hid (HEO.out.keep hbj.drew)
       have HA9 := Lib.hid HE2.out.a9
       have HAL := Lib.hid HE2.out.a9.lt
       have HIN := Lib.hid ((HA.out i HI.out).below HE2.out.below)
       have HSV : Hid (Sz (pw m ar i * powR (ar i) j) 10000) := Lib.hid ((sz_pwj HDM.out HSM.out HZ.out (Nat.le_of_lt HI.out) (by have := HC5.out; omega)).mono (by omega))
       have HSA : Hid (Sz (ar i) 10000) := Lib.hid ((HZ.out i).mono (by omega))
       have HGE : Hid (wo.heap.size ≤ wo.heap.size) := Lib.hid (Nat.le_refl _)
       have hjl : (j : Int) < (ce : Int) := by omega
       clear hj hjc hrb hvb hvq hbj
       go_upto_region 13 with (fail)
       clear hce1
       refine wp_region6 5 [39, 40, 41, 42, 43] [.val (.agg #[.bool nb, .slice A n c, .slice B m2 d]), .val (.int .i64 (i : Int)), .val (.pointer (some ⟨w.heap.size, i * 3, none⟩)), .val (.agg #[z (i * 3), z (i * 3 + 1), z (i * 3 + 2)]), .st (fun w a => RatQ w a (pw m ar i * powR (ar i) j * ar i))] (by kernel_rfl) (by kernel_rfl) (by kernel_rfl) (by kernel_rfl) ?step 1 (by kernel_rfl) _ rfl ?fin
       case step =>
        intro i hi oi ho f wx hB hdep K hK
        simp only [frontAct, List.foldl_cons, List.foldl_nil, List.setIfInBounds_toArray, List.set_cons_succ, List.set_cons_zero] at hK ⊢
        obtain ⟨x0, x1, x2⟩ := (HVB.out.below hB HVL.out).c3
        obtain ⟨a0, a1, a2⟩ := A9.at (HA9.out.below hB HAL.out) HI.out
        obtain rfl | rfl | rfl | rfl | rfl : i = 0 ∨ i = 1 ∨ i = 2 ∨ i = 3 ∨ i = 4 := by omega
        all_goals
         obtain rfl := Option.some.inj ho
         simp only [Act.put, List.setIfInBounds_toArray, List.set_cons_succ, List.set_cons_zero] at hK
        rotate_left
        rotate_left
        have e40 := dv6 (hdep ⟨1, .data⟩ (by simp) rfl) rfl
        simp only [List.getD_cons_succ, List.getD_cons_zero] at e40
        generalize f 40 = f40 at *; subst e40
        rotate_left
        have e41 := dv6 (hdep ⟨2, .data⟩ (by simp) rfl) rfl
        simp only [List.getD_cons_succ, List.getD_cons_zero] at e41
        generalize f 41 = f41 at *; subst e41
        rotate_left
        ·have e39 := dv6 (hdep ⟨0, .data⟩ (by simp) rfl) rfl
         have e42 := dv6 (hdep ⟨3, .data⟩ (by simp) rfl) rfl
         simp only [List.getD_cons_succ, List.getD_cons_zero] at e39 e42
         generalize f 39 = f39 at *; subst e39
         generalize f 42 = f42 at *; subst e42
         go_simp
         refine (r_Mul _ _ (pw m ar i * powR (ar i) j) (ar i) wx ((HVQ.out.below hB).inr HSV.out (by omega)) (HIN.out.below hB) (HSV.out.mono (by omega)) (HSA.out.mono (by omega))).mono ?_
         rintro e0 w' ⟨val, rfl, hr, hb⟩
         exact hK val w' (gs6 rfl (fun w2 h2 => hr.below h2)) hb (hB.trans (hb.mono hB.size)) (nb6 rfl rfl)
        all_goals go_simp
        all_goals exact hK _ wx (gv6 rfl) (Below.refl _ _) hB (nb6 rfl rfl)
       case fin =>
        intro f wx hB hG hne
        have e43 : RatQ wx (f 43) (pw m ar i * powR (ar i) j * ar i) := ds6 (hG 4 (by decide)) rfl
        clear hG hne
        simp only [frontAct, List.foldl_cons, List.foldl_nil, List.setIfInBounds_toArray, List.set_cons_succ, List.set_cons_zero]
        generalize f 43 = f43 at *
        obtain ⟨yb, yA, yn, yc, yB, ym, yd, rfl⟩ := e43.agg
        have hrb := HRB.out.below hB
        have HEND : Hid (RB (setL wx wo.heap.size 0 [.bool yb, .slice yA yn yc, .slice yB ym yd]) wo.heap.size (pw m ar i * powR (ar i) (j + 1)) ∧ Below wo.heap.size wo (setL wx wo.heap.size 0 [.bool yb, .slice yA yn yc, .slice yB ym yd])) := Lib.hid ⟨by rw [← pw_step]; exact hrb.set e43, below_setL HGE.out _ _ (HBJ.out.trans (hB.mono HBJ.out.size))⟩
        have hcs := HVB.out.below hB HVL.out
        have f0 := hcs.frozen 0
        have f1 := hcs.frozen 1
        have f2 := hcs.frozen 2
        obtain ⟨r0, r1, r2⟩ := hcs.c3
        clear hrb hcs e43 hB
        refine wpAny_ready (rs := [5]) (by kernel_rfl) (by simp) ?_
        refine AllReady.cons rfl (fun K hK => ?_) AllReady.nil
        have HQ := Lib.hid hK
        clear hK
        go_simp
        refine HQ.out _ _ ?_
        clear HQ K
        refine wpAny_done (by kernel_rfl) ?_ _
        have hc5 := HC5.out
        have hj9 := HJ.out
        go_wp2_with fail
        go_roundw
        case rel => exact ⟨j + 1, HJ.out, congrArg (Value.int _) (by omega), HEND.out⟩
        case measure => simp [intOf]; have := HJ.out; omega
      ·obtain rfl : j = ce := by omega
       have hjl : ¬ (j : Int) < (j : Int) := by omega
       have HEND := Lib.hid (And.intro hrb hbj)
       clear hrb hbj hj hjc
       go_wp2_with fail
       go_roundw
       case rel => exact ⟨i + 1, HI.out, congrArg (Value.int _) (by omega), by show RB _ _ (pw m ar i * powR (ar i) (comp m.1 i)); rw [HCE.out]; exact HEND.out.1, HEND.out.2⟩
       case measure => simp [intOf]; have := HI.out; omega
    ·obtain rfl : i = 3 := by omega
     obtain ⟨nb1, A1, n1, c1, B1, m1, d1, hvb, hvq⟩ := hrb
     have hev := HEO.out.keep hbi
     obtain ⟨nb2, A2, n2, c2, B2, m2, d2, htb, htq⟩ := hev.tot
     obtain ⟨x0, x1, x2⟩ := hvb.c3
     obtain ⟨y0, y1, y2⟩ := htb.c3
     have h33 : ¬ (3 : Int) < 3 := by omega
     have hs1 : Sz (evTo p ar k) 400000 := (sz_evTo HVP.out HSP.out HZ.out hM k (Nat.le_of_lt HK.out)).mono (by
      have := Nat.mul_le_mul (show k ≤ 56 by have := HK.out; omega) (show M + 1 ≤ 5001 by omega)
      omega)
     have hs2 : Sz (pw m ar 3) 400000 := (sz_pw HDM.out HSM.out HZ.out 3).mono (by omega)
     have HADD := Lib.hid (r_Add _ _ _ _ wi (htq.inr hs1 (by omega)) (hvq.inr hs2 (by omega)) hs1 hs2)
     have HES := Lib.hid (evTo_succ (a := ar) HM.out)
     have HE3 := Lib.hid hev
     have HBI := Lib.hid hbi
     clear hvb hvq htb htq hev hs1 hs2 hbi hi hi3
     go_wp2_with fail
     refine HADD.out.mono ?_
     rintro e6 w6 ⟨v6, rfl, hq6, hb6⟩
     rw [HES.out] at hq6
     obtain ⟨nb6, A6, n6, c6, B6, m6, d6, rfl⟩ := hq6.agg
     have he6 := HE3.out.keep hb6
     obtain ⟨_, _, _, _, _, _, _, ht6, _⟩ := he6.tot
     have f0 := ht6.frozen 0
     have f1 := ht6.frozen 1
     have f2 := ht6.frozen 2
     obtain ⟨r0, r1, r2⟩ := ht6.c3
     have HEND := Lib.hid (he6.put hq6)
     have hk1 := HK.out
     clear he6 ht6 hq6 hb6 x0 x1 x2 y0 y1 y2
     go_wp2_with fail
     go_roundw
     case rel => exact ⟨k + 1, HK.out, congrArg (Value.int _) (by omega), HEND.out⟩
     case measure => simp [intOf]; have := HK.out; omega
  ·obtain rfl : k = p.length := by omega
   have hlt : ¬ (p.length : Int) < (p.length : Int) := by omega
   obtain ⟨nb2, A2, n2, c2, B2, m2, d2, htb, htq⟩ := hev.tot
   obtain ⟨y0, y1, y2⟩ := htb.c3
   have hrs := hev.res
   have f0 := hrs.frozen 0
   have f1 := hrs.frozen 1
   have f2 := hrs.frozen 2
   obtain ⟨r0, r1, r2⟩ := hrs.c3
   rw [evTo_all] at htq
   have HCS := Lib.hid (hrs.setL [.bool nb2, .slice A2 n2 c2, .slice B2 m2 d2] rfl)
   have HEND := Lib.hid (And.intro (htq.setL hrs (by simp) (k := 0) [.bool nb2, .slice A2 n2 c2, .slice B2 m2 d2]) (below_setL (g := w.heap.size + 1) (by omega) [.bool nb2, .slice A2 n2 c2, .slice B2 m2 d2] 0 hev.below))
   clear hev htb htq hrs hk hkn HEV
   go_wp2_with fail
   refine ret_cs Tryz.results31 Tryz.underlying25 (by kernel_rfl) rfl HCS.out rfl ?_
   exact ⟨_, rfl, HEND.out⟩
end Go.Proofs.YtifeekomegoijaaGreatDoor

namespace Go.Proofs.YtifeekomegoijaaGreatDoor
open Go.RowKit

theorem ratq_parts {w : World} {nb : Bool} {A B : Option Addr} {n c m e : Nat} {q : Rat} (hb : nb = decide (q.num < 0)) (h1 : Num w (limbs q.num.natAbs) A n c) (h2 : Num w (dl q.den) B m e) : RatQ w (.agg #[.bool nb, .slice A n c, .slice B m e]) q := by
 subst hb
 exact ⟨_, _, _, _, _, _, rfl, h1, h2⟩

set_option maxRecDepth 20000 in
set_option maxHeartbeats 2000000 in
theorem Lowest_p (v : Value) (p : List Mon) (L : Nat) (w : World) (hT : Tab w) (h : PI w v p L) (hL : L ≤ 100000) : Calls Tryz.prog 24 #[v] w (RetRat w (lowL p)) := by
 obtain ⟨_, _, _, rfl⟩ := h.slice
 obtain ⟨hb1, cz⟩ := blk1 w [.bool false, .slice none 0 0, .slice none 0 0] 25
 have hvp := h.vp
 have hlow := sz_low hvp h.szl
 have HC1 := Lib.hid (clean_p _ p L _ (hT.below hb1) (h.below hb1))
 obtain ⟨q, hq⟩ : ∃ q, lowL p = q := ⟨_, rfl⟩
 rw [hq] at hlow ⊢
 clear h
 go_enter Tryz.func24, Tryz.ntmps24
 go_wp2_with fail
 refine HC1.out.mono ?_
 rintro e2 w2 ⟨v2, rfl, hp2, hb2⟩
 obtain ⟨A2, cc2, rfl⟩ := hp2.slice
 have hB2 := hb1.trans (hb2.mono hb1.size)
 have cz2 := cz.below hb2 cz.lt
 go_wp2_with fail
 refine (split_p _ _ _ p w2 hp2 hvp).mono ?_
 rintro e3 w3 ⟨A3, c3, nb, A1, n1, c1, B1, m1, e1, rfl, hr3, hq3, hb3⟩
 have hB3 := hB2.trans (hb3.mono hB2.size)
 have c3' := cz2.below hb3 cz2.lt
 clear hr3 cz cz2 hb2 hb3 hp2
 rw [hq] at hq3
 obtain ⟨hb4, c4⟩ := blk1 w3 [.bool nb, .slice A1 n1 c1, .slice B1 m1 e1] 25
 have hq4 := (hq3.below hb4).drew1
 obtain ⟨hnb, hn1, hn2⟩ := hq4.parts
 have HNB := Lib.hid hnb
 have HN1 := Lib.hid hn1
 have HN2 := Lib.hid hn2
 have HZ1 : Hid (n1 ≤ 536870912) := Lib.hid (by have := hn1.len; have := hlow.1; omega)
 have HZ2 : Hid (m1 ≤ 536870912) := Lib.hid (by have := hn2.len; have := hlow.2; have := dl_length q.den; omega)
 have HX := Lib.hid c4.drew
 have HXL := Lib.hid c4.drew.lt
 have HRES := Lib.hid (c3'.below hb4 c3'.lt).drew
 have HRL := Lib.hid (c3'.below hb4 c3'.lt).drew.lt
 have HBB := Lib.hid (hB3.trans (hb4.mono hB3.size)).drew
 clear hq3 hlow c4 c3' hb4 hq4 hnb hn1 hn2 hB3 hB2 hb1 HC1
 go_upto_region 2 with (fail)
 refine wp_region6 9 [11, 12, 13, 14, 15, 16, 17, 18, 19] [.val (.pointer (some ⟨w3.heap.size, 0, none⟩)), .val (.bool nb), .val (.pointer (some ⟨w3.heap.size, 1, none⟩)), .val (.slice A1 n1 c1), .st (fun w a => ∃ A n c, a = .slice A n c ∧ Num w (limbs q.num.natAbs) A n c), .val (.pointer (some ⟨w3.heap.size, 2, none⟩)), .val (.slice B1 m1 e1), .st (fun w a => ∃ A n c, a = .slice A n c ∧ Num w (dl q.den) A n c), .st (fun w a => ∃ A n c B m e, a = .agg #[.bool nb, .slice A n c, .slice B m e] ∧ RatQ w a q)] (by kernel_rfl) (by kernel_rfl) (by kernel_rfl) (by kernel_rfl) ?step 1 (by kernel_rfl) _ rfl ?fin
 case step =>
  intro i hi oi ho f wx hB hdep K hK
  simp only [frontAct, List.foldl_cons, List.foldl_nil, List.setIfInBounds_toArray, List.set_cons_succ, List.set_cons_zero] at hK ⊢
  obtain ⟨x0, x1, x2⟩ := (HX.out.below hB HXL.out).c3
  obtain rfl | rfl | rfl | rfl | rfl | rfl | rfl | rfl | rfl : i = 0 ∨ i = 1 ∨ i = 2 ∨ i = 3 ∨ i = 4 ∨ i = 5 ∨ i = 6 ∨ i = 7 ∨ i = 8 := by omega
  all_goals
   obtain rfl := Option.some.inj ho
   simp only [Act.put, List.setIfInBounds_toArray, List.set_cons_succ, List.set_cons_zero] at hK
  rotate_left
  have e11 := dv6 (hdep ⟨0, .data⟩ (by simp) rfl) rfl
  simp only [List.getD_cons_succ, List.getD_cons_zero] at e11
  generalize f 11 = f11 at *; subst e11
  rotate_left
  rotate_left
  have e13 := dv6 (hdep ⟨2, .data⟩ (by simp) rfl) rfl
  simp only [List.getD_cons_succ, List.getD_cons_zero] at e13
  generalize f 13 = f13 at *; subst e13
  rotate_left
  ·have e14 := dv6 (hdep ⟨3, .data⟩ (by simp) rfl) rfl
   simp only [List.getD_cons_succ, List.getD_cons_zero] at e14
   generalize f 14 = f14 at *; subst e14
   go_simp
   refine (clone_l _ _ _ _ wx (HN1.out.below hB) HZ1.out).mono ?_
   rintro e0 w' ⟨A0, n0, c0, rfl, hr, hb⟩
   exact hK _ w' (gs6 rfl (fun w2 h2 => ⟨A0, n0, c0, rfl, hr.num.below h2⟩)) hb (hB.trans (hb.mono hB.size)) (nb6 rfl rfl)
  rotate_left
  have e16 := dv6 (hdep ⟨5, .data⟩ (by simp) rfl) rfl
  simp only [List.getD_cons_succ, List.getD_cons_zero] at e16
  generalize f 16 = f16 at *; subst e16
  rotate_left
  ·have e17 := dv6 (hdep ⟨6, .data⟩ (by simp) rfl) rfl
   simp only [List.getD_cons_succ, List.getD_cons_zero] at e17
   generalize f 17 = f17 at *; subst e17
   go_simp
   refine (clone_l _ _ _ _ wx (HN2.out.below hB) HZ2.out).mono ?_
   rintro e0 w' ⟨A0, n0, c0, rfl, hr, hb⟩
   exact hK _ w' (gs6 rfl (fun w2 h2 => ⟨A0, n0, c0, rfl, hr.num.below h2⟩)) hb (hB.trans (hb.mono hB.size)) (nb6 rfl rfl)
  ·have e12 := dv6 (hdep ⟨1, .data⟩ (by simp) rfl) rfl
   have e15 := ds6 (hdep ⟨4, .data⟩ (by simp) rfl) rfl
   have e18 := ds6 (hdep ⟨7, .data⟩ (by simp) rfl) rfl
   simp only [List.getD_cons_succ, List.getD_cons_zero] at e12 e15 e18
   generalize f 12 = f12 at *; subst e12
   replace e15 := (show ∃ A n c, (f 15) = .slice A n c ∧ Num wx (limbs q.num.natAbs) A n c from e15)
   generalize f 15 = f15 at *
   replace e18 := (show ∃ A n c, (f 18) = .slice A n c ∧ Num wx (dl q.den) A n c from e18)
   generalize f 18 = f18 at *
   obtain ⟨A0, n0, c0, rfl, k15⟩ := e15
   obtain ⟨B0, m0, d0, rfl, k18⟩ := e18
   go_simp
   exact hK _ wx (gs6 rfl (fun w2 h2 => ⟨A0, n0, c0, B0, m0, d0, rfl, RatQ.below (ratq_parts HNB.out k15 k18) h2⟩)) (Below.refl _ _) hB (nb6 rfl rfl)
  all_goals go_simp
  all_goals exact hK _ wx (gv6 rfl) (Below.refl _ _) hB (nb6 rfl rfl)
 case fin =>
  intro f wx hB hG hne
  have e19 := ds6 (hG 8 (by decide)) rfl
  replace e19 := (show ∃ A n c B m e, (f 19) = .agg #[.bool nb, .slice A n c, .slice B m e] ∧ RatQ wx (f 19) q from e19)
  clear hG hne
  simp only [frontAct, List.foldl_cons, List.foldl_nil, List.setIfInBounds_toArray, List.set_cons_succ, List.set_cons_zero]
  generalize f 19 = f19 at *
  obtain ⟨A0, n0, c0, B0, m0, d0, rfl, hq9⟩ := e19
  have cs := HRES.out.below hB HRL.out
  have f0 := cs.frozen 0
  have f1 := cs.frozen 1
  have f2 := cs.frozen 2
  obtain ⟨r0, r1, r2⟩ := cs.c3
  have HEND : Hid (RatQ (setL wx w.heap.size 0 [.bool nb, .slice A0 n0 c0, .slice B0 m0 d0]) (.agg #[.bool nb, .slice A0 n0 c0, .slice B0 m0 d0]) q ∧ Below w.heap.size w (setL wx w.heap.size 0 [.bool nb, .slice A0 n0 c0, .slice B0 m0 d0])) := Lib.hid ⟨hq9.setL cs (by simp) _, below_setL (Nat.le_refl _) _ _ (HBB.out.trans (hB.mono HBB.out.size))⟩
  have HCS : Hid (Cs (setL wx w.heap.size 0 [.bool nb, .slice A0 n0 c0, .slice B0 m0 d0]) w.heap.size [.bool nb, .slice A0 n0 c0, .slice B0 m0 d0] 25) := Lib.hid (cs.setL _ rfl)
  clear hq9 cs hB
  refine wpAny_ready (rs := [9]) (by kernel_rfl) (by simp) ?_
  refine AllReady.cons rfl (fun K hK => ?_) AllReady.nil
  have HQ := Lib.hid hK
  clear hK
  go_simp
  refine HQ.out _ _ ?_
  clear HQ K
  refine wpAny_done (by kernel_rfl) ?_ _
  go_wp2_with fail
  refine ret_cs Tryz.results24 Tryz.underlying25 (by kernel_rfl) rfl HCS.out rfl ?_
  exact ⟨_, rfl, HEND.out⟩

set_option maxRecDepth 20000 in
set_option maxHeartbeats 2000000 in
theorem r2_Lowest (v : Value) (p : List Mon) (L : Nat) (w : World) (h : PIr w v p L) : Calls Tryz.prog 25 #[v] w (RetRat w (lowL p)) := by
 obtain ⟨hb1, c1⟩ := blk1 w [.bool false, .slice none 0 0, .slice none 0 0] 25
 have hvp := h.vp
 have hlen := vp_length hvp
 have h1 := h.below hb1
 clear h
 go_enter Tryz.func25, Tryz.ntmps25
 go_wp2_with fail
 refine (r2_Take_p _ p L _ h1).mono ?_
 rintro e2 w2 ⟨v2, rfl, hp2, hb2⟩
 have hB2 := hb1.trans (hb2.mono hb1.size)
 have cs := c1.below hb2 c1.lt
 have hpol := hp2.pol
 obtain ⟨A2, c2, rfl⟩ := hpol.slice
 have f0 := cs.frozen 0
 have f1 := cs.frozen 1
 have f2 := cs.frozen 2
 have yy := cs.c3
 clear h1 hp2 hb1 hb2
 have HB := Lib.hid hB2
 have HCS := Lib.hid cs
 clear hB2 cs
 rcases Nat.eq_zero_or_pos p.length with h0 | h0
 ·have hl : p = [] := List.eq_nil_of_length_eq_zero h0
  subst hl
  clear h0 hlen hvp hpol
  rw [List.length_nil]
  go_wp2_with fail
  refine ret_cs Tryz.results25 Tryz.underlying25 (by kernel_rfl) rfl (HCS.out.setL [.bool false, .slice none 0 0, .slice none 0 0] rfl) rfl ?_
  exact ⟨_, rfl, ratq_zero _, below_setL (Nat.le_refl _) [.bool false, .slice none 0 0, .slice none 0 0] 0 HB.out⟩
 ·obtain ⟨m, hm⟩ : ∃ m, p[p.length - 1]? = some m := ⟨p[p.length - 1], List.getElem?_eq_getElem (by omega)⟩
  obtain ⟨bq, oq, y0, y1, y2, rfl, hbq, hat, hcoef⟩ := hpol.at hm
  obtain ⟨nb, Ay, ny, cy, By, my, ey, heq⟩ := hcoef.agg
  simp only [Value.agg.injEq, Array.mk.injEq, List.cons.injEq, and_true] at heq
  obtain ⟨rfl, rfl, rfl⟩ := heq
  obtain ⟨n1, hn1⟩ : ∃ n1, p.length - 1 = n1 := ⟨_, rfl⟩
  have hln : p.length = n1 + 1 := by omega
  have hw1 : IntKind.i64.wrap ((n1 : Int) + 1 - 1) = (n1 : Int) := by rw [show (n1 : Int) + 1 - 1 = n1 by omega]; exact IntWalk.i64_in _ (by omega)
  rw [hn1] at hat
  obtain ⟨x0, x1, x2, x3, x4, x5⟩ := hat
  have hw2 : wrap64 (n1 : Int) = (n1 : Int) := IntWalk.wrap64_in _ ⟨by omega, by omega⟩
  have hw3 : wrap64 ((n1 : Int) + 1 - 1) = (n1 : Int) := by rw [show (n1 : Int) + 1 - 1 = n1 by omega]; exact hw2
  have hneg : ¬ (n1 : Int) < 0 := by omega
  have hneg' : (n1 : Int) < (n1 : Int) + 1 := by omega
  have hpos : 0 < (n1 : Int) + 1 := by omega
  have hposd : decide (0 < (n1 : Int) + 1) = true := decide_eq_true hpos
  have HLN := Lib.hid hln
  have HM := Lib.hid hm
  have HN1 := Lib.hid hn1
  have HCO := Lib.hid hcoef
  by_cases hz : m.1 = (0, 0, 0)
  ·obtain ⟨s1, s2⟩ := split_some hvp hm hz
   have hz0 : ((m.1.1 : Nat) : Int) = 0 := by rw [hz]; rfl
   have hz1 : ((m.1.2.1 : Nat) : Int) = 0 := by rw [hz]; rfl
   have hz2 : ((m.1.2.2 : Nat) : Int) = 0 := by rw [hz]; rfl
   rw [hz0] at x0
   rw [hz1] at x1
   rw [hz2] at x2
   have heq : ∀ w : World, (Op.equalIn 10000 57 (.agg #[.int .i64 0, .int .i64 0, .int .i64 0]) (.agg #[.int .i64 0, .int .i64 0, .int .i64 0])).run Tryz.prog w = .ok true w := fun w => eq_exps 0 0 0 0 0 0 w
   have S2 := Lib.hid s2
   clear hz hz0 hz1 hz2 s1 s2 hln hm hn1 h0 hcoef hpol hvp hlen
   rw [HLN.out]
   go_wp2_with fail
   refine ret_cs Tryz.results25 Tryz.underlying25 (by kernel_rfl) rfl (HCS.out.setL [.bool nb, .slice Ay ny cy, .slice By my ey] rfl) rfl ?_
   refine ⟨_, rfl, ?_, below_setL (Nat.le_refl _) [.bool nb, .slice Ay ny cy, .slice By my ey] 0 HB.out⟩
   rw [S2.out]
   exact HCO.out.setL (k := 0) HCS.out (by simp) [.bool nb, .slice Ay ny cy, .slice By my ey]
  ·obtain ⟨s1, s2⟩ := split_none (fun m' hm' => by rw [hm] at hm'; cases hm'; exact hz) hvp
   have heq : ∀ w : World, (Op.equalIn 10000 57 (.agg #[.int .i64 (m.1.1 : Int), .int .i64 (m.1.2.1 : Int), .int .i64 (m.1.2.2 : Int)]) (.agg #[.int .i64 0, .int .i64 0, .int .i64 0])).run Tryz.prog w = .ok false w := fun w => by
    rw [eq_exps]
    congr 1
    rw [Bool.eq_false_iff]
    intro h
    simp only [Bool.and_eq_true, beq_iff_eq] at h
    exact hz (Prod.ext (by show m.1.1 = 0; omega) (Prod.ext (by show m.1.2.1 = 0; omega) (by show m.1.2.2 = 0; omega)))
   have S2 := Lib.hid s2
   clear hz s1 s2 hln hm hn1 h0 hcoef hpol hvp hlen
   rw [HLN.out]
   go_wp2_with fail
   have hlow := S2.out
   refine ret_cs Tryz.results25 Tryz.underlying25 (by kernel_rfl) rfl (HCS.out.setL [.bool false, .slice none 0 0, .slice none 0 0] rfl) rfl ?_
   refine ⟨_, rfl, ?_, below_setL (Nat.le_refl _) [.bool false, .slice none 0 0, .slice none 0 0] 0 HB.out⟩
   rw [hlow]
   exact ratq_zero _
end Go.Proofs.YtifeekomegoijaaGreatDoor

namespace Go.Proofs.YtifeekomegoijaaGreatDoor
open Go.RowKit

end Go.Proofs.YtifeekomegoijaaGreatDoor

namespace Go.Proofs.YtifeekomegoijaaGreatDoor
open Go.RowKit

end Go.Proofs.YtifeekomegoijaaGreatDoor

namespace Go.Proofs.YtifeekomegoijaaGreatDoor
open Go.RowKit

theorem PIr.lift {w : World} {v : Value} {p : List Mon} {L M : Nat} (h : PIr w v p L) (hm : L ≤ M) : PIr w v p M := by
 obtain ⟨raw, a, b, c⟩ := h
 exact ⟨raw, a, b, c.mono hm⟩
end Go.Proofs.YtifeekomegoijaaGreatDoor
