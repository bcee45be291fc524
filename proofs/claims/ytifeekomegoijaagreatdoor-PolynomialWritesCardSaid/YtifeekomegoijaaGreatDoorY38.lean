import Derived.RegionTactic
import Derived.Below
import Derived.Test.YtifeekomegoijaaGreatDoorY36
set_option linter.unusedVariables false
set_option linter.unusedSimpArgs false
set_option maxRecDepth 40000
set_option maxHeartbeats 16000000
namespace Go.Proofs.YtifeekomegoijaaGreatDoor
open Go Go.RowKit
section
variable {P : Program} {ops : Array Oper} {Q : Exit -> Act -> World -> Prop} {md : Region.Mode}
def upd (f : Nat -> Value) (d : Nat) (v : Value) : Nat -> Value := fun k => if k = d then v else f k
def dstOf (ops : Array Oper) (i : Nat) : Nat := ((ops[i]?).bind (·.dst)).getD 0
def waits (md : Region.Mode) (ops : Array Oper) : Nat -> Nat -> Nat -> Bool
 | 0, _, _ => false
 | n + 1, i, j => ((ops[i]?).map fun o => o.after.any fun e => Region.binds md e && (e.on == j || waits md ops n e.on j)).getD false
def frontOk (md : Region.Mode) (ops : Array Oper) (F : Nat -> Bool) : Bool :=
 (List.range ops.size).all fun i => match ops[i]? with
  | none => true
  | some o => if F i then (o.dst.isSome && o.after.all (fun e => !Region.binds md e || (decide (e.on < i) && F e.on)) && (List.range ops.size).all (fun j => !F j || j == i || dstOf ops j != dstOf ops i))
   else (List.range ops.size).all (fun j => !F j || waits md ops 9 i j)
structure Front (md : Region.Mode) (ops : Array Oper) (F S : Nat -> Bool) (G : Nat -> Value -> World -> Prop) (B : World -> Prop) (listed : Array Bool) (f : Nat -> Value) (w : World) : Prop where
 size : listed.size = ops.size
 got : ∀ i, i < ops.size -> listed.getD i false = true -> F i = true /\ G i (f (dstOf ops i)) w
 base : B w
 shut : ∀ i o, ops[i]? = some o -> listed.getD i false = true -> ∀ e ∈ o.after, Region.binds md e = true -> listed.getD e.on false = true
 apart : ∀ i j, i < ops.size -> j < ops.size -> listed.getD i false = true -> listed.getD j false = true -> S i = true -> S j = true -> i ≠ j -> f (dstOf ops i) ≠ f (dstOf ops j)
def left (ops : Array Oper) (F : Nat -> Bool) (listed : Array Bool) : Nat := (List.range ops.size).countP fun i => F i && !listed.getD i false
theorem frontOk_in {F : Nat -> Bool} (h : frontOk md ops F = true) {i : Nat} {o : Oper} (ho : ops[i]? = some o) (hi : F i = true) :
 (∃ d, o.dst = some d) /\ (∀ e ∈ o.after, Region.binds md e = true -> e.on < i /\ F e.on = true) /\ ∀ j, j < ops.size -> F j = true -> j ≠ i -> dstOf ops j ≠ dstOf ops i := by
 have hlt : i < ops.size := (Array.getElem?_eq_some_iff.1 ho).1
 have h1 := List.all_eq_true.1 h i (List.mem_range.2 hlt)
 simp only [ho, hi, if_true, Bool.and_eq_true] at h1
 refine ⟨Option.isSome_iff_exists.1 h1.1.1, fun e he hb => ?_, fun j hj hF hne => ?_⟩
 ·have := Array.all_eq_true_iff_forall_mem.1 h1.1.2 e he
  simpa [hb] using this
 ·have := List.all_eq_true.1 h1.2 j (List.mem_range.2 hj)
  simpa [hF, hne] using this
theorem waits_listed {listed : Array Bool} (shut : ∀ i o, ops[i]? = some o -> listed.getD i false = true -> ∀ e ∈ o.after, Region.binds md e = true -> listed.getD e.on false = true) {j : Nat} : ∀ (n i : Nat) (o : Oper), ops[i]? = some o -> (∀ e ∈ o.after, Region.binds md e = true -> listed.getD e.on false = true) -> waits md ops n i j = true -> listed.getD j false = true
 | 0, _, _, _, _, h => by cases h
 | n + 1, i, o, ho, hd, h => by
   unfold waits at h
   rw [ho] at h
   obtain ⟨e, he, hb⟩ := Array.any_eq_true'.1 (show (o.after.any fun e => Region.binds md e && (e.on == j || waits md ops n e.on j)) = true from h)
   simp only [Bool.and_eq_true, Bool.or_eq_true, beq_iff_eq] at hb
   have hl := hd e he hb.1
   rcases hb.2 with h1 | h1
   ·rw [<- h1]; exact hl
   ·cases ho' : ops[e.on]? with
    | none =>
      cases n with
      | zero => cases h1
      | succ n => unfold waits at h1; rw [ho'] at h1; cases h1
    | some o' => exact waits_listed shut n e.on o' ho' (shut e.on o' ho' hl) h1
theorem frontOk_out {F : Nat -> Bool} (h : frontOk md ops F = true) {i : Nat} {o : Oper} (ho : ops[i]? = some o) (hi : F i = false) {j : Nat} (hj : j < ops.size) (hF : F j = true) : waits md ops 9 i j = true := by
 have hlt : i < ops.size := (Array.getElem?_eq_some_iff.1 ho).1
 have h1 := List.all_eq_true.1 h i (List.mem_range.2 hlt)
 simp only [ho, hi, Bool.false_eq_true, if_false] at h1
 have h2 := List.all_eq_true.1 h1 j (List.mem_range.2 hj)
 rw [hF] at h2
 simpa using h2
theorem dstOf_some {i d : Nat} {o : Oper} (ho : ops[i]? = some o) (hd : o.dst = some d) : dstOf ops i = d := by simp [dstOf, ho, hd]
theorem countP_one {p q : Nat -> Bool} {i : Nat} (hp : p i = true) (hq : q i = false) (h : ∀ j, j ≠ i -> q j = p j) : ∀ l : List Nat, l.Nodup -> i ∈ l -> l.countP p = l.countP q + 1
 | [], _, hm => by cases hm
 | x :: l, hnd, hm => by
   have hx := List.nodup_cons.1 hnd
   by_cases e : x = i
   ·subst e
    have : l.countP p = l.countP q := List.countP_congr fun j hj => by
     rw [h j (fun e => hx.1 (e ▸ hj))]
    simp [hp, hq, this]
   ·have hm' : i ∈ l := (List.mem_cons.1 hm).resolve_left (fun e' => e e'.symm)
    have ih := countP_one hp hq h l hx.2 hm'
    simp only [List.countP_cons, h x e]
    omega
theorem left_step {F : Nat -> Bool} {listed : Array Bool} {i : Nat} (hs : listed.size = ops.size) (hi : i < ops.size) (hF : F i = true) (hu : listed.getD i true = false) : left ops F listed = left ops F (listed.setIfInBounds i true) + 1 := by
 have hl : listed.getD i false = false := by
  have h' : i < listed.size := by omega
  simp [h'] at hu ⊢
  exact hu
 refine countP_one (i := i) (by simp [hF, hl]) ?_ (fun j hj => ?_) _ List.nodup_range (List.mem_range.2 hi)
 ·have h' : i < listed.size := by omega
  simp [h']
 ·rw [Go.getD_set_ne false (Ne.symm hj)]
theorem left_zero {F : Nat -> Bool} {listed : Array Bool} (h : left ops F listed = 0) {i : Nat} (hi : i < ops.size) (hF : F i = true) : listed.getD i false = true := by
 have := List.countP_eq_zero.1 h i (List.mem_range.2 hi)
 simpa [hF] using this
theorem listed_eq {F : Nat -> Bool} {listed : Array Bool} (hs : listed.size = ops.size) (h0 : left ops F listed = 0) (hg : ∀ i, i < ops.size -> listed.getD i false = true -> F i = true) : listed = ((List.range ops.size).map F).toArray := by
 apply Array.ext
 ·simp [hs]
 ·intro i h1 h2
  have hi : i < ops.size := by omega
  have e : listed.getD i false = listed[i] := by simp [h1]
  have er : ((List.range ops.size).map F).toArray[i] = F i := by simp
  rw [er]
  cases hF : F i
  ·cases hl : listed[i]
   ·rfl
   ·have := hg i hi (by rw [e, hl])
    rw [hF] at this; cases this
  ·rw [<- e]; exact left_zero h0 hi hF
theorem front_ready {F : Nat -> Bool} (hok : frontOk md ops F = true) {listed : Array Bool} (hs : listed.size = ops.size) (h : 0 < left ops F listed) : Region.ready md ops listed ≠ [] := by
 have hex : ∃ i, i < ops.size /\ F i = true /\ listed.getD i false = false := by
  obtain ⟨i, hi, hp⟩ := List.countP_pos_iff.1 h
  simp only [Bool.and_eq_true, Bool.not_eq_true'] at hp
  exact ⟨i, List.mem_range.1 hi, hp.1, hp.2⟩
 have key : ∀ n, ∀ i, i <= n -> i < ops.size -> F i = true -> listed.getD i false = false -> ∃ j, j ∈ Region.ready md ops listed := by
  intro n
  induction n with
  | zero =>
    intro i hn hi hF hl
    refine ⟨i, mem_ready.2 ⟨?_, ops[i], Array.getElem?_eq_getElem hi, fun e he hb => ?_⟩⟩
    ·have h' : i < listed.size := by omega
     simp [h'] at hl ⊢
     exact hl
    ·have := ((frontOk_in hok (Array.getElem?_eq_getElem hi) hF).2.1 e he hb).1
     omega
  | succ n ih =>
    intro i hn hi hF hl
    by_cases hall : ∀ e ∈ (ops[i]).after, Region.binds md e = true -> listed.getD e.on false = true
    ·refine ⟨i, mem_ready.2 ⟨?_, ops[i], Array.getElem?_eq_getElem hi, hall⟩⟩
     have h' : i < listed.size := by omega
     simp [h'] at hl ⊢
     exact hl
    ·obtain ⟨e, he⟩ := Classical.not_forall.1 hall
     obtain ⟨he, h2⟩ := Classical.not_imp.1 he
     obtain ⟨hb, h3⟩ := Classical.not_imp.1 h2
     obtain ⟨h4, h5⟩ := (frontOk_in hok (Array.getElem?_eq_getElem hi) hF).2.1 e he hb
     exact ih e.on (by omega) (by omega) h5 (by simpa using h3)
 obtain ⟨i, hi, hF, hl⟩ := hex
 obtain ⟨j, hj⟩ := key i i (Nat.le_refl _) hi hF hl
 intro h0
 rw [h0] at hj
 cases hj
def StepOk (P : Program) (md : Region.Mode) (ops : Array Oper) (Q : Exit -> Act -> World -> Prop) (S : Nat -> Bool) (A : (Nat -> Value) -> Act) (G : Nat -> Value -> World -> Prop) (B : World -> Prop) (i : Nat) (o : Oper) : Prop :=
 ∀ (f : Nat -> Value) (w : World), B w -> (∀ e ∈ o.after, Region.binds md e = true -> G e.on (f (dstOf ops e.on)) w) ->
  ∀ K : Act -> World -> Prop, (∀ v w', G i v w' -> Below w.heap.size w w' -> B w' -> (S i = true -> ∃ g, v = .pointer (some ⟨g, 0, none⟩) /\ w.heap.size <= g) -> K ((A f).put o.dst v) w') ->
   if Region.wanted o (yielded ops (A f).tmps) = true then Oper.wp P o (A f) w K Q else K ((A f).put o.dst undef) w
theorem wpAny_front (F S : Nat -> Bool) (A : (Nat -> Value) -> Act) (G : Nat -> Value -> World -> Prop) (B : World -> Prop) (hok : frontOk md ops F = true)
 (hput : ∀ i o d f v, ops[i]? = some o -> F i = true -> o.dst = some d -> (A f).put (some d) v = A (upd f d v))
 (mono : ∀ i v w w', G i v w -> Below w.heap.size w w' -> G i v w')
 (ptr : ∀ i v w, S i = true -> G i v w -> ∃ g, v = .pointer (some ⟨g, 0, none⟩) /\ g < w.heap.size)
 (step : ∀ i o, ops[i]? = some o -> F i = true -> StepOk P md ops Q S A G B i o) (r : Nat)
 (fin : ∀ f w, B w -> (∀ i, i < ops.size -> F i = true -> G i (f (dstOf ops i)) w) -> (∀ i j, i < ops.size -> j < ops.size -> F i = true -> F j = true -> S i = true -> S j = true -> i ≠ j -> f (dstOf ops i) ≠ f (dstOf ops j)) -> wpAny P md ops Q r ((List.range ops.size).map F).toArray (A f) w) :
 ∀ (n : Nat) (listed : Array Bool) (f : Nat -> Value) (w : World), left ops F listed = n -> Front md ops F S G B listed f w -> wpAny P md ops Q (n + r) listed (A f) w
 | 0, listed, f, w, hn, h => by
   rw [Nat.zero_add, listed_eq h.size hn (fun i hi hl => (h.got i hi hl).1)]
   exact fin f w h.base (fun i hi hF => (h.got i hi (left_zero hn hi hF)).2) fun i j hi hj hFi hFj hSi hSj hne => h.apart i j hi hj (left_zero hn hi hFi) (left_zero hn hj hFj) hSi hSj hne
 | n + 1, listed, f, w, hn, h => by
   rw [show n + 1 + r = (n + r) + 1 from by omega]
   refine ⟨fun h0 => absurd h0 (front_ready hok h.size (by omega)), fun i hi => ?_⟩
   obtain ⟨hu, o, ho, hdep⟩ := mem_ready.1 hi
   have hlt : i < ops.size := (Array.getElem?_eq_some_iff.1 ho).1
   have hF : F i = true := by
    cases hF : F i
    ·obtain ⟨j, hj, hp⟩ := List.countP_pos_iff.1 (show 0 < left ops F listed by omega)
     simp only [Bool.and_eq_true, Bool.not_eq_true'] at hp
     have := waits_listed h.shut 9 i o ho hdep (frontOk_out hok ho hF (List.mem_range.1 hj) hp.1)
     rw [hp.2] at this; cases this
    ·rfl
   obtain ⟨⟨d, hd⟩, hin, hother⟩ := frontOk_in hok ho hF
   refine wpOp_step ho fun K hK => ?_
   refine step i o ho hF f w h.base (fun e he hb => ?_) K fun v w' hG hbl hB hS => ?_
   ·obtain ⟨h1, h2⟩ := hin e he hb
    exact (h.got e.on (by omega) (hdep e he hb)).2
   ·rw [hd, hput i o d f v ho hF hd]
    have hdi := dstOf_some ho hd
    have new : ∀ k, k < ops.size -> k ≠ i -> (listed.setIfInBounds i true).getD k false = true -> listed.getD k false = true /\ upd f d v (dstOf ops k) = f (dstOf ops k) := fun k hk hki hlk => by
     rw [Go.getD_set_ne false (Ne.symm hki)] at hlk
     refine ⟨hlk, ?_⟩
     have hne : dstOf ops k ≠ d := by rw [<- hdi]; exact hother k hk (h.got k hk hlk).1 hki
     unfold upd
     rw [if_neg hne]
    have old : ∀ k, k < ops.size -> k ≠ i -> listed.getD k false = true -> S k = true -> S i = true -> f (dstOf ops k) ≠ v := fun k hk hki hlk hSk hSi he => by
     obtain ⟨g, hg, hgl⟩ := ptr k _ w hSk (h.got k hk hlk).2
     obtain ⟨g', hg', hgl'⟩ := hS hSi
     rw [hg, hg'] at he
     injection he with he
     injection he with he
     injection he with he
     omega
    have own : upd f d v (dstOf ops i) = v := by rw [hdi]; unfold upd; rw [if_pos rfl]
    refine hK _ _ (wpAny_front F S A G B hok hput mono ptr step r fin n _ _ _ (by have := left_step (F := F) h.size hlt hF hu; omega) ⟨by simp [h.size], fun j hj hl => ?_, hB, fun j oj hoj hl e he hb => ?_, fun j k hj hk hlj hlk hSj hSk hjk => ?_⟩)
    ·by_cases hji : j = i
     ·subst hji
      exact ⟨hF, by rw [hdi]; unfold upd; rw [if_pos rfl]; exact hG⟩
     ·rw [Go.getD_set_ne false (Ne.symm hji)] at hl
      obtain ⟨hFj, hGj⟩ := h.got j hj hl
      refine ⟨hFj, ?_⟩
      have hne : dstOf ops j ≠ d := by rw [<- hdi]; exact hother j hj hFj hji
      unfold upd
      rw [if_neg hne]
      exact mono _ _ _ _ hGj hbl
    ·by_cases hji : j = i
     ·subst hji
      obtain rfl : o = oj := Option.some.inj (ho.symm.trans hoj)
      exact getD_set_true (hdep e he hb)
     ·rw [Go.getD_set_ne false (Ne.symm hji)] at hl
      exact getD_set_true (h.shut j oj hoj hl e he hb)
    ·by_cases hji : j = i
     ·subst hji
      obtain ⟨hlk', e2⟩ := new k hk (Ne.symm hjk) hlk
      rw [own, e2]
      exact (old k hk (Ne.symm hjk) hlk' hSk hSj).symm
     ·obtain ⟨hlj', e1⟩ := new j hj hji hlj
      by_cases hki : k = i
      ·subst hki
       rw [own, e1]
       exact old j hj hji hlj' hSj hSk
      ·obtain ⟨hlk', e2⟩ := new k hk hki hlk
       rw [e1, e2]
       exact h.apart j k hj hk hlj' hlk' hSj hSk hjk
theorem left_all {F : Nat -> Bool} : left ops F (Array.replicate ops.size false) = (List.range ops.size).countP F := by
 unfold left
 refine List.countP_congr fun i hi => ?_
 simp [List.mem_range.1 hi]
theorem wp_region_front {id : Nat} (hm : P.follows .mixedOrders = true) (F S : Nat -> Bool) (A : (Nat -> Value) -> Act) (G : Nat -> Value -> World -> Prop) (B : World -> Prop) (f0 : Nat -> Value) {a : Act} {w : World} (ha : a = A f0) (hB : B w.drew) (hok : frontOk .any ops F = true)
 (hput : ∀ i o d f v, ops[i]? = some o -> F i = true -> o.dst = some d -> (A f).put (some d) v = A (upd f d v))
 (mono : ∀ i v w w', G i v w -> Below w.heap.size w w' -> G i v w')
 (ptr : ∀ i v w, S i = true -> G i v w -> ∃ g, v = .pointer (some ⟨g, 0, none⟩) /\ g < w.heap.size)
 (step : ∀ i o, ops[i]? = some o -> F i = true -> StepOk P .any ops Q S A G B i o) (r : Nat) (hr : (List.range ops.size).countP F + r = ops.size)
 (fin : ∀ f w, B w -> (∀ i, i < ops.size -> F i = true -> G i (f (dstOf ops i)) w) -> (∀ i j, i < ops.size -> j < ops.size -> F i = true -> F j = true -> S i = true -> S j = true -> i ≠ j -> f (dstOf ops i) ≠ f (dstOf ops j)) -> wpAny P .any ops Q r ((List.range ops.size).map F).toArray (A f) w) :
 (Code.region id ops true).wp P Q a w := by
 refine wp_region_any hm ?_
 subst ha
 have h := wpAny_front F S A G B hok hput mono ptr step r fin _ (Array.replicate ops.size false) f0 w.drew left_all ⟨by simp, fun i hi hl => ?_, hB, fun i o ho hl => ?_, fun i j hi hj hl => ?_⟩
 ·rw [hr] at h
  exact h
 ·simp [hi] at hl
 ·simp [(Array.getElem?_eq_some_iff.1 ho).1] at hl
 ·simp [hi] at hl
theorem fold_get (f : Nat -> Value) (k : Nat) : ∀ (D : List Nat) (t : Array Value), (D.foldl (fun t d => t.setIfInBounds d (f d)) t)[k]? = if k ∈ D /\ k < t.size then some (f k) else t[k]?
 | [], t => by simp
 | d :: D, t => by
   rw [List.foldl_cons, fold_get f k D, Array.size_setIfInBounds]
   by_cases hk : k < t.size
   ·by_cases hd : k = d
    ·subst hd
     by_cases hm : k ∈ D <;> simp [hk, hm]
    ·by_cases hm : k ∈ D
     ·simp [hk, hm]
     ·simp [hm, hd, Array.getElem?_setIfInBounds_ne (Ne.symm hd)]
   ·rw [if_neg (fun h => hk h.2), if_neg (fun h => hk h.2)]
    rw [Array.getElem?_eq_none (by simp; omega), Array.getElem?_eq_none (by omega)]
theorem fold_size (f : Nat -> Value) : ∀ (D : List Nat) (t : Array Value), (D.foldl (fun t d => t.setIfInBounds d (f d)) t).size = t.size
 | [], t => rfl
 | d :: D, t => by rw [List.foldl_cons, fold_size f D, Array.size_setIfInBounds]
def frontAct (a0 : Act) (D : List Nat) (f : Nat -> Value) : Act := { a0 with tmps := D.foldl (fun t d => t.setIfInBounds d (f d)) a0.tmps }
theorem frontAct_self (a0 : Act) (D : List Nat) : a0 = frontAct a0 D (fun d => a0.tmps.getD d undef) := by
 obtain ⟨t, ds⟩ := a0
 unfold frontAct
 congr 1
 apply Array.ext_getElem?
 intro k
 rw [fold_get]
 split
 ·rename_i h
  simp [h.2]
 ·rfl
theorem frontAct_put (a0 : Act) (D : List Nat) (f : Nat -> Value) (d : Nat) (v : Value) (hd : d ∈ D) : (frontAct a0 D f).put (some d) v = frontAct a0 D (upd f d v) := by
 have h : (D.foldl (fun t d => t.setIfInBounds d (f d)) a0.tmps).setIfInBounds d v = D.foldl (fun t e => t.setIfInBounds e (upd f d v e)) a0.tmps := by
  apply Array.ext_getElem?
  intro k
  rw [fold_get]
  by_cases hk : k < a0.tmps.size
  ·by_cases hkd : k = d
   ·subst hkd
    have e : (D.foldl (fun t d => t.setIfInBounds d (f d)) a0.tmps).size = a0.tmps.size := fold_size _ _ _
    rw [if_pos ⟨hd, hk⟩, Array.getElem?_setIfInBounds_self_of_lt (by rw [e]; exact hk)]
    unfold upd; rw [if_pos rfl]
   ·rw [Array.getElem?_setIfInBounds_ne (Ne.symm hkd), fold_get]
    unfold upd; rw [if_neg hkd]
  ·rw [if_neg (fun h => hk h.2), Array.getElem?_eq_none (by rw [Array.size_setIfInBounds, fold_size]; omega), Array.getElem?_eq_none (by omega)]
 unfold frontAct Act.put
 show ({ tmps := _, defers := _ } : Act) = { tmps := _, defers := _ }
 exact congrArg (fun t => ({ tmps := t, defers := a0.defers } : Act)) h
theorem wp_region_front0 {id : Nat} (hm : P.follows .mixedOrders = true) (F S : Nat -> Bool) (D : List Nat) (G : Nat -> Value -> World -> Prop) (B : World -> Prop) {a : Act} {w : World} (hB : B w.drew) (hok : frontOk .any ops F = true)
 (hD : (List.range ops.size).all (fun i => !F i || D.contains (dstOf ops i)) = true)
 (mono : ∀ i v w w', G i v w -> Below w.heap.size w w' -> G i v w')
 (ptr : ∀ i v w, S i = true -> G i v w -> ∃ g, v = .pointer (some ⟨g, 0, none⟩) /\ g < w.heap.size)
 (step : ∀ i o, ops[i]? = some o -> F i = true -> StepOk P .any ops Q S (frontAct a D) G B i o) (r : Nat) (hr : (List.range ops.size).countP F + r = ops.size) (l : Array Bool) (hl : ((List.range ops.size).map F).toArray = l)
 (fin : ∀ f w, B w -> (∀ i, i < ops.size -> F i = true -> G i (f (dstOf ops i)) w) -> (∀ i j, i < ops.size -> j < ops.size -> F i = true -> F j = true -> S i = true -> S j = true -> i ≠ j -> f (dstOf ops i) ≠ f (dstOf ops j)) -> wpAny P .any ops Q r l (frontAct a D f) w) :
 (Code.region id ops true).wp P Q a w :=
 wp_region_front hm F S (frontAct a D) G B _ (frontAct_self a D) hB hok (fun i o d f v ho hF hd => frontAct_put a D f d v (by
  have := List.all_eq_true.1 hD i (List.mem_range.2 (Array.getElem?_eq_some_iff.1 ho).1)
  rw [dstOf_some ho hd] at this
  simpa [hF] using this)) mono ptr step r hr (hl ▸ fin)
end
theorem zf1 {α β : Type} {f : β -> α -> β} {a : α} {l : List α} {b : β} : (a :: l).foldl f b = l.foldl f (f b a) := rfl
theorem zf2 {α β : Type} {f : β -> α -> β} {b : β} : ([] : List α).foldl f b = b := rfl
theorem zf3 {α : Type} (l : List α) (i : Nat) (a : α) : l.toArray.setIfInBounds i a = (l.set i a).toArray := by simp
theorem zf4 {α : Type} {l : List α} {x a : α} {n : Nat} : (x :: l).set (n + 1) a = x :: l.set n a := rfl
theorem zf5 {α : Type} {l : List α} {x a : α} : (x :: l).set 0 a = a :: l := rfl
theorem zf6 {α : Type} {l : List α} {x d : α} {n : Nat} : (x :: l).getD (n + 1) d = l.getD n d := by simp
theorem zf7 {α : Type} {l : List α} {x d : α} : (x :: l).getD 0 d = x := rfl
theorem cs9 {i : Nat} (h : i < 9) : i = 0 \/ i = 1 \/ i = 2 \/ i = 3 \/ i = 4 \/ i = 5 \/ i = 6 \/ i = 7 \/ i = 8 := by omega
theorem cs14 {i : Nat} (h : i < 14) : i = 0 \/ i = 1 \/ i = 2 \/ i = 3 \/ i = 4 \/ i = 5 \/ i = 6 \/ i = 7 \/ i = 8 \/ i = 9 \/ i = 10 \/ i = 11 \/ i = 12 \/ i = 13 := by omega
theorem cs15 {i : Nat} (h : i < 15) : i = 0 \/ i = 1 \/ i = 2 \/ i = 3 \/ i = 4 \/ i = 5 \/ i = 6 \/ i = 7 \/ i = 8 \/ i = 9 \/ i = 10 \/ i = 11 \/ i = 12 \/ i = 13 \/ i = 14 := by omega
theorem cs44 {i : Nat} (h : i < 44) : i = 0 \/ i = 1 \/ i = 2 \/ i = 3 \/ i = 4 \/ i = 5 \/ i = 6 \/ i = 7 \/ i = 8 \/ i = 9 \/ i = 10 \/ i = 11 \/ i = 12 \/ i = 13 \/ i = 14 \/ i = 15 \/ i = 16 \/ i = 17 \/ i = 18 \/ i = 19 \/ i = 20 \/ i = 21 \/ i = 22 \/ i = 23 \/ i = 24 \/ i = 25 \/ i = 26 \/ i = 27 \/ i = 28 \/ i = 29 \/ i = 30 \/ i = 31 \/ i = 32 \/ i = 33 \/ i = 34 \/ i = 35 \/ i = 36 \/ i = 37 \/ i = 38 \/ i = 39 \/ i = 40 \/ i = 41 \/ i = 42 \/ i = 43 := by omega
inductive Sq where
 | val (v : Value)
 | st (R : World -> Value -> Prop)
 | blk (B : Nat) (l : List Value) (t : TypeId)
 | any
def Sq.holds : Sq -> Value -> World -> Prop
 | .val v, a, _ => a = v
 | .st R, a, w => ∀ w', Below w.heap.size w w' -> R w' a
 | .blk B l t, a, w => ∃ g, a = .pointer (some ⟨g, 0, none⟩) /\ B <= g /\ Cs w g l t
 | .any, _, _ => True
def Sq.isBlk : Sq -> Bool
 | .blk _ _ _ => true
 | _ => false
def gOf6 (L : List Sq) (i : Nat) (a : Value) (w : World) : Prop := (L.getD i .any).holds a w
def sOf6 (L : List Sq) (i : Nat) : Bool := (L.getD i .any).isBlk
theorem gOf6_keep (L : List Sq) (i : Nat) (a : Value) (w w' : World) (h : gOf6 L i a w) (hb : Below w.heap.size w w') : gOf6 L i a w' := by
 unfold gOf6 at *
 generalize L.getD i .any = s at *
 cases s with
 | val v => exact h
 | st R => exact fun w2 h2 => h w2 (hb.trans (h2.mono hb.size))
 | blk B l t =>
   obtain ⟨g, h1, h2, h3⟩ := h
   exact ⟨g, h1, h2, h3.below hb h3.lt⟩
 | any => trivial
theorem gOf6_ptr (L : List Sq) (i : Nat) (a : Value) (w : World) (hs : sOf6 L i = true) (h : gOf6 L i a w) : ∃ g, a = .pointer (some ⟨g, 0, none⟩) /\ g < w.heap.size := by
 unfold gOf6 at h
 unfold sOf6 at hs
 generalize L.getD i .any = s at *
 cases s with
 | val v => cases hs
 | st R => cases hs
 | blk B l t =>
   obtain ⟨g, h1, h2, h3⟩ := h
   exact ⟨g, h1, h3.lt⟩
 | any => cases hs
theorem at6 {L : List Sq} {i : Nat} {s : Sq} (h : L[i]? = some s) : L.getD i .any = s := by rw [List.getD_eq_getElem?_getD, h]; rfl
theorem gv6 {L : List Sq} {i : Nat} {a : Value} {w : World} (h : L[i]? = some (.val a)) : gOf6 L i a w := by unfold gOf6; rw [at6 h]; exact rfl
theorem gs6 {L : List Sq} {i : Nat} {a : Value} {w : World} {R : World -> Value -> Prop} (h : L[i]? = some (.st R)) (hr : ∀ w', Below w.heap.size w w' -> R w' a) : gOf6 L i a w := by unfold gOf6; rw [at6 h]; exact hr
theorem dv6 {L : List Sq} {i : Nat} {a v : Value} {w : World} (h : gOf6 L i a w) (hv : L[i]? = some (.val v)) : a = v := by unfold gOf6 at h; rw [at6 hv] at h; exact h
theorem ds6 {L : List Sq} {i : Nat} {a : Value} {w : World} {R : World -> Value -> Prop} (h : gOf6 L i a w) (hv : L[i]? = some (.st R)) : R w a := by unfold gOf6 at h; rw [at6 hv] at h; exact h w (Below.refl _ _)
theorem nb6 {L : List Sq} {i : Nat} {s : Sq} {p : Prop} (hv : L[i]? = some s) (hs : s.isBlk = false) : sOf6 L i = true -> p := by
 intro h
 unfold sOf6 at h
 rw [at6 hv, hs] at h
 cases h
section
variable {P : Program} {ops : Array Oper} {Q : Exit -> Act -> World -> Prop}
def Step6 (P : Program) (ops : Array Oper) (Q : Exit -> Act -> World -> Prop) (D : List Nat) (L : List Sq) (a : Act) (w0 : World) (i : Nat) (o : Oper) (f : Nat -> Value) (wx : World) : Prop :=
 (∀ e ∈ o.after, Region.binds .any e = true -> gOf6 L e.on (f (D.getD e.on 0)) wx) ->
  ∀ K : Act -> World -> Prop, (∀ v w', gOf6 L i v w' -> Below wx.heap.size wx w' -> Below w0.heap.size w0 w' -> (sOf6 L i = true -> ∃ g, v = .pointer (some ⟨g, 0, none⟩) /\ wx.heap.size <= g) -> K ((frontAct a D f).put o.dst v) w') ->
   if Region.wanted o (yielded ops (frontAct a D f).tmps) = true then Oper.wp P o (frontAct a D f) wx K Q else K ((frontAct a D f).put o.dst undef) wx
theorem wp_region6 {id : Nat} (n : Nat) (D : List Nat) (L : List Sq) {a : Act} {w : World} (hm : P.follows .mixedOrders = true) (hok : frontOk .any ops (fun i => decide (i < n)) = true)
 (hD : (List.range n).all (fun i => dstOf ops i == D.getD i 0) = true) (hn : decide (n <= D.length /\ n <= ops.size) = true)
 (step : ∀ (i : Nat), i < n -> ∀ o, ops[i]? = some o -> ∀ (f : Nat -> Value) (wx : World), Below w.drew.heap.size w.drew wx -> Step6 P ops Q D L a w.drew i o f wx)
 (r : Nat) (hr : (List.range ops.size).countP (fun i => decide (i < n)) + r = ops.size) (l : Array Bool) (hl : ((List.range ops.size).map (fun i => decide (i < n))).toArray = l)
 (fin : ∀ f wx, Below w.drew.heap.size w.drew wx -> (∀ i, i < n -> gOf6 L i (f (D.getD i 0)) wx) -> (∀ i j, i < n -> j < n -> sOf6 L i = true -> sOf6 L j = true -> i ≠ j -> f (D.getD i 0) ≠ f (D.getD j 0)) -> wpAny P .any ops Q r l (frontAct a D f) wx) :
 (Code.region id ops true).wp P Q a w := by
 obtain ⟨hn1, hn2⟩ := of_decide_eq_true hn
 have hd : ∀ i, i < n -> dstOf ops i = D.getD i 0 := fun i hi => by simpa using List.all_eq_true.1 hD i (List.mem_range.2 hi)
 refine wp_region_front0 hm (fun i => decide (i < n)) (sOf6 L) D (gOf6 L) (fun wx => Below w.drew.heap.size w.drew wx) (Below.refl _ _) hok ?_ (gOf6_keep _) (gOf6_ptr _) ?_ r hr l hl ?_
 ·refine List.all_eq_true.2 (fun i hi => ?_)
  by_cases h : i < n
  ·rw [hd i h]
   have : D.getD i 0 ∈ D := by rw [List.getD_eq_getElem?_getD, List.getElem?_eq_getElem (by omega)]; exact List.getElem_mem _
   simp [h]
   simpa using this
  ·simp [h]
 ·intro i o ho hF f wx hB hdep K hK
  refine step i (of_decide_eq_true hF) o ho f wx hB (fun e he hb => ?_) K hK
  have h1 := hdep e he hb
  have h2 : e.on < i := ((frontOk_in hok ho hF).2.1 e he hb).1
  rw [hd e.on (by have := of_decide_eq_true hF; omega)] at h1
  exact h1
 ·intro f wx hB hG hne
  refine fin f wx hB (fun i hi => ?_) (fun i j hi hj h1 h2 h3 => ?_)
  ·have := hG i (by omega) (decide_eq_true hi)
   rwa [hd i hi] at this
  ·have := hne i j (by omega) (by omega) (decide_eq_true hi) (decide_eq_true hj) h1 h2 h3
   rwa [hd i hi, hd j hj] at this
end
end Go.Proofs.YtifeekomegoijaaGreatDoor
namespace Go.Proofs.YtifeekomegoijaaGreatDoor
open Go.RowKit
def PRe (w : World) (v : Value) (l : List RawM) : Prop := PBy (fun z q => Inr w z q) w v l /\ l.length <= 1000000
theorem PRe.below {w w' : World} {v : Value} {l : List RawM} (h : PRe w v l) (hb : Below w.heap.size w w') : PRe w' v l := ⟨h.1.imp (fun _ _ hr => hr.below hb) hb.size hb.block, h.2⟩
theorem PRe.at6 {w : World} {A : Option Addr} {n c : Nat} {l : List RawM} (h : PRe w (.slice A n c) l) {i : Nat} {e : Int × Int × Int} {q : Rat} (hi : l[i]? = some (e, q)) :
 ∃ b o nb A' n' c' B' m' e', A = some ⟨b, o, none⟩ /\ b < w.heap.size /\ At6 w b (o + i * 6) (.int .i64 e.1) (.int .i64 e.2.1) (.int .i64 e.2.2) (.bool nb) (.slice A' n' c') (.slice B' m' e') /\ Inr w (.agg #[.bool nb, .slice A' n' c', .slice B' m' e']) q := by
 obtain ⟨b, o, z0, z1, z2, hA, hb, hat, hr⟩ := h.1.at hi
 obtain ⟨nb, A', n', c', B', m', e', heq⟩ := hr.agg
 simp only [Value.agg.injEq, Array.mk.injEq, List.cons.injEq, and_true] at heq
 obtain ⟨rfl, rfl, rfl⟩ := heq
 exact ⟨b, o, nb, A', n', c', B', m', e', hA, hb, hat, hr⟩
theorem Inr.parts {w : World} {q : Rat} {nb : Bool} {A B : Option Addr} {n c m d : Nat} (h : Inr w (.agg #[.bool nb, .slice A n c, .slice B m d]) q) : ∃ ln ld, Num w ln A n c /\ Num w ld B m d /\ n <= 1000000 /\ m <= 1000000 /\ fq nb ln ld = q := by
 obtain ⟨neg, A1, n1, c1, A2, m1, c2, ln, ld, e, h1, h2, h3, h4, h5⟩ := h
 simp only [Value.agg.injEq, Array.mk.injEq, List.cons.injEq, and_true, Value.bool.injEq, Value.slice.injEq] at e
 obtain ⟨rfl, ⟨rfl, rfl, rfl⟩, rfl, rfl, rfl⟩ := e
 exact ⟨ln, ld, h1, h2, h3, h4, h5⟩
theorem r_SignV (v : Value) (q : Rat) (sg : Int) (w : World) (h : Inr w v q) (hs : Hid (q.num.sign = sg)) : Calls Tryz.prog 51 #[v] w (RetV w (.int .i64 sg)) := by
 rw [<- hs.out]; exact r_Sign v q w h
theorem lexI_anti (e f : Int × Int × Int) : lexI e f = - lexI f e := by
 unfold lexI
 repeat' split
 all_goals omega
theorem no_bool {V : Bool} {l : List RawM} {k : Nat} (h : Hid ((V = true ↔ vraw l) /\ k < l.length /\ ¬ okAt l k)) : false = V := by
 cases V
 ·rfl
 ·exact absurd (h.out.1.1 rfl k h.out.2.1) h.out.2.2
theorem r2_Valid (v : Value) (l : List RawM) (w : World) (h : PRe w v l) (V : Bool) (HV : Hid (V = true ↔ vraw l)) : Calls Tryz.prog 15 #[v] w (RetV w (.bool V)) := by
 obtain ⟨A, cap, rfl⟩ := PBy.slice h.1
 have hlen := h.2
 go_enter Tryz.func15, Tryz.ntmps15
 go_wp2_with fail
 go_loopw [3] (fun i wr => ∃ k, k <= l.length /\ i = .int .i64 (k : Int) /\ Below w.heap.size w wr /\ Hid (∀ j, j < k -> okAt l j)) (fun i _ => (l.length - intOf i).toNat)
 case atStart => exact ⟨0, Nat.zero_le _, rfl, Below.refl _ _, show Hid _ from fun j h1 => by omega⟩
 case round =>
  obtain ⟨k, hk, rfl, hB, HO⟩ := hrel
  rcases Nat.lt_or_ge k l.length with hkn | hkn
  ·obtain ⟨⟨e, q⟩, hm⟩ : ∃ m, l[k]? = some m := ⟨l[k], List.getElem?_eq_getElem hkn⟩
   obtain ⟨b, o, nb, A', n', c', B', m', d', rfl, hb, hat, hr⟩ := h.at6 hm
   obtain ⟨ln, ld, hn1, hn2, hs1, hs2, hfq⟩ := hr.parts
   have hltk : (k : Int) < (l.length : Int) := by omega
   have HK := Lib.hid hkn
   have HM := Lib.hid hm
   have HBW := Lib.hid hB.drew
   have HAT : Hid (At6 wr.drew b (o + k * 6) _ _ _ _ _ _) := Lib.hid ((hat.below hB hb).below (Below.refl _ _).drew (Nat.lt_of_lt_of_le hb hB.size))
   have HLT : Hid (b < wr.drew.heap.size) := Lib.hid (Nat.lt_of_lt_of_le hb hB.size)
   have HN1 := Lib.hid hn1
   have HN2 := Lib.hid hn2
   have HSN := Lib.hid (And.intro hs1 hs2)
   have HIN := Lib.hid hr
   have HFQ := Lib.hid hfq
   have HPW := Lib.hid h
   clear hk hkn hm hB hat hb hn1 hn2 hs1 hs2 hr hfq h
   obtain ⟨kn, hkn⟩ : ∃ kn, knownI (e.1, e.2.1, e.2.2) = kn := ⟨_, rfl⟩
   have hke : knownI e = kn := hkn
   cases kn
   ·have HKN := Lib.hid hkn
    have HNO : Hid ((V = true ↔ vraw l) /\ k < l.length /\ ¬ okAt l k) := Lib.hid ⟨HV.out, HK.out, fun ho => by have := (ho _ HM.out).1; rw [hke] at this; cases this⟩
    clear hkn hke
    go_upto_region 4 with (fail)
    refine wp_region6 44 [10, 11, 12, 13, 14, 15, 16, 17, 18, 19, 20, 21, 22, 23, 24, 25, 26, 27, 28, 29, 30, 31, 32, 33, 34, 35, 36, 37, 38, 39, 40, 41, 42, 43, 44, 45, 46, 47, 48, 49, 50, 51, 52, 53] [.val (.slice (some ⟨b, o, none⟩) l.length cap), .val (.int .i64 (k : Int)), .val (.pointer (some ⟨b, o + k * 6, none⟩)), .val (.pointer (some ⟨b, o + k * 6, none⟩)), .val (.agg #[.int .i64 e.1, .int .i64 e.2.1, .int .i64 e.2.2]), .val (.bool false), .val (.bool true), .val (.bool true), .val (undef), .val (undef), .val (undef), .val (undef), .val (undef), .val (undef), .val (undef), .val (.bool true), .val (.bool true), .val (undef), .val (undef), .val (undef), .val (undef), .val (undef), .val (undef), .val (undef), .val (.bool true), .val (.bool true), .val (undef), .val (undef), .val (undef), .val (undef), .val (undef), .val (undef), .val (undef), .val (undef), .val (undef), .val (undef), .val (undef), .val (undef), .val (undef), .val (undef), .val (undef), .val (undef), .val (undef), .val (.bool true)] (by kernel_rfl) (by kernel_rfl) (by kernel_rfl) (by kernel_rfl) ?stepa 0 (by kernel_rfl) _ rfl ?fina
    case stepa =>
     intro i hi oi ho f wx hB hdep K hK
     simp only [frontAct, zf1, zf2, zf3, zf4, zf5] at hK ⊢
     obtain ⟨x0, x1, x2, x3, x4, x5⟩ := HAT.out.below hB HLT.out
     obtain rfl | rfl | rfl | rfl | rfl | rfl | rfl | rfl | rfl | rfl | rfl | rfl | rfl | rfl | rfl | rfl | rfl | rfl | rfl | rfl | rfl | rfl | rfl | rfl | rfl | rfl | rfl | rfl | rfl | rfl | rfl | rfl | rfl | rfl | rfl | rfl | rfl | rfl | rfl | rfl | rfl | rfl | rfl | rfl := cs44 hi
     all_goals
      obtain rfl := Option.some.inj ho
      simp only [Act.put, zf3, zf4, zf5] at hK
     rotate_left 5
     ·have e14 := dv6 (hdep ⟨4, .data⟩ (by simp) rfl) rfl
      simp only [zf6, zf7] at e14
      generalize f 14 = f14 at *; subst e14
      go_simp
      refine (r2_possible e.1 e.2.1 e.2.2 wx false HKN).mono ?_
      rintro e0 w' ⟨rfl, hb⟩
      exact hK (.bool false) w' (gv6 rfl) hb (hB.trans (hb.mono hB.size)) (nb6 rfl rfl)
     rotate_left 38
     all_goals simp [gOf6, Sq.holds, Region.binds] at hdep
     all_goals try simp only [hdep] at hK ⊢
     all_goals go_simp
     all_goals exact hK _ wx (gv6 rfl) (Below.refl _ _) hB (nb6 rfl rfl)
    case fina =>
     intro f wx hB hG hne
     have e53 := dv6 (a := f 53) (hG 43 (by decide)) rfl
     clear hG hne
     simp only [frontAct, zf1, zf2, zf3, zf4, zf5]
     generalize f 53 = f53 at *
     subst e53
     refine wpAny_done (by kernel_rfl) ?_ _
     go_wp2_with fail
     go_ret
     exact ⟨ret_bool (no_bool HNO), HBW.out.trans (hB.mono HBW.out.size)⟩
   have HKN := Lib.hid hkn
   have HKE := Lib.hid hke
   clear hkn hke
   obtain ⟨vd, hvd⟩ : ∃ vd, vld nb ln ld = vd := ⟨_, rfl⟩
   cases vd
   ·have HVD := Lib.hid hvd
    have HNO : Hid ((V = true ↔ vraw l) /\ k < l.length /\ ¬ okAt l k) := Lib.hid ⟨HV.out, HK.out, fun ho => (ho _ HM.out).2.1 (by show q = 0; rw [<- HFQ.out]; unfold fq; rw [HVD.out]; rfl)⟩
    clear hvd
    go_upto_region 4 with (fail)
    refine wp_region6 44 [10, 11, 12, 13, 14, 15, 16, 17, 18, 19, 20, 21, 22, 23, 24, 25, 26, 27, 28, 29, 30, 31, 32, 33, 34, 35, 36, 37, 38, 39, 40, 41, 42, 43, 44, 45, 46, 47, 48, 49, 50, 51, 52, 53] [.val (.slice (some ⟨b, o, none⟩) l.length cap), .val (.int .i64 (k : Int)), .val (.pointer (some ⟨b, o + k * 6, none⟩)), .val (.pointer (some ⟨b, o + k * 6, none⟩)), .val (.agg #[.int .i64 e.1, .int .i64 e.2.1, .int .i64 e.2.2]), .val (.bool true), .val (.bool false), .val (.bool false), .val (.slice (some ⟨b, o, none⟩) l.length cap), .val (.int .i64 (k : Int)), .val (.pointer (some ⟨b, o + k * 6, none⟩)), .val (.pointer (some ⟨b, o + k * 6 + 3, none⟩)), .val (.agg #[.bool nb, .slice A' n' c', .slice B' m' d']), .val (.bool false), .val (.bool true), .val (.bool true), .val (.bool true), .val (undef), .val (undef), .val (undef), .val (undef), .val (undef), .val (undef), .val (undef), .val (.bool true), .val (.bool true), .val (undef), .val (undef), .val (undef), .val (undef), .val (undef), .val (undef), .val (undef), .val (undef), .val (undef), .val (undef), .val (undef), .val (undef), .val (undef), .val (undef), .val (undef), .val (undef), .val (undef), .val (.bool true)] (by kernel_rfl) (by kernel_rfl) (by kernel_rfl) (by kernel_rfl) ?stepb 0 (by kernel_rfl) _ rfl ?finb
    case stepb =>
     intro i hi oi ho f wx hB hdep K hK
     simp only [frontAct, zf1, zf2, zf3, zf4, zf5] at hK ⊢
     obtain ⟨x0, x1, x2, x3, x4, x5⟩ := HAT.out.below hB HLT.out
     obtain rfl | rfl | rfl | rfl | rfl | rfl | rfl | rfl | rfl | rfl | rfl | rfl | rfl | rfl | rfl | rfl | rfl | rfl | rfl | rfl | rfl | rfl | rfl | rfl | rfl | rfl | rfl | rfl | rfl | rfl | rfl | rfl | rfl | rfl | rfl | rfl | rfl | rfl | rfl | rfl | rfl | rfl | rfl | rfl := cs44 hi
     all_goals
      obtain rfl := Option.some.inj ho
      simp only [Act.put, zf3, zf4, zf5] at hK
     rotate_left 5
     ·have e14 := dv6 (hdep ⟨4, .data⟩ (by simp) rfl) rfl
      simp only [zf6, zf7] at e14
      generalize f 14 = f14 at *; subst e14
      go_simp
      refine (r2_possible e.1 e.2.1 e.2.2 wx true HKN).mono ?_
      rintro e0 w' ⟨rfl, hb⟩
      exact hK (.bool true) w' (gv6 rfl) hb (hB.trans (hb.mono hB.size)) (nb6 rfl rfl)
     rotate_left 7
     ·have e17 := dv6 (hdep ⟨7, .guard⟩ (by simp) rfl) rfl
      have e22 := dv6 (hdep ⟨12, .data⟩ (by simp) rfl) rfl
      simp only [zf6, zf7] at e17 e22
      generalize f 17 = f17 at *; subst e17
      generalize f 22 = f22 at *; subst e22
      have hB0 := HBW.out.trans (hB.mono HBW.out.size)
      go_simp
      refine (r_Valid nb A' B' n' c' m' d' ln ld wx false (HN1.out.below hB0) (HN2.out.below hB0) HSN.out.1 HSN.out.2 HVD).mono ?_
      rintro e0 w' ⟨rfl, hb⟩
      exact hK (.bool false) w' (gv6 rfl) hb (hB.trans (hb.mono hB.size)) (nb6 rfl rfl)
     rotate_left 30
     all_goals simp [gOf6, Sq.holds, Region.binds] at hdep
     all_goals try simp only [hdep] at hK ⊢
     all_goals go_simp
     all_goals exact hK _ wx (gv6 rfl) (Below.refl _ _) hB (nb6 rfl rfl)
    case finb =>
     intro f wx hB hG hne
     have e53 := dv6 (a := f 53) (hG 43 (by decide)) rfl
     clear hG hne
     simp only [frontAct, zf1, zf2, zf3, zf4, zf5]
     generalize f 53 = f53 at *
     subst e53
     refine wpAny_done (by kernel_rfl) ?_ _
     go_wp2_with fail
     go_ret
     exact ⟨ret_bool (no_bool HNO), HBW.out.trans (hB.mono HBW.out.size)⟩
   have HVD := Lib.hid hvd
   clear hvd
   obtain ⟨sg, hsg⟩ : ∃ sg, q.num.sign = sg := ⟨_, rfl⟩
   have HSG := Lib.hid hsg
   by_cases hq : q = 0
   ·have HSZ : Hid ((sg == 0) = true) := Lib.hid (by rw [<- HSG.out, sign_zero, hq]; rfl)
    have HNO : Hid ((V = true ↔ vraw l) /\ k < l.length /\ ¬ okAt l k) := Lib.hid ⟨HV.out, HK.out, fun ho => (ho _ HM.out).2.1 hq⟩
    clear hq hsg
    go_upto_region 4 with (fail)
    refine wp_region6 44 [10, 11, 12, 13, 14, 15, 16, 17, 18, 19, 20, 21, 22, 23, 24, 25, 26, 27, 28, 29, 30, 31, 32, 33, 34, 35, 36, 37, 38, 39, 40, 41, 42, 43, 44, 45, 46, 47, 48, 49, 50, 51, 52, 53] [.val (.slice (some ⟨b, o, none⟩) l.length cap), .val (.int .i64 (k : Int)), .val (.pointer (some ⟨b, o + k * 6, none⟩)), .val (.pointer (some ⟨b, o + k * 6, none⟩)), .val (.agg #[.int .i64 e.1, .int .i64 e.2.1, .int .i64 e.2.2]), .val (.bool true), .val (.bool false), .val (.bool false), .val (.slice (some ⟨b, o, none⟩) l.length cap), .val (.int .i64 (k : Int)), .val (.pointer (some ⟨b, o + k * 6, none⟩)), .val (.pointer (some ⟨b, o + k * 6 + 3, none⟩)), .val (.agg #[.bool nb, .slice A' n' c', .slice B' m' d']), .val (.bool true), .val (.bool false), .val (.bool false), .val (.bool false), .val (.slice (some ⟨b, o, none⟩) l.length cap), .val (.int .i64 (k : Int)), .val (.pointer (some ⟨b, o + k * 6, none⟩)), .val (.pointer (some ⟨b, o + k * 6 + 3, none⟩)), .val (.agg #[.bool nb, .slice A' n' c', .slice B' m' d']), .val (.int .i64 sg), .val (.bool true), .val (.bool true), .val (.bool true), .val (undef), .val (undef), .val (undef), .val (undef), .val (undef), .val (undef), .val (undef), .val (undef), .val (undef), .val (undef), .val (undef), .val (undef), .val (undef), .val (undef), .val (undef), .val (undef), .val (undef), .val (.bool true)] (by kernel_rfl) (by kernel_rfl) (by kernel_rfl) (by kernel_rfl) ?stepc 0 (by kernel_rfl) _ rfl ?finc
    case stepc =>
     intro i hi oi ho f wx hB hdep K hK
     simp only [frontAct, zf1, zf2, zf3, zf4, zf5] at hK ⊢
     obtain ⟨x0, x1, x2, x3, x4, x5⟩ := HAT.out.below hB HLT.out
     obtain rfl | rfl | rfl | rfl | rfl | rfl | rfl | rfl | rfl | rfl | rfl | rfl | rfl | rfl | rfl | rfl | rfl | rfl | rfl | rfl | rfl | rfl | rfl | rfl | rfl | rfl | rfl | rfl | rfl | rfl | rfl | rfl | rfl | rfl | rfl | rfl | rfl | rfl | rfl | rfl | rfl | rfl | rfl | rfl := cs44 hi
     all_goals
      obtain rfl := Option.some.inj ho
      simp only [Act.put, zf3, zf4, zf5] at hK
     rotate_left 5
     ·have e14 := dv6 (hdep ⟨4, .data⟩ (by simp) rfl) rfl
      simp only [zf6, zf7] at e14
      generalize f 14 = f14 at *; subst e14
      go_simp
      refine (r2_possible e.1 e.2.1 e.2.2 wx true HKN).mono ?_
      rintro e0 w' ⟨rfl, hb⟩
      exact hK (.bool true) w' (gv6 rfl) hb (hB.trans (hb.mono hB.size)) (nb6 rfl rfl)
     rotate_left 7
     ·have e17 := dv6 (hdep ⟨7, .guard⟩ (by simp) rfl) rfl
      have e22 := dv6 (hdep ⟨12, .data⟩ (by simp) rfl) rfl
      simp only [zf6, zf7] at e17 e22
      generalize f 17 = f17 at *; subst e17
      generalize f 22 = f22 at *; subst e22
      have hB0 := HBW.out.trans (hB.mono HBW.out.size)
      go_simp
      refine (r_Valid nb A' B' n' c' m' d' ln ld wx true (HN1.out.below hB0) (HN2.out.below hB0) HSN.out.1 HSN.out.2 HVD).mono ?_
      rintro e0 w' ⟨rfl, hb⟩
      exact hK (.bool true) w' (gv6 rfl) hb (hB.trans (hb.mono hB.size)) (nb6 rfl rfl)
     rotate_left 8
     ·have e26 := dv6 (hdep ⟨16, .guard⟩ (by simp) rfl) rfl
      have e31 := dv6 (hdep ⟨21, .data⟩ (by simp) rfl) rfl
      simp only [zf6, zf7] at e26 e31
      generalize f 26 = f26 at *; subst e26
      generalize f 31 = f31 at *; subst e31
      have hB0 := HBW.out.trans (hB.mono HBW.out.size)
      go_simp
      refine (r_SignV _ q sg wx (HIN.out.below hB0) HSG).mono ?_
      rintro e0 w' ⟨rfl, hb⟩
      exact hK (.int .i64 sg) w' (gv6 rfl) hb (hB.trans (hb.mono hB.size)) (nb6 rfl rfl)
     have hsz := HSZ.out
     rotate_left 21
     all_goals simp [gOf6, Sq.holds, Region.binds] at hdep
     all_goals try simp only [hdep] at hK ⊢
     all_goals go_simp
     all_goals exact hK _ wx (gv6 rfl) (Below.refl _ _) hB (nb6 rfl rfl)
    case finc =>
     intro f wx hB hG hne
     have e53 := dv6 (a := f 53) (hG 43 (by decide)) rfl
     clear hG hne
     simp only [frontAct, zf1, zf2, zf3, zf4, zf5]
     generalize f 53 = f53 at *
     subst e53
     refine wpAny_done (by kernel_rfl) ?_ _
     go_wp2_with fail
     go_ret
     exact ⟨ret_bool (no_bool HNO), HBW.out.trans (hB.mono HBW.out.size)⟩
   have HSZ : Hid ((sg == 0) = false) := Lib.hid (by rw [<- HSG.out, sign_zero]; exact decide_eq_false hq)
   have HQ0 := Lib.hid hq
   clear hq hsg
   by_cases h0 : k = 0
   ·have HK0 : Hid (decide (0 < k) = false) := Lib.hid (decide_eq_false (by omega))
    have HYES : Hid (Hid (∀ j, j < k + 1 -> okAt l j)) := Lib.hid (Lib.hid (vraw_upto HO.out (fun m hm2 => by
     obtain rfl : (e, q) = m := Option.some.inj (HM.out.symm.trans hm2)
     exact ⟨HKE.out, HQ0.out, fun h => absurd h (by omega)⟩)))
    clear h0
    go_upto_region 4 with (fail)
    refine wp_region6 44 [10, 11, 12, 13, 14, 15, 16, 17, 18, 19, 20, 21, 22, 23, 24, 25, 26, 27, 28, 29, 30, 31, 32, 33, 34, 35, 36, 37, 38, 39, 40, 41, 42, 43, 44, 45, 46, 47, 48, 49, 50, 51, 52, 53] [.val (.slice (some ⟨b, o, none⟩) l.length cap), .val (.int .i64 (k : Int)), .val (.pointer (some ⟨b, o + k * 6, none⟩)), .val (.pointer (some ⟨b, o + k * 6, none⟩)), .val (.agg #[.int .i64 e.1, .int .i64 e.2.1, .int .i64 e.2.2]), .val (.bool true), .val (.bool false), .val (.bool false), .val (.slice (some ⟨b, o, none⟩) l.length cap), .val (.int .i64 (k : Int)), .val (.pointer (some ⟨b, o + k * 6, none⟩)), .val (.pointer (some ⟨b, o + k * 6 + 3, none⟩)), .val (.agg #[.bool nb, .slice A' n' c', .slice B' m' d']), .val (.bool true), .val (.bool false), .val (.bool false), .val (.bool false), .val (.slice (some ⟨b, o, none⟩) l.length cap), .val (.int .i64 (k : Int)), .val (.pointer (some ⟨b, o + k * 6, none⟩)), .val (.pointer (some ⟨b, o + k * 6 + 3, none⟩)), .val (.agg #[.bool nb, .slice A' n' c', .slice B' m' d']), .val (.int .i64 sg), .val (.bool false), .val (.bool false), .val (.bool false), .val (.int .i64 (k : Int)), .val (.bool false), .val (.bool false), .val (undef), .val (undef), .val (undef), .val (undef), .val (undef), .val (undef), .val (undef), .val (undef), .val (undef), .val (undef), .val (undef), .val (undef), .val (undef), .val (.bool false), .val (.bool false)] (by kernel_rfl) (by kernel_rfl) (by kernel_rfl) (by kernel_rfl) ?stepd 0 (by kernel_rfl) _ rfl ?find
    case stepd =>
     intro i hi oi ho f wx hB hdep K hK
     simp only [frontAct, zf1, zf2, zf3, zf4, zf5] at hK ⊢
     obtain ⟨x0, x1, x2, x3, x4, x5⟩ := HAT.out.below hB HLT.out
     obtain rfl | rfl | rfl | rfl | rfl | rfl | rfl | rfl | rfl | rfl | rfl | rfl | rfl | rfl | rfl | rfl | rfl | rfl | rfl | rfl | rfl | rfl | rfl | rfl | rfl | rfl | rfl | rfl | rfl | rfl | rfl | rfl | rfl | rfl | rfl | rfl | rfl | rfl | rfl | rfl | rfl | rfl | rfl | rfl := cs44 hi
     all_goals
      obtain rfl := Option.some.inj ho
      simp only [Act.put, zf3, zf4, zf5] at hK
     rotate_left 5
     ·have e14 := dv6 (hdep ⟨4, .data⟩ (by simp) rfl) rfl
      simp only [zf6, zf7] at e14
      generalize f 14 = f14 at *; subst e14
      go_simp
      refine (r2_possible e.1 e.2.1 e.2.2 wx true HKN).mono ?_
      rintro e0 w' ⟨rfl, hb⟩
      exact hK (.bool true) w' (gv6 rfl) hb (hB.trans (hb.mono hB.size)) (nb6 rfl rfl)
     rotate_left 7
     ·have e17 := dv6 (hdep ⟨7, .guard⟩ (by simp) rfl) rfl
      have e22 := dv6 (hdep ⟨12, .data⟩ (by simp) rfl) rfl
      simp only [zf6, zf7] at e17 e22
      generalize f 17 = f17 at *; subst e17
      generalize f 22 = f22 at *; subst e22
      have hB0 := HBW.out.trans (hB.mono HBW.out.size)
      go_simp
      refine (r_Valid nb A' B' n' c' m' d' ln ld wx true (HN1.out.below hB0) (HN2.out.below hB0) HSN.out.1 HSN.out.2 HVD).mono ?_
      rintro e0 w' ⟨rfl, hb⟩
      exact hK (.bool true) w' (gv6 rfl) hb (hB.trans (hb.mono hB.size)) (nb6 rfl rfl)
     rotate_left 8
     ·have e26 := dv6 (hdep ⟨16, .guard⟩ (by simp) rfl) rfl
      have e31 := dv6 (hdep ⟨21, .data⟩ (by simp) rfl) rfl
      simp only [zf6, zf7] at e26 e31
      generalize f 26 = f26 at *; subst e26
      generalize f 31 = f31 at *; subst e31
      have hB0 := HBW.out.trans (hB.mono HBW.out.size)
      go_simp
      refine (r_SignV _ q sg wx (HIN.out.below hB0) HSG).mono ?_
      rintro e0 w' ⟨rfl, hb⟩
      exact hK (.int .i64 sg) w' (gv6 rfl) hb (hB.trans (hb.mono hB.size)) (nb6 rfl rfl)
     have hsz := HSZ.out
     rotate_left 4
     have hk0 := HK0.out
     rotate_left 17
     all_goals simp [gOf6, Sq.holds, Region.binds] at hdep
     all_goals try simp only [hdep] at hK ⊢
     all_goals go_simp
     all_goals exact hK _ wx (gv6 rfl) (Below.refl _ _) hB (nb6 rfl rfl)
    case find =>
     intro f wx hB hG hne
     have e53 := dv6 (a := f 53) (hG 43 (by decide)) rfl
     clear hG hne
     simp only [frontAct, zf1, zf2, zf3, zf4, zf5]
     generalize f 53 = f53 at *
     subst e53
     refine wpAny_done (by kernel_rfl) ?_ _
     go_wp2_with fail
     exact ⟨⟨k + 1, HK.out, congrArg (Value.int _) (by omega), HBW.out.trans (hB.mono HBW.out.size), HYES.out⟩, by simp [intOf]; have := HK.out; omega⟩
   have HK0 : Hid (decide (0 < k) = true) := Lib.hid (decide_eq_true (by omega))
   obtain ⟨⟨e1, q1⟩, hm1⟩ : ∃ m, l[k - 1]? = some m := ⟨l[k - 1], List.getElem?_eq_getElem (by have := HK.out; omega)⟩
   obtain ⟨b1, o1, nb1, A1, n1, c1, B1, m1, d1, heq, hb1, hat1, _⟩ := HPW.out.at6 hm1
   obtain ⟨rfl, rfl⟩ : b1 = b /\ o1 = o := by simpa [eq_comm] using heq
   obtain ⟨k1, hk1⟩ : ∃ k1, k - 1 = k1 := ⟨_, rfl⟩
   rw [hk1] at hat1
   have HAP : Hid (At6 wr.drew b1 (o1 + k1 * 6) _ _ _ _ _ _) := Lib.hid (hat1.below HBW.out hb1)
   have HW1 : Hid (IntKind.i64.wrap ((k : Int) - 1) = (k1 : Int)) := Lib.hid (by rw [show (k : Int) - 1 = (k1 : Int) by omega]; exact IntWalk.i64_in _ (by have := HK.out; omega))
   have HW2 : Hid ((k1 : Int) < (l.length : Int)) := Lib.hid (by have := HK.out; omega)
   obtain ⟨V2, hV2⟩ : ∃ V2, lexI (e.1, e.2.1, e.2.2) (e1.1, e1.2.1, e1.2.2) = V2 := ⟨_, rfl⟩
   have HV2 := Lib.hid hV2
   have hle : lexI e1 e = - V2 := by rw [lexI_anti]; exact congrArg (fun z => -z) hV2
   have HORD : Hid ((0 <= V2 -> Hid ((V = true ↔ vraw l) /\ k < l.length /\ ¬ okAt l k)) /\ (¬ 0 <= V2 -> Hid (∀ j, j < k + 1 -> okAt l j))) := Lib.hid ⟨fun hv => Lib.hid ⟨HV.out, HK.out, fun ho => by
    have h3 := (ho _ HM.out).2.2 (by omega) (e1, q1) hm1
    have h3' : 0 < lexI e1 e := h3
    rw [hle] at h3'
    omega⟩, fun hv => Lib.hid (vraw_upto HO.out (fun m hm2 => by
    obtain rfl : (e, q) = m := Option.some.inj (HM.out.symm.trans hm2)
    refine ⟨HKE.out, HQ0.out, fun _ p hp => ?_⟩
    obtain rfl : (e1, q1) = p := Option.some.inj (hm1.symm.trans hp)
    show 0 < lexI e1 e
    rw [hle]; omega))⟩
   clear hm1 hat1 hb1 heq h0 hV2 hle hk1
   go_upto_region 4 with (fail)
   refine wp_region6 44 [10, 11, 12, 13, 14, 15, 16, 17, 18, 19, 20, 21, 22, 23, 24, 25, 26, 27, 28, 29, 30, 31, 32, 33, 34, 35, 36, 37, 38, 39, 40, 41, 42, 43, 44, 45, 46, 47, 48, 49, 50, 51, 52, 53] [.val (.slice (some ⟨b1, o1, none⟩) l.length cap), .val (.int .i64 (k : Int)), .val (.pointer (some ⟨b1, o1 + k * 6, none⟩)), .val (.pointer (some ⟨b1, o1 + k * 6, none⟩)), .val (.agg #[.int .i64 e.1, .int .i64 e.2.1, .int .i64 e.2.2]), .val (.bool true), .val (.bool false), .val (.bool false), .val (.slice (some ⟨b1, o1, none⟩) l.length cap), .val (.int .i64 (k : Int)), .val (.pointer (some ⟨b1, o1 + k * 6, none⟩)), .val (.pointer (some ⟨b1, o1 + k * 6 + 3, none⟩)), .val (.agg #[.bool nb, .slice A' n' c', .slice B' m' d']), .val (.bool true), .val (.bool false), .val (.bool false), .val (.bool false), .val (.slice (some ⟨b1, o1, none⟩) l.length cap), .val (.int .i64 (k : Int)), .val (.pointer (some ⟨b1, o1 + k * 6, none⟩)), .val (.pointer (some ⟨b1, o1 + k * 6 + 3, none⟩)), .val (.agg #[.bool nb, .slice A' n' c', .slice B' m' d']), .val (.int .i64 sg), .val (.bool false), .val (.bool false), .val (.bool false), .val (.int .i64 (k : Int)), .val (.bool true), .val (.bool true), .val (.slice (some ⟨b1, o1, none⟩) l.length cap), .val (.int .i64 (k : Int)), .val (.pointer (some ⟨b1, o1 + k * 6, none⟩)), .val (.pointer (some ⟨b1, o1 + k * 6, none⟩)), .val (.agg #[.int .i64 e.1, .int .i64 e.2.1, .int .i64 e.2.2]), .val (.slice (some ⟨b1, o1, none⟩) l.length cap), .val (.int .i64 (k : Int)), .val (.int .i64 (k1 : Int)), .val (.pointer (some ⟨b1, o1 + k1 * 6, none⟩)), .val (.pointer (some ⟨b1, o1 + k1 * 6, none⟩)), .val (.agg #[.int .i64 e1.1, .int .i64 e1.2.1, .int .i64 e1.2.2]), .val (.int .i64 V2), .val (.bool (decide (0 <= V2))), .val (.bool (decide (0 <= V2))), .val (.bool (decide (0 <= V2)))] (by kernel_rfl) (by kernel_rfl) (by kernel_rfl) (by kernel_rfl) ?stepe 0 (by kernel_rfl) _ rfl ?fine
   case stepe =>
    intro i hi oi ho f wx hB hdep K hK
    simp only [frontAct, zf1, zf2, zf3, zf4, zf5] at hK ⊢
    obtain ⟨x0, x1, x2, x3, x4, x5⟩ := HAT.out.below hB HLT.out
    obtain ⟨z0, z1, z2, z3, z4, z5⟩ := HAP.out.below hB HLT.out
    obtain rfl | rfl | rfl | rfl | rfl | rfl | rfl | rfl | rfl | rfl | rfl | rfl | rfl | rfl | rfl | rfl | rfl | rfl | rfl | rfl | rfl | rfl | rfl | rfl | rfl | rfl | rfl | rfl | rfl | rfl | rfl | rfl | rfl | rfl | rfl | rfl | rfl | rfl | rfl | rfl | rfl | rfl | rfl | rfl := cs44 hi
    all_goals
     obtain rfl := Option.some.inj ho
     simp only [Act.put, zf3, zf4, zf5] at hK
    rotate_left 5
    ·have e14 := dv6 (hdep ⟨4, .data⟩ (by simp) rfl) rfl
     simp only [zf6, zf7] at e14
     generalize f 14 = f14 at *; subst e14
     go_simp
     refine (r2_possible e.1 e.2.1 e.2.2 wx true HKN).mono ?_
     rintro e0 w' ⟨rfl, hb⟩
     exact hK (.bool true) w' (gv6 rfl) hb (hB.trans (hb.mono hB.size)) (nb6 rfl rfl)
    rotate_left 7
    ·have e17 := dv6 (hdep ⟨7, .guard⟩ (by simp) rfl) rfl
     have e22 := dv6 (hdep ⟨12, .data⟩ (by simp) rfl) rfl
     simp only [zf6, zf7] at e17 e22
     generalize f 17 = f17 at *; subst e17
     generalize f 22 = f22 at *; subst e22
     have hB0 := HBW.out.trans (hB.mono HBW.out.size)
     go_simp
     refine (r_Valid nb A' B' n' c' m' d' ln ld wx true (HN1.out.below hB0) (HN2.out.below hB0) HSN.out.1 HSN.out.2 HVD).mono ?_
     rintro e0 w' ⟨rfl, hb⟩
     exact hK (.bool true) w' (gv6 rfl) hb (hB.trans (hb.mono hB.size)) (nb6 rfl rfl)
    rotate_left 8
    ·have e26 := dv6 (hdep ⟨16, .guard⟩ (by simp) rfl) rfl
     have e31 := dv6 (hdep ⟨21, .data⟩ (by simp) rfl) rfl
     simp only [zf6, zf7] at e26 e31
     generalize f 26 = f26 at *; subst e26
     generalize f 31 = f31 at *; subst e31
     have hB0 := HBW.out.trans (hB.mono HBW.out.size)
     go_simp
     refine (r_SignV _ q sg wx (HIN.out.below hB0) HSG).mono ?_
     rintro e0 w' ⟨rfl, hb⟩
     exact hK (.int .i64 sg) w' (gv6 rfl) hb (hB.trans (hb.mono hB.size)) (nb6 rfl rfl)
    have hsz := HSZ.out
    rotate_left 4
    have hk0 := HK0.out
    rotate_left 9
    have hw1 := HW1.out
    have hw2 := HW2.out
    rotate_left
    have hw2 := HW2.out
    rotate_left 3
    ·have e38 := dv6 (hdep ⟨28, .guard⟩ (by simp) rfl) rfl
     have e43 := dv6 (hdep ⟨33, .data⟩ (by simp) rfl) rfl
     have e49 := dv6 (hdep ⟨39, .data⟩ (by simp) rfl) rfl
     simp only [zf6, zf7] at e38 e43 e49
     generalize f 38 = f38 at *; subst e38
     generalize f 43 = f43 at *; subst e43
     generalize f 49 = f49 at *; subst e49
     go_simp
     refine (r2_order e.1 e.2.1 e.2.2 e1.1 e1.2.1 e1.2.2 wx V2 HV2).mono ?_
     rintro e0 w' ⟨rfl, hb⟩
     exact hK (.int .i64 V2) w' (gv6 rfl) hb (hB.trans (hb.mono hB.size)) (nb6 rfl rfl)
    rotate_left 3
    all_goals simp [gOf6, Sq.holds, Region.binds] at hdep
    all_goals try simp only [hdep] at hK ⊢
    all_goals go_simp
    all_goals exact hK _ wx (gv6 rfl) (Below.refl _ _) hB (nb6 rfl rfl)
   case fine =>
    intro f wx hB hG hne
    have e53 := dv6 (a := f 53) (hG 43 (by decide)) rfl
    clear hG hne
    simp only [frontAct, zf1, zf2, zf3, zf4, zf5]
    generalize f 53 = f53 at *
    subst e53
    refine wpAny_done (by kernel_rfl) ?_ _
    by_cases hv2 : 0 <= V2
    ·have hdv : decide (0 <= V2) = true := decide_eq_true hv2
     rw [hdv]
     clear hdv
     have HV3 := Lib.hid hv2
     clear hv2
     go_wp2_with fail
     go_ret
     exact ⟨ret_bool (no_bool (HORD.out.1 HV3.out)), HBW.out.trans (hB.mono HBW.out.size)⟩
    ·have hdv : decide (0 <= V2) = false := decide_eq_false hv2
     rw [hdv]
     clear hdv
     have HV3 := Lib.hid hv2
     clear hv2
     go_wp2_with fail
     exact ⟨⟨k + 1, HK.out, congrArg (Value.int _) (by omega), HBW.out.trans (hB.mono HBW.out.size), HORD.out.2 HV3.out⟩, by simp [intOf]; have := HK.out; omega⟩
  ·obtain rfl : k = l.length := by omega
   have hlt : ¬ (l.length : Int) < (l.length : Int) := by omega
   go_wp2_with fail
   go_ret
   refine ⟨ret_bool ?_, hB⟩
   exact (HV.out.2 HO.out).symm
def MonV (m : Mon) (w : World) (a : Value) : Prop := ∃ nb A n c B k d, a = .agg #[.int .i64 (m.1.1 : Int), .int .i64 (m.1.2.1 : Int), .int .i64 (m.1.2.2 : Int), .bool nb, .slice A n c, .slice B k d] /\ RatQ w (.agg #[.bool nb, .slice A n c, .slice B k d]) m.2
def MonB (S : Nat) (m : Mon) (w : World) (a : Value) : Prop := ∃ g nb A n c B k d, a = .slice (some ⟨g, 0, none⟩) 1 1 /\ S <= g /\ Cs w g [.int .i64 (m.1.1 : Int), .int .i64 (m.1.2.1 : Int), .int .i64 (m.1.2.2 : Int), .bool nb, .slice A n c, .slice B k d] MT /\ RatQ w (.agg #[.bool nb, .slice A n c, .slice B k d]) m.2
theorem Inr.ratq {w : World} {v : Value} {q : Rat} (h : Inr w v q) (h0 : q ≠ 0) : RatQ w v q := by
 obtain ⟨neg, A, n, c, A', m, c', ln, ld, rfl, h1, h2, _, _, h5⟩ := h
 subst h5
 by_cases hv : vld neg ln ld = true
 ·exact ratq_of hv h1 h2
 ·exact absurd (by unfold fq; rw [if_neg hv]) h0
theorem Inr.sz {w : World} {v : Value} {q : Rat} (h : Inr w v q) : Sz q 1000000 := by
 by_cases h0 : q = 0
 ·rw [h0]; exact sz_zero _ (by omega)
 ·obtain ⟨A, n, c, A', m, c', e, h1, h2⟩ := h.ratq h0
  obtain ⟨neg, A1, n1, c1, A2, m1, c2, ln, ld, e', g1, g2, g3, g4, g5⟩ := h
  rw [e] at e'
  simp only [Value.agg.injEq, Array.mk.injEq, List.cons.injEq, and_true, Value.bool.injEq, Value.slice.injEq] at e'
  obtain ⟨_, ⟨_, rfl, _⟩, _, rfl, _⟩ := e'
  refine ⟨by rw [<- h1.len]; exact g3, ?_⟩
  have hl := h2.len
  unfold dl at hl
  split at hl
  ·next h => rw [h, limbs_one]; show 1 <= 1000000; omega
  ·rw [<- hl]; exact g4
theorem PRe.pol {w : World} {v : Value} {l : List RawM} (h : PRe w v l) (hv : vraw l) : Pol w v (cleanL l) := by
 rw [cleanL_pos hv]
 unfold Pol
 rw [vraw_raw hv]
 obtain ⟨⟨A, n, c, xs, e, h1, h2, h3⟩, _⟩ := h
 refine ⟨A, n, c, xs, e, h1, h2, fun i e q hi => ?_⟩
 obtain ⟨z0, z1, z2, hx, hr⟩ := h3 i e q hi
 exact ⟨z0, z1, z2, hx, hr.ratq (hv i (List.getElem?_eq_some_iff.1 hi).1 _ hi).2.1⟩
theorem PRe.szl {w : World} {v : Value} {l : List RawM} (h : PRe w v l) : SzL (cleanL l) 1000000 := by
 classical
 by_cases hv : vraw l
 ·rw [cleanL_pos hv]
  intro m hm
  obtain ⟨r, hr, rfl⟩ := List.mem_map.1 hm
  obtain ⟨i, hi, rfl⟩ := List.getElem_of_mem hr
  obtain ⟨⟨A, n, c, xs, e, h1, h2, h3⟩, _⟩ := h
  obtain ⟨z0, z1, z2, hx, hr⟩ := h3 i _ _ (List.getElem?_eq_getElem hi)
  exact hr.sz
 ·rw [cleanL_neg hv]; intro m hm; cases hm
def RetOwnP (w0 : World) (l : List Mon) (e : Ending) (w' : World) : Prop := ∃ v, e = .returned v /\ OwnP w' w0.heap.size v l /\ Below w0.heap.size w0 w'
theorem r2_Take (v : Value) (l : List RawM) (w : World) (h : PRe w v l) : Calls Tryz.prog 56 #[v] w (RetOwnP w (cleanL l)) := by
 classical
 obtain ⟨A, cap, rfl⟩ := PBy.slice h.1
 by_cases hv : vraw l
 ·have hV := r2_Valid _ l w h true (Lib.hid ⟨fun _ => hv, fun _ => rfl⟩)
  have HV := Lib.hid hV
  have hpol := h.pol hv
  have hszl := h.szl
  have hvp := vp_cleanL l
  have hlen := h.2
  have hll : (cleanL l).length = l.length := by rw [cleanL_pos hv, List.length_map]
  generalize cleanL l = p at *
  rw [<- hll]
  rw [<- hll] at HV hlen hpol
  clear hV hv h hll
  go_enter Tryz.func56, Tryz.ntmps56
  go_wp2_with fail
  refine HV.out.mono ?_
  rintro e w2 ⟨rfl, hb2⟩
  have HP := Lib.hid (hpol.below hb2)
  have HLEN := Lib.hid hlen
  have HSZL := Lib.hid hszl
  have HB2 := Lib.hid hb2
  clear hpol hszl hlen hb2 hvp HV
  go_wp2_with fail
  go_loopw [3, 4] (fun r i wr => ∃ k, k <= p.length /\ i = .int .i64 (k : Int) /\ OwnP wr w2.heap.size r (p.take k) /\ Below w2.heap.size w2 wr) (fun _ i _ => (p.length - intOf i).toNat)
  case atStart => exact ⟨0, Nat.zero_le _, rfl, OwnP.nil _ _, Below.refl _ _⟩
  case round =>
   obtain ⟨k, hk, rfl, hrow, hbb⟩ := hrel
   rcases Nat.lt_or_ge k p.length with hkn | hkn
   ·obtain ⟨m, hm⟩ : ∃ m, p[k]? = some m := ⟨p[k], List.getElem?_eq_getElem hkn⟩
    obtain ⟨b, o, z0, z1, z2, rfl, hb, hat, hq⟩ := HP.out.at hm
    have hltk : (k : Int) < (p.length : Int) := by omega
    have HK := Lib.hid hkn
    have HM := Lib.hid hm
    have HBB := Lib.hid hbb.drew
    have HAT : Hid (At6 wr.drew b (o + k * 6) _ _ _ _ _ _) := Lib.hid (hat.below hbb.drew hb)
    have HLT : Hid (b < wr.drew.heap.size) := Lib.hid (Nat.lt_of_lt_of_le hb hbb.size)
    have HQ := Lib.hid (hq.below hbb.drew)
    have HSZ := Lib.hid (HSZL.out m (List.mem_of_getElem? hm))
    have HROW := Lib.hid (hrow.below (Below.refl _ _).drew)
    clear hk hkn hm hat hb hq hrow hbb
    go_upto_region 7 with (fail)
    refine wp_region6 14 [14, 15, 16, 17, 18, 19, 20, 21, 22, 23, 24, 25, 26, 27] [.val (u3), .val (.slice (some ⟨b, o, none⟩) p.length cap), .val (.int .i64 (k : Int)), .val (.pointer (some ⟨b, o + k * 6, none⟩)), .val (.pointer (some ⟨b, o + k * 6, none⟩)), .val (.agg #[.int .i64 (m.1.1 : Int), .int .i64 (m.1.2.1 : Int), .int .i64 (m.1.2.2 : Int)]), .val (.slice (some ⟨b, o, none⟩) p.length cap), .val (.int .i64 (k : Int)), .val (.pointer (some ⟨b, o + k * 6, none⟩)), .val (.pointer (some ⟨b, o + k * 6 + 3, none⟩)), .val (.agg #[z0, z1, z2]), .st (fun w a => RatQ w a m.2), .st (fun w a => MonV m w a), .st (fun w a => MonB wr.drew.heap.size m w a)] (by kernel_rfl) (by kernel_rfl) (by kernel_rfl) (by kernel_rfl) ?step 2 (by kernel_rfl) _ rfl ?fin
    case step =>
     intro i hi oi ho f wx hB hdep K hK
     simp only [frontAct, zf1, zf2, zf3, zf4, zf5] at hK ⊢
     obtain ⟨x0, x1, x2, x3, x4, x5⟩ := HAT.out.below hB HLT.out
     obtain rfl | rfl | rfl | rfl | rfl | rfl | rfl | rfl | rfl | rfl | rfl | rfl | rfl | rfl := cs14 hi
     all_goals
      obtain rfl := Option.some.inj ho
      simp only [Act.put, zf3, zf4, zf5] at hK
     rotate_left 11
     ·have e24 := dv6 (hdep ⟨10, .data⟩ (by simp) rfl) rfl
      simp only [zf6, zf7] at e24
      generalize f 24 = f24 at *; subst e24
      go_simp
      refine (r_Take _ m.2 wx ((HQ.out.below hB).inr HSZ.out (Nat.le_refl _))).mono ?_
      rintro e0 w' ⟨val, rfl, hr, hb⟩
      exact hK val w' (gs6 rfl (fun w2 h2 => hr.below h2)) hb (hB.trans (hb.mono hB.size)) (nb6 rfl rfl)
     ·have e19 := dv6 (hdep ⟨5, .data⟩ (by simp) rfl) rfl
      have e25 := ds6 (hdep ⟨11, .data⟩ (by simp) rfl) rfl
      simp only [zf6, zf7] at e19 e25
      generalize f 19 = f19 at *; subst e19
      replace e25 := (show RatQ wx (f 25) m.2 from e25)
      generalize f 25 = f25 at *
      obtain ⟨yb, yA, yn, yc, yB, ym, yd, rfl⟩ := e25.agg
      go_simp
      exact hK _ wx (gs6 rfl (fun w2 h2 => ⟨_, _, _, _, _, _, _, rfl, RatQ.below e25 h2⟩)) (Below.refl _ _) hB (nb6 rfl rfl)
     ·have e26 := ds6 (hdep ⟨12, .data⟩ (by simp) rfl) rfl
      replace e26 := (show MonV m wx (f 26) from e26)
      generalize f 26 = f26 at *
      obtain ⟨yb, yA, yn, yc, yB, ym, yd, rfl, hyq⟩ := e26
      have hbl := new6 wx (.int .i64 (m.1.1 : Int)) (.int .i64 (m.1.2.1 : Int)) (.int .i64 (m.1.2.2 : Int)) (.bool yb) (.slice yA yn yc) (.slice yB ym yd)
      go_simp
      exact hK _ _ (gs6 rfl (fun w2 h2 => ⟨_, _, _, _, _, _, _, _, rfl, hB.size, hbl.2.below h2 hbl.2.lt, (hyq.below hbl.1).below h2⟩)) hbl.1 (hB.trans (hbl.1.mono hB.size)) (nb6 rfl rfl)
     all_goals simp [gOf6, Sq.holds, Region.binds] at hdep
     all_goals try simp only [hdep] at hK ⊢
     all_goals go_simp
     all_goals exact hK _ wx (gv6 rfl) (Below.refl _ _) hB (nb6 rfl rfl)
    case fin =>
     intro f wx hB hG hne
     have e14 := dv6 (hG 0 (by decide)) rfl
     have e27 : MonB wr.drew.heap.size m wx (f 27) := ds6 (hG 13 (by decide)) rfl
     clear hG hne
     simp only [frontAct, zf1, zf2, zf3, zf4, zf5]
     simp only [List.getD_cons_zero] at e14
     generalize f 14 = f14 at *; subst e14
     generalize f 27 = f27 at *
     obtain ⟨g, yb, yA, yn, yc, yB, ym, yd, rfl, hgl, cs, hyq⟩ := e27
     have hrw := HROW.out.below hB
     have hz8 := HBB.out.size
     obtain ⟨p5, w5, HRUN, hown5, hg5, _⟩ := hrw.app1 cs hyq (by rw [List.length_take]; have := HLEN.out; omega) (Nat.le_trans hz8 hB.size)
     have HEND := Lib.hid (And.intro hown5 (hrw.grown (HBB.out.trans (hB.mono HBB.out.size)) (Nat.le_trans hz8 hB.size) hg5))
     clear hown5 hg5 hrw cs hyq hB
     refine wpAny_ready (rs := [14]) (by kernel_rfl) (by simp) ?_
     refine AllReady.cons rfl (fun K hK => ?_) AllReady.nil
     refine step_appM rfl (.tmp 14) (.tmp 27) rfl rfl _ _ _ _ rfl rfl HRUN (hK _ _ ?_)
     clear hK K
     refine wpAny_ready (rs := [15]) (by kernel_rfl) (by simp) ?_
     refine AllReady.cons rfl (fun K hK => ?_) AllReady.nil
     have HQ := Lib.hid hK
     clear hK
     go_simp
     refine HQ.out _ _ ?_
     clear HQ K
     refine wpAny_done (by kernel_rfl) ?_ _
     have hk1 := HK.out
     have hl1 := HLEN.out
     go_wp2_with fail
     refine ⟨⟨k + 1, HK.out, congrArg (Value.int _) (by omega), ?_, HEND.out.2⟩, by simp [intOf]; have := HK.out; omega⟩
     rw [List.take_succ_eq_append_getElem HK.out, (List.getElem?_eq_some_iff.1 HM.out).2]
     exact HEND.out.1
   ·obtain rfl : k = p.length := by omega
    rw [List.take_length] at hrow
    have hlt : ¬ (p.length : Int) < (p.length : Int) := by omega
    have HEND := Lib.hid (And.intro hrow (HB2.out.trans (hbb.mono HB2.out.size)))
    have HZ := Lib.hid HB2.out.size
    clear hrow hbb
    go_wp2_with fail
    go_ret
    exact ⟨_, rfl, HEND.out.1.more HZ.out, HEND.out.2⟩
 ·have hV := r2_Valid _ l w h false (Lib.hid ⟨(fun h => by cases h), fun h => absurd h hv⟩)
  have HV := Lib.hid hV
  have HN := Lib.hid (cleanL_neg hv)
  rw [HN.out]
  clear hV hv h
  go_enter Tryz.func56, Tryz.ntmps56
  go_wp2_with fail
  refine HV.out.mono ?_
  rintro e w2 ⟨rfl, hb2⟩
  clear HV
  go_wp2_with fail
  go_ret
  exact ⟨_, rfl, OwnP.nil _ _, hb2⟩
theorem lexN_pos {m e : Ex} (h : elt e m = true) : lexI ((m.1 : Int), (m.2.1 : Int), (m.2.2 : Int)) ((e.1 : Int), (e.2.1 : Int), (e.2.2 : Int)) = 1 := by
 rw [elt_iff] at h
 unfold lexI
 simp only
 split
 ·omega
 ·split
  ·rfl
  ·split
   ·omega
   ·split
    ·rfl
    ·split
     ·omega
     ·split
      ·rfl
      ·omega
theorem lexN_neg {m e : Ex} (h : elt m e = true) : lexI ((m.1 : Int), (m.2.1 : Int), (m.2.2 : Int)) ((e.1 : Int), (e.2.1 : Int), (e.2.2 : Int)) = -1 := by
 rw [lexI_anti, lexN_pos h]
theorem lexN_same (e : Ex) : lexI ((e.1 : Int), (e.2.1 : Int), (e.2.2 : Int)) ((e.1 : Int), (e.2.1 : Int), (e.2.2 : Int)) = 0 := by
 unfold lexI
 simp
theorem r2_put_some (v : Value) (l : List Mon) (e : Ex) (q : Rat) (nb : Bool) (A B : Option Addr) (n c m k : Nat) (w : World) (h : Pol w v l) (hv : VP l) (hn0 : 0 < l.length) (hs : SzL l 200000) (hq : RatQ w (.agg #[.bool nb, .slice A n c, .slice B m k]) q) (hS : Sz q 200000) (hd : deg e <= 5) (h0 : q ≠ 0) :
 Calls Tryz.prog 57 #[v, .agg #[.int .i64 (e.1 : Int), .int .i64 (e.2.1 : Int), .int .i64 (e.2.2 : Int), .bool nb, .slice A n c, .slice B m k]] w (RetPol w (listOf (addAt (co l) e q))) := by
 obtain ⟨A1, c1, rfl⟩ := h.slice
 have hlen := vp_length hv
 obtain ⟨K, hK⟩ : ∃ K, place l e = K := ⟨_, rfl⟩
 have HKL : Hid (K <= l.length) := Lib.hid (by rw [<- hK]; exact place_le l e)
 have HBEF : Hid (∀ j m, j < K -> l[j]? = some m -> elt e m.1 = true) := Lib.hid (fun j m hj hm => place_before (by rw [hK]; exact hj) hm)
 have HAFT : Hid (∀ m, l[K]? = some m -> elt e m.1 = false) := Lib.hid (fun m hm => place_at (by rw [hK]; exact hm))
 have HNEW : Hid ((∀ x, l[K]? = some x -> x.1 ≠ e) -> l.take K ++ ([(e, q)] ++ l.drop K) = listOf (addAt (co l) e q)) := Lib.hid (fun hh => by rw [<- hK] at hh ⊢; exact put_there hv hd h0 hh)
 have HOVER : Hid (∀ y, l[K]? = some (e, y) -> l.take K ++ ((if q + y = 0 then [] else [(e, q + y)]) ++ l.drop (K + 1)) = listOf (addAt (co l) e q)) := Lib.hid (fun y hh => by rw [<- hK] at hh ⊢; exact put_over hv hh)
 clear hK
 obtain ⟨hb6, d6⟩ := new6 w (.int .i64 (e.1 : Int)) (.int .i64 (e.2.1 : Int)) (.int .i64 (e.2.2 : Int)) (.bool nb) (.slice A n c) (.slice B m k)
 have HP := Lib.hid h
 have HQ0 := Lib.hid hq
 have HLEN := Lib.hid hlen
 have HL0 := Lib.hid hn0
 have HSL := Lib.hid hs
 have HSQ := Lib.hid hS
 have hkn : Hid (knownI ((e.1 : Int), (e.2.1 : Int), (e.2.2 : Int)) = true) := Lib.hid (by rw [knownI_nat]; exact decide_eq_true hd)
 have HNZ := Lib.hid h0
 have y := d6.c6
 clear h hq hlen hn0 hs hS hd h0 hv
 go_enter Tryz.func57, Tryz.ntmps57
 go_wp2_with fail
 generalize (w.alloc (M6 (.int .i64 (e.1 : Int)) (.int .i64 (e.2.1 : Int)) (.int .i64 (e.2.2 : Int)) (.bool nb) (.slice A n c) (.slice B m k))) = W at *
 refine (r2_possible _ _ _ _ _ hkn).mono ?_
 rintro e2 w2 ⟨rfl, hb2⟩
 replace hb6 := hb6.trans (hb2.mono hb6.size)
 replace d6 := d6.below hb2 d6.lt
 replace y := d6.c6
 clear hb2 hkn
 obtain ⟨sg, hsg⟩ : ∃ sg, q.num.sign = sg := ⟨_, rfl⟩
 have HSG := Lib.hid hsg
 have hs0 : (sg == 0) = false := by rw [<- hsg, sign_zero]; exact decide_eq_false HNZ.out
 have HS0 := Lib.hid hs0
 clear hs0 hsg
 go_wp2_with fail
 refine (r_SignV _ q sg _ ((HQ0.out.below hb6).inr HSQ.out (by omega)) HSG).mono ?_
 rintro e3 w3 ⟨rfl, hb3⟩
 replace hb6 := hb6.trans (hb3.mono hb6.size)
 replace d6 := d6.below hb3 d6.lt
 clear hb3 y
 have HB3 := Lib.hid hb6
 have HD3 := Lib.hid d6
 clear hb6 d6
 have hs0 := HS0.out
 go_wp2_with fail
 clear hs0
 go_loopw [5] (fun i wr => ∃ j, j <= K /\ i = .int .i64 (j : Int) /\ Below w3.heap.size w3 wr) (fun i _ => (K - intOf i).toNat)
 case atStart => exact ⟨0, Nat.zero_le _, rfl, Below.refl _ _⟩
 case round =>
  obtain ⟨j, hj, rfl, hbr⟩ := hrel
  obtain ⟨b, o, rfl, hb0, _⟩ : ∃ b o, A1 = some ⟨b, o, none⟩ /\ b < w.heap.size /\ True := by
   obtain ⟨m0, hm0⟩ : ∃ m, l[0]? = some m := ⟨_, List.getElem?_eq_getElem HL0.out⟩
   obtain ⟨b, o, _, _, _, h1, h2, _⟩ := HP.out.at hm0
   exact ⟨b, o, h1, h2, trivial⟩
  have HBLT := Lib.hid hb0
  have HBR := Lib.hid hbr
  have HBW := Lib.hid (HB3.out.trans (hbr.drew.mono HB3.out.size))
  have HD6 := Lib.hid (HD3.out.below hbr.drew HD3.out.lt)
  have HLT : Hid (b < wr.drew.heap.size) := Lib.hid (Nat.lt_of_lt_of_le hb0 HBW.out.size)
  clear hbr hb0
  by_cases hjK : j < K
  ·obtain ⟨⟨f, y⟩, hx⟩ : ∃ m, l[j]? = some m := ⟨_, List.getElem?_eq_getElem (by have := HKL.out; omega)⟩
   obtain ⟨b', o', z0, z1, z2, hA, hb', hat, _⟩ := HP.out.at hx
   cases hA
   have HAT : Hid (At6 wr.drew b (o + j * 6) _ _ _ _ _ _) := Lib.hid (hat.keep (HBW.out.block b hb'))
   have HV : Hid (lexI ((f.1 : Int), (f.2.1 : Int), (f.2.2 : Int)) ((e.1 : Int), (e.2.1 : Int), (e.2.2 : Int)) = 1) := Lib.hid (lexN_pos (HBEF.out j _ hjK hx))
   have hjl : j < l.length := by have := HKL.out; omega
   have hlt : decide (j < l.length) = true := decide_eq_true hjl
   have hlt2 : (j : Int) < (l.length : Int) := by omega
   have HJ := Lib.hid hjK
   clear hj hjK hx hb' hat hjl
   go_upto_region 4 with (fail)
   refine wp_region6 15 [18, 19, 20, 21, 22, 23, 24, 25, 26, 27, 28, 29, 30, 31, 32] [.val (.int .i64 (j : Int)), .val (.slice (some ⟨b, o, none⟩) l.length c1), .val (.int .i64 (l.length : Int)), .val (.bool true), .val (.bool true), .val (.slice (some ⟨b, o, none⟩) l.length c1), .val (.int .i64 (j : Int)), .val (.pointer (some ⟨b, o + j * 6, none⟩)), .val (.pointer (some ⟨b, o + j * 6, none⟩)), .val (.agg #[.int .i64 (f.1 : Int), .int .i64 (f.2.1 : Int), .int .i64 (f.2.2 : Int)]), .val (.pointer (some ⟨w.heap.size, 0, none⟩)), .val (.agg #[.int .i64 (e.1 : Int), .int .i64 (e.2.1 : Int), .int .i64 (e.2.2 : Int)]), .val (.int .i64 (1)), .val (.bool true), .val (.bool true)] (by kernel_rfl) (by kernel_rfl) (by kernel_rfl) (by kernel_rfl) ?stepa 0 (by kernel_rfl) _ rfl ?fina
   case stepa =>
    intro i hi oi ho f' wx hB hdep K hK
    simp only [frontAct, zf1, zf2, zf3, zf4, zf5] at hK ⊢
    obtain ⟨x0, x1, x2, x3, x4, x5⟩ := HAT.out.below hB HLT.out
    obtain ⟨y0, y1, y2, y3, y4, y5⟩ := (HD6.out.below hB HD6.out.lt).c6
    obtain rfl | rfl | rfl | rfl | rfl | rfl | rfl | rfl | rfl | rfl | rfl | rfl | rfl | rfl | rfl := cs15 hi
    all_goals
     obtain rfl := Option.some.inj ho
     simp only [Act.put, zf3, zf4, zf5] at hK
    rotate_left 12
    ·have e22 := dv6 (hdep ⟨4, .guard⟩ (by simp) rfl) rfl
     have e27 := dv6 (hdep ⟨9, .data⟩ (by simp) rfl) rfl
     have e29 := dv6 (hdep ⟨11, .data⟩ (by simp) rfl) rfl
     simp only [zf6, zf7] at e22 e27 e29
     generalize f' 22 = f22 at *; subst e22
     generalize f' 27 = f27 at *; subst e27
     generalize f' 29 = f29 at *; subst e29
     go_simp
     refine (r2_order (f.1 : Int) (f.2.1 : Int) (f.2.2 : Int) (e.1 : Int) (e.2.1 : Int) (e.2.2 : Int) wx (1) HV).mono ?_
     rintro e0 w' ⟨rfl, hb⟩
     exact hK (.int .i64 (1)) w' (gv6 rfl) hb (hB.trans (hb.mono hB.size)) (nb6 rfl rfl)
    rotate_left 2
    all_goals simp [gOf6, Sq.holds, Region.binds] at hdep
    all_goals try simp only [hdep] at hK ⊢
    all_goals go_simp
    all_goals exact hK _ wx (gv6 rfl) (Below.refl _ _) hB (nb6 rfl rfl)
   case fina =>
    intro f' wx hB hG hne
    have e32 := dv6 (a := f' 32) (hG 14 (by decide)) rfl
    clear hG hne
    simp only [frontAct, zf1, zf2, zf3, zf4, zf5]
    generalize f' 32 = z32 at *; subst e32
    refine wpAny_done (by kernel_rfl) ?_ _
    have hj9 := HJ.out
    have hl9 := HKL.out
    have hl8 := HLEN.out
    go_wp2_with fail
    exact ⟨⟨j + 1, HJ.out, congrArg (Value.int _) (by omega), HBR.out.drew.trans (hB.mono HBR.out.size)⟩, by simp [intOf]; have := HJ.out; have := HKL.out; omega⟩
  obtain rfl : j = K := by omega
  clear hjK hj
  rcases Nat.lt_or_ge j l.length with hjl | hjl
  ·obtain ⟨⟨f, y⟩, hx⟩ : ∃ m, l[j]? = some m := ⟨_, List.getElem?_eq_getElem hjl⟩
   obtain ⟨b', o', z0, z1, z2, hA, hb', hat, hqy⟩ := HP.out.at hx
   cases hA
   have HAT0 := Lib.hid hat
   have HQY := Lib.hid hqy
   have HAT : Hid (At6 wr.drew b (o + j * 6) _ _ _ _ _ _) := Lib.hid (hat.keep (HBW.out.block b hb'))
   have hlt : decide (j < l.length) = true := decide_eq_true hjl
   have hlt2 : (j : Int) < (l.length : Int) := by omega
   have hne0 : ((j : Int) == (l.length : Int)) = false := by simp; omega
   have hltK := Lib.hid hjl
   have HX := Lib.hid hx
   have haft := HAFT.out _ hx
   by_cases hfe : f = e
   ·subst hfe
    have HV : Hid (lexI ((f.1 : Int), (f.2.1 : Int), (f.2.2 : Int)) ((f.1 : Int), (f.2.1 : Int), (f.2.2 : Int)) = 0) := Lib.hid (lexN_same f)
    have HSY := Lib.hid (HSL.out _ (List.mem_of_getElem? hx))
    clear hx hb' hat hqy haft hjl
    go_upto_region 4 with (fail)
    refine wp_region6 15 [18, 19, 20, 21, 22, 23, 24, 25, 26, 27, 28, 29, 30, 31, 32] [.val (.int .i64 (j : Int)), .val (.slice (some ⟨b, o, none⟩) l.length c1), .val (.int .i64 (l.length : Int)), .val (.bool true), .val (.bool true), .val (.slice (some ⟨b, o, none⟩) l.length c1), .val (.int .i64 (j : Int)), .val (.pointer (some ⟨b, o + j * 6, none⟩)), .val (.pointer (some ⟨b, o + j * 6, none⟩)), .val (.agg #[.int .i64 (f.1 : Int), .int .i64 (f.2.1 : Int), .int .i64 (f.2.2 : Int)]), .val (.pointer (some ⟨w.heap.size, 0, none⟩)), .val (.agg #[.int .i64 (f.1 : Int), .int .i64 (f.2.1 : Int), .int .i64 (f.2.2 : Int)]), .val (.int .i64 (0)), .val (.bool false), .val (.bool false)] (by kernel_rfl) (by kernel_rfl) (by kernel_rfl) (by kernel_rfl) ?stepxs 0 (by kernel_rfl) _ rfl ?finxs
    case stepxs =>
     intro i hi oi ho f' wx hB hdep K hK
     simp only [frontAct, zf1, zf2, zf3, zf4, zf5] at hK ⊢
     obtain ⟨x0, x1, x2, x3, x4, x5⟩ := HAT.out.below hB HLT.out
     obtain ⟨y0, y1, y2, y3, y4, y5⟩ := (HD6.out.below hB HD6.out.lt).c6
     obtain rfl | rfl | rfl | rfl | rfl | rfl | rfl | rfl | rfl | rfl | rfl | rfl | rfl | rfl | rfl := cs15 hi
     all_goals
      obtain rfl := Option.some.inj ho
      simp only [Act.put, zf3, zf4, zf5] at hK
     rotate_left 12
     ·have e22 := dv6 (hdep ⟨4, .guard⟩ (by simp) rfl) rfl
      have e27 := dv6 (hdep ⟨9, .data⟩ (by simp) rfl) rfl
      have e29 := dv6 (hdep ⟨11, .data⟩ (by simp) rfl) rfl
      simp only [zf6, zf7] at e22 e27 e29
      generalize f' 22 = f22 at *; subst e22
      generalize f' 27 = f27 at *; subst e27
      generalize f' 29 = f29 at *; subst e29
      go_simp
      refine (r2_order (f.1 : Int) (f.2.1 : Int) (f.2.2 : Int) (f.1 : Int) (f.2.1 : Int) (f.2.2 : Int) wx (0) HV).mono ?_
      rintro e0 w' ⟨rfl, hb⟩
      exact hK (.int .i64 (0)) w' (gv6 rfl) hb (hB.trans (hb.mono hB.size)) (nb6 rfl rfl)
     rotate_left 2
     all_goals simp [gOf6, Sq.holds, Region.binds] at hdep
     all_goals try simp only [hdep] at hK ⊢
     all_goals go_simp
     all_goals exact hK _ wx (gv6 rfl) (Below.refl _ _) hB (nb6 rfl rfl)
    case finxs =>
     intro f' wx hB hG hne
     have e32 := dv6 (a := f' 32) (hG 14 (by decide)) rfl
     clear hG hne
     simp only [frontAct, zf1, zf2, zf3, zf4, zf5]
     generalize f' 32 = z32 at *; subst e32
     have hBx := HBW.out.trans (hB.mono HBW.out.size)
     have D6 := HD6.out.below hB HD6.out.lt
     refine wpAny_done (by kernel_rfl) ?_ _
     obtain ⟨ys, hrd, hcs⟩ := (HP.out.below hBx).cells6
     obtain ⟨v1, w1, HRUN1, hown1, hg1, _⟩ := (OwnP.nil wx (w.heap.size + 1)).app (hrd.take (m := j) HKL.out) (hcs.take j) (by have := HLEN.out; have := HKL.out; simp; omega) D6.lt
     have hb1 : Below w.heap.size w w1 := hBx.grown hg1 hBx.size (fun j e => by cases e)
     have D61 := D6.grw hg1 (fun e => by cases e)
     rw [List.nil_append] at hown1
     have HB1 := Lib.hid hb1
     have HO1 := Lib.hid hown1
     have HD1 := Lib.hid D61
     have HKC : Hid (j <= c1 /\ 0 < c1 /\ l.length <= c1) := Lib.hid ⟨Nat.le_trans HKL.out hrd.cap, by have := hrd.cap; have := HL0.out; omega, hrd.cap⟩
     clear hrd hcs hown1 hg1 hb1 D61 D6 hBx hB
     have hkc := HKC.out.1
     have hkc0 := HKC.out.2.1
     go_upto_region 7 with (at_builtin; refine wpList_appM rfl (.const (.slice none 0 0)) (.tmp 37) rfl rfl _ _ _ _ rfl rfl HRUN1 ?_)
     clear hkc hkc0
     have HBW := Lib.hid HB1.out.drew
     have HD6 := Lib.hid HD1.out.drew
     have HO2 := Lib.hid (HO1.out.below (Below.refl _ _).drew)
     have HAT : Hid (At6 w1.drew b (o + j * 6) _ _ _ _ _ _) := Lib.hid (HAT0.out.keep (HBW.out.block b HBLT.out))
     have HLT : Hid (b < w1.drew.heap.size) := Lib.hid (Nat.lt_of_lt_of_le HBLT.out HBW.out.size)
     refine wp_region6 15 [39, 40, 41, 42, 43, 44, 45, 46, 47, 48, 49, 50, 51, 52, 53] [.val (.int .i64 (j : Int)), .val (.slice (some ⟨b, o, none⟩) l.length c1), .val (.int .i64 (l.length : Int)), .val (.bool false), .val (.bool false), .val (.slice (some ⟨b, o, none⟩) l.length c1), .val (.int .i64 (j : Int)), .val (.pointer (some ⟨b, o + j * 6, none⟩)), .val (.pointer (some ⟨b, o + j * 6, none⟩)), .val (.agg #[.int .i64 (f.1 : Int), .int .i64 (f.2.1 : Int), .int .i64 (f.2.2 : Int)]), .val (.pointer (some ⟨w.heap.size, 0, none⟩)), .val (.agg #[.int .i64 (f.1 : Int), .int .i64 (f.2.1 : Int), .int .i64 (f.2.2 : Int)]), .val (.int .i64 (0)), .val (.bool false), .val (.bool false)] (by kernel_rfl) (by kernel_rfl) (by kernel_rfl) (by kernel_rfl) ?steprs 0 (by kernel_rfl) _ rfl ?finrs
     case steprs =>
      intro i hi oi ho f' wx hB hdep K hK
      simp only [frontAct, zf1, zf2, zf3, zf4, zf5] at hK ⊢
      obtain ⟨x0, x1, x2, x3, x4, x5⟩ := HAT.out.below hB HLT.out
      obtain ⟨y0, y1, y2, y3, y4, y5⟩ := (HD6.out.below hB HD6.out.lt).c6
      obtain rfl | rfl | rfl | rfl | rfl | rfl | rfl | rfl | rfl | rfl | rfl | rfl | rfl | rfl | rfl := cs15 hi
      all_goals
       obtain rfl := Option.some.inj ho
       simp only [Act.put, zf3, zf4, zf5] at hK
      rotate_left 12
      ·have e43 := dv6 (hdep ⟨4, .guard⟩ (by simp) rfl) rfl
       have e48 := dv6 (hdep ⟨9, .data⟩ (by simp) rfl) rfl
       have e50 := dv6 (hdep ⟨11, .data⟩ (by simp) rfl) rfl
       simp only [zf6, zf7] at e43 e48 e50
       generalize f' 43 = f43 at *; subst e43
       generalize f' 48 = f48 at *; subst e48
       generalize f' 50 = f50 at *; subst e50
       go_simp
       refine (r2_order (f.1 : Int) (f.2.1 : Int) (f.2.2 : Int) (f.1 : Int) (f.2.1 : Int) (f.2.2 : Int) wx (0) HV).mono ?_
       rintro e0 w' ⟨rfl, hb⟩
       exact hK (.int .i64 (0)) w' (gv6 rfl) hb (hB.trans (hb.mono hB.size)) (nb6 rfl rfl)
      rotate_left 2
      all_goals simp [gOf6, Sq.holds, Region.binds] at hdep
      all_goals try simp only [hdep] at hK ⊢
      all_goals go_simp
      all_goals exact hK _ wx (gv6 rfl) (Below.refl _ _) hB (nb6 rfl rfl)
     case finrs =>
      intro f' wx hB hG hne
      have e53 := dv6 (a := f' 53) (hG 14 (by decide)) rfl
      clear hG hne
      simp only [frontAct, zf1, zf2, zf3, zf4, zf5]
      generalize f' 53 = z53 at *; subst e53
      have hBy := HBW.out.trans (hB.mono HBW.out.size)
      have D6y := HD6.out.below hB HD6.out.lt
      have hO := HO2.out.below hB
      replace HBW := Lib.hid hBy.drew
      replace HD6 := Lib.hid D6y.drew
      replace HO2 := Lib.hid (hO.below (Below.refl _ _).drew)
      replace HAT : Hid (At6 wx.drew b (o + j * 6) _ _ _ _ _ _) := Lib.hid (HAT0.out.keep (HBW.out.block b HBLT.out))
      replace HLT : Hid (b < wx.drew.heap.size) := Lib.hid (Nat.lt_of_lt_of_le HBLT.out HBW.out.size)
      have HQA := Lib.hid (HQ0.out.below HBW.out)
      have HQB := Lib.hid (HQY.out.below HBW.out)
      clear hBy D6y hO hB
      refine wpAny_done (by kernel_rfl) ?_ _
      go_upto_region 9 with (fail)
      refine wp_region6 9 [62, 63, 64, 65, 66, 67, 68, 69, 70] [.val (.pointer (some ⟨w.heap.size, 3, none⟩)), .val (.agg #[.bool nb, .slice A n c, .slice B m k]), .val (.slice (some ⟨b, o, none⟩) l.length c1), .val (.int .i64 (j : Int)), .val (.pointer (some ⟨b, o + j * 6, none⟩)), .val (.pointer (some ⟨b, o + j * 6 + 3, none⟩)), .val (.agg #[z0, z1, z2]), .st (fun w a => RatQ w a (q + y)), .val (.pointer (some ⟨w.heap.size, 3, none⟩))] (by kernel_rfl) (by kernel_rfl) (by kernel_rfl) (by kernel_rfl) ?stept 1 (by kernel_rfl) _ rfl ?fint
      case stept =>
       intro i hi oi ho f' wx hB hdep K hK
       simp only [frontAct, zf1, zf2, zf3, zf4, zf5] at hK ⊢
       obtain ⟨x0, x1, x2, x3, x4, x5⟩ := HAT.out.below hB HLT.out
       obtain ⟨y0, y1, y2, y3, y4, y5⟩ := (HD6.out.below hB HD6.out.lt).c6
       obtain rfl | rfl | rfl | rfl | rfl | rfl | rfl | rfl | rfl := cs9 hi
       all_goals
        obtain rfl := Option.some.inj ho
        simp only [Act.put, zf3, zf4, zf5] at hK
       rotate_left 7
       ·have e63 := dv6 (hdep ⟨1, .data⟩ (by simp) rfl) rfl
        have e68 := dv6 (hdep ⟨6, .data⟩ (by simp) rfl) rfl
        simp only [zf6, zf7] at e63 e68
        generalize f' 63 = f63 at *; subst e63
        generalize f' 68 = f68 at *; subst e68
        go_simp
        refine (r_Add _ _ q y wx ((HQA.out.below hB).inr HSQ.out (by omega)) ((HQB.out.below hB).inr HSY.out (by omega)) (HSQ.out.mono (by omega)) (HSY.out.mono (by omega))).mono ?_
        rintro e0 w' ⟨val, rfl, hr, hb⟩
        exact hK val w' (gs6 rfl (fun w2 h2 => hr.below h2)) hb (hB.trans (hb.mono hB.size)) (nb6 rfl rfl)
       rotate_left
       all_goals simp [gOf6, Sq.holds, Region.binds] at hdep
       all_goals try simp only [hdep] at hK ⊢
       all_goals go_simp
       all_goals exact hK _ wx (gv6 rfl) (Below.refl _ _) hB (nb6 rfl rfl)
      case fint =>
       intro f' wx hB hG hne
       have e69 : RatQ wx (f' 69) (q + y) := ds6 (hG 7 (by decide)) rfl
       have e70 := dv6 (a := f' 70) (hG 8 (by decide)) rfl
       clear hG hne
       simp only [frontAct, zf1, zf2, zf3, zf4, zf5]
       generalize f' 69 = f69 at *
       generalize f' 70 = f70 at *; subst e70
       obtain ⟨sb, sA, sn, sc, sB, sm, sd, rfl⟩ := e69.agg
       have D9 := HD6.out.below hB HD6.out.lt
       have hB9 := HBW.out.trans (hB.mono HBW.out.size)
       have hO9 := HO2.out.below hB
       have hno : ∀ v ∈ [Value.int .i64 (f.1 : Int), .int .i64 (f.2.1 : Int), .int .i64 (f.2.2 : Int), .bool nb, .slice A n c, .slice B m k], ∀ x : Nat, v ≠ .int .u32 (x : Int) := by simp
       have hgn : ∀ g, v1.ownBlock = some g -> g ≠ w.heap.size := fun g hg => by have := (hO9.lt g hg).1; omega
       obtain ⟨y0, y1, y2, y3, y4, y5⟩ := D9.c6
       have f3 := D9.frozen 3
       have f4 := D9.frozen 4
       have f5 := D9.frozen 5
       have HCS10 : Hid (Cs (((wx.setCell ⟨w.heap.size, 3, none⟩ (.bool sb)).setCell ⟨w.heap.size, 4, none⟩ (.slice sA sn sc)).setCell ⟨w.heap.size, 5, none⟩ (.slice sB sm sd)) w.heap.size [.int .i64 (f.1 : Int), .int .i64 (f.2.1 : Int), .int .i64 (f.2.2 : Int), .bool sb, .slice sA sn sc, .slice sB sm sd] MT) := Lib.hid (Cs.setL' [.bool sb, .slice sA sn sc, .slice sB sm sd] 3 wx _ D9 rfl)
       have HO10 : Hid (OwnP (((wx.setCell ⟨w.heap.size, 3, none⟩ (.bool sb)).setCell ⟨w.heap.size, 4, none⟩ (.slice sA sn sc)).setCell ⟨w.heap.size, 5, none⟩ (.slice sB sm sd)) (w.heap.size + 1) v1 (l.take j)) := Lib.hid (hO9.turn (fun g hg => heap_setL (hgn g hg) [.bool sb, .slice sA sn sc, .slice sB sm sd] 3 wx) (fun z q' hq' => hq'.setL (k := 3) D9 hno [.bool sb, .slice sA sn sc, .slice sB sm sd]))
       have HQ10 : Hid (RatQ (((wx.setCell ⟨w.heap.size, 3, none⟩ (.bool sb)).setCell ⟨w.heap.size, 4, none⟩ (.slice sA sn sc)).setCell ⟨w.heap.size, 5, none⟩ (.slice sB sm sd)) (.agg #[.bool sb, .slice sA sn sc, .slice sB sm sd]) (q + y)) := Lib.hid (e69.setL (k := 3) D9 hno [.bool sb, .slice sA sn sc, .slice sB sm sd])
       have HB10 : Hid (Below w.heap.size w (((wx.setCell ⟨w.heap.size, 3, none⟩ (.bool sb)).setCell ⟨w.heap.size, 4, none⟩ (.slice sA sn sc)).setCell ⟨w.heap.size, 5, none⟩ (.slice sB sm sd))) := Lib.hid (below_setL (Nat.le_refl _) [.bool sb, .slice sA sn sc, .slice sB sm sd] 3 hB9)
       clear e69 hB9 hO9 D9 hno hgn hB
       refine wpAny_ready (rs := [9]) (by kernel_rfl) (by simp) ?_
       refine AllReady.cons rfl (fun K hK => ?_) AllReady.nil
       have HQ := Lib.hid hK
       clear hK
       go_simp
       refine HQ.out _ _ ?_
       clear HQ K
       refine wpAny_done (by kernel_rfl) ?_ _
       generalize (((wx.setCell ⟨w.heap.size, 3, none⟩ (.bool sb)).setCell ⟨w.heap.size, 4, none⟩ (.slice sA sn sc)).setCell ⟨w.heap.size, 5, none⟩ (.slice sB sm sd)) = w10 at *
       clear y0 y1 y2 y3 y4 y5 f3 f4 f5
       obtain ⟨y0, y1, y2, y3, y4, y5⟩ := HCS10.out.c6
       obtain ⟨s2, hs2⟩ : ∃ s, (q + y).num.sign = s := ⟨_, rfl⟩
       have HS2 := Lib.hid hs2
       clear hs2
       have hk1s : (j : Int) + 1 <= 57 := by have := hltK.out; have := HLEN.out; omega
       go_wp2_with fail
       refine (r_SignV _ (q + y) s2 w10 (HQ10.out.inr (sz_add HSQ.out HSY.out (Nat.le_refl _)) (by omega)) HS2).mono ?_
       rintro e11 w11 ⟨rfl, hb11⟩
       clear y0 y1 y2 y3 y4 y5
       have HD11 := Lib.hid (HCS10.out.below hb11 HCS10.out.lt)
       have HO11 := Lib.hid (HO10.out.below hb11)
       have HQ11 := Lib.hid (HQ10.out.below hb11)
       have HB11 := Lib.hid (HB10.out.trans (hb11.mono HB10.out.size))
       clear hb11 HCS10 HO10 HQ10 HB10
       obtain ⟨y0, y1, y2, y3, y4, y5⟩ := HD11.out.c6
       by_cases hqy0 : q + y = 0
       ·have hz : (s2 != 0) = false := by rw [<- HS2.out, sign_ne, hqy0]; rfl
        have HPUT : Hid (l.take j ++ ([] ++ l.drop (j + 1)) = listOf (addAt (co l) f q)) := Lib.hid (by have := HOVER.out y HX.out; rwa [if_pos hqy0] at this)
        clear hqy0
        have HBZ := HB11
        have HOZ := HO11
        have HZZ : Hid (w.heap.size + 1 <= w11.heap.size) := Lib.hid HD11.out.lt
        have hk1l : j + 1 <= l.length := hltK.out
        have hl57 := HLEN.out
        have hck := HKC.out.2.2
        by_cases hc9 : c1 = j + 1
        ·have hle : l.length <= j + 1 := by omega
         obtain ⟨ys9, hrd9, hcs9⟩ := (HP.out.below HBZ.out).cells6
         obtain ⟨v3, w3', HRUN3, hown3, hg3, _⟩ := HOZ.out.app (show RdK w11 6 [] (some ⟨b, o, none⟩) (l.length - (j + 1)) 0 from by rw [Nat.sub_eq_zero_of_le hle]; exact RdK.nil _ _ _ _) (Cells6.nil _) (by simp only [List.length_append, List.length_take, List.length_cons, List.length_nil]; omega) HZZ.out
         have hB10 := HBZ.out.grown hg3 HBZ.out.size (fun j e => Nat.le_of_succ_le (HOZ.out.lt j e).1)
         have hlist : l.take j ++ [] = listOf (addAt (co l) f q) := by rw [<- HPUT.out]; simp [List.drop_eq_nil_of_le hle]
         have HEND : Hid (RetPol w (listOf (addAt (co l) f q)) (.returned v3) w3') := Lib.hid ⟨v3, rfl, hlist ▸ hown3.pol, hB10⟩
         clear hrd9 hcs9 hown3 hg3 hB10 hlist hle
         go_wp2_with (at_builtin; refine wpList_appM rfl (.tmp 79) (.tmp 83) rfl rfl _ _ _ _ rfl rfl HRUN3 ?_)
         go_ret
         exact HEND.out
        ·obtain ⟨ys9, hrd9, hcs9⟩ := (HP.out.below HBZ.out).cells6
         obtain ⟨v3, w3', HRUN3, hown3, hg3, _⟩ := HOZ.out.app (hrd9.drop (j := j + 1) hk1l) (hcs9.drop (j + 1)) (by simp only [List.length_append, List.length_take, List.length_cons, List.length_nil]; omega) HZZ.out
         have hB10 := HBZ.out.grown hg3 HBZ.out.size (fun j e => Nat.le_of_succ_le (HOZ.out.lt j e).1)
         have hlist : l.take j ++ l.drop (j + 1) = listOf (addAt (co l) f q) := by rw [<- HPUT.out]; simp
         have HEND : Hid (RetPol w (listOf (addAt (co l) f q)) (.returned v3) w3') := Lib.hid ⟨v3, rfl, hlist ▸ hown3.pol, hB10⟩
         clear hrd9 hcs9 hown3 hg3 hB10 hlist
         go_wp2_with (at_builtin; refine wpList_appM rfl (.tmp 79) (.tmp 83) rfl rfl _ _ _ _ rfl rfl HRUN3 ?_)
         go_ret
         exact HEND.out
       ·have hz : (s2 != 0) = true := by rw [<- HS2.out, sign_ne]; exact decide_eq_true hqy0
        have HPUT : Hid (l.take j ++ ([(f, q + y)] ++ l.drop (j + 1)) = listOf (addAt (co l) f q)) := Lib.hid (by have := HOVER.out y HX.out; rwa [if_neg hqy0] at this)
        clear hqy0
        obtain ⟨hb8, d8⟩ := new6 w11 (.int .i64 (f.1 : Int)) (.int .i64 (f.2.1 : Int)) (.int .i64 (f.2.2 : Int)) (.bool sb) (.slice sA sn sc) (.slice sB sm sd)
        have hB8 := HB11.out.trans (hb8.mono HB11.out.size)
        have hO8 := HO11.out.below hb8
        have hz8 : w.heap.size + 1 <= (w11.alloc (M6 (.int .i64 (f.1 : Int)) (.int .i64 (f.2.1 : Int)) (.int .i64 (f.2.2 : Int)) (.bool sb) (.slice sA sn sc) (.slice sB sm sd))).heap.size := Nat.le_trans (show w.heap.size + 1 <= w11.heap.size from HD11.out.lt) hb8.size
        obtain ⟨v2, w2', HRUN2, hown2, hg2, _⟩ := hO8.app1 (m := (f, q + y)) d8 (HQ11.out.below hb8) (by rw [List.length_take]; have := HLEN.out; omega) hz8
        have HBZ := Lib.hid (hB8.grown hg2 hB8.size (fun j e => Nat.le_of_succ_le (hO8.lt j e).1))
        have HOZ := Lib.hid hown2
        have HZZ : Hid (w.heap.size + 1 <= w2'.heap.size) := Lib.hid (Nat.le_trans hz8 hg2.size)
        clear hb8 d8 hB8 hO8 hz8 hown2 hg2
        have hk1l : j + 1 <= l.length := hltK.out
        have hl57 := HLEN.out
        have hck := HKC.out.2.2
        by_cases hc9 : c1 = j + 1
        ·have hle : l.length <= j + 1 := by omega
         obtain ⟨ys9, hrd9, hcs9⟩ := (HP.out.below HBZ.out).cells6
         obtain ⟨v3, w3', HRUN3, hown3, hg3, _⟩ := HOZ.out.app (show RdK w2' 6 [] (some ⟨b, o, none⟩) (l.length - (j + 1)) 0 from by rw [Nat.sub_eq_zero_of_le hle]; exact RdK.nil _ _ _ _) (Cells6.nil _) (by simp only [List.length_append, List.length_take, List.length_cons, List.length_nil]; omega) HZZ.out
         have hB10 := HBZ.out.grown hg3 HBZ.out.size (fun j e => Nat.le_of_succ_le (HOZ.out.lt j e).1)
         have hlist : (l.take j ++ [(f, q + y)]) ++ [] = listOf (addAt (co l) f q) := by rw [<- HPUT.out]; simp [List.drop_eq_nil_of_le hle]
         have HEND : Hid (RetPol w (listOf (addAt (co l) f q)) (.returned v3) w3') := Lib.hid ⟨v3, rfl, hlist ▸ hown3.pol, hB10⟩
         clear hrd9 hcs9 hown3 hg3 hB10 hlist hle
         go_wp2_with ((first | (at_builtin; refine wpList_appM rfl (.tmp 75) (.tmp 77) rfl rfl _ _ _ _ rfl rfl HRUN2 ?_) | (at_builtin; refine wpList_appM rfl (.tmp 79) (.tmp 83) rfl rfl _ _ _ _ rfl rfl HRUN3 ?_) | fail))
         go_ret
         exact HEND.out
        ·obtain ⟨ys9, hrd9, hcs9⟩ := (HP.out.below HBZ.out).cells6
         obtain ⟨v3, w3', HRUN3, hown3, hg3, _⟩ := HOZ.out.app (hrd9.drop (j := j + 1) hk1l) (hcs9.drop (j + 1)) (by simp only [List.length_append, List.length_take, List.length_cons, List.length_nil]; omega) HZZ.out
         have hB10 := HBZ.out.grown hg3 HBZ.out.size (fun j e => Nat.le_of_succ_le (HOZ.out.lt j e).1)
         have hlist : (l.take j ++ [(f, q + y)]) ++ l.drop (j + 1) = listOf (addAt (co l) f q) := by rw [<- HPUT.out]; simp
         have HEND : Hid (RetPol w (listOf (addAt (co l) f q)) (.returned v3) w3') := Lib.hid ⟨v3, rfl, hlist ▸ hown3.pol, hB10⟩
         clear hrd9 hcs9 hown3 hg3 hB10 hlist
         go_wp2_with ((first | (at_builtin; refine wpList_appM rfl (.tmp 75) (.tmp 77) rfl rfl _ _ _ _ rfl rfl HRUN2 ?_) | (at_builtin; refine wpList_appM rfl (.tmp 79) (.tmp 83) rfl rfl _ _ _ _ rfl rfl HRUN3 ?_) | fail))
         go_ret
         exact HEND.out
   ·have HV : Hid (lexI ((f.1 : Int), (f.2.1 : Int), (f.2.2 : Int)) ((e.1 : Int), (e.2.1 : Int), (e.2.2 : Int)) = -1) := Lib.hid (lexN_neg (by
     rcases elt_total hfe with h1 | h1
     ·exact h1
     ·rw [haft] at h1; cases h1))
    have HPUT : Hid (l.take j ++ ([(e, q)] ++ l.drop j) = listOf (addAt (co l) e q)) := Lib.hid (HNEW.out (fun x hx2 => by
     rw [hx] at hx2; cases hx2; exact hfe))
    clear hx hb' hat hqy haft hfe hjl
    go_upto_region 4 with (fail)
    refine wp_region6 15 [18, 19, 20, 21, 22, 23, 24, 25, 26, 27, 28, 29, 30, 31, 32] [.val (.int .i64 (j : Int)), .val (.slice (some ⟨b, o, none⟩) l.length c1), .val (.int .i64 (l.length : Int)), .val (.bool true), .val (.bool true), .val (.slice (some ⟨b, o, none⟩) l.length c1), .val (.int .i64 (j : Int)), .val (.pointer (some ⟨b, o + j * 6, none⟩)), .val (.pointer (some ⟨b, o + j * 6, none⟩)), .val (.agg #[.int .i64 (f.1 : Int), .int .i64 (f.2.1 : Int), .int .i64 (f.2.2 : Int)]), .val (.pointer (some ⟨w.heap.size, 0, none⟩)), .val (.agg #[.int .i64 (e.1 : Int), .int .i64 (e.2.1 : Int), .int .i64 (e.2.2 : Int)]), .val (.int .i64 (-1)), .val (.bool false), .val (.bool false)] (by kernel_rfl) (by kernel_rfl) (by kernel_rfl) (by kernel_rfl) ?stepxo 0 (by kernel_rfl) _ rfl ?finxo
    case stepxo =>
     intro i hi oi ho f' wx hB hdep K hK
     simp only [frontAct, zf1, zf2, zf3, zf4, zf5] at hK ⊢
     obtain ⟨x0, x1, x2, x3, x4, x5⟩ := HAT.out.below hB HLT.out
     obtain ⟨y0, y1, y2, y3, y4, y5⟩ := (HD6.out.below hB HD6.out.lt).c6
     obtain rfl | rfl | rfl | rfl | rfl | rfl | rfl | rfl | rfl | rfl | rfl | rfl | rfl | rfl | rfl := cs15 hi
     all_goals
      obtain rfl := Option.some.inj ho
      simp only [Act.put, zf3, zf4, zf5] at hK
     rotate_left 12
     ·have e22 := dv6 (hdep ⟨4, .guard⟩ (by simp) rfl) rfl
      have e27 := dv6 (hdep ⟨9, .data⟩ (by simp) rfl) rfl
      have e29 := dv6 (hdep ⟨11, .data⟩ (by simp) rfl) rfl
      simp only [zf6, zf7] at e22 e27 e29
      generalize f' 22 = f22 at *; subst e22
      generalize f' 27 = f27 at *; subst e27
      generalize f' 29 = f29 at *; subst e29
      go_simp
      refine (r2_order (f.1 : Int) (f.2.1 : Int) (f.2.2 : Int) (e.1 : Int) (e.2.1 : Int) (e.2.2 : Int) wx (-1) HV).mono ?_
      rintro e0 w' ⟨rfl, hb⟩
      exact hK (.int .i64 (-1)) w' (gv6 rfl) hb (hB.trans (hb.mono hB.size)) (nb6 rfl rfl)
     rotate_left 2
     all_goals simp [gOf6, Sq.holds, Region.binds] at hdep
     all_goals try simp only [hdep] at hK ⊢
     all_goals go_simp
     all_goals exact hK _ wx (gv6 rfl) (Below.refl _ _) hB (nb6 rfl rfl)
    case finxo =>
     intro f' wx hB hG hne
     have e32 := dv6 (a := f' 32) (hG 14 (by decide)) rfl
     clear hG hne
     simp only [frontAct, zf1, zf2, zf3, zf4, zf5]
     generalize f' 32 = z32 at *; subst e32
     have hBx := HBW.out.trans (hB.mono HBW.out.size)
     have D6 := HD6.out.below hB HD6.out.lt
     refine wpAny_done (by kernel_rfl) ?_ _
     obtain ⟨ys, hrd, hcs⟩ := (HP.out.below hBx).cells6
     obtain ⟨v1, w1, HRUN1, hown1, hg1, _⟩ := (OwnP.nil wx (w.heap.size + 1)).app (hrd.take (m := j) HKL.out) (hcs.take j) (by have := HLEN.out; have := HKL.out; simp; omega) D6.lt
     have hb1 : Below w.heap.size w w1 := hBx.grown hg1 hBx.size (fun j e => by cases e)
     have D61 := D6.grw hg1 (fun e => by cases e)
     rw [List.nil_append] at hown1
     have HB1 := Lib.hid hb1
     have HO1 := Lib.hid hown1
     have HD1 := Lib.hid D61
     have HKC : Hid (j <= c1 /\ 0 < c1 /\ l.length <= c1) := Lib.hid ⟨Nat.le_trans HKL.out hrd.cap, by have := hrd.cap; have := HL0.out; omega, hrd.cap⟩
     clear hrd hcs hown1 hg1 hb1 D61 D6 hBx hB
     have hkc := HKC.out.1
     have hkc0 := HKC.out.2.1
     go_upto_region 7 with (at_builtin; refine wpList_appM rfl (.const (.slice none 0 0)) (.tmp 37) rfl rfl _ _ _ _ rfl rfl HRUN1 ?_)
     clear hkc hkc0
     have HBW := Lib.hid HB1.out.drew
     have HD6 := Lib.hid HD1.out.drew
     have HO2 := Lib.hid (HO1.out.below (Below.refl _ _).drew)
     have HAT : Hid (At6 w1.drew b (o + j * 6) _ _ _ _ _ _) := Lib.hid (HAT0.out.keep (HBW.out.block b HBLT.out))
     have HLT : Hid (b < w1.drew.heap.size) := Lib.hid (Nat.lt_of_lt_of_le HBLT.out HBW.out.size)
     refine wp_region6 15 [39, 40, 41, 42, 43, 44, 45, 46, 47, 48, 49, 50, 51, 52, 53] [.val (.int .i64 (j : Int)), .val (.slice (some ⟨b, o, none⟩) l.length c1), .val (.int .i64 (l.length : Int)), .val (.bool false), .val (.bool false), .val (.slice (some ⟨b, o, none⟩) l.length c1), .val (.int .i64 (j : Int)), .val (.pointer (some ⟨b, o + j * 6, none⟩)), .val (.pointer (some ⟨b, o + j * 6, none⟩)), .val (.agg #[.int .i64 (f.1 : Int), .int .i64 (f.2.1 : Int), .int .i64 (f.2.2 : Int)]), .val (.pointer (some ⟨w.heap.size, 0, none⟩)), .val (.agg #[.int .i64 (e.1 : Int), .int .i64 (e.2.1 : Int), .int .i64 (e.2.2 : Int)]), .val (.int .i64 (-1)), .val (.bool true), .val (.bool true)] (by kernel_rfl) (by kernel_rfl) (by kernel_rfl) (by kernel_rfl) ?stepro 0 (by kernel_rfl) _ rfl ?finro
     case stepro =>
      intro i hi oi ho f' wx hB hdep K hK
      simp only [frontAct, zf1, zf2, zf3, zf4, zf5] at hK ⊢
      obtain ⟨x0, x1, x2, x3, x4, x5⟩ := HAT.out.below hB HLT.out
      obtain ⟨y0, y1, y2, y3, y4, y5⟩ := (HD6.out.below hB HD6.out.lt).c6
      obtain rfl | rfl | rfl | rfl | rfl | rfl | rfl | rfl | rfl | rfl | rfl | rfl | rfl | rfl | rfl := cs15 hi
      all_goals
       obtain rfl := Option.some.inj ho
       simp only [Act.put, zf3, zf4, zf5] at hK
      rotate_left 12
      ·have e43 := dv6 (hdep ⟨4, .guard⟩ (by simp) rfl) rfl
       have e48 := dv6 (hdep ⟨9, .data⟩ (by simp) rfl) rfl
       have e50 := dv6 (hdep ⟨11, .data⟩ (by simp) rfl) rfl
       simp only [zf6, zf7] at e43 e48 e50
       generalize f' 43 = f43 at *; subst e43
       generalize f' 48 = f48 at *; subst e48
       generalize f' 50 = f50 at *; subst e50
       go_simp
       refine (r2_order (f.1 : Int) (f.2.1 : Int) (f.2.2 : Int) (e.1 : Int) (e.2.1 : Int) (e.2.2 : Int) wx (-1) HV).mono ?_
       rintro e0 w' ⟨rfl, hb⟩
       exact hK (.int .i64 (-1)) w' (gv6 rfl) hb (hB.trans (hb.mono hB.size)) (nb6 rfl rfl)
      rotate_left 2
      all_goals simp [gOf6, Sq.holds, Region.binds] at hdep
      all_goals try simp only [hdep] at hK ⊢
      all_goals go_simp
      all_goals exact hK _ wx (gv6 rfl) (Below.refl _ _) hB (nb6 rfl rfl)
     case finro =>
      intro f' wx hB hG hne
      have e53 := dv6 (a := f' 53) (hG 14 (by decide)) rfl
      clear hG hne
      simp only [frontAct, zf1, zf2, zf3, zf4, zf5]
      generalize f' 53 = z53 at *; subst e53
      have hBy := HBW.out.trans (hB.mono HBW.out.size)
      have D6y := HD6.out.below hB HD6.out.lt
      have hO := HO2.out.below hB
      have HBY := Lib.hid hBy.drew
      obtain ⟨hb8, d8⟩ := new6 wx.drew (.int .i64 (e.1 : Int)) (.int .i64 (e.2.1 : Int)) (.int .i64 (e.2.2 : Int)) (.bool nb) (.slice A n c) (.slice B m k)
      have hB8 := HBY.out.trans (hb8.mono HBY.out.size)
      have hO8 := (hO.below (Below.refl _ _).drew).below hb8
      have hz8 : w.heap.size + 1 <= (wx.drew.alloc (M6 (.int .i64 (e.1 : Int)) (.int .i64 (e.2.1 : Int)) (.int .i64 (e.2.2 : Int)) (.bool nb) (.slice A n c) (.slice B m k))).heap.size := Nat.le_trans (show w.heap.size + 1 <= wx.drew.heap.size from D6y.lt) hb8.size
      obtain ⟨v2, w2', HRUN2, hown2, hg2, hk2⟩ := hO8.app1 (m := (e, q)) d8 (HQ0.out.below hB8) (by rw [List.length_take]; have := HLEN.out; omega) hz8
      have hB9 := hB8.grown hg2 hB8.size (fun j e => Nat.le_of_succ_le (hO8.lt j e).1)
      obtain ⟨ys9, hrd9, hcs9⟩ := (HP.out.below hB9).cells6
      obtain ⟨v3, w3', HRUN3, hown3, hg3, _⟩ := hown2.app (hrd9.drop (j := j) HKL.out) (hcs9.drop j) (by rw [List.length_append, List.length_take]; have := HLEN.out; have := HKL.out; simp; omega) (Nat.le_trans hz8 hg2.size)
      have hB10 := hB9.grown hg3 hB9.size (fun j e => Nat.le_of_succ_le (hown2.lt j e).1)
      have HEND : Hid (RetPol w (listOf (addAt (co l) e q)) (.returned v3) w3') := Lib.hid ⟨v3, rfl, by rw [<- HPUT.out, <- List.append_assoc]; exact hown3.pol, hB10⟩
      obtain ⟨y0, y1, y2, y3, y4, y5⟩ := D6y.drew.c6
      clear hBy D6y hO hb8 d8 hB8 hO8 hz8 hown2 hg2 hk2 hB9 hrd9 hcs9 hown3 hg3 hB10 hB
      have hck := HKC.out.1
      have hjle : j <= l.length := HKL.out
      have hcj : ¬ c1 = j := by have := HKC.out.2.2; have := hltK.out; omega
      refine wpAny_done (by kernel_rfl) ?_ _
      go_upto_region 8 with (fail)
      go_region_law (first | (refine step_appM rfl (.tmp 54) (.tmp 56) rfl rfl _ _ _ _ rfl rfl HRUN2 ?_) | (refine step_appM rfl (.tmp 57) (.tmp 60) rfl rfl _ _ _ _ rfl rfl HRUN3 ?_) | fail)
      all_goals go_wp2_with fail
      all_goals go_ret
      all_goals exact HEND.out
  ·obtain rfl : j = l.length := by have := HKL.out; omega
   have HPUT : Hid (l.take l.length ++ ([(e, q)] ++ l.drop l.length) = listOf (addAt (co l) e q)) := Lib.hid (HNEW.out (fun x hx2 => by
    rw [List.getElem?_eq_none (Nat.le_refl _)] at hx2; cases hx2))
   clear hjl
   go_upto_region 4 with (fail)
   refine wp_region6 15 [18, 19, 20, 21, 22, 23, 24, 25, 26, 27, 28, 29, 30, 31, 32] [.val (.int .i64 (l.length : Int)), .val (.slice (some ⟨b, o, none⟩) l.length c1), .val (.int .i64 (l.length : Int)), .val (.bool false), .val (.bool false), .val (undef), .val (undef), .val (undef), .val (undef), .val (undef), .val (undef), .val (undef), .val (undef), .val (undef), .val (.bool false)] (by kernel_rfl) (by kernel_rfl) (by kernel_rfl) (by kernel_rfl) ?stepxn 0 (by kernel_rfl) _ rfl ?finxn
   case stepxn =>
    intro i hi oi ho f' wx hB hdep K hK
    simp only [frontAct, zf1, zf2, zf3, zf4, zf5] at hK ⊢
    obtain ⟨y0, y1, y2, y3, y4, y5⟩ := (HD6.out.below hB HD6.out.lt).c6
    obtain rfl | rfl | rfl | rfl | rfl | rfl | rfl | rfl | rfl | rfl | rfl | rfl | rfl | rfl | rfl := cs15 hi
    all_goals
     obtain rfl := Option.some.inj ho
     simp only [Act.put, zf3, zf4, zf5] at hK
    rotate_left 15
    all_goals simp [gOf6, Sq.holds, Region.binds] at hdep
    all_goals try simp only [hdep] at hK ⊢
    all_goals go_simp
    all_goals exact hK _ wx (gv6 rfl) (Below.refl _ _) hB (nb6 rfl rfl)
   case finxn =>
    intro f' wx hB hG hne
    have e32 := dv6 (a := f' 32) (hG 14 (by decide)) rfl
    clear hG hne
    simp only [frontAct, zf1, zf2, zf3, zf4, zf5]
    generalize f' 32 = z32 at *; subst e32
    have hBx := HBW.out.trans (hB.mono HBW.out.size)
    have D6 := HD6.out.below hB HD6.out.lt
    refine wpAny_done (by kernel_rfl) ?_ _
    obtain ⟨ys, hrd, hcs⟩ := (HP.out.below hBx).cells6
    obtain ⟨v1, w1, HRUN1, hown1, hg1, _⟩ := (OwnP.nil wx (w.heap.size + 1)).app (hrd.take (m := l.length) HKL.out) (hcs.take l.length) (by have := HLEN.out; have := HKL.out; simp; omega) D6.lt
    have hb1 : Below w.heap.size w w1 := hBx.grown hg1 hBx.size (fun j e => by cases e)
    have D61 := D6.grw hg1 (fun e => by cases e)
    rw [List.nil_append] at hown1
    have HB1 := Lib.hid hb1
    have HO1 := Lib.hid hown1
    have HD1 := Lib.hid D61
    have HKC : Hid (l.length <= c1 /\ 0 < c1 /\ l.length <= c1) := Lib.hid ⟨Nat.le_trans HKL.out hrd.cap, by have := hrd.cap; have := HL0.out; omega, hrd.cap⟩
    clear hrd hcs hown1 hg1 hb1 D61 D6 hBx hB
    have hkc := HKC.out.1
    have hkc0 := HKC.out.2.1
    go_upto_region 7 with (at_builtin; refine wpList_appM rfl (.const (.slice none 0 0)) (.tmp 37) rfl rfl _ _ _ _ rfl rfl HRUN1 ?_)
    clear hkc hkc0
    have HBW := Lib.hid HB1.out.drew
    have HD6 := Lib.hid HD1.out.drew
    have HO2 := Lib.hid (HO1.out.below (Below.refl _ _).drew)
    refine wp_region6 15 [39, 40, 41, 42, 43, 44, 45, 46, 47, 48, 49, 50, 51, 52, 53] [.val (.int .i64 (l.length : Int)), .val (.slice (some ⟨b, o, none⟩) l.length c1), .val (.int .i64 (l.length : Int)), .val (.bool true), .val (.bool true), .val (undef), .val (undef), .val (undef), .val (undef), .val (undef), .val (undef), .val (undef), .val (undef), .val (undef), .val (.bool true)] (by kernel_rfl) (by kernel_rfl) (by kernel_rfl) (by kernel_rfl) ?steprn 0 (by kernel_rfl) _ rfl ?finrn
    case steprn =>
     intro i hi oi ho f' wx hB hdep K hK
     simp only [frontAct, zf1, zf2, zf3, zf4, zf5] at hK ⊢
     obtain ⟨y0, y1, y2, y3, y4, y5⟩ := (HD6.out.below hB HD6.out.lt).c6
     obtain rfl | rfl | rfl | rfl | rfl | rfl | rfl | rfl | rfl | rfl | rfl | rfl | rfl | rfl | rfl := cs15 hi
     all_goals
      obtain rfl := Option.some.inj ho
      simp only [Act.put, zf3, zf4, zf5] at hK
     rotate_left 15
     all_goals simp [gOf6, Sq.holds, Region.binds] at hdep
     all_goals try simp only [hdep] at hK ⊢
     all_goals go_simp
     all_goals exact hK _ wx (gv6 rfl) (Below.refl _ _) hB (nb6 rfl rfl)
    case finrn =>
     intro f' wx hB hG hne
     have e53 := dv6 (a := f' 53) (hG 14 (by decide)) rfl
     clear hG hne
     simp only [frontAct, zf1, zf2, zf3, zf4, zf5]
     generalize f' 53 = z53 at *; subst e53
     by_cases hc9 : c1 = l.length
     ·have hBy := HBW.out.trans (hB.mono HBW.out.size)
      have D6y := HD6.out.below hB HD6.out.lt
      have hO := HO2.out.below hB
      have HBY := Lib.hid hBy.drew
      obtain ⟨hb8, d8⟩ := new6 wx.drew (.int .i64 (e.1 : Int)) (.int .i64 (e.2.1 : Int)) (.int .i64 (e.2.2 : Int)) (.bool nb) (.slice A n c) (.slice B m k)
      have hB8 := HBY.out.trans (hb8.mono HBY.out.size)
      have hO8 := (hO.below (Below.refl _ _).drew).below hb8
      have hz8 : w.heap.size + 1 <= (wx.drew.alloc (M6 (.int .i64 (e.1 : Int)) (.int .i64 (e.2.1 : Int)) (.int .i64 (e.2.2 : Int)) (.bool nb) (.slice A n c) (.slice B m k))).heap.size := Nat.le_trans (show w.heap.size + 1 <= wx.drew.heap.size from D6y.lt) hb8.size
      obtain ⟨v2, w2', HRUN2, hown2, hg2, hk2⟩ := hO8.app1 (m := (e, q)) d8 (HQ0.out.below hB8) (by rw [List.length_take]; have := HLEN.out; omega) hz8
      have hB9 := hB8.grown hg2 hB8.size (fun j e => Nat.le_of_succ_le (hO8.lt j e).1)
      obtain ⟨v3, w3', HRUN3, hown3, hg3, _⟩ := hown2.app (RdK.nil _ 6 (some ⟨b, o, none⟩) 0) (Cells6.nil _) (by rw [List.length_append, List.length_take]; have := HLEN.out; simp; omega) (Nat.le_trans hz8 hg2.size)
      have hB10 := hB9.grown hg3 hB9.size (fun j e => Nat.le_of_succ_le (hown2.lt j e).1)
      have hlist : l.take l.length ++ [(e, q)] ++ [] = listOf (addAt (co l) e q) := by rw [<- HPUT.out]; simp
      have HEND : Hid (RetPol w (listOf (addAt (co l) e q)) (.returned v3) w3') := Lib.hid ⟨v3, rfl, hlist ▸ hown3.pol, hB10⟩
      obtain ⟨y0, y1, y2, y3, y4, y5⟩ := D6y.drew.c6
      clear hBy D6y hO hb8 d8 hB8 hO8 hz8 hown2 hg2 hk2 hB9 hown3 hg3 hB10 hB hlist
      refine wpAny_done (by kernel_rfl) ?_ _
      go_upto_region 8 with (fail)
      go_region_law (first | (refine step_appM rfl (.tmp 54) (.tmp 56) rfl rfl _ _ _ _ rfl rfl HRUN2 ?_) | (refine step_appM rfl (.tmp 57) (.tmp 60) rfl rfl _ _ _ _ rfl rfl HRUN3 ?_) | fail)
      all_goals go_wp2_with fail
      all_goals go_ret
      all_goals exact HEND.out
     ·have hBy := HBW.out.trans (hB.mono HBW.out.size)
      have D6y := HD6.out.below hB HD6.out.lt
      have hO := HO2.out.below hB
      have HBY := Lib.hid hBy.drew
      obtain ⟨hb8, d8⟩ := new6 wx.drew (.int .i64 (e.1 : Int)) (.int .i64 (e.2.1 : Int)) (.int .i64 (e.2.2 : Int)) (.bool nb) (.slice A n c) (.slice B m k)
      have hB8 := HBY.out.trans (hb8.mono HBY.out.size)
      have hO8 := (hO.below (Below.refl _ _).drew).below hb8
      have hz8 : w.heap.size + 1 <= (wx.drew.alloc (M6 (.int .i64 (e.1 : Int)) (.int .i64 (e.2.1 : Int)) (.int .i64 (e.2.2 : Int)) (.bool nb) (.slice A n c) (.slice B m k))).heap.size := Nat.le_trans (show w.heap.size + 1 <= wx.drew.heap.size from D6y.lt) hb8.size
      obtain ⟨v2, w2', HRUN2, hown2, hg2, hk2⟩ := hO8.app1 (m := (e, q)) d8 (HQ0.out.below hB8) (by rw [List.length_take]; have := HLEN.out; omega) hz8
      have hB9 := hB8.grown hg2 hB8.size (fun j e => Nat.le_of_succ_le (hO8.lt j e).1)
      obtain ⟨v3, w3', HRUN3, hown3, hg3, _⟩ := hown2.app (RdK.nil _ 6 (some ⟨b, o + l.length * 6, none⟩) (c1 - l.length)) (Cells6.nil _) (by rw [List.length_append, List.length_take]; have := HLEN.out; simp; omega) (Nat.le_trans hz8 hg2.size)
      have hB10 := hB9.grown hg3 hB9.size (fun j e => Nat.le_of_succ_le (hown2.lt j e).1)
      have hlist : l.take l.length ++ [(e, q)] ++ [] = listOf (addAt (co l) e q) := by rw [<- HPUT.out]; simp
      have HEND : Hid (RetPol w (listOf (addAt (co l) e q)) (.returned v3) w3') := Lib.hid ⟨v3, rfl, hlist ▸ hown3.pol, hB10⟩
      obtain ⟨y0, y1, y2, y3, y4, y5⟩ := D6y.drew.c6
      clear hBy D6y hO hb8 d8 hB8 hO8 hz8 hown2 hg2 hk2 hB9 hown3 hg3 hB10 hB hlist
      refine wpAny_done (by kernel_rfl) ?_ _
      go_upto_region 8 with (fail)
      go_region_law (first | (refine step_appM rfl (.tmp 54) (.tmp 56) rfl rfl _ _ _ _ rfl rfl HRUN2 ?_) | (refine step_appM rfl (.tmp 57) (.tmp 60) rfl rfl _ _ _ _ rfl rfl HRUN3 ?_) | fail)
      all_goals go_wp2_with fail
      all_goals go_ret
      all_goals exact HEND.out
theorem listOf_addAt_idle {l : List Mon} (h : VP l) {e : Ex} {q : Rat} (h0 : ¬ deg e <= 5 \/ q = 0) : listOf (addAt (co l) e q) = l := by
 conv => rhs; rw [<- listOf_co h]
 refine listOf_congr (fun f hf => ?_)
 unfold addAt
 rcases h0 with h0 | h0
 ·rw [if_neg (fun (e' : f = e) => h0 (e' ▸ hf)), Rat.add_zero]
 ·subst h0; split <;> rw [Rat.add_zero]
theorem app_none {w : World} {B : Nat} {v : Value} {l : List Mon} (h : OwnP w B v l) : Hid (∀ A c, Hid ((Builtin.append_ #[22, 22] 22 #[v, .slice A 0 c]).run Tryz.prog w = .ok v w)) := Lib.hid (fun A c => by
 obtain ⟨i0, hi, hz0, hz1, hz2⟩ := info_parts info_mon
 obtain ⟨ys, hown, _⟩ := h.row
 refine Lib.hid ?_
 rcases hown.2 with ⟨rfl, _⟩ | ⟨g, cap, cur, rfl, _, _, hnc, _⟩
 ·cases A <;> simp [Builtin.append_, run_underlying Tryz.underlying22, sizeOf, typeInfo, hi, Builtin.lenOf, Builtin.firstCells, hz1, loadCells, loadCellsFrom, storeCells]
 ·cases A <;> simp [Builtin.append_, run_underlying Tryz.underlying22, sizeOf, typeInfo, hi, Builtin.lenOf, Builtin.firstCells, hz1, hnc, loadCells, loadCellsFrom, storeCells])
theorem r2_put_nil0 (c1 : Nat) (e : Ex) (q : Rat) (nb : Bool) (A B : Option Addr) (n c m k : Nat) (w : World) (hq : RatQ w (.agg #[.bool nb, .slice A n c, .slice B m k]) q) (hS : Sz q 200000) (hd : deg e <= 5) (h0 : q ≠ 0) :
 Calls Tryz.prog 57 #[.slice none 0 c1, .agg #[.int .i64 (e.1 : Int), .int .i64 (e.2.1 : Int), .int .i64 (e.2.2 : Int), .bool nb, .slice A n c, .slice B m k]] w (RetPol w [(e, q)]) := by
 obtain ⟨hb6, d6⟩ := new6 w (.int .i64 (e.1 : Int)) (.int .i64 (e.2.1 : Int)) (.int .i64 (e.2.2 : Int)) (.bool nb) (.slice A n c) (.slice B m k)
 have HQ0 := Lib.hid hq
 have HSQ := Lib.hid hS
 have hkn : Hid (knownI ((e.1 : Int), (e.2.1 : Int), (e.2.2 : Int)) = true) := Lib.hid (by rw [knownI_nat]; exact decide_eq_true hd)
 have HNZ := Lib.hid h0
 have y := d6.c6
 clear hq hS hd h0
 go_enter Tryz.func57, Tryz.ntmps57
 go_wp2_with fail
 generalize (w.alloc (M6 (.int .i64 (e.1 : Int)) (.int .i64 (e.2.1 : Int)) (.int .i64 (e.2.2 : Int)) (.bool nb) (.slice A n c) (.slice B m k))) = W at *
 refine (r2_possible _ _ _ _ _ hkn).mono ?_
 rintro e2 w2 ⟨rfl, hb2⟩
 replace hb6 := hb6.trans (hb2.mono hb6.size)
 replace d6 := d6.below hb2 d6.lt
 replace y := d6.c6
 clear hb2 hkn
 obtain ⟨sg, hsg⟩ : ∃ sg, q.num.sign = sg := ⟨_, rfl⟩
 have HSG := Lib.hid hsg
 have hs0 : (sg == 0) = false := by rw [<- hsg, sign_zero]; exact decide_eq_false HNZ.out
 have HS0 := Lib.hid hs0
 clear hs0 hsg
 go_wp2_with fail
 refine (r_SignV _ q sg _ ((HQ0.out.below hb6).inr HSQ.out (by omega)) HSG).mono ?_
 rintro e3 w3 ⟨rfl, hb3⟩
 replace hb6 := hb6.trans (hb3.mono hb6.size)
 replace d6 := d6.below hb3 d6.lt
 clear hb3 y
 have hs0 := HS0.out
 go_wp2_with fail
 clear hs0
 refine wp_loop_rounds 2 ?_
 rw [rounds_succ]
 have HBW := Lib.hid hb6.drew
 have HD6 := Lib.hid d6.drew
 clear hb6 d6
 go_upto_region 4 with (fail)
 refine wp_region6 15 [18, 19, 20, 21, 22, 23, 24, 25, 26, 27, 28, 29, 30, 31, 32] [.val (.int .i64 0), .val (.slice none 0 c1), .val (.int .i64 0), .val (.bool false), .val (.bool false), .val (undef), .val (undef), .val (undef), .val (undef), .val (undef), .val (undef), .val (undef), .val (undef), .val (undef), .val (.bool false)] (by kernel_rfl) (by kernel_rfl) (by kernel_rfl) (by kernel_rfl) ?stepa 0 (by kernel_rfl) _ rfl ?fina
 case stepa =>
  intro i hi oi ho f' wx hB hdep K hK
  simp only [frontAct, zf1, zf2, zf3, zf4, zf5] at hK ⊢
  obtain ⟨y0, y1, y2, y3, y4, y5⟩ := (HD6.out.below hB HD6.out.lt).c6
  obtain rfl | rfl | rfl | rfl | rfl | rfl | rfl | rfl | rfl | rfl | rfl | rfl | rfl | rfl | rfl := cs15 hi
  all_goals
   obtain rfl := Option.some.inj ho
   simp only [Act.put, zf3, zf4, zf5] at hK
  rotate_left 15
  all_goals simp [gOf6, Sq.holds, Region.binds] at hdep
  all_goals try simp only [hdep] at hK ⊢
  all_goals go_simp
  all_goals exact hK _ wx (gv6 rfl) (Below.refl _ _) hB (nb6 rfl rfl)
 case fina =>
  intro f' wx hB hG hne
  have e32 := dv6 (a := f' 32) (hG 14 (by decide)) rfl
  clear hG hne
  simp only [frontAct, zf1, zf2, zf3, zf4, zf5]
  generalize f' 32 = z32 at *; subst e32
  refine wpAny_done (by kernel_rfl) ?_ _
  have HB1 := Lib.hid (HBW.out.trans (hB.mono HBW.out.size)).drew
  have HD1 := Lib.hid (HD6.out.below hB HD6.out.lt).drew
  have HRUN1 := app_none (OwnP.nil wx 0)
  clear hB
  go_upto_region 7 with (at_builtin; refine wpList_appM rfl (.const (.slice none 0 0)) (.tmp 37) rfl rfl _ _ _ _ rfl rfl (HRUN1.out _ _) ?_)
  replace HBW := HB1
  replace HD6 := HD1
  refine wp_region6 15 [39, 40, 41, 42, 43, 44, 45, 46, 47, 48, 49, 50, 51, 52, 53] [.val (.int .i64 0), .val (.slice none 0 c1), .val (.int .i64 0), .val (.bool true), .val (.bool true), .val (undef), .val (undef), .val (undef), .val (undef), .val (undef), .val (undef), .val (undef), .val (undef), .val (undef), .val (.bool true)] (by kernel_rfl) (by kernel_rfl) (by kernel_rfl) (by kernel_rfl) ?stepb 0 (by kernel_rfl) _ rfl ?finb
  case stepb =>
   intro i hi oi ho f' wx hB hdep K hK
   simp only [frontAct, zf1, zf2, zf3, zf4, zf5] at hK ⊢
   obtain ⟨y0, y1, y2, y3, y4, y5⟩ := (HD6.out.below hB HD6.out.lt).c6
   obtain rfl | rfl | rfl | rfl | rfl | rfl | rfl | rfl | rfl | rfl | rfl | rfl | rfl | rfl | rfl := cs15 hi
   all_goals
    obtain rfl := Option.some.inj ho
    simp only [Act.put, zf3, zf4, zf5] at hK
   rotate_left 15
   all_goals simp [gOf6, Sq.holds, Region.binds] at hdep
   all_goals try simp only [hdep] at hK ⊢
   all_goals go_simp
   all_goals exact hK _ wx (gv6 rfl) (Below.refl _ _) hB (nb6 rfl rfl)
  case finb =>
   intro f' wx hB hG hne
   have e53 := dv6 (a := f' 53) (hG 14 (by decide)) rfl
   clear hG hne
   simp only [frontAct, zf1, zf2, zf3, zf4, zf5]
   generalize f' 53 = z53 at *; subst e53
   refine wpAny_done (by kernel_rfl) ?_ _
   have hBy := HBW.out.trans (hB.mono HBW.out.size)
   have D6y := HD6.out.below hB HD6.out.lt
   have HBY := Lib.hid hBy.drew
   obtain ⟨hb8, d8⟩ := new6 wx.drew (.int .i64 (e.1 : Int)) (.int .i64 (e.2.1 : Int)) (.int .i64 (e.2.2 : Int)) (.bool nb) (.slice A n c) (.slice B m k)
   have hB8 := HBY.out.trans (hb8.mono HBY.out.size)
   obtain ⟨v2, w2', HRUN2, hown2, hg2, hk2⟩ := (OwnP.nil (wx.drew.alloc (M6 (.int .i64 (e.1 : Int)) (.int .i64 (e.2.1 : Int)) (.int .i64 (e.2.2 : Int)) (.bool nb) (.slice A n c) (.slice B m k))) w.heap.size).app1 (m := (e, q)) d8 (HQ0.out.below hB8) (by simp) hB8.size
   have hB9 := hB8.grown hg2 hB8.size (fun j e => by cases e)
   have HRUN3 := app_none hown2
   have HEND : Hid (RetPol w [(e, q)] (.returned v2) w2') := Lib.hid ⟨v2, rfl, hown2.pol, hB9⟩
   obtain ⟨y0, y1, y2, y3, y4, y5⟩ := D6y.drew.c6
   clear hBy D6y hb8 d8 hB8 hown2 hg2 hk2 hB9 hB
   go_upto_region 8 with (fail)
   go_region_law (first | (refine step_appM rfl (.tmp 54) (.tmp 56) rfl rfl _ _ _ _ rfl rfl HRUN2 ?_) | (refine step_appM rfl (.tmp 57) (.tmp 60) rfl rfl _ _ _ _ rfl rfl (HRUN3.out _ _) ?_) | fail)
   all_goals go_wp2_with fail
   all_goals go_ret
   all_goals exact HEND.out
theorem r2_put_nil1 (a : Addr) (e : Ex) (q : Rat) (nb : Bool) (A B : Option Addr) (n c m k : Nat) (w : World) (hq : RatQ w (.agg #[.bool nb, .slice A n c, .slice B m k]) q) (hS : Sz q 200000) (hd : deg e <= 5) (h0 : q ≠ 0) :
 Calls Tryz.prog 57 #[.slice (some a) 0 0, .agg #[.int .i64 (e.1 : Int), .int .i64 (e.2.1 : Int), .int .i64 (e.2.2 : Int), .bool nb, .slice A n c, .slice B m k]] w (RetPol w [(e, q)]) := by
 obtain ⟨hb6, d6⟩ := new6 w (.int .i64 (e.1 : Int)) (.int .i64 (e.2.1 : Int)) (.int .i64 (e.2.2 : Int)) (.bool nb) (.slice A n c) (.slice B m k)
 have HQ0 := Lib.hid hq
 have HSQ := Lib.hid hS
 have hkn : Hid (knownI ((e.1 : Int), (e.2.1 : Int), (e.2.2 : Int)) = true) := Lib.hid (by rw [knownI_nat]; exact decide_eq_true hd)
 have HNZ := Lib.hid h0
 have y := d6.c6
 clear hq hS hd h0
 go_enter Tryz.func57, Tryz.ntmps57
 go_wp2_with fail
 generalize (w.alloc (M6 (.int .i64 (e.1 : Int)) (.int .i64 (e.2.1 : Int)) (.int .i64 (e.2.2 : Int)) (.bool nb) (.slice A n c) (.slice B m k))) = W at *
 refine (r2_possible _ _ _ _ _ hkn).mono ?_
 rintro e2 w2 ⟨rfl, hb2⟩
 replace hb6 := hb6.trans (hb2.mono hb6.size)
 replace d6 := d6.below hb2 d6.lt
 replace y := d6.c6
 clear hb2 hkn
 obtain ⟨sg, hsg⟩ : ∃ sg, q.num.sign = sg := ⟨_, rfl⟩
 have HSG := Lib.hid hsg
 have hs0 : (sg == 0) = false := by rw [<- hsg, sign_zero]; exact decide_eq_false HNZ.out
 have HS0 := Lib.hid hs0
 clear hs0 hsg
 go_wp2_with fail
 refine (r_SignV _ q sg _ ((HQ0.out.below hb6).inr HSQ.out (by omega)) HSG).mono ?_
 rintro e3 w3 ⟨rfl, hb3⟩
 replace hb6 := hb6.trans (hb3.mono hb6.size)
 replace d6 := d6.below hb3 d6.lt
 clear hb3 y
 have hs0 := HS0.out
 go_wp2_with fail
 clear hs0
 refine wp_loop_rounds 2 ?_
 rw [rounds_succ]
 have HBW := Lib.hid hb6.drew
 have HD6 := Lib.hid d6.drew
 clear hb6 d6
 go_upto_region 4 with (fail)
 refine wp_region6 15 [18, 19, 20, 21, 22, 23, 24, 25, 26, 27, 28, 29, 30, 31, 32] [.val (.int .i64 0), .val (.slice (some a) 0 0), .val (.int .i64 0), .val (.bool false), .val (.bool false), .val (undef), .val (undef), .val (undef), .val (undef), .val (undef), .val (undef), .val (undef), .val (undef), .val (undef), .val (.bool false)] (by kernel_rfl) (by kernel_rfl) (by kernel_rfl) (by kernel_rfl) ?stepa 0 (by kernel_rfl) _ rfl ?fina
 case stepa =>
  intro i hi oi ho f' wx hB hdep K hK
  simp only [frontAct, zf1, zf2, zf3, zf4, zf5] at hK ⊢
  obtain ⟨y0, y1, y2, y3, y4, y5⟩ := (HD6.out.below hB HD6.out.lt).c6
  obtain rfl | rfl | rfl | rfl | rfl | rfl | rfl | rfl | rfl | rfl | rfl | rfl | rfl | rfl | rfl := cs15 hi
  all_goals
   obtain rfl := Option.some.inj ho
   simp only [Act.put, zf3, zf4, zf5] at hK
  rotate_left 15
  all_goals simp [gOf6, Sq.holds, Region.binds] at hdep
  all_goals try simp only [hdep] at hK ⊢
  all_goals go_simp
  all_goals exact hK _ wx (gv6 rfl) (Below.refl _ _) hB (nb6 rfl rfl)
 case fina =>
  intro f' wx hB hG hne
  have e32 := dv6 (a := f' 32) (hG 14 (by decide)) rfl
  clear hG hne
  simp only [frontAct, zf1, zf2, zf3, zf4, zf5]
  generalize f' 32 = z32 at *; subst e32
  refine wpAny_done (by kernel_rfl) ?_ _
  have HB1 := Lib.hid (HBW.out.trans (hB.mono HBW.out.size)).drew
  have HD1 := Lib.hid (HD6.out.below hB HD6.out.lt).drew
  have HRUN1 := app_none (OwnP.nil wx 0)
  clear hB
  go_upto_region 7 with (at_builtin; refine wpList_appM rfl (.const (.slice none 0 0)) (.tmp 37) rfl rfl _ _ _ _ rfl rfl (HRUN1.out _ _) ?_)
  replace HBW := HB1
  replace HD6 := HD1
  refine wp_region6 15 [39, 40, 41, 42, 43, 44, 45, 46, 47, 48, 49, 50, 51, 52, 53] [.val (.int .i64 0), .val (.slice (some a) 0 0), .val (.int .i64 0), .val (.bool true), .val (.bool true), .val (undef), .val (undef), .val (undef), .val (undef), .val (undef), .val (undef), .val (undef), .val (undef), .val (undef), .val (.bool true)] (by kernel_rfl) (by kernel_rfl) (by kernel_rfl) (by kernel_rfl) ?stepb 0 (by kernel_rfl) _ rfl ?finb
  case stepb =>
   intro i hi oi ho f' wx hB hdep K hK
   simp only [frontAct, zf1, zf2, zf3, zf4, zf5] at hK ⊢
   obtain ⟨y0, y1, y2, y3, y4, y5⟩ := (HD6.out.below hB HD6.out.lt).c6
   obtain rfl | rfl | rfl | rfl | rfl | rfl | rfl | rfl | rfl | rfl | rfl | rfl | rfl | rfl | rfl := cs15 hi
   all_goals
    obtain rfl := Option.some.inj ho
    simp only [Act.put, zf3, zf4, zf5] at hK
   rotate_left 15
   all_goals simp [gOf6, Sq.holds, Region.binds] at hdep
   all_goals try simp only [hdep] at hK ⊢
   all_goals go_simp
   all_goals exact hK _ wx (gv6 rfl) (Below.refl _ _) hB (nb6 rfl rfl)
  case finb =>
   intro f' wx hB hG hne
   have e53 := dv6 (a := f' 53) (hG 14 (by decide)) rfl
   clear hG hne
   simp only [frontAct, zf1, zf2, zf3, zf4, zf5]
   generalize f' 53 = z53 at *; subst e53
   refine wpAny_done (by kernel_rfl) ?_ _
   have hBy := HBW.out.trans (hB.mono HBW.out.size)
   have D6y := HD6.out.below hB HD6.out.lt
   have HBY := Lib.hid hBy.drew
   obtain ⟨hb8, d8⟩ := new6 wx.drew (.int .i64 (e.1 : Int)) (.int .i64 (e.2.1 : Int)) (.int .i64 (e.2.2 : Int)) (.bool nb) (.slice A n c) (.slice B m k)
   have hB8 := HBY.out.trans (hb8.mono HBY.out.size)
   obtain ⟨v2, w2', HRUN2, hown2, hg2, hk2⟩ := (OwnP.nil (wx.drew.alloc (M6 (.int .i64 (e.1 : Int)) (.int .i64 (e.2.1 : Int)) (.int .i64 (e.2.2 : Int)) (.bool nb) (.slice A n c) (.slice B m k))) w.heap.size).app1 (m := (e, q)) d8 (HQ0.out.below hB8) (by simp) hB8.size
   have hB9 := hB8.grown hg2 hB8.size (fun j e => by cases e)
   have HRUN3 := app_none hown2
   have HEND : Hid (RetPol w [(e, q)] (.returned v2) w2') := Lib.hid ⟨v2, rfl, hown2.pol, hB9⟩
   obtain ⟨y0, y1, y2, y3, y4, y5⟩ := D6y.drew.c6
   clear hBy D6y hb8 d8 hB8 hown2 hg2 hk2 hB9 hB
   go_upto_region 8 with (fail)
   go_region_law (first | (refine step_appM rfl (.tmp 54) (.tmp 56) rfl rfl _ _ _ _ rfl rfl HRUN2 ?_) | (refine step_appM rfl (.tmp 57) (.tmp 60) rfl rfl _ _ _ _ rfl rfl (HRUN3.out _ _) ?_) | fail)
   all_goals go_wp2_with fail
   all_goals go_ret
   all_goals exact HEND.out
theorem r2_put_nil2 (a : Addr) (c1 : Nat) (e : Ex) (q : Rat) (nb : Bool) (A B : Option Addr) (n c m k : Nat) (w : World) (hq : RatQ w (.agg #[.bool nb, .slice A n c, .slice B m k]) q) (hS : Sz q 200000) (hd : deg e <= 5) (h0 : q ≠ 0) (hc : ¬ c1 = 0) :
 Calls Tryz.prog 57 #[.slice (some a) 0 c1, .agg #[.int .i64 (e.1 : Int), .int .i64 (e.2.1 : Int), .int .i64 (e.2.2 : Int), .bool nb, .slice A n c, .slice B m k]] w (RetPol w [(e, q)]) := by
 obtain ⟨hb6, d6⟩ := new6 w (.int .i64 (e.1 : Int)) (.int .i64 (e.2.1 : Int)) (.int .i64 (e.2.2 : Int)) (.bool nb) (.slice A n c) (.slice B m k)
 have HQ0 := Lib.hid hq
 have HSQ := Lib.hid hS
 have hkn : Hid (knownI ((e.1 : Int), (e.2.1 : Int), (e.2.2 : Int)) = true) := Lib.hid (by rw [knownI_nat]; exact decide_eq_true hd)
 have HNZ := Lib.hid h0
 have y := d6.c6
 clear hq hS hd h0
 go_enter Tryz.func57, Tryz.ntmps57
 go_wp2_with fail
 generalize (w.alloc (M6 (.int .i64 (e.1 : Int)) (.int .i64 (e.2.1 : Int)) (.int .i64 (e.2.2 : Int)) (.bool nb) (.slice A n c) (.slice B m k))) = W at *
 refine (r2_possible _ _ _ _ _ hkn).mono ?_
 rintro e2 w2 ⟨rfl, hb2⟩
 replace hb6 := hb6.trans (hb2.mono hb6.size)
 replace d6 := d6.below hb2 d6.lt
 replace y := d6.c6
 clear hb2 hkn
 obtain ⟨sg, hsg⟩ : ∃ sg, q.num.sign = sg := ⟨_, rfl⟩
 have HSG := Lib.hid hsg
 have hs0 : (sg == 0) = false := by rw [<- hsg, sign_zero]; exact decide_eq_false HNZ.out
 have HS0 := Lib.hid hs0
 clear hs0 hsg
 go_wp2_with fail
 refine (r_SignV _ q sg _ ((HQ0.out.below hb6).inr HSQ.out (by omega)) HSG).mono ?_
 rintro e3 w3 ⟨rfl, hb3⟩
 replace hb6 := hb6.trans (hb3.mono hb6.size)
 replace d6 := d6.below hb3 d6.lt
 clear hb3 y
 have hs0 := HS0.out
 go_wp2_with fail
 clear hs0
 refine wp_loop_rounds 2 ?_
 rw [rounds_succ]
 have HBW := Lib.hid hb6.drew
 have HD6 := Lib.hid d6.drew
 clear hb6 d6
 go_upto_region 4 with (fail)
 refine wp_region6 15 [18, 19, 20, 21, 22, 23, 24, 25, 26, 27, 28, 29, 30, 31, 32] [.val (.int .i64 0), .val (.slice (some a) 0 c1), .val (.int .i64 0), .val (.bool false), .val (.bool false), .val (undef), .val (undef), .val (undef), .val (undef), .val (undef), .val (undef), .val (undef), .val (undef), .val (undef), .val (.bool false)] (by kernel_rfl) (by kernel_rfl) (by kernel_rfl) (by kernel_rfl) ?stepa 0 (by kernel_rfl) _ rfl ?fina
 case stepa =>
  intro i hi oi ho f' wx hB hdep K hK
  simp only [frontAct, zf1, zf2, zf3, zf4, zf5] at hK ⊢
  obtain ⟨y0, y1, y2, y3, y4, y5⟩ := (HD6.out.below hB HD6.out.lt).c6
  obtain rfl | rfl | rfl | rfl | rfl | rfl | rfl | rfl | rfl | rfl | rfl | rfl | rfl | rfl | rfl := cs15 hi
  all_goals
   obtain rfl := Option.some.inj ho
   simp only [Act.put, zf3, zf4, zf5] at hK
  rotate_left 15
  all_goals simp [gOf6, Sq.holds, Region.binds] at hdep
  all_goals try simp only [hdep] at hK ⊢
  all_goals go_simp
  all_goals exact hK _ wx (gv6 rfl) (Below.refl _ _) hB (nb6 rfl rfl)
 case fina =>
  intro f' wx hB hG hne
  have e32 := dv6 (a := f' 32) (hG 14 (by decide)) rfl
  clear hG hne
  simp only [frontAct, zf1, zf2, zf3, zf4, zf5]
  generalize f' 32 = z32 at *; subst e32
  refine wpAny_done (by kernel_rfl) ?_ _
  have HB1 := Lib.hid (HBW.out.trans (hB.mono HBW.out.size)).drew
  have HD1 := Lib.hid (HD6.out.below hB HD6.out.lt).drew
  have HRUN1 := app_none (OwnP.nil wx 0)
  clear hB
  go_upto_region 7 with (at_builtin; refine wpList_appM rfl (.const (.slice none 0 0)) (.tmp 37) rfl rfl _ _ _ _ rfl rfl (HRUN1.out _ _) ?_)
  replace HBW := HB1
  replace HD6 := HD1
  refine wp_region6 15 [39, 40, 41, 42, 43, 44, 45, 46, 47, 48, 49, 50, 51, 52, 53] [.val (.int .i64 0), .val (.slice (some a) 0 c1), .val (.int .i64 0), .val (.bool true), .val (.bool true), .val (undef), .val (undef), .val (undef), .val (undef), .val (undef), .val (undef), .val (undef), .val (undef), .val (undef), .val (.bool true)] (by kernel_rfl) (by kernel_rfl) (by kernel_rfl) (by kernel_rfl) ?stepb 0 (by kernel_rfl) _ rfl ?finb
  case stepb =>
   intro i hi oi ho f' wx hB hdep K hK
   simp only [frontAct, zf1, zf2, zf3, zf4, zf5] at hK ⊢
   obtain ⟨y0, y1, y2, y3, y4, y5⟩ := (HD6.out.below hB HD6.out.lt).c6
   obtain rfl | rfl | rfl | rfl | rfl | rfl | rfl | rfl | rfl | rfl | rfl | rfl | rfl | rfl | rfl := cs15 hi
   all_goals
    obtain rfl := Option.some.inj ho
    simp only [Act.put, zf3, zf4, zf5] at hK
   rotate_left 15
   all_goals simp [gOf6, Sq.holds, Region.binds] at hdep
   all_goals try simp only [hdep] at hK ⊢
   all_goals go_simp
   all_goals exact hK _ wx (gv6 rfl) (Below.refl _ _) hB (nb6 rfl rfl)
  case finb =>
   intro f' wx hB hG hne
   have e53 := dv6 (a := f' 53) (hG 14 (by decide)) rfl
   clear hG hne
   simp only [frontAct, zf1, zf2, zf3, zf4, zf5]
   generalize f' 53 = z53 at *; subst e53
   refine wpAny_done (by kernel_rfl) ?_ _
   have hBy := HBW.out.trans (hB.mono HBW.out.size)
   have D6y := HD6.out.below hB HD6.out.lt
   have HBY := Lib.hid hBy.drew
   obtain ⟨hb8, d8⟩ := new6 wx.drew (.int .i64 (e.1 : Int)) (.int .i64 (e.2.1 : Int)) (.int .i64 (e.2.2 : Int)) (.bool nb) (.slice A n c) (.slice B m k)
   have hB8 := HBY.out.trans (hb8.mono HBY.out.size)
   obtain ⟨v2, w2', HRUN2, hown2, hg2, hk2⟩ := (OwnP.nil (wx.drew.alloc (M6 (.int .i64 (e.1 : Int)) (.int .i64 (e.2.1 : Int)) (.int .i64 (e.2.2 : Int)) (.bool nb) (.slice A n c) (.slice B m k))) w.heap.size).app1 (m := (e, q)) d8 (HQ0.out.below hB8) (by simp) hB8.size
   have hB9 := hB8.grown hg2 hB8.size (fun j e => by cases e)
   have HRUN3 := app_none hown2
   have HEND : Hid (RetPol w [(e, q)] (.returned v2) w2') := Lib.hid ⟨v2, rfl, hown2.pol, hB9⟩
   obtain ⟨y0, y1, y2, y3, y4, y5⟩ := D6y.drew.c6
   clear hBy D6y hb8 d8 hB8 hown2 hg2 hk2 hB9 hB
   go_upto_region 8 with (fail)
   go_region_law (first | (refine step_appM rfl (.tmp 54) (.tmp 56) rfl rfl _ _ _ _ rfl rfl HRUN2 ?_) | (refine step_appM rfl (.tmp 57) (.tmp 60) rfl rfl _ _ _ _ rfl rfl (HRUN3.out _ _) ?_) | fail)
   all_goals go_wp2_with fail
   all_goals go_ret
   all_goals exact HEND.out
theorem r2_put (v : Value) (l : List Mon) (e : Ex) (q : Rat) (nb : Bool) (A B : Option Addr) (n c m k : Nat) (w : World) (h : Pol w v l) (hv : VP l) (hs : SzL l 200000) (hq : RatQ w (.agg #[.bool nb, .slice A n c, .slice B m k]) q) (hS : Sz q 200000) :
 Calls Tryz.prog 57 #[v, .agg #[.int .i64 (e.1 : Int), .int .i64 (e.2.1 : Int), .int .i64 (e.2.2 : Int), .bool nb, .slice A n c, .slice B m k]] w (RetPol w (listOf (addAt (co l) e q))) := by
 by_cases h0 : ¬ deg e <= 5 \/ q = 0
 ·rw [listOf_addAt_idle hv h0]
  exact r2_put_idle v l e q nb A B n c m k 200000 w h hq hS (by omega) h0
 ·have hd : deg e <= 5 := Classical.byContradiction (fun hh => h0 (.inl hh))
  have hz : q ≠ 0 := fun hh => h0 (.inr hh)
  rcases Nat.eq_zero_or_pos l.length with hl | hl
  ·obtain rfl : l = [] := List.eq_nil_of_length_eq_zero hl
   obtain ⟨A1, c1, rfl⟩ := h.slice
   have he : listOf (addAt (co []) e q) = [(e, q)] := by
    have := put_there hv hd hz (fun x hx => by simp at hx)
    simpa using this.symm
   rw [he]
   rcases A1 with _ | a
   ·exact r2_put_nil0 c1 e q nb A B n c m k w hq hS hd hz
   ·by_cases hc : c1 = 0
    ·subst hc
     exact r2_put_nil1 a e q nb A B n c m k w hq hS hd hz
    ·exact r2_put_nil2 a c1 e q nb A B n c m k w hq hS hd hz hc
  ·exact r2_put_some v l e q nb A B n c m k w h hv hl hs hq hS hd hz
def PIr (w : World) (v : Value) (p : List Mon) (L : Nat) : Prop := ∃ raw, PRe w v raw /\ cleanL raw = p /\ SzL p L
theorem PIr.below {w w' : World} {v : Value} {p : List Mon} {L : Nat} (h : PIr w v p L) (hb : Below w.heap.size w w') : PIr w' v p L := by
 obtain ⟨raw, h1, h2, h3⟩ := h
 exact ⟨raw, h1.below hb, h2, h3⟩
theorem PIr.vp {w : World} {v : Value} {p : List Mon} {L : Nat} (h : PIr w v p L) : VP p := by
 obtain ⟨raw, _, rfl, _⟩ := h
 exact vp_cleanL raw
theorem PIr.szl {w : World} {v : Value} {p : List Mon} {L : Nat} (h : PIr w v p L) : SzL p L := h.choose_spec.2.2
theorem Pol.pre {w : World} {v : Value} {l : List Mon} {L : Nat} (h : Pol w v l) (hs : SzL l L) (hL : L <= 1000000) (hn : l.length <= 1000000) : PRe w v (l.map rawOf) := by
 refine ⟨?_, by rw [List.length_map]; exact hn⟩
 obtain ⟨A, n, c, xs, e, h1, h2, h3⟩ := h
 refine ⟨A, n, c, xs, e, h1, h2, fun i e q hi => ?_⟩
 obtain ⟨z0, z1, z2, hx, hr⟩ := h3 i e q hi
 refine ⟨z0, z1, z2, hx, hr.inr ?_ hL⟩
 rw [List.getElem?_map] at hi
 obtain ⟨m, hm, he⟩ := Option.map_eq_some_iff.1 hi
 have := hs m (List.mem_of_getElem? hm)
 rw [show m.2 = q from congrArg Prod.snd he] at this
 exact this
theorem Pol.pir {w : World} {v : Value} {p : List Mon} {L : Nat} (h : Pol w v p) (hv : VP p) (hs : SzL p L) (hL : L <= 1000000) : PIr w v p L :=
 ⟨p.map rawOf, h.pre hs hL (by have := vp_length hv; omega), cleanL_raw hv, hs⟩
theorem r2_Take_p (v : Value) (p : List Mon) (L : Nat) (w : World) (h : PIr w v p L) : Calls Tryz.prog 56 #[v] w (RetOwnP w p) := by
 obtain ⟨raw, h1, rfl, _⟩ := h
 exact r2_Take v raw w h1
theorem szL_listOf {c : Co} {L : Nat} (h : SzC c L) : SzL (listOf c) L := fun m hm => by
 obtain ⟨h1, _, h3⟩ := mem_listOf.1 hm
 rw [h3]; exact h m.1 h1
theorem szC_co {p : List Mon} {L : Nat} (hp : VP p) (h : SzL p L) (hL : 1 <= L) : SzC (co p) L := fun e _ => by
 by_cases hh : ∃ m ∈ p, m.1 = e
 ·obtain ⟨m, hm, rfl⟩ := hh
  rw [co_mem hp hm]; exact h m hm
 ·rw [co_absent (fun m hm e' => hh ⟨m, hm, e'⟩)]; exact sz_zero L hL
theorem szL_const {x : Rat} {L : Nat} (h : Sz x L) (hL : 1 <= L) : SzL (listOf (constC x)) L := szL_listOf (szC_const h hL)
theorem co_const (x : Rat) : co (listOf (constC x)) = constC x := co_of_listOf (low_const x)
theorem Parameter_in (i : Nat) (w : World) (h : i < 3) : Calls Tryz.prog 28 #[.int .i64 (i : Int)] w (RetPol w [(uE i, 1)]) := by
 match i, h with
 | 0, _ =>
   go_enter Tryz.func28, Tryz.ntmps28
   go_wp2_with fail
   refine (pone_any _).mono ?_
   rintro e1 w1 ⟨v1, rfl, hq, hb⟩
   obtain ⟨nb, A, n, c, B, m, k, rfl⟩ := hq.agg
   obtain ⟨hb6, d6⟩ := new6 w1 (.int .i64 1) (.int .i64 0) (.int .i64 0) (.bool nb) (.slice A n c) (.slice B m k)
   obtain ⟨hb7, d7⟩ := new6 (w1.alloc (M6 (.int .i64 1) (.int .i64 0) (.int .i64 0) (.bool nb) (.slice A n c) (.slice B m k))) (.int .i64 1) (.int .i64 0) (.int .i64 0) (.bool nb) (.slice A n c) (.slice B m k)
   obtain ⟨_, d5⟩ := new6 w1 (.int .i64 0) (.int .i64 0) (.int .i64 0) (.bool nb) (.slice A n c) (.slice B m k)
   have f0 := d5.frozen 0
   have y := d5.c6
   have y6 := d6.c6
   have hq7 := (hq.below hb6).below hb7
   have hB := hb.trans (hb6.mono hb.size)
   go_wp2_with fail
   refine bodyPost_ret (results_tmp rfl _ _ _) rfl ?_
   rw [World.size_alloc] at d7
   exact ⟨_, rfl, pol_one (e := uE 0) d7 hq7, hB.trans (hb7.mono hB.size)⟩
 | 1, _ =>
   go_enter Tryz.func28, Tryz.ntmps28
   go_wp2_with fail
   refine (pone_any _).mono ?_
   rintro e1 w1 ⟨v1, rfl, hq, hb⟩
   obtain ⟨nb, A, n, c, B, m, k, rfl⟩ := hq.agg
   obtain ⟨hb6, d6⟩ := new6 w1 (.int .i64 0) (.int .i64 1) (.int .i64 0) (.bool nb) (.slice A n c) (.slice B m k)
   obtain ⟨hb7, d7⟩ := new6 (w1.alloc (M6 (.int .i64 0) (.int .i64 1) (.int .i64 0) (.bool nb) (.slice A n c) (.slice B m k))) (.int .i64 0) (.int .i64 1) (.int .i64 0) (.bool nb) (.slice A n c) (.slice B m k)
   obtain ⟨_, d5⟩ := new6 w1 (.int .i64 0) (.int .i64 0) (.int .i64 0) (.bool nb) (.slice A n c) (.slice B m k)
   have f0 := d5.frozen 1
   have y := d5.c6
   have y6 := d6.c6
   have hq7 := (hq.below hb6).below hb7
   have hB := hb.trans (hb6.mono hb.size)
   go_wp2_with fail
   refine bodyPost_ret (results_tmp rfl _ _ _) rfl ?_
   rw [World.size_alloc] at d7
   exact ⟨_, rfl, pol_one (e := uE 1) d7 hq7, hB.trans (hb7.mono hB.size)⟩
 | 2, _ =>
   go_enter Tryz.func28, Tryz.ntmps28
   go_wp2_with fail
   refine (pone_any _).mono ?_
   rintro e1 w1 ⟨v1, rfl, hq, hb⟩
   obtain ⟨nb, A, n, c, B, m, k, rfl⟩ := hq.agg
   obtain ⟨hb6, d6⟩ := new6 w1 (.int .i64 0) (.int .i64 0) (.int .i64 1) (.bool nb) (.slice A n c) (.slice B m k)
   obtain ⟨hb7, d7⟩ := new6 (w1.alloc (M6 (.int .i64 0) (.int .i64 0) (.int .i64 1) (.bool nb) (.slice A n c) (.slice B m k))) (.int .i64 0) (.int .i64 0) (.int .i64 1) (.bool nb) (.slice A n c) (.slice B m k)
   obtain ⟨_, d5⟩ := new6 w1 (.int .i64 0) (.int .i64 0) (.int .i64 0) (.bool nb) (.slice A n c) (.slice B m k)
   have f0 := d5.frozen 2
   have y := d5.c6
   have y6 := d6.c6
   have hq7 := (hq.below hb6).below hb7
   have hB := hb.trans (hb6.mono hb.size)
   go_wp2_with fail
   refine bodyPost_ret (results_tmp rfl _ _ _) rfl ?_
   rw [World.size_alloc] at d7
   exact ⟨_, rfl, pol_one (e := uE 2) d7 hq7, hB.trans (hb7.mono hB.size)⟩
end Go.Proofs.YtifeekomegoijaaGreatDoor
namespace Go.Proofs.YtifeekomegoijaaGreatDoor
def pA : List Mon := [((1, 0, 0), 1)]
def pB : List Mon := [((0, 1, 0), 1)]
def pAB : List Mon := [((1, 0, 0), 1), ((0, 1, 0), 1)]
def pAH : List Mon := [((1, 0, 0), 1), ((0, 0, 0), mkRat 1 2)]
def pSq : List Mon := [((2, 0, 0), 1), ((1, 1, 0), 2), ((0, 2, 0), 1)]
def pSt : List Mon := [((5, 0, 0), 64), ((4, 0, 0), 32), ((3, 0, 0), 16), ((2, 0, 0), 8), ((1, 0, 0), 4), ((0, 0, 0), 2)]
theorem vpB_of {l : List Mon} (h : (l.all (fun m => decide (deg m.1 <= 5 /\ m.2 ≠ 0)) && decide (l.Pairwise (fun m n => elt n.1 m.1 = true))) = true) : VP l := by
 simp only [Bool.and_eq_true, List.all_eq_true, decide_eq_true_eq] at h
 exact h
theorem vp_pA : VP pA := vpB_of (by decide +kernel)
theorem vp_pB : VP pB := vpB_of (by decide +kernel)
theorem vp_pAB : VP pAB := vpB_of (by decide +kernel)
theorem vp_pAH : VP pAH := vpB_of (by decide +kernel)
theorem vp_pSq : VP pSq := vpB_of (by decide +kernel)
theorem vp_pSt : VP pSt := vpB_of (by decide +kernel)
theorem ex_add : listOf (addC (co pA) (co pB)) = pAB := by decide +kernel
theorem ex_half : listOf (addC (co pA) (constC (mkRat 1 2))) = pAH := by decide +kernel
theorem ex_sq : listOf (mulC (co pAB) (co pAB)) = pSq := by
 rw [show listOf (mulC (co pAB) (co pAB)) = listOf (mulL pAB pAB) from listOf_congr (fun e he => (mulL_mulC vp_pAB vp_pAB he).symm)]
 decide +kernel
theorem ex_star : listOf (starC [((1, 0, 0), 1)] 2) = pSt := by decide +kernel
end Go.Proofs.YtifeekomegoijaaGreatDoor
namespace Go.Proofs.YtifeekomegoijaaGreatDoor
open Go.RowKit
theorem Pol.setL {w : World} {v : Value} {l : List Mon} (h : Pol w v l) {g k : Nat} {ls : List Value} {t : TypeId} (hr : Cs w g ls t) (hl : ∀ v ∈ ls, (∀ x : Nat, v ≠ .int .u32 (x : Int)) /\ ∀ x : Int, v ≠ .int .i64 x) (us : List Value) : Pol (Go.Proofs.YtifeekomegoijaaGreatDoor.setL w g k us) v l := by
 obtain ⟨A, n, c, xs, rfl, hrd, hlen, hat⟩ := h
 refine ⟨A, n, c, xs, rfl, ⟨hrd.len, hrd.cap, fun hn => ?_⟩, hlen, fun i e q hi => ?_⟩
 ·obtain ⟨b, o, rfl, hb, hc⟩ := hrd.cells hn
  refine ⟨b, o, rfl, by rw [size_setL]; exact hb, ?_⟩
  have hne : b ≠ g := by
   rintro rfl
   obtain ⟨⟨e, q⟩, h0⟩ : ∃ m, (l.map rawOf)[0]? = some m := ⟨_, List.getElem?_eq_getElem (by have := hrd.len; omega)⟩
   obtain ⟨z0, z1, z2, hx, _⟩ := hat 0 e q h0
   have hc0 := hc 0 _ hx 0 _ rfl
   rw [cell_of_row w b _ _ _ _ hr, List.getElem?_toArray] at hc0
   exact (hl _ (List.mem_of_getElem? hc0)).2 _ rfl
  intro i x hx j u hu
  have h1 := hc i x hx j u hu
  unfold World.cell? at h1 ⊢
  simp only [] at h1 ⊢
  rw [heap_setL hne us k w]
  exact h1
 ·obtain ⟨z0, z1, z2, hx, hq⟩ := hat i e q hi
  exact ⟨z0, z1, z2, hx, hq.setL hr (fun v hv => (hl v hv).1) us⟩
abbrev A9 (z : Nat -> Value) : List Value := [z 0, z 1, z 2, z 3, z 4, z 5, z 6, z 7, z 8]
theorem A9.at {w : World} {g : Nat} {z : Nat -> Value} {t : TypeId} (h : Cs w g (A9 z) t) {i : Nat} (hi : i < 3) : w.cell? ⟨g, i * 3, none⟩ = some (z (i * 3)) /\ w.cell? ⟨g, i * 3 + 1, none⟩ = some (z (i * 3 + 1)) /\ w.cell? ⟨g, i * 3 + 2, none⟩ = some (z (i * 3 + 2)) := by
 match i, hi with
 | 0, _ => exact ⟨h.cell rfl, h.cell rfl, h.cell rfl⟩
 | 1, _ => exact ⟨h.cell rfl, h.cell rfl, h.cell rfl⟩
 | 2, _ => exact ⟨h.cell rfl, h.cell rfl, h.cell rfl⟩
end Go.Proofs.YtifeekomegoijaaGreatDoor
