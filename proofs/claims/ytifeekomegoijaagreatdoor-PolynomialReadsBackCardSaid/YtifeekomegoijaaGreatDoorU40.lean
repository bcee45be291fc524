/- texts -/
import Derived.RegionTactic
import Derived.Below
import Derived.Test.YtifeekomegoijaaGreatDoorU11
set_option linter.unusedVariables false
set_option linter.unusedSimpArgs false
namespace Go.Proofs.YtifeekomegoijaaGreatDoor
open Go Go.RowKit

section
variable {P : Program} {ops : Array Oper} {Q : Exit → Act → World → Prop} {md : Region.Mode}

def upd (f : Nat → Value) (d : Nat) (v : Value) : Nat → Value := fun k => if k = d then v else f k
def dstOf (ops : Array Oper) (i : Nat) : Nat := ((ops[i]?).bind (·.dst)).getD 0
def waits (md : Region.Mode) (ops : Array Oper) : Nat → Nat → Nat → Bool
 | 0, _, _ => false
 | n + 1, i, j => ((ops[i]?).map fun o => o.after.any fun e => Region.binds md e && (e.on == j || waits md ops n e.on j)).getD false
def frontOk (md : Region.Mode) (ops : Array Oper) (F : Nat → Bool) : Bool :=
 (List.range ops.size).all fun i => match ops[i]? with
  | none => true
  | some o => if F i then (o.dst.isSome && o.after.all (fun e => !Region.binds md e || (decide (e.on < i) && F e.on)) && (List.range ops.size).all (fun j => !F j || j == i || dstOf ops j != dstOf ops i))
    else (List.range ops.size).all (fun j => !F j || waits md ops 9 i j)
structure Front (md : Region.Mode) (ops : Array Oper) (F S : Nat → Bool) (G : Nat → Value → World → Prop) (B : World → Prop) (listed : Array Bool) (f : Nat → Value) (w : World) : Prop where
 size : listed.size = ops.size
 got : ∀ i, i < ops.size → listed.getD i false = true → F i = true ∧ G i (f (dstOf ops i)) w
 base : B w
 shut : ∀ i o, ops[i]? = some o → listed.getD i false = true → ∀ e ∈ o.after, Region.binds md e = true → listed.getD e.on false = true
 apart : ∀ i j, i < ops.size → j < ops.size → listed.getD i false = true → listed.getD j false = true → S i = true → S j = true → i ≠ j → f (dstOf ops i) ≠ f (dstOf ops j)
def left (ops : Array Oper) (F : Nat → Bool) (listed : Array Bool) : Nat := (List.range ops.size).countP fun i => F i && !listed.getD i false

theorem frontOk_in {F : Nat → Bool} (h : frontOk md ops F = true) {i : Nat} {o : Oper} (ho : ops[i]? = some o) (hi : F i = true) :
  (∃ d, o.dst = some d) ∧ (∀ e ∈ o.after, Region.binds md e = true → e.on < i ∧ F e.on = true) ∧ ∀ j, j < ops.size → F j = true → j ≠ i → dstOf ops j ≠ dstOf ops i := by
 have hlt : i < ops.size := (Array.getElem?_eq_some_iff.1 ho).1
 have h1 := List.all_eq_true.1 h i (List.mem_range.2 hlt)
 simp only [ho, hi, if_true, Bool.and_eq_true] at h1
 refine ⟨Option.isSome_iff_exists.1 h1.1.1, fun e he hb => ?_, fun j hj hF hne => ?_⟩
 ·have := Array.all_eq_true_iff_forall_mem.1 h1.1.2 e he
  simpa [hb] using this
 ·have := List.all_eq_true.1 h1.2 j (List.mem_range.2 hj)
  simpa [hF, hne] using this
theorem waits_listed {listed : Array Bool} (shut : ∀ i o, ops[i]? = some o → listed.getD i false = true → ∀ e ∈ o.after, Region.binds md e = true → listed.getD e.on false = true) {j : Nat} : ∀ (n i : Nat) (o : Oper), ops[i]? = some o → (∀ e ∈ o.after, Region.binds md e = true → listed.getD e.on false = true) → waits md ops n i j = true → listed.getD j false = true
 | 0, _, _, _, _, h => by cases h
 | n + 1, i, o, ho, hd, h => by
  unfold waits at h
  rw [ho] at h
  obtain ⟨e, he, hb⟩ := Array.any_eq_true'.1 (show (o.after.any fun e => Region.binds md e && (e.on == j || waits md ops n e.on j)) = true from h)
  simp only [Bool.and_eq_true, Bool.or_eq_true, beq_iff_eq] at hb
  have hl := hd e he hb.1
  rcases hb.2 with h1 | h1
  ·rw [← h1]; exact hl
  ·cases ho' : ops[e.on]? with
   | none =>
    cases n with
    | zero => cases h1
    | succ n => unfold waits at h1; rw [ho'] at h1; cases h1
   | some o' => exact waits_listed shut n e.on o' ho' (shut e.on o' ho' hl) h1
theorem frontOk_out {F : Nat → Bool} (h : frontOk md ops F = true) {i : Nat} {o : Oper} (ho : ops[i]? = some o) (hi : F i = false) {j : Nat} (hj : j < ops.size) (hF : F j = true) : waits md ops 9 i j = true := by
 have hlt : i < ops.size := (Array.getElem?_eq_some_iff.1 ho).1
 have h1 := List.all_eq_true.1 h i (List.mem_range.2 hlt)
 simp only [ho, hi, Bool.false_eq_true, if_false] at h1
 have h2 := List.all_eq_true.1 h1 j (List.mem_range.2 hj)
 rw [hF] at h2
 simpa using h2
theorem dstOf_some {i d : Nat} {o : Oper} (ho : ops[i]? = some o) (hd : o.dst = some d) : dstOf ops i = d := by simp [dstOf, ho, hd]
theorem countP_one {p q : Nat → Bool} {i : Nat} (hp : p i = true) (hq : q i = false) (h : ∀ j, j ≠ i → q j = p j) : ∀ l : List Nat, l.Nodup → i ∈ l → l.countP p = l.countP q + 1
 | [], _, hm => by cases hm
 | x :: l, hnd, hm => by
  have hx := List.nodup_cons.1 hnd
  by_cases e : x = i
  ·subst e
   have : l.countP p = l.countP q := List.countP_congr fun j hj => by
    rw [h j (fun e => hx.1 (e ▸ hj))]
   simp [hp, hq, this]
  ·have hm' : i ∈ l := (List.mem_cons.1 hm).resolve_left (fun e' => e e'.symm)
   have ih := countP_one hp hq h l hx.2 hm'
   simp only [List.countP_cons, h x e]
   omega
theorem left_step {F : Nat → Bool} {listed : Array Bool} {i : Nat} (hs : listed.size = ops.size) (hi : i < ops.size) (hF : F i = true) (hu : listed.getD i true = false) : left ops F listed = left ops F (listed.setIfInBounds i true) + 1 := by
 have hl : listed.getD i false = false := by
  have h' : i < listed.size := by omega
  simp [h'] at hu ⊢
  exact hu
 refine countP_one (i := i) (by simp [hF, hl]) ?_ (fun j hj => ?_) _ List.nodup_range (List.mem_range.2 hi)
 ·have h' : i < listed.size := by omega
  simp [h']
 ·rw [Go.getD_set_ne false (Ne.symm hj)]
theorem left_zero {F : Nat → Bool} {listed : Array Bool} (h : left ops F listed = 0) {i : Nat} (hi : i < ops.size) (hF : F i = true) : listed.getD i false = true := by
 have := List.countP_eq_zero.1 h i (List.mem_range.2 hi)
 simpa [hF] using this
theorem listed_eq {F : Nat → Bool} {listed : Array Bool} (hs : listed.size = ops.size) (h0 : left ops F listed = 0) (hg : ∀ i, i < ops.size → listed.getD i false = true → F i = true) : listed = ((List.range ops.size).map F).toArray := by
 apply Array.ext
 ·simp [hs]
 ·intro i h1 h2
  have hi : i < ops.size := by omega
  have e : listed.getD i false = listed[i] := by simp [h1]
  have er : ((List.range ops.size).map F).toArray[i] = F i := by simp
  rw [er]
  cases hF : F i
  ·cases hl : listed[i]
   ·rfl
   ·have := hg i hi (by rw [e, hl])
    rw [hF] at this; cases this
  ·rw [← e]; exact left_zero h0 hi hF
theorem front_ready {F : Nat → Bool} (hok : frontOk md ops F = true) {listed : Array Bool} (hs : listed.size = ops.size) (h : 0 < left ops F listed) : Region.ready md ops listed ≠ [] := by
 have hex : ∃ i, i < ops.size ∧ F i = true ∧ listed.getD i false = false := by
  obtain ⟨i, hi, hp⟩ := List.countP_pos_iff.1 h
  simp only [Bool.and_eq_true, Bool.not_eq_true'] at hp
  exact ⟨i, List.mem_range.1 hi, hp.1, hp.2⟩
 have key : ∀ n, ∀ i, i ≤ n → i < ops.size → F i = true → listed.getD i false = false → ∃ j, j ∈ Region.ready md ops listed := by
  intro n
  induction n with
  | zero =>
   intro i hn hi hF hl
   refine ⟨i, mem_ready.2 ⟨?_, ops[i], Array.getElem?_eq_getElem hi, fun e he hb => ?_⟩⟩
   ·have h' : i < listed.size := by omega
    simp [h'] at hl ⊢
    exact hl
   ·have := ((frontOk_in hok (Array.getElem?_eq_getElem hi) hF).2.1 e he hb).1
    omega
  | succ n ih =>
   intro i hn hi hF hl
   by_cases hall : ∀ e ∈ (ops[i]).after, Region.binds md e = true → listed.getD e.on false = true
   ·refine ⟨i, mem_ready.2 ⟨?_, ops[i], Array.getElem?_eq_getElem hi, hall⟩⟩
    have h' : i < listed.size := by omega
    simp [h'] at hl ⊢
    exact hl
   ·obtain ⟨e, he⟩ := Classical.not_forall.1 hall
    obtain ⟨he, h2⟩ := Classical.not_imp.1 he
    obtain ⟨hb, h3⟩ := Classical.not_imp.1 h2
    obtain ⟨h4, h5⟩ := (frontOk_in hok (Array.getElem?_eq_getElem hi) hF).2.1 e he hb
    exact ih e.on (by omega) (by omega) h5 (by simpa using h3)
 obtain ⟨i, hi, hF, hl⟩ := hex
 obtain ⟨j, hj⟩ := key i i (Nat.le_refl _) hi hF hl
 intro h0
 rw [h0] at hj
 cases hj

def StepOk (P : Program) (md : Region.Mode) (ops : Array Oper) (Q : Exit → Act → World → Prop) (S : Nat → Bool) (A : (Nat → Value) → Act) (G : Nat → Value → World → Prop) (B : World → Prop) (i : Nat) (o : Oper) : Prop :=
 ∀ (f : Nat → Value) (w : World), B w → (∀ e ∈ o.after, Region.binds md e = true → G e.on (f (dstOf ops e.on)) w) →
  ∀ K : Act → World → Prop, (∀ v w', G i v w' → Below w.heap.size w w' → B w' → (S i = true → ∃ g, v = .pointer (some ⟨g, 0, none⟩) ∧ w.heap.size ≤ g) → K ((A f).put o.dst v) w') →
   if Region.wanted o (yielded ops (A f).tmps) = true then Oper.wp P o (A f) w K Q else K ((A f).put o.dst undef) w

theorem wpAny_front (F S : Nat → Bool) (A : (Nat → Value) → Act) (G : Nat → Value → World → Prop) (B : World → Prop) (hok : frontOk md ops F = true)
  (hput : ∀ i o d f v, ops[i]? = some o → F i = true → o.dst = some d → (A f).put (some d) v = A (upd f d v))
  (mono : ∀ i v w w', G i v w → Below w.heap.size w w' → G i v w')
  (ptr : ∀ i v w, S i = true → G i v w → ∃ g, v = .pointer (some ⟨g, 0, none⟩) ∧ g < w.heap.size)
  (step : ∀ i o, ops[i]? = some o → F i = true → StepOk P md ops Q S A G B i o) (r : Nat)
  (fin : ∀ f w, B w → (∀ i, i < ops.size → F i = true → G i (f (dstOf ops i)) w) → (∀ i j, i < ops.size → j < ops.size → F i = true → F j = true → S i = true → S j = true → i ≠ j → f (dstOf ops i) ≠ f (dstOf ops j)) → wpAny P md ops Q r ((List.range ops.size).map F).toArray (A f) w) :
  ∀ (n : Nat) (listed : Array Bool) (f : Nat → Value) (w : World), left ops F listed = n → Front md ops F S G B listed f w → wpAny P md ops Q (n + r) listed (A f) w
 | 0, listed, f, w, hn, h => by
  rw [Nat.zero_add, listed_eq h.size hn (fun i hi hl => (h.got i hi hl).1)]
  exact fin f w h.base (fun i hi hF => (h.got i hi (left_zero hn hi hF)).2) fun i j hi hj hFi hFj hSi hSj hne => h.apart i j hi hj (left_zero hn hi hFi) (left_zero hn hj hFj) hSi hSj hne
 | n + 1, listed, f, w, hn, h => by
  rw [show n + 1 + r = (n + r) + 1 from by omega]
  refine ⟨fun h0 => absurd h0 (front_ready hok h.size (by omega)), fun i hi => ?_⟩
  obtain ⟨hu, o, ho, hdep⟩ := mem_ready.1 hi
  have hlt : i < ops.size := (Array.getElem?_eq_some_iff.1 ho).1
  have hF : F i = true := by
   cases hF : F i
   ·obtain ⟨j, hj, hp⟩ := List.countP_pos_iff.1 (show 0 < left ops F listed by omega)
    simp only [Bool.and_eq_true, Bool.not_eq_true'] at hp
    have := waits_listed h.shut 9 i o ho hdep (frontOk_out hok ho hF (List.mem_range.1 hj) hp.1)
    rw [hp.2] at this; cases this
   ·rfl
  obtain ⟨⟨d, hd⟩, hin, hother⟩ := frontOk_in hok ho hF
  refine wpOp_step ho fun K hK => ?_
  refine step i o ho hF f w h.base (fun e he hb => ?_) K fun v w' hG hbl hB hS => ?_
  ·obtain ⟨h1, h2⟩ := hin e he hb
   exact (h.got e.on (by omega) (hdep e he hb)).2
  ·rw [hd, hput i o d f v ho hF hd]
   have hdi := dstOf_some ho hd
   have new : ∀ k, k < ops.size → k ≠ i → (listed.setIfInBounds i true).getD k false = true → listed.getD k false = true ∧ upd f d v (dstOf ops k) = f (dstOf ops k) := fun k hk hki hlk => by
    rw [Go.getD_set_ne false (Ne.symm hki)] at hlk
    refine ⟨hlk, ?_⟩
    have hne : dstOf ops k ≠ d := by rw [← hdi]; exact hother k hk (h.got k hk hlk).1 hki
    unfold upd
    rw [if_neg hne]
   have old : ∀ k, k < ops.size → k ≠ i → listed.getD k false = true → S k = true → S i = true → f (dstOf ops k) ≠ v := fun k hk hki hlk hSk hSi he => by
    obtain ⟨g, hg, hgl⟩ := ptr k _ w hSk (h.got k hk hlk).2
    obtain ⟨g', hg', hgl'⟩ := hS hSi
    rw [hg, hg'] at he
    injection he with he
    injection he with he
    injection he with he
    omega
   have own : upd f d v (dstOf ops i) = v := by rw [hdi]; unfold upd; rw [if_pos rfl]
   refine hK _ _ (wpAny_front F S A G B hok hput mono ptr step r fin n _ _ _ (by have := left_step (F := F) h.size hlt hF hu; omega) ⟨by simp [h.size], fun j hj hl => ?_, hB, fun j oj hoj hl e he hb => ?_, fun j k hj hk hlj hlk hSj hSk hjk => ?_⟩)
   ·by_cases hji : j = i
    ·subst hji
     exact ⟨hF, by rw [hdi]; unfold upd; rw [if_pos rfl]; exact hG⟩
    ·rw [Go.getD_set_ne false (Ne.symm hji)] at hl
     obtain ⟨hFj, hGj⟩ := h.got j hj hl
     refine ⟨hFj, ?_⟩
     have hne : dstOf ops j ≠ d := by rw [← hdi]; exact hother j hj hFj hji
     unfold upd
     rw [if_neg hne]
     exact mono _ _ _ _ hGj hbl
   ·by_cases hji : j = i
    ·subst hji
     obtain rfl : o = oj := Option.some.inj (ho.symm.trans hoj)
     exact getD_set_true (hdep e he hb)
    ·rw [Go.getD_set_ne false (Ne.symm hji)] at hl
     exact getD_set_true (h.shut j oj hoj hl e he hb)
   ·by_cases hji : j = i
    ·subst hji
     obtain ⟨hlk', e2⟩ := new k hk (Ne.symm hjk) hlk
     rw [own, e2]
     exact (old k hk (Ne.symm hjk) hlk' hSk hSj).symm
    ·obtain ⟨hlj', e1⟩ := new j hj hji hlj
     by_cases hki : k = i
     ·subst hki
      rw [own, e1]
      exact old j hj hji hlj' hSj hSk
     ·obtain ⟨hlk', e2⟩ := new k hk hki hlk
      rw [e1, e2]
      exact h.apart j k hj hk hlj' hlk' hSj hSk hjk
theorem left_all {F : Nat → Bool} : left ops F (Array.replicate ops.size false) = (List.range ops.size).countP F := by
 unfold left
 refine List.countP_congr fun i hi => ?_
 simp [List.mem_range.1 hi]
theorem wp_region_front {id : Nat} (hm : P.follows .mixedOrders = true) (F S : Nat → Bool) (A : (Nat → Value) → Act) (G : Nat → Value → World → Prop) (B : World → Prop) (f0 : Nat → Value) {a : Act} {w : World} (ha : a = A f0) (hB : B w.drew) (hok : frontOk .any ops F = true)
  (hput : ∀ i o d f v, ops[i]? = some o → F i = true → o.dst = some d → (A f).put (some d) v = A (upd f d v))
  (mono : ∀ i v w w', G i v w → Below w.heap.size w w' → G i v w')
  (ptr : ∀ i v w, S i = true → G i v w → ∃ g, v = .pointer (some ⟨g, 0, none⟩) ∧ g < w.heap.size)
  (step : ∀ i o, ops[i]? = some o → F i = true → StepOk P .any ops Q S A G B i o) (r : Nat) (hr : (List.range ops.size).countP F + r = ops.size)
  (fin : ∀ f w, B w → (∀ i, i < ops.size → F i = true → G i (f (dstOf ops i)) w) → (∀ i j, i < ops.size → j < ops.size → F i = true → F j = true → S i = true → S j = true → i ≠ j → f (dstOf ops i) ≠ f (dstOf ops j)) → wpAny P .any ops Q r ((List.range ops.size).map F).toArray (A f) w) :
  (Code.region id ops true).wp P Q a w := by
 refine wp_region_any hm ?_
 subst ha
 have h := wpAny_front F S A G B hok hput mono ptr step r fin _ (Array.replicate ops.size false) f0 w.drew left_all ⟨by simp, fun i hi hl => ?_, hB, fun i o ho hl => ?_, fun i j hi hj hl => ?_⟩
 ·rw [hr] at h
  exact h
 ·simp [hi] at hl
 ·simp [(Array.getElem?_eq_some_iff.1 ho).1] at hl
 ·simp [hi] at hl
theorem fold_get (f : Nat → Value) (k : Nat) : ∀ (D : List Nat) (t : Array Value), (D.foldl (fun t d => t.setIfInBounds d (f d)) t)[k]? = if k ∈ D ∧ k < t.size then some (f k) else t[k]?
 | [], t => by simp
 | d :: D, t => by
  rw [List.foldl_cons, fold_get f k D, Array.size_setIfInBounds]
  by_cases hk : k < t.size
  ·by_cases hd : k = d
   ·subst hd
    by_cases hm : k ∈ D <;> simp [hk, hm]
   ·by_cases hm : k ∈ D
    ·simp [hk, hm]
    ·simp [hm, hd, Array.getElem?_setIfInBounds_ne (Ne.symm hd)]
  ·rw [if_neg (fun h => hk h.2), if_neg (fun h => hk h.2)]
   rw [Array.getElem?_eq_none (by simp; omega), Array.getElem?_eq_none (by omega)]
theorem fold_size (f : Nat → Value) : ∀ (D : List Nat) (t : Array Value), (D.foldl (fun t d => t.setIfInBounds d (f d)) t).size = t.size
 | [], t => rfl
 | d :: D, t => by rw [List.foldl_cons, fold_size f D, Array.size_setIfInBounds]
def frontAct (a0 : Act) (D : List Nat) (f : Nat → Value) : Act := { a0 with tmps := D.foldl (fun t d => t.setIfInBounds d (f d)) a0.tmps }
theorem frontAct_self (a0 : Act) (D : List Nat) : a0 = frontAct a0 D (fun d => a0.tmps.getD d undef) := by
 obtain ⟨t, ds⟩ := a0
 unfold frontAct
 congr 1
 apply Array.ext_getElem?
 intro k
 rw [fold_get]
 split
 ·rename_i h
  simp [h.2]
 ·rfl
theorem frontAct_put (a0 : Act) (D : List Nat) (f : Nat → Value) (d : Nat) (v : Value) (hd : d ∈ D) : (frontAct a0 D f).put (some d) v = frontAct a0 D (upd f d v) := by
 have h : (D.foldl (fun t d => t.setIfInBounds d (f d)) a0.tmps).setIfInBounds d v = D.foldl (fun t e => t.setIfInBounds e (upd f d v e)) a0.tmps := by
  apply Array.ext_getElem?
  intro k
  rw [fold_get]
  by_cases hk : k < a0.tmps.size
  ·by_cases hkd : k = d
   ·subst hkd
    have e : (D.foldl (fun t d => t.setIfInBounds d (f d)) a0.tmps).size = a0.tmps.size := fold_size _ _ _
    rw [if_pos ⟨hd, hk⟩, Array.getElem?_setIfInBounds_self_of_lt (by rw [e]; exact hk)]
    unfold upd; rw [if_pos rfl]
   ·rw [Array.getElem?_setIfInBounds_ne (Ne.symm hkd), fold_get]
    unfold upd; rw [if_neg hkd]
  ·rw [if_neg (fun h => hk h.2), Array.getElem?_eq_none (by rw [Array.size_setIfInBounds, fold_size]; omega), Array.getElem?_eq_none (by omega)]
 unfold frontAct Act.put
 show ({ tmps := _, defers := _ } : Act) = { tmps := _, defers := _ }
 exact congrArg (fun t => ({ tmps := t, defers := a0.defers } : Act)) h
theorem wp_region_front0 {id : Nat} (hm : P.follows .mixedOrders = true) (F S : Nat → Bool) (D : List Nat) (G : Nat → Value → World → Prop) (B : World → Prop) {a : Act} {w : World} (hB : B w.drew) (hok : frontOk .any ops F = true)
  (hD : (List.range ops.size).all (fun i => !F i || D.contains (dstOf ops i)) = true)
  (mono : ∀ i v w w', G i v w → Below w.heap.size w w' → G i v w')
  (ptr : ∀ i v w, S i = true → G i v w → ∃ g, v = .pointer (some ⟨g, 0, none⟩) ∧ g < w.heap.size)
  (step : ∀ i o, ops[i]? = some o → F i = true → StepOk P .any ops Q S (frontAct a D) G B i o) (r : Nat) (hr : (List.range ops.size).countP F + r = ops.size) (l : Array Bool) (hl : ((List.range ops.size).map F).toArray = l)
  (fin : ∀ f w, B w → (∀ i, i < ops.size → F i = true → G i (f (dstOf ops i)) w) → (∀ i j, i < ops.size → j < ops.size → F i = true → F j = true → S i = true → S j = true → i ≠ j → f (dstOf ops i) ≠ f (dstOf ops j)) → wpAny P .any ops Q r l (frontAct a D f) w) :
  (Code.region id ops true).wp P Q a w :=
 wp_region_front hm F S (frontAct a D) G B _ (frontAct_self a D) hB hok (fun i o d f v ho hF hd => frontAct_put a D f d v (by
  have := List.all_eq_true.1 hD i (List.mem_range.2 (Array.getElem?_eq_some_iff.1 ho).1)
  rw [dstOf_some ho hd] at this
  simpa [hF] using this)) mono ptr step r hr (hl ▸ fin)
end
end Go.Proofs.YtifeekomegoijaaGreatDoor

namespace Go.Proofs.YtifeekomegoijaaGreatDoor
open Go Go.RowKit

inductive Sq where
 | val (v : Value)
 | st (R : World → Value → Prop)
 | blk (B : Nat) (l : List Value) (t : TypeId)
 | any
def Sq.holds : Sq → Value → World → Prop
 | .val v, a, _ => a = v
 | .st R, a, w => ∀ w', Below w.heap.size w w' → R w' a
 | .blk B l t, a, w => ∃ g, a = .pointer (some ⟨g, 0, none⟩) ∧ B ≤ g ∧ Cs w g l t
 | .any, _, _ => True
def Sq.isBlk : Sq → Bool
 | .blk _ _ _ => true
 | _ => false
def gOf6 (L : List Sq) (i : Nat) (a : Value) (w : World) : Prop := (L.getD i .any).holds a w
def sOf6 (L : List Sq) (i : Nat) : Bool := (L.getD i .any).isBlk
theorem gOf6_keep (L : List Sq) (i : Nat) (a : Value) (w w' : World) (h : gOf6 L i a w) (hb : Below w.heap.size w w') : gOf6 L i a w' := by
 unfold gOf6 at *
 generalize L.getD i .any = s at *
 cases s with
 | val v => exact h
 | st R => exact fun w2 h2 => h w2 (hb.trans (h2.mono hb.size))
 | blk B l t =>
  obtain ⟨g, h1, h2, h3⟩ := h
  exact ⟨g, h1, h2, h3.below hb h3.lt⟩
 | any => trivial
theorem gOf6_ptr (L : List Sq) (i : Nat) (a : Value) (w : World) (hs : sOf6 L i = true) (h : gOf6 L i a w) : ∃ g, a = .pointer (some ⟨g, 0, none⟩) ∧ g < w.heap.size := by
 unfold gOf6 at h
 unfold sOf6 at hs
 generalize L.getD i .any = s at *
 cases s with
 | val v => cases hs
 | st R => cases hs
 | blk B l t =>
  obtain ⟨g, h1, h2, h3⟩ := h
  exact ⟨g, h1, h3.lt⟩
 | any => cases hs
theorem at6 {L : List Sq} {i : Nat} {s : Sq} (h : L[i]? = some s) : L.getD i .any = s := by rw [List.getD_eq_getElem?_getD, h]; rfl
theorem gv6 {L : List Sq} {i : Nat} {a : Value} {w : World} (h : L[i]? = some (.val a)) : gOf6 L i a w := by unfold gOf6; rw [at6 h]; exact rfl
theorem dv6 {L : List Sq} {i : Nat} {a v : Value} {w : World} (h : gOf6 L i a w) (hv : L[i]? = some (.val v)) : a = v := by unfold gOf6 at h; rw [at6 hv] at h; exact h
theorem nb6 {L : List Sq} {i : Nat} {s : Sq} {p : Prop} (hv : L[i]? = some s) (hs : s.isBlk = false) : sOf6 L i = true → p := by
 intro h
 unfold sOf6 at h
 rw [at6 hv, hs] at h
 cases h

section
variable {P : Program} {ops : Array Oper} {Q : Exit → Act → World → Prop}
def Step6 (P : Program) (ops : Array Oper) (Q : Exit → Act → World → Prop) (D : List Nat) (L : List Sq) (a : Act) (w0 : World) (i : Nat) (o : Oper) (f : Nat → Value) (wx : World) : Prop :=
 (∀ e ∈ o.after, Region.binds .any e = true → gOf6 L e.on (f (D.getD e.on 0)) wx) →
  ∀ K : Act → World → Prop, (∀ v w', gOf6 L i v w' → Below wx.heap.size wx w' → Below w0.heap.size w0 w' → (sOf6 L i = true → ∃ g, v = .pointer (some ⟨g, 0, none⟩) ∧ wx.heap.size ≤ g) → K ((frontAct a D f).put o.dst v) w') →
   if Region.wanted o (yielded ops (frontAct a D f).tmps) = true then Oper.wp P o (frontAct a D f) wx K Q else K ((frontAct a D f).put o.dst undef) wx
theorem wp_region6 {id : Nat} (n : Nat) (D : List Nat) (L : List Sq) {a : Act} {w : World} (hm : P.follows .mixedOrders = true) (hok : frontOk .any ops (fun i => decide (i < n)) = true)
  (hD : (List.range n).all (fun i => dstOf ops i == D.getD i 0) = true) (hn : decide (n ≤ D.length ∧ n ≤ ops.size) = true)
  (step : ∀ (i : Nat), i < n → ∀ o, ops[i]? = some o → ∀ (f : Nat → Value) (wx : World), Below w.drew.heap.size w.drew wx → Step6 P ops Q D L a w.drew i o f wx)
  (r : Nat) (hr : (List.range ops.size).countP (fun i => decide (i < n)) + r = ops.size) (l : Array Bool) (hl : ((List.range ops.size).map (fun i => decide (i < n))).toArray = l)
  (fin : ∀ f wx, Below w.drew.heap.size w.drew wx → (∀ i, i < n → gOf6 L i (f (D.getD i 0)) wx) → (∀ i j, i < n → j < n → sOf6 L i = true → sOf6 L j = true → i ≠ j → f (D.getD i 0) ≠ f (D.getD j 0)) → wpAny P .any ops Q r l (frontAct a D f) wx) :
  (Code.region id ops true).wp P Q a w := by
 obtain ⟨hn1, hn2⟩ := of_decide_eq_true hn
 have hd : ∀ i, i < n → dstOf ops i = D.getD i 0 := fun i hi => by simpa using List.all_eq_true.1 hD i (List.mem_range.2 hi)
 refine wp_region_front0 hm (fun i => decide (i < n)) (sOf6 L) D (gOf6 L) (fun wx => Below w.drew.heap.size w.drew wx) (Below.refl _ _) hok ?_ (gOf6_keep _) (gOf6_ptr _) ?_ r hr l hl ?_
 ·refine List.all_eq_true.2 (fun i hi => ?_)
  by_cases h : i < n
  ·rw [hd i h]
   have : D.getD i 0 ∈ D := by rw [List.getD_eq_getElem?_getD, List.getElem?_eq_getElem (by omega)]; exact List.getElem_mem _
   simp [h]
   simpa using this
  ·simp [h]
 ·intro i o ho hF f wx hB hdep K hK
  refine step i (of_decide_eq_true hF) o ho f wx hB (fun e he hb => ?_) K hK
  have h1 := hdep e he hb
  have h2 : e.on < i := ((frontOk_in hok ho hF).2.1 e he hb).1
  rw [hd e.on (by have := of_decide_eq_true hF; omega)] at h1
  exact h1
 ·intro f wx hB hG hne
  refine fin f wx hB (fun i hi => ?_) (fun i j hi hj h1 h2 h3 => ?_)
  ·have := hG i (by omega) (decide_eq_true hi)
   rwa [hd i hi] at this
  ·have := hne i j (by omega) (by omega) (decide_eq_true hi) (decide_eq_true hj) h1 h2 h3
   rwa [hd i hi, hd j hj] at this
end
end Go.Proofs.YtifeekomegoijaaGreatDoor
