/- A region that draws its order, inside a fence, by an invariant over what has run: no order is walked. -/
import Derived.Test.YtdlmhgijpgnilaaGreatDoorQ28
import Derived.OrdersIn
set_option linter.unusedVariables false
set_option linter.unusedSimpArgs false
namespace Go.Proofs.YtdlmhgijpgnilaaGreatDoor
open Go Go.RowKit

section
variable {F : Fence} {n : Nat} {P : Program} {ops : Array Oper} {Q : Exit → Act → World → Prop} {md : Region.Mode}

/-- Every operation waits for earlier ones alone. -/
def depsOk (md : Region.Mode) (ops : Array Oper) : Bool :=
  (List.range ops.size).all fun i => match ops[i]? with
    | none => true
    | some o => o.after.all fun e => !Region.binds md e || decide (e.on < i)
def allIn (_ : Nat) : Bool := true
theorem depsOk_spec (h : depsOk md ops = true) {i : Nat} {o : Oper} (ho : ops[i]? = some o) : ∀ e ∈ o.after, Region.binds md e = true → e.on < i := by
  have hlt : i < ops.size := (Array.getElem?_eq_some_iff.1 ho).1
  have h1 := List.all_eq_true.1 h i (List.mem_range.2 hlt)
  simp only [ho] at h1
  intro e he hb
  have := Array.all_eq_true_iff_forall_mem.1 h1 e he
  simpa [hb] using this
theorem ready_of_left (hok : depsOk md ops = true) {listed : Array Bool} (hs : listed.size = ops.size) (h : 0 < left ops allIn listed) : Region.ready md ops listed ≠ [] := by
  have hex : ∃ i, i < ops.size ∧ listed.getD i false = false := by
    obtain ⟨i, hi, hp⟩ := List.countP_pos_iff.1 h
    simp only [Bool.and_eq_true, Bool.not_eq_true'] at hp
    exact ⟨i, List.mem_range.1 hi, hp.2⟩
  have key : ∀ n, ∀ i, i ≤ n → i < ops.size → listed.getD i false = false → ∃ j, j ∈ Region.ready md ops listed := by
    intro n
    induction n with
    | zero =>
      intro i hn hi hl
      refine ⟨i, mem_ready.2 ⟨?_, ops[i], Array.getElem?_eq_getElem hi, fun e he hb => ?_⟩⟩
      · have h' : i < listed.size := by omega
        simp [h'] at hl ⊢
        exact hl
      · have := depsOk_spec hok (Array.getElem?_eq_getElem hi) e he hb
        omega
    | succ n ih =>
      intro i hn hi hl
      by_cases hall : ∀ e ∈ (ops[i]).after, Region.binds md e = true → listed.getD e.on false = true
      · refine ⟨i, mem_ready.2 ⟨?_, ops[i], Array.getElem?_eq_getElem hi, hall⟩⟩
        have h' : i < listed.size := by omega
        simp [h'] at hl ⊢
        exact hl
      · obtain ⟨e, he⟩ := Classical.not_forall.1 hall
        obtain ⟨he, h2⟩ := Classical.not_imp.1 he
        obtain ⟨hb, h3⟩ := Classical.not_imp.1 h2
        have h4 := depsOk_spec hok (Array.getElem?_eq_getElem hi) e he hb
        exact ih e.on (by omega) (by omega) (by simpa using h3)
  obtain ⟨i, hi, hl⟩ := hex
  obtain ⟨j, hj⟩ := key i i (Nat.le_refl _) hi hl
  intro h0
  rw [h0] at hj
  cases hj
/-- What has run holds all that it has waited for. -/
def Shut (md : Region.Mode) (ops : Array Oper) (L : Array Bool) : Prop := ∀ k o, ops[k]? = some o → L.getD k false = true → ∀ e ∈ o.after, Region.binds md e = true → L.getD e.on false = true

theorem wpAnyIn_inv (hok : depsOk md ops = true) (I : Array Bool → Act → World → Prop)
    (step : ∀ (L : Array Bool) (a : Act) (w : World) (i : Nat) (o : Oper), L.size = ops.size → Shut md ops L → I L a w → ops[i]? = some o → L.getD i false = false → (∀ e ∈ o.after, Region.binds md e = true → L.getD e.on false = true) →
      ∀ K : Act → World → Prop, (∀ a' w', I (L.setIfInBounds i true) a' w' → K a' w') →
        if Region.wanted o (yielded ops a.tmps) = true then Oper.wpIn F n P o a w K Q else (∀ f, o.about P w a.eval = some f → F.fn f) ∧ K (a.put o.dst undef) w)
    (fin : ∀ (L : Array Bool) (a : Act) (w : World), I L a w → (∀ i, i < ops.size → L.getD i false = true) → Q .normal a w) :
    ∀ (fuel : Nat) (L : Array Bool) (a : Act) (w : World), L.size = ops.size → left ops allIn L = fuel → Shut md ops L → I L a w → wpAnyIn F n P md ops Q fuel L a w
  | 0, L, a, w, hs, hl, _, hI => by
    have hall : ∀ i, i < ops.size → L.getD i false = true := fun i hi => left_zero hl hi rfl
    refine ⟨?_, fin L a w hI hall⟩
    cases hr : Region.ready md ops L with
    | nil => rfl
    | cons j js =>
      obtain ⟨hu, o, ho, _⟩ := mem_ready.1 (show j ∈ Region.ready md ops L by rw [hr]; exact List.mem_cons_self ..)
      have hj : j < ops.size := (Array.getElem?_eq_some_iff.1 ho).1
      have h1 := hall j hj
      have h' : j < L.size := by omega
      simp [h'] at hu h1
      rw [h1] at hu
      cases hu
  | fuel + 1, L, a, w, hs, hl, hsh, hI => by
    refine ⟨fun h0 => absurd h0 (ready_of_left hok hs (by omega)), fun i hi => ?_⟩
    obtain ⟨hu, o, ho, hdep⟩ := mem_ready.1 hi
    have hlt : i < ops.size := (Array.getElem?_eq_some_iff.1 ho).1
    have hf : L.getD i false = false := by
      have h' : i < L.size := by omega
      simp [h'] at hu ⊢
      exact hu
    refine wpOpIn_step ho fun K hK => ?_
    refine step L a w i o hs hsh hI ho hf hdep K fun a' w' hI' => hK _ _ ?_
    refine wpAnyIn_inv hok I step fin fuel _ _ _ (by simp [hs]) (by have := left_step (F := allIn) hs hlt rfl hu; omega) (fun k ok hok' hlk e he hb => ?_) hI'
    by_cases hki : k = i
    · subst hki
      obtain rfl : o = ok := Option.some.inj (ho.symm.trans hok')
      exact getD_set_true (hdep e he hb)
    · rw [getD_set_ne false (Ne.symm hki)] at hlk
      exact getD_set_true (hsh k ok hok' hlk e he hb)
theorem bset_ne {L : Array Bool} {i k : Nat} (h : i ≠ k) : (L.setIfInBounds i true).getD k false = L.getD k false := getD_set_ne false h
theorem left_allIn : left ops allIn (Array.replicate ops.size false) = ops.size := by
  rw [left_all]
  have : (List.range ops.size).countP allIn = (List.range ops.size).length := List.countP_eq_length.2 fun _ _ => rfl
  rw [this, List.length_range]
/-- The region, from its head. -/
theorem wpIn_region_inv {id : Nat} {a : Act} {w : World} (hm : P.follows .mixedOrders = true) (hok : depsOk .any ops = true) (I : Array Bool → Act → World → Prop) (h0 : I (Array.replicate ops.size false) a w.drew)
    (step : ∀ (L : Array Bool) (a : Act) (w : World) (i : Nat) (o : Oper), L.size = ops.size → Shut .any ops L → I L a w → ops[i]? = some o → L.getD i false = false → (∀ e ∈ o.after, Region.binds .any e = true → L.getD e.on false = true) →
      ∀ K : Act → World → Prop, (∀ a' w', I (L.setIfInBounds i true) a' w' → K a' w') →
        if Region.wanted o (yielded ops a.tmps) = true then Oper.wpIn F n P o a w K Q else (∀ f, o.about P w a.eval = some f → F.fn f) ∧ K (a.put o.dst undef) w)
    (fin : ∀ (L : Array Bool) (a : Act) (w : World), I L a w → (∀ i, i < ops.size → L.getD i false = true) → Q .normal a w) :
    (Code.region id ops true).wpIn F n P Q a w := by
  refine wpIn_region_any hm ?_
  exact wpAnyIn_inv hok I step fin ops.size _ _ _ (by simp) left_allIn (fun k o ho hl => by
    have : k < ops.size := (Array.getElem?_eq_some_iff.1 ho).1
    simp [this] at hl) h0
/-- The same, the invariant told the frame at the head. -/
theorem wpIn_region_inv0 {id : Nat} {a0 : Act} {w : World} (hm : P.follows .mixedOrders = true) (hok : depsOk .any ops = true) (J : Act → Array Bool → Act → World → Prop) (h0 : J a0 (Array.replicate ops.size false) a0 w.drew)
    (step : ∀ (L : Array Bool) (a : Act) (w : World) (i : Nat) (o : Oper), L.size = ops.size → Shut .any ops L → J a0 L a w → ops[i]? = some o → L.getD i false = false → (∀ e ∈ o.after, Region.binds .any e = true → L.getD e.on false = true) →
      ∀ K : Act → World → Prop, (∀ a' w', J a0 (L.setIfInBounds i true) a' w' → K a' w') →
        if Region.wanted o (yielded ops a.tmps) = true then Oper.wpIn F n P o a w K Q else (∀ f, o.about P w a.eval = some f → F.fn f) ∧ K (a.put o.dst undef) w)
    (fin : ∀ (L : Array Bool) (a : Act) (w : World), J a0 L a w → (∀ i, i < ops.size → L.getD i false = true) → Q .normal a w) :
    (Code.region id ops true).wpIn F n P Q a0 w := wpIn_region_inv hm hok (J a0) h0 step fin
end
end Go.Proofs.YtdlmhgijpgnilaaGreatDoor
