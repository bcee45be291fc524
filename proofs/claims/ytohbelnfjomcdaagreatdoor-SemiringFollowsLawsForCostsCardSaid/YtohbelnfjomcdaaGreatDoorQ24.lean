/- Blocks of any number of cells. -/
import Derived.Test.YtohbelnfjomcdaaGreatDoorQ18
set_option linter.unusedVariables false
set_option linter.unusedSimpArgs false
namespace Go.Proofs.YtohbelnfjomcdaaGreatDoor
open Go.RowKit

/-- Block g holds the cells l. -/
def Cs (w : World) (g : Nat) (l : List Value) (t : TypeId) : Prop := w.heap[g]? = some (.cells l.toArray t (0, 0))
theorem Cs.lt {w : World} {g : Nat} {l : List Value} {t : TypeId} (h : Cs w g l t) : g < w.heap.size := heap_lt h
theorem Cs.new (w : World) (l : List Value) (t : TypeId) : Cs (w.alloc (.cells l.toArray t)) w.heap.size l t := heap_alloc_new w _
theorem Cs.cell {w : World} {g : Nat} {l : List Value} {t : TypeId} (h : Cs w g l t) {k : Nat} {v : Value} (hk : l[k]? = some v) : w.cell? ⟨g, k, none⟩ = some v := by
  rw [cell_of_row w g k _ _ _ h, List.getElem?_toArray]; exact hk
theorem Cs.frozen {w : World} {g : Nat} {l : List Value} {t : TypeId} (h : Cs w g l t) (k : Nat) : w.frozen? ⟨g, k, none⟩ = false := frozen_of_row w g k _ _ h
theorem Cs.below {w w' : World} {B g : Nat} {l : List Value} {t : TypeId} (h : Cs w g l t) (hb : Below B w w') (hg : g < B) : Cs w' g l t := (hb.block g hg).trans h
theorem Cs.alloc {w : World} {g : Nat} {l : List Value} {t : TypeId} (h : Cs w g l t) (o : Obj) : Cs (w.alloc o) g l t := (Below.heap_alloc w o g h.lt).trans h
theorem Cs.drew {w : World} {g : Nat} {l : List Value} {t : TypeId} (h : Cs w g l t) : Cs w.drew g l t := h
theorem Cs.far {w : World} {g : Nat} {l : List Value} {t : TypeId} (h : Cs w g l t) {p : Addr} (hp : g ≠ p.block) (u : Value) : Cs (w.setCell p u) g l t := (Below.heap_setCell w p u g hp).trans h
theorem Cs.set {w : World} {g : Nat} {l : List Value} {t : TypeId} (h : Cs w g l t) (k : Nat) (u : Value) : Cs (w.setCell ⟨g, k, none⟩ u) g (l.set k u) t := by
  have := heap_setCell_same w g k _ _ u h
  unfold Cs; rw [this]
  congr 2
  apply Array.ext'
  simp
/-- The cells from k on are set, one after the other. -/
def setL (w : World) (g : Nat) : Nat → List Value → World
  | _, [] => w
  | k, u :: us => setL (w.setCell ⟨g, k, none⟩ u) g (k + 1) us
theorem Cs.setL' {g : Nat} {t : TypeId} : ∀ (us : List Value) (k : Nat) (w : World) (l : List Value), Cs w g l t → k + us.length = l.length → Cs (setL w g k us) g (l.take k ++ us) t
  | [], k, w, l, h, hk => by
    rw [List.append_nil, List.take_of_length_le (by simp at hk; omega)]; exact h
  | u :: us, k, w, l, h, hk => by
    have := Cs.setL' us (k + 1) _ _ (h.set k u) (by simp at hk ⊢; omega)
    have e : (l.set k u).take (k + 1) ++ us = l.take k ++ u :: us := by
      have hlt : k < (l.set k u).length := by simp at hk ⊢; omega
      rw [List.take_succ_eq_append_getElem hlt, List.getElem_set_self, List.take_set_of_le (Nat.le_refl _), List.append_assoc]; rfl
    rw [e] at this
    exact this
theorem Cs.setL {w : World} {g : Nat} {l : List Value} {t : TypeId} (h : Cs w g l t) (us : List Value) (hl : us.length = l.length) : Cs (setL w g 0 us) g us t := by
  have := Cs.setL' us 0 w l h (by omega)
  simpa using this
theorem Cs.farL {g : Nat} {l : List Value} {t : TypeId} {g' : Nat} (hne : g ≠ g') : ∀ (us : List Value) (k : Nat) {w : World}, Cs w g l t → Cs (Go.Proofs.YtohbelnfjomcdaaGreatDoor.setL w g' k us) g l t
  | [], _, _, h => h
  | u :: us, k, _, h => Cs.farL hne us (k + 1) (h.far (p := ⟨g', k, none⟩) hne u)
theorem below_setL {B g : Nat} (hg : B ≤ g) {a : World} : ∀ (us : List Value) (k : Nat) {w : World}, Below B a w → Below B a (setL w g k us)
  | [], _, _, h => h
  | u :: us, k, _, h => below_setL hg us (k + 1) (h.setCell (p := ⟨g, k, none⟩) hg u)
theorem size_setL (g : Nat) : ∀ (us : List Value) (k : Nat) (w : World), (setL w g k us).heap.size = w.heap.size
  | [], _, _ => rfl
  | u :: us, k, w => by rw [show setL w g k (u :: us) = setL (w.setCell ⟨g, k, none⟩ u) g (k + 1) us from rfl, size_setL g us]; simp
theorem Num.set1 {w : World} {l : List Nat} {A : Option Addr} {n c : Nat} (h : Num w l A n c) {g k : Nat} (hA : 0 < n → ∀ a, A = some a → a.block ≠ g) (u : Value) : Num (w.setCell ⟨g, k, none⟩ u) l A n c :=
  ⟨h.len, h.cap, h.lim, fun hn => by
    obtain ⟨b, o, hA', hb, hc⟩ := h.cells hn
    have hne := hA hn _ hA'
    refine ⟨b, o, hA', by simpa [World.setCell] using hb, fun k x hx => ?_⟩
    rw [World.cell?_setCell_other _ _ _ _ (fun e => hne (by injection e with e1; exact e1.symm))]
    exact hc k x hx⟩
theorem Num.setL {l : List Nat} {A : Option Addr} {n c g : Nat} (hA : 0 < n → ∀ a, A = some a → a.block ≠ g) : ∀ (us : List Value) (k : Nat) {w : World}, Num w l A n c → Num (Go.Proofs.YtohbelnfjomcdaaGreatDoor.setL w g k us) l A n c
  | [], _, _, h => h
  | u :: us, k, _, h => Num.setL hA us (k + 1) (h.set1 hA u)
/-- A block of other than limbs is not where limbs lie. -/
theorem Num.ne_cs {w : World} {l : List Nat} {A : Option Addr} {n c g : Nat} (h : Num w l A n c) {l' : List Value} {t : TypeId} (hr : Cs w g l' t) (hl : ∀ v ∈ l', ∀ x : Nat, v ≠ .int .u32 (x : Int)) : 0 < n → ∀ a, A = some a → a.block ≠ g := by
  intro hn a ha e
  obtain ⟨b, o, y, hA, _, _, _, hc⟩ := h.at_ hn
  rw [ha] at hA
  cases hA
  simp only at e
  subst e
  rw [cell_of_row w b _ _ _ _ hr, List.getElem?_toArray] at hc
  exact hl _ (List.mem_of_getElem? hc) _ rfl
theorem Cs.c8 {w : World} {g : Nat} {z0 z1 z2 z3 z4 z5 z6 z7 : Value} {t : TypeId} (h : Cs w g [z0, z1, z2, z3, z4, z5, z6, z7] t) :
    w.cell? ⟨g, 0, none⟩ = some z0 ∧ w.cell? ⟨g, 1, none⟩ = some z1 ∧ w.cell? ⟨g, 2, none⟩ = some z2 ∧ w.cell? ⟨g, 3, none⟩ = some z3 ∧ w.cell? ⟨g, 4, none⟩ = some z4 ∧ w.cell? ⟨g, 5, none⟩ = some z5 ∧ w.cell? ⟨g, 6, none⟩ = some z6 ∧ w.cell? ⟨g, 7, none⟩ = some z7 :=
  ⟨h.cell rfl, h.cell rfl, h.cell rfl, h.cell rfl, h.cell rfl, h.cell rfl, h.cell rfl, h.cell rfl⟩
theorem Cs.f8 {w : World} {g : Nat} {l : List Value} {t : TypeId} (h : Cs w g l t) :
    w.frozen? ⟨g, 0, none⟩ = false ∧ w.frozen? ⟨g, 1, none⟩ = false ∧ w.frozen? ⟨g, 2, none⟩ = false ∧ w.frozen? ⟨g, 3, none⟩ = false ∧ w.frozen? ⟨g, 4, none⟩ = false ∧ w.frozen? ⟨g, 5, none⟩ = false ∧ w.frozen? ⟨g, 6, none⟩ = false ∧ w.frozen? ⟨g, 7, none⟩ = false :=
  ⟨h.frozen 0, h.frozen 1, h.frozen 2, h.frozen 3, h.frozen 4, h.frozen 5, h.frozen 6, h.frozen 7⟩
theorem Cs.c10 {w : World} {g : Nat} {z0 z1 z2 z3 z4 z5 z6 z7 z8 z9 : Value} {t : TypeId} (h : Cs w g [z0, z1, z2, z3, z4, z5, z6, z7, z8, z9] t) :
    w.cell? ⟨g, 0, none⟩ = some z0 ∧ w.cell? ⟨g, 1, none⟩ = some z1 ∧ w.cell? ⟨g, 2, none⟩ = some z2 ∧ w.cell? ⟨g, 3, none⟩ = some z3 ∧ w.cell? ⟨g, 4, none⟩ = some z4 ∧ w.cell? ⟨g, 5, none⟩ = some z5 ∧ w.cell? ⟨g, 6, none⟩ = some z6 ∧ w.cell? ⟨g, 7, none⟩ = some z7 ∧ w.cell? ⟨g, 8, none⟩ = some z8 ∧ w.cell? ⟨g, 9, none⟩ = some z9 :=
  ⟨h.cell rfl, h.cell rfl, h.cell rfl, h.cell rfl, h.cell rfl, h.cell rfl, h.cell rfl, h.cell rfl, h.cell rfl, h.cell rfl⟩
/-- The cells k, k + 1 .. of an aggregate of n cells in a row, by their offsets. -/
theorem Cs.at {w : World} {g : Nat} {l : List Value} {t : TypeId} (h : Cs w g l t) (k : Nat) (hk : k < l.length) : w.cell? ⟨g, k, none⟩ = some l[k] := h.cell (List.getElem?_eq_getElem hk)
/-- A value that lies in the variable of the result is handed back. -/
theorem ret_cs {fn : Func} {p : Tmp} {t : TypeId} {l : List Value} {fs : Array Field} (hres : fn.results = #[.cell p t]) (hu : Tryz.prog.underlying t = some (.struct fs)) (hn : (Tryz.prog.info? t).map (·.size) = some l.length) {R : Ending → World → Prop} {a : Act} {w : World} {g : Nat} (hp : a.tmps.getD p undef = .pointer (some ⟨g, 0, none⟩)) (h : Cs w g l t) (hd : a.defers = [])
    (hR : R (.returned (.agg l.toArray)) w) : bodyPost Tryz.prog fn R .ret a w :=
  bodyPost_ret (results_cell_row (P := Tryz.prog) hres _ _ g t _ (0, 0) _ hp h hu rfl hn) hd hR
theorem cs_far3 {w : World} {g g' : Nat} {l : List Value} {t : TypeId} (h : Cs w g l t) (hne : g ≠ g') (u0 u1 u2 : Value) : Cs (((w.setCell ⟨g', 0, none⟩ u0).setCell ⟨g', 1, none⟩ u1).setCell ⟨g', 2, none⟩ u2) g l t := Cs.farL hne [u0, u1, u2] 0 h
theorem cs_own3 {w : World} {g : Nat} {l : List Value} {t : TypeId} (h : Cs w g l t) (hl : l.length = 3) (u0 u1 u2 : Value) : Cs (((w.setCell ⟨g, 0, none⟩ u0).setCell ⟨g, 1, none⟩ u1).setCell ⟨g, 2, none⟩ u2) g [u0, u1, u2] t := Cs.setL h [u0, u1, u2] hl.symm
theorem below_s3 {B g : Nat} {a w : World} (h : Below B a w) (hg : B ≤ g) (u0 u1 u2 : Value) : Below B a (((w.setCell ⟨g, 0, none⟩ u0).setCell ⟨g, 1, none⟩ u1).setCell ⟨g, 2, none⟩ u2) := below_setL hg [u0, u1, u2] 0 h
theorem num_s3 {w : World} {l : List Nat} {A : Option Addr} {n c g : Nat} (h : Num w l A n c) (hA : 0 < n → ∀ a, A = some a → a.block ≠ g) (u0 u1 u2 : Value) : Num (((w.setCell ⟨g, 0, none⟩ u0).setCell ⟨g, 1, none⟩ u1).setCell ⟨g, 2, none⟩ u2) l A n c := Num.setL hA [u0, u1, u2] 0 h
theorem cs_far8 {w : World} {g g' : Nat} {l : List Value} {t : TypeId} (h : Cs w g l t) (hne : g ≠ g') (u0 u1 u2 u3 u4 u5 u6 u7 : Value) : Cs ((((((((w.setCell ⟨g', 0, none⟩ u0).setCell ⟨g', 1, none⟩ u1).setCell ⟨g', 2, none⟩ u2).setCell ⟨g', 3, none⟩ u3).setCell ⟨g', 4, none⟩ u4).setCell ⟨g', 5, none⟩ u5).setCell ⟨g', 6, none⟩ u6).setCell ⟨g', 7, none⟩ u7) g l t := Cs.farL hne [u0, u1, u2, u3, u4, u5, u6, u7] 0 h
theorem cs_own8 {w : World} {g : Nat} {l : List Value} {t : TypeId} (h : Cs w g l t) (hl : l.length = 8) (u0 u1 u2 u3 u4 u5 u6 u7 : Value) : Cs ((((((((w.setCell ⟨g, 0, none⟩ u0).setCell ⟨g, 1, none⟩ u1).setCell ⟨g, 2, none⟩ u2).setCell ⟨g, 3, none⟩ u3).setCell ⟨g, 4, none⟩ u4).setCell ⟨g, 5, none⟩ u5).setCell ⟨g, 6, none⟩ u6).setCell ⟨g, 7, none⟩ u7) g [u0, u1, u2, u3, u4, u5, u6, u7] t := Cs.setL h [u0, u1, u2, u3, u4, u5, u6, u7] hl.symm
theorem below_s8 {B g : Nat} {a w : World} (h : Below B a w) (hg : B ≤ g) (u0 u1 u2 u3 u4 u5 u6 u7 : Value) : Below B a ((((((((w.setCell ⟨g, 0, none⟩ u0).setCell ⟨g, 1, none⟩ u1).setCell ⟨g, 2, none⟩ u2).setCell ⟨g, 3, none⟩ u3).setCell ⟨g, 4, none⟩ u4).setCell ⟨g, 5, none⟩ u5).setCell ⟨g, 6, none⟩ u6).setCell ⟨g, 7, none⟩ u7) := below_setL hg [u0, u1, u2, u3, u4, u5, u6, u7] 0 h
theorem num_s8 {w : World} {l : List Nat} {A : Option Addr} {n c g : Nat} (h : Num w l A n c) (hA : 0 < n → ∀ a, A = some a → a.block ≠ g) (u0 u1 u2 u3 u4 u5 u6 u7 : Value) : Num ((((((((w.setCell ⟨g, 0, none⟩ u0).setCell ⟨g, 1, none⟩ u1).setCell ⟨g, 2, none⟩ u2).setCell ⟨g, 3, none⟩ u3).setCell ⟨g, 4, none⟩ u4).setCell ⟨g, 5, none⟩ u5).setCell ⟨g, 6, none⟩ u6).setCell ⟨g, 7, none⟩ u7) l A n c := Num.setL hA [u0, u1, u2, u3, u4, u5, u6, u7] 0 h
theorem cs_far10 {w : World} {g g' : Nat} {l : List Value} {t : TypeId} (h : Cs w g l t) (hne : g ≠ g') (u0 u1 u2 u3 u4 u5 u6 u7 u8 u9 : Value) : Cs ((((((((((w.setCell ⟨g', 0, none⟩ u0).setCell ⟨g', 1, none⟩ u1).setCell ⟨g', 2, none⟩ u2).setCell ⟨g', 3, none⟩ u3).setCell ⟨g', 4, none⟩ u4).setCell ⟨g', 5, none⟩ u5).setCell ⟨g', 6, none⟩ u6).setCell ⟨g', 7, none⟩ u7).setCell ⟨g', 8, none⟩ u8).setCell ⟨g', 9, none⟩ u9) g l t := Cs.farL hne [u0, u1, u2, u3, u4, u5, u6, u7, u8, u9] 0 h
theorem cs_own10 {w : World} {g : Nat} {l : List Value} {t : TypeId} (h : Cs w g l t) (hl : l.length = 10) (u0 u1 u2 u3 u4 u5 u6 u7 u8 u9 : Value) : Cs ((((((((((w.setCell ⟨g, 0, none⟩ u0).setCell ⟨g, 1, none⟩ u1).setCell ⟨g, 2, none⟩ u2).setCell ⟨g, 3, none⟩ u3).setCell ⟨g, 4, none⟩ u4).setCell ⟨g, 5, none⟩ u5).setCell ⟨g, 6, none⟩ u6).setCell ⟨g, 7, none⟩ u7).setCell ⟨g, 8, none⟩ u8).setCell ⟨g, 9, none⟩ u9) g [u0, u1, u2, u3, u4, u5, u6, u7, u8, u9] t := Cs.setL h [u0, u1, u2, u3, u4, u5, u6, u7, u8, u9] hl.symm
theorem below_s10 {B g : Nat} {a w : World} (h : Below B a w) (hg : B ≤ g) (u0 u1 u2 u3 u4 u5 u6 u7 u8 u9 : Value) : Below B a ((((((((((w.setCell ⟨g, 0, none⟩ u0).setCell ⟨g, 1, none⟩ u1).setCell ⟨g, 2, none⟩ u2).setCell ⟨g, 3, none⟩ u3).setCell ⟨g, 4, none⟩ u4).setCell ⟨g, 5, none⟩ u5).setCell ⟨g, 6, none⟩ u6).setCell ⟨g, 7, none⟩ u7).setCell ⟨g, 8, none⟩ u8).setCell ⟨g, 9, none⟩ u9) := below_setL hg [u0, u1, u2, u3, u4, u5, u6, u7, u8, u9] 0 h
theorem num_s10 {w : World} {l : List Nat} {A : Option Addr} {n c g : Nat} (h : Num w l A n c) (hA : 0 < n → ∀ a, A = some a → a.block ≠ g) (u0 u1 u2 u3 u4 u5 u6 u7 u8 u9 : Value) : Num ((((((((((w.setCell ⟨g, 0, none⟩ u0).setCell ⟨g, 1, none⟩ u1).setCell ⟨g, 2, none⟩ u2).setCell ⟨g, 3, none⟩ u3).setCell ⟨g, 4, none⟩ u4).setCell ⟨g, 5, none⟩ u5).setCell ⟨g, 6, none⟩ u6).setCell ⟨g, 7, none⟩ u7).setCell ⟨g, 8, none⟩ u8).setCell ⟨g, 9, none⟩ u9) l A n c := Num.setL hA [u0, u1, u2, u3, u4, u5, u6, u7, u8, u9] 0 h
theorem blk1 (w : World) (l : List Value) (t : TypeId) : Below w.heap.size w (w.alloc (.cells l.toArray t)) ∧ Cs (w.alloc (.cells l.toArray t)) w.heap.size l t :=
  ⟨(Below.refl _ _).alloc (Nat.le_refl _) _, Cs.new w l t⟩
theorem blk2 (w : World) (l l' : List Value) (t t' : TypeId) : Below w.heap.size w ((w.alloc (.cells l.toArray t)).alloc (.cells l'.toArray t')) ∧ Cs ((w.alloc (.cells l.toArray t)).alloc (.cells l'.toArray t')) w.heap.size l t ∧
    Cs ((w.alloc (.cells l.toArray t)).alloc (.cells l'.toArray t')) (w.heap.size + 1) l' t' := by
  obtain ⟨h1, h2⟩ := blk1 w l t
  have h3 := Cs.new (w.alloc (.cells l.toArray t)) l' t'
  rw [show (w.alloc (.cells l.toArray t)).heap.size = w.heap.size + 1 by simp] at h3
  exact ⟨h1.alloc (by simp) _, h2.alloc _, h3⟩
theorem blk3 (w : World) (l l' l'' : List Value) (t t' t'' : TypeId) : Below w.heap.size w (((w.alloc (.cells l.toArray t)).alloc (.cells l'.toArray t')).alloc (.cells l''.toArray t'')) ∧ Cs (((w.alloc (.cells l.toArray t)).alloc (.cells l'.toArray t')).alloc (.cells l''.toArray t'')) w.heap.size l t ∧
    Cs (((w.alloc (.cells l.toArray t)).alloc (.cells l'.toArray t')).alloc (.cells l''.toArray t'')) (w.heap.size + 1) l' t' ∧ Cs (((w.alloc (.cells l.toArray t)).alloc (.cells l'.toArray t')).alloc (.cells l''.toArray t'')) (w.heap.size + 1 + 1) l'' t'' := by
  obtain ⟨h1, h2, h3⟩ := blk2 w l l' t t'
  have h4 := Cs.new ((w.alloc (.cells l.toArray t)).alloc (.cells l'.toArray t')) l'' t''
  rw [show ((w.alloc (.cells l.toArray t)).alloc (.cells l'.toArray t')).heap.size = w.heap.size + 1 + 1 by simp] at h4
  exact ⟨h1.alloc (by simp; omega) _, h2.alloc _, h3.alloc _, h4⟩
end Go.Proofs.YtohbelnfjomcdaaGreatDoor
