/- Words for memory: a slice of 32-bit limbs that can be read (Num), one that lies in a block of the call's own (Own), and how both are kept while other memory turns. -/
import Derived.Test.YtohbelnfjomcdaaGreatDoorQ01
import Derived.Test.YtohbelnfjomcdaaGreatDoorProg
import Derived.WalkKit
import Derived.WalkSpells
import Derived.WalkLawsBesides
import Derived.Lib.Hide
import Derived.Deep.QuietTactic
import Derived.BigQuiet
import Derived.Deep.OwnRows
import Derived.StillTailTactics
import Derived.Maps.AppendAt
import Derived.Lib.SliceRun
set_option linter.unusedVariables false
set_option linter.unusedSimpArgs false
namespace Go.Proofs.YtohbelnfjomcdaaGreatDoor
open Go.RowKit

def u32s (l : List Nat) : List Value := l.map fun (n : Nat) => Value.int .u32 (n : Int)
theorem u32s_length (l : List Nat) : (u32s l).length = l.length := by simp [u32s]
theorem u32s_append (l r : List Nat) : u32s (l ++ r) = u32s l ++ u32s r := by simp [u32s]
theorem u32s_get (l : List Nat) (k : Nat) : (u32s l)[k]? = (l[k]?).map fun (n : Nat) => Value.int .u32 (n : Int) := by simp [u32s]

/-- The slice value (A, n, c) reads as the limbs l. -/
structure Num (w : World) (l : List Nat) (A : Option Addr) (n c : Nat) : Prop where
  len : n = l.length
  cap : n ≤ c
  lim : Lim l
  cells : 0 < n → ∃ b o, A = some ⟨b, o, none⟩ ∧ b < w.heap.size ∧ ∀ (k x : Nat), l[k]? = some x → w.cell? ⟨b, o + k, none⟩ = some (.int .u32 (x : Int))

/-- The slice value (A, n, c) reads as the limbs l, which lie in a block from B on that nobody has frozen. -/
structure Own (w : World) (B : Nat) (l : List Nat) (A : Option Addr) (n c : Nat) : Prop where
  len : n = l.length
  cap : n ≤ c
  lim : Lim l
  row : 0 < n → ∃ b pre post, A = some ⟨b, pre.length, none⟩ ∧ B ≤ b ∧ w.heap[b]? = some (.cells (pre ++ (u32s l ++ post)).toArray 99 (0, 0))

theorem heap_lt {w : World} {b : Nat} {o : Obj} (h : w.heap[b]? = some o) : b < w.heap.size := (Array.getElem?_eq_some_iff.1 h).1

theorem row_cell {w : World} {b : Nat} {pre post : List Value} {l : List Nat} {t : TypeId} {f : Nat × Nat} (h : w.heap[b]? = some (.cells (pre ++ (u32s l ++ post)).toArray t f)) {k x : Nat} (hx : l[k]? = some x) :
    w.cell? ⟨b, pre.length + k, none⟩ = some (.int .u32 (x : Int)) := by
  have hk : k < l.length := (List.getElem?_eq_some_iff.1 hx).1
  rw [cell_of_row w b _ _ t f h, List.getElem?_toArray, List.getElem?_append_right (by omega), show pre.length + k - pre.length = k from by omega, List.getElem?_append_left (by rw [u32s_length]; exact hk), u32s_get, hx]
  rfl

theorem Own.num {w : World} {B n c : Nat} {l : List Nat} {A : Option Addr} (h : Own w B l A n c) : Num w l A n c :=
  ⟨h.len, h.cap, h.lim, fun hn => by
    obtain ⟨b, pre, post, hA, _, hb⟩ := h.row hn
    exact ⟨b, pre.length, hA, heap_lt hb, fun k x hx => row_cell hb hx⟩⟩

theorem Own.more {w : World} {B B' n c : Nat} {l : List Nat} {A : Option Addr} (h : Own w B l A n c) (hB : B' ≤ B) : Own w B' l A n c :=
  ⟨h.len, h.cap, h.lim, fun hn => by
    obtain ⟨b, pre, post, hA, hb, hr⟩ := h.row hn
    exact ⟨b, pre, post, hA, by omega, hr⟩⟩

theorem Num.keep {w w' : World} {l : List Nat} {A : Option Addr} {n c : Nat} (h : Num w l A n c) (hs : w.heap.size ≤ w'.heap.size) (hk : ∀ b, b < w.heap.size → w'.heap[b]? = w.heap[b]?) : Num w' l A n c :=
  ⟨h.len, h.cap, h.lim, fun hn => by
    obtain ⟨b, o, hA, hb, hc⟩ := h.cells hn
    exact ⟨b, o, hA, by omega, fun k x hx => (World.cell?_of_block (w := w) (hk b hb)).trans (hc k x hx)⟩⟩
theorem Num.below {w w' : World} {l : List Nat} {A : Option Addr} {n c : Nat} (h : Num w l A n c) (hb : Below w.heap.size w w') : Num w' l A n c := h.keep hb.size hb.block
theorem Num.drew {w : World} {l : List Nat} {A : Option Addr} {n c : Nat} (h : Num w l A n c) : Num w.drew l A n c := ⟨h.len, h.cap, h.lim, h.cells⟩
theorem Num.drewN {w : World} {l : List Nat} {A : Option Addr} {n c : Nat} (h : Num w l A n c) (k : Nat) : Num (w.drewN k) l A n c := ⟨h.len, h.cap, h.lim, h.cells⟩
theorem Num.at_ {w : World} {l : List Nat} {A : Option Addr} {n c : Nat} (h : Num w l A n c) {k : Nat} (hk : k < n) :
    ∃ b o x, A = some ⟨b, o, none⟩ ∧ b < w.heap.size ∧ l.getD k 0 = x ∧ x < 4294967296 ∧ w.cell? ⟨b, o + k, none⟩ = some (.int .u32 (x : Int)) := by
  obtain ⟨b, o, hA, hb, hc⟩ := h.cells (by omega)
  have hl := h.len
  refine ⟨b, o, l.getD k 0, hA, hb, rfl, h.lim.getD k, hc k _ ?_⟩
  rw [List.getD_eq_getElem?_getD, List.getElem?_eq_getElem (by omega)]; rfl
theorem Num.at' {w : World} {l : List Nat} {b o : Nat} {n c : Nat} (h : Num w l (some ⟨b, o, none⟩) n c) {k : Nat} (hk : k < n) :
    w.cell? ⟨b, o + k, none⟩ = some (.int .u32 ((l.getD k 0 : Nat) : Int)) := by
  obtain ⟨b', o', x, hA, _, hx, _, hc⟩ := h.at_ hk
  cases hA
  rw [hx]; exact hc
theorem Own.below {w w' : World} {B B' : Nat} {l : List Nat} {A : Option Addr} {n c : Nat} (h : Own w B l A n c) (hb : Below B' w w') (hB : w.heap.size ≤ B') : Own w' B l A n c :=
  ⟨h.len, h.cap, h.lim, fun hn => by
    obtain ⟨b, pre, post, hA, hB', hr⟩ := h.row hn
    exact ⟨b, pre, post, hA, hB', (hb.block b (Nat.lt_of_lt_of_le (heap_lt hr) hB)).trans hr⟩⟩
/-- The slice lies in another block than b. -/
def Off (A : Option Addr) (b : Nat) : Prop := ∀ a, A = some a → a.block ≠ b
theorem Num.grown {w w' : World} {l : List Nat} {A : Option Addr} {n c g : Nat} (h : Num w l A n c) (hg : w.grownBy w' (some g)) (ho : Off A g) : Num w' l A n c :=
  ⟨h.len, h.cap, h.lim, fun hn => by
    obtain ⟨b, o, hA, hb, hc⟩ := h.cells hn
    have hs := hg.size
    exact ⟨b, o, hA, by omega, fun k x hx => (World.cell?_of_block (w := w) (hg.block b hb (fun e => ho _ hA (Option.some.inj e)))).trans (hc k x hx)⟩⟩
theorem Num.nil (w : World) (A : Option Addr) (c : Nat) : Num w [] A 0 c := ⟨rfl, Nat.zero_le _, Lim.nil, fun h => absurd h (by omega)⟩
theorem Own.nil (w : World) (B : Nat) (A : Option Addr) (c : Nat) : Own w B [] A 0 c := ⟨rfl, Nat.zero_le _, Lim.nil, fun h => absurd h (by omega)⟩

/-- A number's limbs are read. -/
def Nat' (w : World) (a : Nat) (A : Option Addr) (n c : Nat) : Prop := Num w (limbs a) A n c

theorem trim_list (l : List Nat) (h : Lim l) : ∃ r, l = limbs (val l) ++ r := by
  have h1 := take_tl l l.length (Nat.le_refl _) h
  rw [List.take_length] at h1
  exact ⟨l.drop (tl l l.length), by rw [← h1, List.take_append_drop]⟩
theorem trim_len (l : List Nat) (h : Lim l) : (limbs (val l)).length ≤ l.length := by
  obtain ⟨r, hr⟩ := trim_list l h
  have := congrArg List.length hr
  rw [List.length_append] at this
  omega
theorem Num.trim {w : World} {l : List Nat} {A : Option Addr} {n c : Nat} (h : Num w l A n c) : Num w (limbs (val l)) A (limbs (val l)).length c := by
  obtain ⟨r, hr⟩ := trim_list l h.lim
  have hle := trim_len l h.lim
  refine ⟨rfl, by have := h.cap; have := h.len; omega, lim_limbs _, fun hn => ?_⟩
  obtain ⟨b, o, hA, hb, hc⟩ := h.cells (by have := h.len; omega)
  refine ⟨b, o, hA, hb, fun k x hx => hc k x ?_⟩
  rw [hr, List.getElem?_append_left (List.getElem?_eq_some_iff.1 hx).1]; exact hx
theorem Own.trim {w : World} {B : Nat} {l : List Nat} {A : Option Addr} {n c : Nat} (h : Own w B l A n c) : Own w B (limbs (val l)) A (limbs (val l)).length c := by
  obtain ⟨r, hr⟩ := trim_list l h.lim
  have hle := trim_len l h.lim
  refine ⟨rfl, by have := h.cap; have := h.len; omega, lim_limbs _, fun hn => ?_⟩
  obtain ⟨b, pre, post, hA, hb, hc⟩ := h.row (by have := h.len; omega)
  refine ⟨b, pre, u32s r ++ post, hA, hb, ?_⟩
  rw [hc]
  congr 3
  rw [← List.append_assoc (u32s _) (u32s r) post, ← u32s_append, ← hr]

/-- What a function hands back that makes a new list of limbs: it reads as l, lies in new memory, and nothing that was there has turned. -/
def RetOwn (w0 : World) (l : List Nat) (e : Ending) (w' : World) : Prop := ∃ A n c, e = .returned (.slice A n c) ∧ Own w' w0.heap.size l A n c ∧ Below w0.heap.size w0 w'

/-- The cells of a new row of n limbs. -/
def zrow (n : Nat) : Array Value := (u32s (List.replicate n 0)).toArray
theorem mk_run (m : Nat) (e : Int) (he : e = (m : Int)) (hm : m ≤ 1099511627776) (W : World) :
    (Instr.makeSlice 25 (.int .i64 e) (.int .i64 e)).run Tryz.prog W = .ok (.slice (some ⟨W.heap.size, 0, none⟩) m m) (W.alloc (.cells (zrow m) 99)) := by
  subst he
  have h := run_make_row' (P := Tryz.prog) 25 99 (.int .u32 0) 4 Tryz.underlying25 (by kernel_rfl) rfl .i64 .i64 m (by omega) (by omega) W
  have e : madeCells #[Value.int .u32 0] m = zrow m := by
    apply Array.ext'
    rw [toList_madeCells_one]
    simp [zrow, u32s]
  rw [e] at h
  exact h
/-- Block g holds just the limbs l. -/
def Row (w : World) (g : Nat) (l : List Nat) : Prop := w.heap[g]? = some (.cells (u32s l).toArray 99 (0, 0))
theorem Row.lt {w : World} {g : Nat} {l : List Nat} (h : Row w g l) : g < w.heap.size := heap_lt h
theorem Row.new (w : World) (n : Nat) : Row (w.alloc (.cells (zrow n) 99)) w.heap.size (List.replicate n 0) := heap_alloc_new w _
theorem Row.cell {w : World} {g : Nat} {l : List Nat} (h : Row w g l) {k : Nat} (hk : k < l.length) : w.cell? ⟨g, k, none⟩ = some (.int .u32 ((l.getD k 0 : Nat) : Int)) := by
  rw [cell_of_row w g k _ _ _ h, List.getElem?_toArray, u32s_get, List.getD_eq_getElem?_getD, List.getElem?_eq_getElem hk]; rfl
theorem Row.frozen {w : World} {g : Nat} {l : List Nat} (h : Row w g l) (k : Nat) : w.frozen? ⟨g, k, none⟩ = false := frozen_of_row w g k _ _ h
theorem Row.set {w : World} {g : Nat} {l : List Nat} (h : Row w g l) (k x : Nat) : Row (w.setCell ⟨g, k, none⟩ (.int .u32 (x : Int))) g (l.set k x) := by
  have := heap_setCell_same w g k _ _ (.int .u32 (x : Int)) h
  unfold Row; rw [this]
  congr 2
  apply Array.ext'
  simp [u32s, List.map_set]
theorem Row.setI {w : World} {g : Nat} {l : List Nat} (h : Row w g l) (k : Nat) (x : Nat) {e : Int} (he : e = (x : Int)) : Row (w.setCell ⟨g, k, none⟩ (.int .u32 e)) g (l.set k x) := by
  subst he; exact h.set k x
theorem Row.num {w : World} {g : Nat} {l : List Nat} (h : Row w g l) (hl : Lim l) {n c : Nat} (hn : n = l.length) (hc : n ≤ c) : Num w l (some ⟨g, 0, none⟩) n c :=
  ⟨hn, hc, hl, fun _ => ⟨g, 0, rfl, h.lt, fun k x hx => by
    have hk : k < l.length := (List.getElem?_eq_some_iff.1 hx).1
    rw [Nat.zero_add, h.cell hk, List.getD_eq_getElem?_getD, hx]; rfl⟩⟩
theorem Row.far {w : World} {g : Nat} {l : List Nat} (h : Row w g l) {p : Addr} (hp : g ≠ p.block) (u : Value) : Row (w.setCell p u) g l := (Below.heap_setCell w p u g hp).trans h
theorem Row.drewN {w : World} {g : Nat} {l : List Nat} (h : Row w g l) (n : Nat) : Row (w.drewN n) g l := h
theorem Row.alloc {w : World} {g : Nat} {l : List Nat} (h : Row w g l) (o : Obj) : Row (w.alloc o) g l := (Below.heap_alloc w o g h.lt).trans h
theorem Row.below {w w' : World} {B g : Nat} {l : List Nat} (h : Row w g l) (hb : Below B w w') (hg : g < B) : Row w' g l := (hb.block g hg).trans h
theorem Row.own {w : World} {B g : Nat} {l : List Nat} (h : Row w g l) (hB : B ≤ g) (hl : Lim l) {c : Nat} (hc : l.length ≤ c) : Own w B l (some ⟨g, 0, none⟩) l.length c :=
  ⟨rfl, hc, hl, fun _ => ⟨g, [], [], rfl, hB, by rw [List.append_nil]; exact h⟩⟩
/-- What is handed back behind 'trimmed' of a row of the call's own. -/
theorem Row.ret {w w' : World} {g : Nat} {l : List Nat} (h : Row w' g l) (hg : w.heap.size ≤ g) (hl : Lim l) (hb : Below w.heap.size w w') {c : Nat} (hc : l.length ≤ c) {m : Nat} (hm : val l = m) :
    RetOwn w (limbs m) (.returned (.slice (some ⟨g, 0, none⟩) (limbs (val l)).length c)) w' := by
  subst hm
  exact ⟨_, _, _, rfl, (h.own hg hl hc).trim, hb⟩
/-- The limbs l lie in the middle of block b. -/
def Mid (w : World) (b : Nat) (pre : List Value) (l : List Nat) (post : List Value) : Prop := w.heap[b]? = some (.cells (pre ++ (u32s l ++ post)).toArray 99 (0, 0))
theorem Mid.lt {w : World} {b : Nat} {pre post : List Value} {l : List Nat} (h : Mid w b pre l post) : b < w.heap.size := heap_lt h
theorem Mid.cell {w : World} {b : Nat} {pre post : List Value} {l : List Nat} (h : Mid w b pre l post) {k : Nat} (hk : k < l.length) : w.cell? ⟨b, pre.length + k, none⟩ = some (.int .u32 ((l.getD k 0 : Nat) : Int)) :=
  row_cell h (by rw [List.getD_eq_getElem?_getD, List.getElem?_eq_getElem hk]; rfl)
theorem Mid.frozen {w : World} {b : Nat} {pre post : List Value} {l : List Nat} (h : Mid w b pre l post) (k : Nat) : w.frozen? ⟨b, k, none⟩ = false := frozen_of_row w b k _ _ h
theorem Mid.set {w : World} {b : Nat} {pre post : List Value} {l : List Nat} (h : Mid w b pre l post) {k : Nat} (hk : k < l.length) (x : Nat) {e : Int} (he : e = (x : Int)) : Mid (w.setCell ⟨b, pre.length + k, none⟩ (.int .u32 e)) b pre (l.set k x) post := by
  subst he
  have := heap_setCell_same w b (pre.length + k) _ _ (.int .u32 (x : Int)) h
  unfold Mid; rw [this]
  congr 2
  apply Array.ext'
  simp only [List.setIfInBounds_toArray]
  rw [List.set_append_right _ _ (by omega), Nat.add_sub_cancel_left, List.set_append_left _ _ (by rw [u32s_length]; exact hk)]
  simp [u32s, List.map_set]
theorem Mid.set' {w : World} {b : Nat} {pre post : List Value} {l : List Nat} (h : Mid w b pre l post) {k : Nat} (hk : k < l.length) (x : Nat) {e : Int} (he : e = (x : Int)) {o : Nat} (ho : pre.length = o) : Mid (w.setCell ⟨b, o + k, none⟩ (.int .u32 e)) b pre (l.set k x) post := by
  subst ho; exact h.set hk x he
theorem Mid.drewN {w : World} {b : Nat} {pre post : List Value} {l : List Nat} (h : Mid w b pre l post) (n : Nat) : Mid (w.drewN n) b pre l post := h
theorem Mid.drew {w : World} {b : Nat} {pre post : List Value} {l : List Nat} (h : Mid w b pre l post) : Mid w.drew b pre l post := h
theorem Mid.num {w : World} {b : Nat} {pre post : List Value} {l : List Nat} (h : Mid w b pre l post) (hl : Lim l) {n c o : Nat} (ho : o = pre.length) (hn : n = l.length) (hc : n ≤ c) : Num w l (some ⟨b, o, none⟩) n c :=
  ⟨hn, hc, hl, fun _ => ⟨b, o, rfl, h.lt, fun k x hx => by subst ho; exact row_cell h hx⟩⟩
theorem Mid.own {w : World} {B b : Nat} {pre post : List Value} {l : List Nat} (h : Mid w b pre l post) (hB : B ≤ b) (hl : Lim l) {o n c : Nat} (ho : o = pre.length) (hn : n = l.length) (hc : n ≤ c) : Own w B l (some ⟨b, o, none⟩) n c :=
  ⟨hn, hc, hl, fun _ => ⟨b, pre, post, by rw [ho], hB, h⟩⟩
theorem Mid.ret {w w' : World} {b : Nat} {pre post : List Value} {l : List Nat} (h : Mid w' b pre l post) (hg : w.heap.size ≤ b) (hl : Lim l) (hb : Below w.heap.size w w') {o c : Nat} (ho : o = pre.length) (hc : l.length ≤ c) {m : Nat} (hm : val l = m) :
    RetOwn w (limbs m) (.returned (.slice (some ⟨b, o, none⟩) (limbs (val l)).length c)) w' := by
  subst hm
  exact ⟨_, _, _, rfl, (h.own hg hl ho rfl hc).trim, hb⟩
theorem Row.mid {w : World} {g : Nat} {l : List Nat} (h : Row w g l) (i t : Nat) : Mid w g (u32s (l.take i)) ((l.drop i).take t) (u32s (l.drop (i + t))) := by
  unfold Mid
  rw [h, ← u32s_append, ← u32s_append, ← List.drop_drop, List.take_append_drop, List.take_append_drop]
theorem Mid.row {w : World} {g : Nat} {p l q : List Nat} (h : Mid w g (u32s p) l (u32s q)) : Row w g (p ++ (l ++ q)) := by
  unfold Mid at h
  unfold Row
  rw [h, ← u32s_append, ← u32s_append]
theorem Row.grown {w w' : World} {g : Nat} {l : List Nat} {row : Option Nat} (h : Row w g l) (hg : w.grownBy w' row) (hne : some g ≠ row) : Row w' g l := (hg.block g h.lt hne).trans h
theorem info_u32 : ∃ i, Tryz.prog.info? 99 = some i ∧ i.zero = some (.int .u32 0) ∧ i.size = 1 ∧ i.bytes = 4 := by
  have h : (Tryz.prog.info? 99).map (fun i => (i.zero, i.size, i.bytes)) = some (some (.int .u32 0), 1, 4) := by kernel_rfl
  obtain ⟨i, hi, hz⟩ := Option.map_eq_some_iff.1 h
  simp only [Prod.mk.injEq] at hz
  exact ⟨i, hi, hz.1, hz.2.1, hz.2.2⟩
/-- The call's own row of limbs, which may grow. -/
def OwnR (w : World) (B : Nat) (v : Value) (l : List Nat) : Prop := w.ownsRow B 99 1 v l.length (u32s l)
theorem u32s_one (l : List Nat) : ∀ u ∈ u32s l, u.oneCell' = true := by
  intro u hu
  obtain ⟨x, _, rfl⟩ := List.mem_map.1 hu
  rfl
theorem app_run (w : World) (B : Nat) (v : Value) (l r : List Nat) (hown : OwnR w B v l) (A : Option Addr) (m c : Nat) (hnum : Num w r A m c) (hsum : l.length + m ≤ 1099511627776) (hB : B ≤ w.heap.size) :
    ∃ v' w', (Builtin.append_ #[25, 25] 25 #[v, .slice A m c]).run Tryz.prog w = .ok v' w' ∧ OwnR w' B v' (l ++ r) ∧ w.grownBy w' v.ownBlock ∧ (v'.ownBlock = v.ownBlock ∨ v'.ownBlock = some w.heap.size) := by
  obtain ⟨i, hi, hz, hs, hb⟩ := info_u32
  have hu := Tryz.underlying25
  rcases Nat.eq_zero_or_pos m with h0 | h0
  · subst h0
    have hr : r = [] := List.eq_nil_of_length_eq_zero hnum.len.symm
    subst hr
    refine ⟨v, w, ?_, by simpa using hown, World.grownBy.refl w _, .inl rfl⟩
    rcases hown.2 with ⟨rfl, _⟩ | ⟨g, cap, cur, rfl, _, _, hnc, _⟩
    · cases A <;> simp [Builtin.append_, run_underlying hu, sizeOf, typeInfo, hi, Builtin.lenOf, Builtin.firstCells, hs, loadCells, loadCellsFrom, storeCells]
    · cases A <;> simp [Builtin.append_, run_underlying hu, sizeOf, typeInfo, hi, Builtin.lenOf, Builtin.firstCells, hs, hnc, loadCells, loadCellsFrom, storeCells]
  · obtain ⟨b, o, rfl, hb', hc⟩ := hnum.cells h0
    have hl : (u32s r).length = m * 1 := by rw [u32s_length, hnum.len]; omega
    obtain ⟨v', w', h1, h2, h3, _, h5⟩ := run_append_own_at (P := Tryz.prog) w B 25 25 99 i (.int .u32 0) 1 4 hu hi hz hs hb rfl (by omega) v l.length (u32s l) hown ⟨b, o, none⟩ m c (u32s r) hl
      (fun j u hju => by
        rw [u32s_get] at hju
        obtain ⟨x, hx, rfl⟩ := Option.map_eq_some_iff.1 hju
        have := hc j x hx
        have e : (⟨b, o, none⟩ : Addr).add j = ⟨b, o + j, none⟩ := by unfold Addr.add; split <;> simp_all
        rw [e]; exact this) (u32s_one r) (by unfold maxLen; omega) (by omega) hB
    refine ⟨v', w', h1, ?_, h3, h5⟩
    unfold OwnR
    rw [List.length_append, u32s_append, ← hnum.len]
    exact h2
theorem wpList_app {w : World} {ops : Array Oper} {rest : List Oper} {o : Oper} {a : Act} {Q : Exit → Act → World → Prop} (hgd : o.guard = none) (s x : Operand)
    (ho : o.op = .call { callee := .builtin .append, args := #[s, x], argTypes := #[25, 25] }) (hty : o.type = 25) (B : Nat) (v : Value) (l r : List Nat) (hs : a.eval s = v) (hown : OwnR w B v l)
    (A : Option Addr) (m c : Nat) (hx : a.eval x = .slice A m c) (hnum : Num w r A m c) (hsum : l.length + m ≤ 1099511627776) (hB : B ≤ w.heap.size)
    (h : ∀ v' w', OwnR w' B v' (l ++ r) → w.grownBy w' v.ownBlock → (v'.ownBlock = v.ownBlock ∨ v'.ownBlock = some w.heap.size) → wpList Tryz.prog ops Q rest (a.put o.dst v') w') : wpList Tryz.prog ops Q (o :: rest) a w := by
  refine wpList_plain hgd fun K hK => ?_
  obtain ⟨v', w', hrun, h1, h2, h3⟩ := app_run w B v l r hown A m c hnum hsum hB
  unfold Oper.wp
  simp [execOp, ho, hty, resolve, invoke, builtin, hs, hx, hrun, Result.andThen]
  exact hK _ _ (h v' w' h1 h2 h3)
theorem OwnR.own {w : World} {B : Nat} {v : Value} {l : List Nat} (h : OwnR w B v l) (hl : Lim l) : ∃ A c, v = .slice A l.length c ∧ Own w B l A l.length c := by
  rcases h.2 with ⟨rfl, hn⟩ | ⟨g, cap, cur, rfl, hB, hh, hnc, _, _, hcur⟩
  · have hl0 : l = [] := List.eq_nil_of_length_eq_zero hn
    subst hl0
    exact ⟨none, 0, rfl, Own.nil _ _ _ _⟩
  · refine ⟨some ⟨g, 0, none⟩, cap, rfl, rfl, hnc, hl, fun _ => ⟨g, [], cur.toList.drop (l.length * 1), rfl, hB, ?_⟩⟩
    rw [hh, List.nil_append, ← hcur, List.take_append_drop, Array.toArray_toList]
theorem OwnR.nil (w : World) (B : Nat) : OwnR w B (.slice none 0 0) [] := World.ownsRow_nil ..
theorem OwnR.new0 (w : World) {B : Nat} (hB : B ≤ w.heap.size) : OwnR (w.alloc (.cells #[] 99)) B (.slice (some ⟨w.heap.size, 0, none⟩) 0 0) [] :=
  World.ownsRow_made w #[] 0 hB (Nat.zero_le _) rfl
theorem draws2 (w : World) (a b : Nat) : ∃ q, (w.drewN a).drewN b = w.drewN q := ⟨_, World.drewN_drewN ..⟩
theorem draws3 (w : World) (a b c : Nat) : ∃ q, ((w.drewN a).drewN b).drewN c = w.drewN q := ⟨_, by rw [World.drewN_drewN, World.drewN_drewN]⟩
theorem same_swap {P : Program} {f : FuncId} {args : Array Value} {w : World} {v : Value} (h : Calls P f args w fun e w' => e = .returned v ∧ w = w') : Calls P f args w fun e w' => e = .returned v ∧ w' = w :=
  h.mono fun _ _ ⟨he, hm⟩ => ⟨he, hm.symm⟩
theorem quiet_left {P : Program} {f : FuncId} {args : Array Value} {w : World} {n : Nat} {v : Value}
    (h : Calls P f args (w.drewN n) fun e w' => e = .returned v ∧ w.drewN n = w') : Calls P f args (w.drewN n) fun e w'' => e = .returned v ∧ ∃ m, w'' = w.drewN m :=
  h.mono fun _ _ ⟨he, hm⟩ => ⟨he, n, hm.symm⟩
theorem quiet_add_left {P : Program} {f : FuncId} {args : Array Value} {w : World} {a n : Nat} {v : Value}
    (h : Calls P f args (w.drewN (a + n)) fun e w' => e = .returned v ∧ w.drewN (a + n) = w') :
    Calls P f args (w.drewN (a + n)) fun e w'' => e = .returned v ∧ ∃ m, w'' = w.drewN (a + m) :=
  h.mono fun _ _ ⟨he, hm⟩ => ⟨he, n, hm.symm⟩
theorem below_drewN {B : Nat} {a w : World} (h : Below B a w) (n : Nat) : Below B a (w.drewN n) := ⟨h.os, h.tape, h.output, h.size, h.block⟩
theorem below_of_drewN (w : World) (n B : Nat) : Below B w (w.drewN n) := below_drewN (Below.refl _ _) n
theorem Own.drewN {w : World} {B : Nat} {l : List Nat} {A : Option Addr} {n c : Nat} (h : Own w B l A n c) (k : Nat) : Own (w.drewN k) B l A n c := ⟨h.len, h.cap, h.lim, h.row⟩

theorem ret_slice {a b : Nat} (A : Option Addr) (c : Nat) (h : a = b) : Ending.returned (.slice A a c) = .returned (.slice A b c) := by rw [h]
theorem ret_int {k : IntKind} {a b : Int} (h : a = b) : Ending.returned (.int k a) = .returned (.int k b) := by rw [h]
theorem ret_bool {a b : Bool} (h : a = b) : Ending.returned (.bool a) = .returned (.bool b) := by rw [h]
end Go.Proofs.YtohbelnfjomcdaaGreatDoor

namespace Go.Proofs.YtohbelnfjomcdaaGreatDoor
open Go.RowKit

set_option maxHeartbeats 400000 in
theorem limb_in (A : Option Addr) (n c k x : Nat) (l : List Nat) (w : World) (h : Num w l A n c) (hk : k < n) (hx : l.getD k 0 = x) (hn : n ≤ 1073741824) :
    Calls Tryz.prog 289 #[.slice A n c, .int .i64 k] w fun e w' => e = .returned (.int .u32 x) ∧ w = w' := by
  obtain ⟨b, o, y, rfl, _, hy, _, hc⟩ := h.at_ hk
  rw [hx] at hy; subst hy
  have HX := Lib.hid hx; clear hx h
  go_enter Tryz.func289, Tryz.ntmps289
  go_wp2
  go_ret
  exact ⟨rfl, rfl⟩

set_option maxHeartbeats 400000 in
theorem limb_out (A : Option Addr) (n c k : Nat) (w : World) (hk : n ≤ k) :
    Calls Tryz.prog 289 #[.slice A n c, .int .i64 k] w fun e w' => e = .returned (.int .u32 0) ∧ w = w' := by
  go_enter Tryz.func289, Tryz.ntmps289
  go_wp2
  go_ret
  exact ⟨rfl, rfl⟩

/-- limb: the limb k of the list, 0 behind the end; k as it stands at the call. -/
theorem limb_any (A : Option Addr) (n c : Nat) (k : Int) (l : List Nat) (w : World) (h : Num w l A n c) (h0 : 0 ≤ k) (hn : n ≤ 1073741824) :
    Calls Tryz.prog 289 #[.slice A n c, .int .i64 k] w fun e w' => e = .returned (.int .u32 ((l.getD k.toNat 0 : Nat) : Int)) ∧ w = w' := by
  obtain ⟨j, rfl⟩ := Int.eq_ofNat_of_zero_le h0
  rw [Int.toNat_natCast]
  by_cases hk : j < n
  · exact limb_in A n c j _ l w h hk rfl hn
  · rw [show l.getD j 0 = 0 from by rw [List.getD_eq_getElem?_getD, List.getElem?_eq_none (by have := h.len; omega)]; rfl]
    exact limb_out A n c j w (by omega)

/-- limb, its value behind a name. -/
theorem limb_v (A : Option Addr) (n c : Nat) (k : Int) (l : List Nat) (w : World) (y : Nat) (h : Num w l A n c) (h0 : 0 ≤ k) (hn : n ≤ 1073741824) (H : Hid (l.getD k.toNat 0 = y)) :
    Calls Tryz.prog 289 #[.slice A n c, .int .i64 k] w fun e w' => e = .returned (.int .u32 (y : Int)) ∧ w = w' := by
  have e := H.out; subst e
  exact limb_any A n c k l w h h0 hn

set_option maxHeartbeats 400000 in
theorem trimmed_any (A : Option Addr) (n c : Nat) (l : List Nat) (w : World) (h : Num w l A n c) (hn : n ≤ 1073741824) :
    Calls Tryz.prog 225 #[.slice A n c] w fun e w' => e = .returned (.slice A (limbs (val l)).length c) ∧ w = w' := by
  have hcap := h.cap
  have HT : Hid (tl l n = (limbs (val l)).length) := by rw [h.len]; exact tl_length l h.lim
  go_enter Tryz.func225, Tryz.ntmps225
  go_wp2
  go_loop [3] (fun i => ∃ k : Nat, k ≤ n ∧ i = .int .i64 k ∧ Hid (tl l n = tl l k)) (fun i => (intOf i).toNat)
  case atStart => exact ⟨n, Nat.le_refl _, rfl, rfl⟩
  case round =>
    obtain ⟨k, hk, rfl, HE⟩ := hrel
    rcases Nat.eq_zero_or_pos k with h0 | h0
    · subst h0
      go_wp2
      go_ret
      exact ⟨ret_slice _ _ (HE.out.symm.trans HT.out), rfl⟩
    · obtain ⟨j, rfl⟩ : ∃ j, k = j + 1 := ⟨k - 1, by omega⟩
      obtain ⟨b, o, x, rfl, _, hx, _, hcj⟩ := h.at_ (show j < n by omega)
      clear h
      by_cases hz : x = 0
      · subst hz
        have HX := Lib.hid hx; clear hx
        go_wp2
        go_round
        case rel => exact ⟨j, by omega, by go_num, HE.out.trans (tl_zero l j HX.out)⟩
        case measure => simp [intOf]
      · have hne : ((x : Int) == 0) = false := by simp; exact hz
        have HX := Lib.hid hx; clear hx
        have HZ := Lib.hid hz; clear hz
        go_wp2
        go_ret
        exact ⟨ret_slice _ _ ((HE.out.trans (tl_pos l j (by rw [HX.out]; exact HZ.out))).symm.trans HT.out), rfl⟩

set_option maxHeartbeats 400000 in
theorem padded_any (A : Option Addr) (n c : Nat) (l : List Nat) (w : World) (h : Num w l A n c) (hn : n ≤ 1073741824) :
    Calls Tryz.prog 203 #[.slice A n c] w fun e w' => e = .returned (.bool (decide (0 < n ∧ l.getD (n - 1) 0 = 0))) ∧ w = w' := by
  rcases Nat.eq_zero_or_pos n with h0 | h0
  · subst h0
    go_enter Tryz.func203, Tryz.ntmps203
    go_wp2
    go_ret
    exact ⟨ret_bool (by simp), rfl⟩
  · obtain ⟨j, rfl⟩ : ∃ j, n = j + 1 := ⟨n - 1, by omega⟩
    obtain ⟨b, o, x, rfl, _, hx, _, hcj⟩ := h.at_ (show j < j + 1 by omega)
    rw [Nat.add_sub_cancel, hx]
    clear hx h
    go_enter Tryz.func203, Tryz.ntmps203
    go_wp2
    go_ret
    exact ⟨ret_bool (by rw [Bool.eq_iff_iff]; simp), rfl⟩

set_option maxHeartbeats 400000 in
theorem isOne_any (A : Option Addr) (n c : Nat) (l : List Nat) (w : World) (h : Num w l A n c) (hn : n ≤ 1073741824) :
    Calls Tryz.prog 204 #[.slice A n c] w fun e w' => e = .returned (.bool (decide (l = [1]))) ∧ w = w' := by
  by_cases h1 : n = 1
  · subst h1
    obtain ⟨b, o, x, rfl, _, hx, _, hcj⟩ := h.at_ (show 0 < 1 by omega)
    have hl : decide (l = [1]) = decide ((x : Int) = 1) := by
      have := h.len
      match l, this with
      | [y], _ => simp at hx; subst hx; simp; omega
    rw [hl]
    rw [Nat.add_zero] at hcj
    clear hx h hl
    go_enter Tryz.func204, Tryz.ntmps204
    go_wp2
    go_ret
    exact ⟨ret_bool (by first | rfl | (rw [Bool.eq_iff_iff]; simp)), rfl⟩
  · have hl : decide (l = [1]) = false := by
      have := h.len
      simp; rintro rfl; simp at this; omega
    have hn1 : ((n : Int) == 1) = false := by simp; omega
    rw [hl]
    clear h hl h1
    go_enter Tryz.func204, Tryz.ntmps204
    go_wp2
    go_ret
    exact ⟨rfl, rfl⟩

/-- The number 1, in new memory. -/
theorem limbs_one : limbs 1 = [1] := by rw [limbs_pos (by decide), show 1 / 4294967296 = 0 from rfl, limbs_zero]

set_option maxHeartbeats 400000 in
theorem one_any (w : World) : Calls Tryz.prog 267 #[] w (RetOwn w [1]) := by
  go_enter Tryz.func267, Tryz.ntmps267
  go_wp2
  go_ret
  refine ⟨some ⟨w.heap.size, 0, none⟩, 1, 1, rfl, ⟨rfl, by omega, Lim.cons (by decide) Lim.nil, fun _ => ⟨w.heap.size, [], [], rfl, Nat.le_refl _, ?_⟩⟩, ?_⟩
  · exact heap_alloc_new w _
  · exact (Below.refl _ _).alloc (Nat.le_refl _) _

def cmpI (a b : Int) : Int := if a < b then -1 else if b < a then 1 else 0

set_option maxHeartbeats 400000 in
theorem isNaN_int (a : Int) (w : World) : Calls Tryz.prog 265 #[.int .i64 a] w fun e w' => e = .returned (.bool false) ∧ w = w' := by
  go_enter Tryz.func265, Tryz.ntmps265
  go_wp2
  go_ret
  exact ⟨ret_bool (by simp), rfl⟩
set_option maxHeartbeats 400000 in
theorem isNaN_u32 (a : Int) (w : World) : Calls Tryz.prog 306 #[.int .u32 a] w fun e w' => e = .returned (.bool false) ∧ w = w' := by
  go_enter Tryz.func306, Tryz.ntmps306
  go_wp2
  go_ret
  exact ⟨ret_bool (by simp), rfl⟩
set_option maxHeartbeats 800000 in
theorem cmp_int (a b : Int) (w : World) : Calls Tryz.prog 220 #[.int .i64 a, .int .i64 b] w fun e w' => e = .returned (.int .i64 (cmpI a b)) ∧ w = w' := by
  rcases Int.lt_trichotomy a b with h | h | h
  · have e : cmpI a b = -1 := by unfold cmpI; rw [if_pos h]
    rw [e]; clear e
    go_enter Tryz.func220, Tryz.ntmps220
    go_wp2_with (go_at_call 265; refine (isNaN_int _ _).mono ?_; rintro e w' ⟨rfl, rfl⟩)
    go_ret
    exact ⟨rfl, rfl⟩
  · subst h
    have e : cmpI a a = 0 := by unfold cmpI; rw [if_neg (by omega), if_neg (by omega)]
    rw [e]; clear e
    go_enter Tryz.func220, Tryz.ntmps220
    go_wp2_with (go_at_call 265; refine (isNaN_int _ _).mono ?_; rintro e w' ⟨rfl, rfl⟩)
    go_ret
    exact ⟨rfl, rfl⟩
  · have e : cmpI a b = 1 := by unfold cmpI; rw [if_neg (by omega), if_pos h]
    have h' : ¬ a < b := by omega
    rw [e]; clear e
    go_enter Tryz.func220, Tryz.ntmps220
    go_wp2_with (go_at_call 265; refine (isNaN_int _ _).mono ?_; rintro e w' ⟨rfl, rfl⟩)
    go_ret
    exact ⟨rfl, rfl⟩
set_option maxHeartbeats 800000 in
theorem cmp_u32 (a b : Int) (w : World) : Calls Tryz.prog 266 #[.int .u32 a, .int .u32 b] w fun e w' => e = .returned (.int .i64 (cmpI a b)) ∧ w = w' := by
  rcases Int.lt_trichotomy a b with h | h | h
  · have e : cmpI a b = -1 := by unfold cmpI; rw [if_pos h]
    rw [e]; clear e
    go_enter Tryz.func266, Tryz.ntmps266
    go_wp2_with (go_at_call 306; refine (isNaN_u32 _ _).mono ?_; rintro e w' ⟨rfl, rfl⟩)
    go_ret
    exact ⟨rfl, rfl⟩
  · subst h
    have e : cmpI a a = 0 := by unfold cmpI; rw [if_neg (by omega), if_neg (by omega)]
    rw [e]; clear e
    go_enter Tryz.func266, Tryz.ntmps266
    go_wp2_with (go_at_call 306; refine (isNaN_u32 _ _).mono ?_; rintro e w' ⟨rfl, rfl⟩)
    go_ret
    exact ⟨rfl, rfl⟩
  · have e : cmpI a b = 1 := by unfold cmpI; rw [if_neg (by omega), if_pos h]
    have h' : ¬ a < b := by omega
    rw [e]; clear e
    go_enter Tryz.func266, Tryz.ntmps266
    go_wp2_with (go_at_call 306; refine (isNaN_u32 _ _).mono ?_; rintro e w' ⟨rfl, rfl⟩)
    go_ret
    exact ⟨rfl, rfl⟩
end Go.Proofs.YtohbelnfjomcdaaGreatDoor

namespace Go.Proofs.YtohbelnfjomcdaaGreatDoor
open Go.RowKit

theorem cmpI_cast (a b : Nat) : cmpI (a : Int) (b : Int) = if a < b then -1 else if b < a then 1 else 0 := by
  unfold cmpI; simp only [Int.ofNat_lt]
theorem cmpI_lt {a b : Int} (h : a < b) : cmpI a b = -1 := by unfold cmpI; rw [if_pos h]
theorem cmpI_gt {a b : Int} (h : b < a) : cmpI a b = 1 := by unfold cmpI; rw [if_neg (by omega), if_pos h]
theorem cmpI_eq (a : Int) : cmpI a a = 0 := by unfold cmpI; rw [if_neg (by omega), if_neg (by omega)]
theorem cmpI_same {a b c d : Nat} (h : a < b ↔ c < d) (h' : b < a ↔ d < c) : cmpI (a : Int) (b : Int) = cmpI (c : Int) (d : Int) := by
  rw [cmpI_cast, cmpI_cast]; simp only [h, h']

/-- What a function hands back that only reads: a value; the world but for draws. -/
def RetQ (w0 : World) (v : Value) (e : Ending) (w' : World) : Prop := e = .returned v ∧ ∃ q, w' = w0.drewN q

set_option maxHeartbeats 400000 in
theorem order_len (A A' : Option Addr) (n c n' c' : Nat) (w : World) (h : n ≠ n') (hn : n ≤ 1073741824) (hn' : n' ≤ 1073741824) :
    Calls Tryz.prog 221 #[.slice A n c, .slice A' n' c'] w (RetQ w (.int .i64 (cmpI n n'))) := by
  have h1 : ((n : Int) != n') = true := by simp; omega
  clear h
  go_enter Tryz.func221, Tryz.ntmps221
  go_wp2_with (go_at_call 220; refine (cmp_int _ _ _).mono ?_; rintro e w' ⟨rfl, rfl⟩)
  go_ret
  exact ⟨rfl, 0, rfl⟩

theorem order_math {l r : List Nat} {k : Nat} (hl : Lim l) (hr : Lim r) (hk : k < l.length) (hlen : l.length = r.length) (he : ∀ j, k < j → j < l.length → l.getD j 0 = r.getD j 0) (hne : l.getD k 0 ≠ r.getD k 0) :
    cmpI ((l.getD k 0 : Nat) : Int) ((r.getD k 0 : Nat) : Int) = cmpI ((val l : Nat) : Int) ((val r : Nat) : Int) := by
  have he' : ∀ j, k < j → l.getD j 0 = r.getD j 0 := fun j hj => by
    by_cases h : j < l.length
    · exact he j hj h
    · rw [List.getD_eq_getElem?_getD, List.getD_eq_getElem?_getD, List.getElem?_eq_none (by omega), List.getElem?_eq_none (by omega)]
  rcases Nat.lt_or_gt_of_ne hne with h | h
  · rw [cmpI_lt (by omega), cmpI_lt (by have := val_lt_at hl hk hlen he' h; omega)]
  · rw [cmpI_gt (by omega), cmpI_gt (by have := val_lt_at hr (by omega) hlen.symm (fun j hj => (he' j hj).symm) h; omega)]

set_option maxHeartbeats 1000000 in
theorem order_same (A A' : Option Addr) (n c c' : Nat) (l r : List Nat) (w : World) (hx : Num w l A n c) (hy : Num w r A' n c') (hn : n ≤ 1073741824) :
    Calls Tryz.prog 221 #[.slice A n c, .slice A' n c'] w (RetQ w (.int .i64 (cmpI ((val l : Nat) : Int) ((val r : Nat) : Int)))) := by
  have h1 : ((n : Int) != n) = false := by simp
  obtain ⟨V, hV⟩ : ∃ V, cmpI ((val l : Nat) : Int) ((val r : Nat) : Int) = V := ⟨_, rfl⟩
  rw [hV]
  have HV := Lib.hid hV; clear hV
  go_enter Tryz.func221, Tryz.ntmps221
  go_wp2
  go_loopw [5] (fun i wr => ∃ k q : Nat, k ≤ n ∧ i = .int .i64 ((k : Int) - 1) ∧ wr = w.drewN q ∧ Hid (∀ j, k ≤ j → j < n → l.getD j 0 = r.getD j 0)) (fun i _ => (intOf i + 1).toNat)
  case atStart => exact ⟨n, 0, Nat.le_refl _, rfl, rfl, show Hid _ from fun j h1 h2 => by omega⟩
  case round =>
    obtain ⟨k, q, hk, rfl, rfl, HE⟩ := hrel
    rcases Nat.eq_zero_or_pos k with h0 | h0
    · subst h0
      go_wp2
      go_ret
      refine ⟨ret_int ?_, q, rfl⟩
      rw [← HV.out, eq_of_getD (hx.len.symm.trans hy.len) (fun j hj => HE.out j (by omega) (by have := hx.len; omega)), cmpI_eq]
    · obtain ⟨j, rfl⟩ : ∃ j, k = j + 1 := ⟨k - 1, by omega⟩
      obtain ⟨b, o, x, rfl, _, hx', _, hcx⟩ := hx.at_ (show j < n by omega)
      obtain ⟨b', o', y, rfl, _, hy', _, hcy⟩ := hy.at_ (show j < n by omega)
      have hjn : (j : Int) < (n : Int) := by omega
      have e1 : ((j + 1 : Nat) : Int) - 1 = (j : Int) := by omega
      rw [e1]; clear e1
      have HX := Lib.hid hx'; have HY := Lib.hid hy'
      have LX := Lib.hid hx; have LY := Lib.hid hy
      clear hx' hy' hx hy
      by_cases hxy : x = y
      · have hne : ((x : Int) != y) = false := by simp; omega
        have hne2 : ((y : Int) != y) = false := by simp
        have HXY := Lib.hid hxy
        subst hxy
        go_wp2_with fail
        go_quiet (fail)
        go_wp2_with fail
        go_roundw
        case rel => exact ⟨j, _, by omega, rfl, rfl, show Hid _ from fun i hi1 hi2 => by
          rcases Nat.eq_or_lt_of_le hi1 with hi | hi
          · subst hi; rw [HX.out, HY.out]
          · exact HE.out i (by omega) hi2⟩
        case measure => simp [intOf]
      · have hne : ((x : Int) != y) = true := by simp; omega
        go_wp2_with fail
        go_quiet (fail)
        go_wp2_with fail
        go_quiet ((go_at_call 266; exact quiet_add_left (cmp_u32 _ _ _)))
        go_wp2_with fail
        go_ret
        refine ⟨ret_int ?_, draws3 ..⟩
        rw [← HV.out, ← order_math (k := j) LX.out.lim LY.out.lim (by have := LX.out.len; omega) (LX.out.len.symm.trans LY.out.len) (fun i hi1 hi2 => HE.out i (by omega) (by have := LX.out.len; omega)) (by rw [HX.out, HY.out]; exact hxy), HX.out, HY.out]

/-- order compares two numbers. -/
theorem order_any (A A' : Option Addr) (n c n' c' a b : Nat) (w : World) (hx : Num w (limbs a) A n c) (hy : Num w (limbs b) A' n' c') (hn : n ≤ 1073741824) (hn' : n' ≤ 1073741824) :
    Calls Tryz.prog 221 #[.slice A n c, .slice A' n' c'] w (RetQ w (.int .i64 (cmpI a b))) := by
  by_cases h : n = n'
  · subst h
    have := order_same A A' n c c' _ _ w hx hy hn
    rwa [val_limbs, val_limbs] at this
  · have e : cmpI (n : Int) (n' : Int) = cmpI (a : Int) (b : Int) := by
      have h1 := hx.len; have h2 := hy.len
      rcases Nat.lt_or_gt_of_ne h with h' | h'
      · rw [cmpI_lt (by omega), cmpI_lt (by have := lt_of_length_lt (a := a) (b := b) (by omega); omega)]
      · rw [cmpI_gt (by omega), cmpI_gt (by have := lt_of_length_lt (a := b) (b := a) (by omega); omega)]
    rw [← e]
    exact order_len A A' n c n' c' w h hn hn'
/-- order, its answer behind a name. -/
theorem order_v (A A' : Option Addr) (n c n' c' a b : Nat) (w : World) (v : Int) (hx : Num w (limbs a) A n c) (hy : Num w (limbs b) A' n' c') (hn : n ≤ 1073741824) (hn' : n' ≤ 1073741824) (H : Hid (cmpI a b = v)) :
    Calls Tryz.prog 221 #[.slice A n c, .slice A' n' c'] w (RetQ w (.int .i64 v)) := by
  have h := order_any A A' n c n' c' a b w hx hy hn hn'
  rwa [H.out] at h
end Go.Proofs.YtohbelnfjomcdaaGreatDoor

namespace Go.Proofs.YtohbelnfjomcdaaGreatDoor
open Go.RowKit
def bor (x y b : Nat) : Nat := if x < y + b then 1 else 0
def dif (x y b : Nat) : Nat := (x + 4294967296 - y - b) % 4294967296

theorem bor_le (x y b : Nat) : bor x y b ≤ 1 := by unfold bor; split <;> omega
theorem dif_lt (x y b : Nat) : dif x y b < 4294967296 := Nat.mod_lt _ (by decide)
theorem dif_cast (x y b : Nat) (hx : x < 4294967296) (hy : y < 4294967296) (hb : b ≤ 1) : ((x : Int) - y - b) % 4294967296 = ((dif x y b : Nat) : Int) := by unfold dif; omega
theorem dif_bor (x y b : Nat) (hx : x < 4294967296) (hy : y < 4294967296) (hb : b ≤ 1) : dif x y b + y + b = x + 4294967296 * bor x y b := by unfold dif bor; split <;> omega
theorem top_bit {n : Nat} (h : n < 4294967296) : n / 2147483648 = (n.testBit 31).toNat := by
  rw [Nat.testBit_eq_decide_div_mod_eq, show (2 : Nat) ^ 31 = 2147483648 from rfl]
  have : n / 2147483648 = 0 ∨ n / 2147483648 = 1 := by omega
  rcases this with h | h <;> simp [h]
theorem bor_nat (x y b : Nat) (hx : x < 4294967296) (hy : y < 4294967296) (hb : b ≤ 1) :
    ((((4294967295 ^^^ x) &&& y) ||| ((4294967295 ^^^ (x ^^^ y)) &&& dif x y b)) : Nat) / 2147483648 = bor x y b := by
  have hm : (4294967295 : Nat).testBit 31 = true := by decide
  have hd := dif_lt x y b
  have e1 : (4294967295 ^^^ x) < 2 ^ 32 := Nat.xor_lt_two_pow (by decide) hx
  have e2 : (4294967295 ^^^ (x ^^^ y)) < 2 ^ 32 := Nat.xor_lt_two_pow (by decide) (Nat.xor_lt_two_pow hx hy)
  have e3 : (((4294967295 ^^^ x) &&& y) ||| ((4294967295 ^^^ (x ^^^ y)) &&& dif x y b)) < 2 ^ 32 := Nat.or_lt_two_pow (Nat.and_lt_two_pow _ hy) (Nat.and_lt_two_pow _ hd)
  rw [top_bit e3, Nat.testBit_or, Nat.testBit_and, Nat.testBit_and, Nat.testBit_xor, Nat.testBit_xor, Nat.testBit_xor, hm]
  have hxb := top_bit hx
  have hyb := top_bit hy
  have hdb := top_bit hd
  have hval := dif_bor x y b hx hy hb
  have hle := bor_le x y b
  cases h1 : x.testBit 31 <;> cases h2 : y.testBit 31 <;> cases h3 : (dif x y b).testBit 31 <;> simp only [h1, h2, h3] at hxb hyb hdb ⊢ <;> simp at hxb hyb hdb ⊢ <;> omega
theorem bor_bits (x y b : Nat) (hx : x < 4294967296) (hy : y < 4294967296) (hb : b ≤ 1) :
    (bits .or .u32 (bits .and .u32 (bits .xor .u32 IntKind.u32.max (x : Int)) (y : Int)) (bits .and .u32 (bits .xor .u32 IntKind.u32.max (bits .xor .u32 (x : Int) (y : Int))) (((x : Int) - y - b) % 4294967296))) / 2147483648 = ((bor x y b : Nat) : Int) := by
  have hm : IntKind.u32.max = ((4294967295 : Nat) : Int) := by decide
  have hd := dif_lt x y b
  have e1 : (4294967295 ^^^ x) < 2 ^ 32 := Nat.xor_lt_two_pow (by decide) hx
  have e2 : (x ^^^ y) < 2 ^ 32 := Nat.xor_lt_two_pow hx hy
  have e3 : (4294967295 ^^^ (x ^^^ y)) < 2 ^ 32 := Nat.xor_lt_two_pow (by decide) e2
  rw [dif_cast x y b hx hy hb, hm, u32_xor_nat _ _ (by decide) hx, u32_xor_nat _ _ hx hy, u32_xor_nat _ _ (by decide) e2, u32_and_nat _ _ e1 hy, u32_and_nat _ _ e3 hd,
    u32_or_nat _ _ (Nat.lt_of_lt_of_le (Nat.and_lt_two_pow _ hy) (Nat.le_refl (2 ^ 32))) (Nat.lt_of_lt_of_le (Nat.and_lt_two_pow _ hd) (Nat.le_refl (2 ^ 32)))]
  rw [← bor_nat x y b hx hy hb]
  rfl
theorem ret_pair {k k' : IntKind} {a b c d : Int} (h : a = b) (h' : c = d) : Ending.returned (.tuple #[.int k a, .int k' c]) = .returned (.tuple #[.int k b, .int k' d]) := by rw [h, h']

set_option maxHeartbeats 400000 in
theorem sub32 (x y b : Nat) (w : World) (hx : x < 4294967296) (hy : y < 4294967296) (hb : b ≤ 1) :
    Calls Tryz.prog 329 #[.int .u32 x, .int .u32 y, .int .u32 b] w fun e w' => e = .returned (.tuple #[.int .u32 (dif x y b), .int .u32 (bor x y b)]) ∧ w = w' := by
  go_enter Tryz.func329, Tryz.ntmps329
  go_wp2
  go_ret2
  exact ⟨ret_pair (dif_cast x y b hx hy hb) (bor_bits x y b hx hy hb), rfl⟩
set_option maxHeartbeats 400000 in
theorem add32 (x y b : Nat) (w : World) (hx : x < 4294967296) (hy : y < 4294967296) (hb : b ≤ 1) :
    Calls Tryz.prog 373 #[.int .u32 x, .int .u32 y, .int .u32 b] w fun e w' => e = .returned (.tuple #[.int .u32 (((x + y + b) % 4294967296 : Nat) : Int), .int .u32 (((x + y + b) / 4294967296 : Nat) : Int)]) ∧ w = w' := by
  go_enter Tryz.func373, Tryz.ntmps373
  go_wp2
  go_ret2
  exact ⟨ret_pair (by omega) (by omega), rfl⟩
/-- Sub32, Add32 with the second number as it stands at the call. -/
theorem sub32' (x : Nat) (Y : Int) (y b : Nat) (w : World) (hY : Hid (Y = (y : Int))) (hx : x < 4294967296) (hy : y < 4294967296) (hb : b ≤ 1) :
    Calls Tryz.prog 329 #[.int .u32 x, .int .u32 Y, .int .u32 b] w fun e w' => e = .returned (.tuple #[.int .u32 (dif x y b), .int .u32 (bor x y b)]) ∧ w = w' := by
  have e := hY.out; subst e
  exact sub32 x y b w hx hy hb
/-- 1 if a is less than b. -/
def ltn (a b : Nat) : Nat := if a < b then 1 else 0
end Go.Proofs.YtohbelnfjomcdaaGreatDoor

namespace Go.Proofs.YtohbelnfjomcdaaGreatDoor
open Go.RowKit

set_option maxHeartbeats 1000000 in
theorem natural_l (v : Nat) (w : World) (hv : v < 18446744073709551616) :
    Calls Tryz.prog 290 #[.int .u64 v] w (RetOwn w (limbs v)) := by
  go_enter Tryz.func290, Tryz.ntmps290
  have hlim : Lim [v % 4294967296, v / 4294967296] := Lim.cons (Nat.mod_lt _ (by decide)) (Lim.cons (by omega) Lim.nil)
  have hrow : Row (w.alloc (.cells #[.int .u32 ((v : Int) % 4294967296), .int .u32 ((v : Int) / 4294967296)] 99)) w.heap.size [v % 4294967296, v / 4294967296] := heap_alloc_new w _
  have HV : Hid (val [v % 4294967296, v / 4294967296] = v) := by show _ = _; simp only [val]; omega
  go_wp2_with (go_at_call 225; refine (trimmed_any _ 2 2 _ _ (hrow.num (n := 2) (c := 2) hlim rfl (by omega)) (by omega)).mono ?_; rintro e w' ⟨rfl, rfl⟩)
  go_ret
  exact hrow.ret (Nat.le_refl _) hlim ((Below.refl _ _).alloc (Nat.le_refl _) _) (by simp) HV.out

set_option maxHeartbeats 1000000 in
theorem low_l (A : Option Addr) (n c : Nat) (l : List Nat) (w : World) (hx : Num w l A n c) (hn : n ≤ 536870912) :
    Calls Tryz.prog 246 #[.slice A n c] w fun e w' => e = .returned (.int .u64 ((l.getD 0 0 + 4294967296 * l.getD 1 0 : Nat) : Int)) ∧ w = w' := by
  obtain ⟨x, hx'⟩ : ∃ x, l.getD 0 0 = x := ⟨_, rfl⟩
  obtain ⟨y, hy'⟩ : ∃ y, l.getD 1 0 = y := ⟨_, rfl⟩
  have hx4 : x < 4294967296 := by rw [← hx']; exact hx.lim.getD _
  have hy4 : y < 4294967296 := by rw [← hy']; exact hx.lim.getD _
  rw [hx', hy']
  have HX := Lib.hid hx'; have HY := Lib.hid hy'; clear hx' hy'
  go_enter Tryz.func246, Tryz.ntmps246
  go_wp2_with fail
  refine (limb_v _ _ _ 1 l _ y hx (by omega) (by omega) HY).mono ?_; rintro e w' ⟨rfl, rfl⟩
  go_wp2_with fail
  refine (limb_v _ _ _ 0 l _ x hx (by omega) (by omega) HX).mono ?_; rintro e w' ⟨rfl, rfl⟩
  go_wp2_with fail
  go_ret
  refine ⟨ret_int ?_, rfl⟩
  rw [show (y : Int) * 4294967296 = ((y * 4294967296 : Nat) : Int) from by omega, u64_or_nat _ _ (by omega) (by omega), nat_join 32 (y * 4294967296) x (by omega) (by omega)]
  omega
/-- low: the value of a number of at most two limbs. -/
theorem low_any (A : Option Addr) (n c a : Nat) (w : World) (hx : Num w (limbs a) A n c) (hn : n ≤ 2) :
    Calls Tryz.prog 246 #[.slice A n c] w fun e w' => e = .returned (.int .u64 (a : Int)) ∧ w = w' := by
  have h := low_l A n c _ w hx (by omega)
  have e : (limbs a).getD 0 0 + 4294967296 * (limbs a).getD 1 0 = a := by
    have hl := hx.len
    conv => rhs; rw [← val_limbs a]
    match h2 : limbs a, hl with
    | [], _ => rfl
    | [x], _ => simp [val]
    | [x, y], _ => simp [val]
    | x :: y :: z :: t, hl => simp at hl; omega
  rwa [e] at h

set_option maxHeartbeats 1000000 in
set_option maxRecDepth 20000 in
theorem clone_l (A : Option Addr) (n c : Nat) (l : List Nat) (w : World) (hx : Num w l A n c) (hn : n ≤ 536870912) :
    Calls Tryz.prog 178 #[.slice A n c] w (RetOwn w l) := by
  have hq := Lib.run_eql_slice_nil (P := Tryz.prog) w 25 99 A n c 0 0 Tryz.underlying25
  cases A with
  | none =>
    have h0 : n = 0 := by
      rcases Nat.eq_zero_or_pos n with h | h
      · exact h
      · obtain ⟨_, _, h, _⟩ := hx.cells h; cases h
    have hl : l = [] := List.eq_nil_of_length_eq_zero (by rw [← hx.len]; exact h0)
    subst hl
    subst h0
    go_enter Tryz.func178, Tryz.ntmps178
    go_wp2
    go_ret
    exact ⟨none, 0, 0, rfl, Own.nil _ _ _ _, Below.refl _ _⟩
  | some a =>
    have hb0 : Below w.heap.size w (w.alloc (.cells #[] 99)) := (Below.refl _ _).alloc (Nat.le_refl _) _
    go_enter Tryz.func178, Tryz.ntmps178
    go_wp2_with (at_builtin; refine wpList_app rfl (.tmp 5) (.tmp 6) rfl rfl w.heap.size _ [] l rfl (OwnR.new0 w (Nat.le_refl _)) (some a) n c rfl (hx.below hb0) ?c1 hb0.size ?_)
    case c1 => simp; omega
    intro v' w' hown hgr _
    go_wp2
    go_ret
    obtain ⟨A', c', rfl, ho⟩ := hown.own hx.lim
    exact ⟨A', _, c', rfl, ho, hb0.grown hgr hb0.size (fun k hk => by cases hk; exact Nat.le_refl _)⟩

set_option maxHeartbeats 1000000 in
theorem left_l (A : Option Addr) (n c p : Nat) (l : List Nat) (w : World) (hx : Num w l A n c) (hn : n ≤ 536870912) (hp : p ≤ 536870912) :
    Calls Tryz.prog 292 #[.slice A n c, .int .i64 p] w (RetOwn w (limbs (val l * 2 ^ p))) := by
  obtain ⟨q, hq⟩ : ∃ q, p / 32 = q := ⟨_, rfl⟩
  obtain ⟨s, hs⟩ : ∃ s, p % 32 = s := ⟨_, rfl⟩
  have hs32 : s < 32 := by omega
  have HP : Hid (p = 32 * q + s) := by show p = 32 * q + s; omega
  have hq' : (p : Int) / 32 = q := by omega
  have hs' : (p : Int).tmod 32 = s := by rw [Int.tmod_eq_emod_of_nonneg (by omega)]; omega
  have hq2 : q ≤ 16777216 := by omega
  clear hq hs
  have hmk := mk_run (q + n + 1) ((q : Int) + (n : Int) + 1) (by omega) (by omega)
  go_enter Tryz.func292, Tryz.ntmps292
  go_wp2_with fail
  go_loopw [23] (fun si wr => ∃ (k : Nat) (L : List Nat), k ≤ n ∧ si = .int .i64 k ∧ Row wr w.heap.size L ∧ Below w.heap.size w wr ∧ Hid (L.length = q + n + 1 ∧ Lim L ∧ val L = val (l.take k) * 2 ^ s * P q ∧ L.getD (q + k) 0 < 2 ^ s ∧ ∀ j, q + k < j → L.getD j 0 = 0))
    (fun si _ => n - (intOf si).toNat)
  case atStart => exact ⟨0, List.replicate (q + n + 1) 0, Nat.zero_le _, rfl, Row.new _ _, (Below.refl _ _).alloc (Nat.le_refl _) _, show Hid _ from ⟨by simp, Lim.zeros _, by simp [val_zeros, val], by rw [getD_zeros]; exact Nat.pow_pos (by decide), fun j _ => getD_zeros _ _⟩⟩
  case round =>
    obtain ⟨k, L, hk, rfl, hrow, hbel, HI⟩ := hrel
    clear hmk
    by_cases hkn : k < n
    · have hxw := hx.below hbel
      obtain ⟨b, o, x, rfl, _, hx', hx4, hcx⟩ := hxw.at_ hkn
      have HX := Lib.hid hx'; clear hx'
      obtain ⟨d, hd⟩ : ∃ d, L.getD (q + k) 0 = d := ⟨_, rfl⟩
      obtain ⟨d2, hd2⟩ : ∃ d, L.getD (q + k + 1) 0 = d := ⟨_, rfl⟩
      have hcs := hrow.cell (k := q + k) (by have := HI.out.1; omega)
      have hcs2 := hrow.cell (k := q + k + 1) (by have := HI.out.1; omega)
      have hfs := hrow.frozen (q + k)
      have hfs2 := hrow.frozen (q + k + 1)
      rw [hd] at hcs; rw [hd2] at hcs2
      have HD := Lib.hid hd; clear hd hd2
      obtain ⟨t, ht⟩ : ∃ t, 2 ^ s = t := ⟨_, rfl⟩
      have ht0 : 0 < t := by rw [← ht]; exact Nat.pow_pos (by decide)
      have ht1 : t ≤ 2147483648 := by rw [← ht, show (2147483648 : Nat) = 2 ^ 31 from rfl]; exact Nat.pow_le_pow_right (by decide) (by omega)
      have hti : (2 : Int) ^ s = (t : Int) := by rw [← ht]; exact (Int.natCast_pow 2 s).symm
      have HS := Lib.hid ht; have HT := Lib.hid hti; clear ht hti
      have hxt : x * t ≤ 4294967295 * 2147483648 := Nat.mul_le_mul (by omega) ht1
      have HXT := Lib.hid hxt; clear hxt
      go_wp2_with fail
      go_roundw
      case rel =>
        have hxt := HXT.out
        have hw : IntKind.u64.wrap ((x : Int) * 2 ^ s) = ((x * t : Nat) : Int) := by
          rw [HT.out, ← Int.natCast_mul, IntKind.wrap_u64]; omega
        have hI := HI.out
        have hd4 : d < 2 ^ s := by rw [← HD.out]; exact hI.2.2.2.1
        obtain ⟨hlow, hsum, hhi⟩ := shl_parts (d := d) hx4 (by omega) HS.out (by rw [← HS.out]; exact hd4)
        have hor : bits .or .u32 (d : Int) ((x * t % 4294967296 : Nat) : Int) = ((x * t % 4294967296 + d : Nat) : Int) := by
          have h1 : d < 4294967296 := by have := HS.out; omega
          rw [u32_or_nat _ _ h1 (Nat.mod_lt _ (by decide)), Nat.or_comm, nat_join s _ _ (by rw [HS.out]; exact hlow) hd4]
        refine ⟨k + 1, (L.set (q + k) (x * t % 4294967296 + d)).set (q + k + 1) (x * t / 4294967296), by omega, congrArg (Value.int _) (by omega), (hrow.setI (q + k) (x * t % 4294967296 + d) ?_).setI (q + k + 1) (x * t / 4294967296) ?_, (hbel.setCell (Nat.le_refl _) _).setCell (Nat.le_refl _) _, ?_⟩
        · rw [hw, ← hor]; congr 1
        · rw [hw]; omega
        show Hid _
        refine ⟨by simpa using hI.1, (hI.2.1.set _ hsum).set _ (by omega), ?_, ?_, fun j hj => ?_⟩
        · have h4 := val_set (M := L) (x * t % 4294967296 + d) (show q + k < L.length by omega)
          have h5 := val_set (M := L.set (q + k) (x * t % 4294967296 + d)) (x * t / 4294967296) (show q + k + 1 < _ by rw [List.length_set]; omega)
          rw [getD_set_ne _ (by omega), hI.2.2.2.2 (q + k + 1) (by omega), Nat.mul_zero, Nat.add_zero] at h5
          rw [HD.out] at h4
          rw [h5, val_take_succ' l k, HX.out, HS.out]
          have h6 : val (L.set (q + k) (x * t % 4294967296 + d)) = val L + P (q + k) * (x * t % 4294967296) := by rw [Nat.mul_add] at h4; omega
          rw [h6, hI.2.2.1, HS.out, P_succ, Nat.mul_assoc (P (q + k)), Nat.add_assoc, ← Nat.mul_add, Nat.mod_add_div, P_add]
          grind
        · rw [show q + (k + 1) = q + k + 1 from by omega, getD_set_eq _ (by rw [List.length_set]; omega), HS.out]; exact hhi
        · rw [getD_set_ne _ (by omega), getD_set_ne _ (by omega)]; exact hI.2.2.2.2 j (by omega)
      case measure => simp [intOf]; omega
    · obtain rfl : k = n := by omega
      have hlim2 : Lim L := HI.out.2.1
      have HL : Hid (L.length = q + k + 1) := HI.out.1
      have HV : Hid (val L = val l * 2 ^ p) := by
        show val L = val l * 2 ^ p
        have h := HI.out.2.2.1
        rw [List.take_of_length_le (l := l) (by have := hx.len; omega)] at h
        rw [h, HP.out, Nat.pow_add, Nat.pow_mul, show P q = (2 ^ 32) ^ q from rfl]
        grind
      go_wp2_with (go_at_call 225; refine (trimmed_any _ _ _ L _ (hrow.num hlim2 HL.out.symm (Nat.le_refl _)) (by omega)).mono ?_; rintro e w' ⟨rfl, rfl⟩)
      go_ret
      exact hrow.ret (Nat.le_refl _) hlim2 hbel (by have := HL.out; omega) HV.out

/-- left: a number times a power of 2, in new memory. -/
theorem left_any (A : Option Addr) (n c p a : Nat) (w : World) (hx : Num w (limbs a) A n c) (hn : n ≤ 536870912) (hp : p ≤ 536870912) :
    Calls Tryz.prog 292 #[.slice A n c, .int .i64 p] w (RetOwn w (limbs (a * 2 ^ p))) := by
  have h := left_l A n c p _ w hx hn hp
  rwa [val_limbs] at h
end Go.Proofs.YtohbelnfjomcdaaGreatDoor

namespace Go.Proofs.YtohbelnfjomcdaaGreatDoor
open Go.RowKit

/-- A row of limbs that is the call's own and may grow, handed back; memory below B is as it was. -/
def RetR (w0 : World) (B : Nat) (l : List Nat) (e : Ending) (w' : World) : Prop := ∃ v', e = .returned v' ∧ OwnR w' B v' l ∧ Below B w0 w'

theorem OwnR.mid {w : World} {B g n c : Nat} {l : List Nat} (h : OwnR w B (.slice (some ⟨g, 0, none⟩) n c) l) : n = l.length ∧ B ≤ g ∧ n ≤ c ∧ c ≤ maxLen ∧ ∃ post, Mid w g [] l post ∧ l.length + post.length = c := by
  rcases h.2 with ⟨h0, _⟩ | ⟨g', cap, cur, hv, hB, hh, hnc, hcm, hsz, hcur⟩
  · cases h0
  · injection hv with h1 h2 h3
    injection h1 with h1
    injection h1 with h1
    subst h1 h2 h3
    refine ⟨rfl, hB, hnc, hcm, cur.toList.drop (l.length * 1), ?_, ?_⟩
    · unfold Mid
      rw [hh, List.nil_append, ← hcur, List.take_append_drop, Array.toArray_toList]
    · have h1 : cur.toList.length = c := by rw [Array.length_toList, hsz, Nat.mul_one]
      rw [List.length_drop, h1]; show l.length + (c - l.length * 1) = c; omega
theorem Mid.ownR {w : World} {B g c : Nat} {l : List Nat} {post : List Value} (h : Mid w g [] l post) (hB : B ≤ g) (hc : l.length + post.length = c) (hm : c ≤ maxLen) {n : Nat} (hn : n = l.length) : OwnR w B (.slice (some ⟨g, 0, none⟩) n c) l := by
  subst hn
  refine ⟨by rw [u32s_length]; omega, .inr ⟨g, c, _, rfl, hB, h, by omega, hm, ?_, ?_⟩⟩
  · simp [u32s_length]; omega
  · rw [List.nil_append, show l.length * 1 = (u32s l).length from by rw [u32s_length]; omega]
    simp
theorem OwnR.shape {w : World} {B : Nat} {v : Value} {l : List Nat} (h : OwnR w B v l) : ∃ A c, v = .slice A l.length c ∧ (l ≠ [] → ∃ g, A = some ⟨g, 0, none⟩) := by
  rcases h.2 with ⟨rfl, hn⟩ | ⟨g, cap, cur, rfl, _⟩
  · exact ⟨none, 0, by rw [hn], fun hl => absurd (List.eq_nil_of_length_eq_zero hn) hl⟩
  · exact ⟨_, cap, rfl, fun _ => ⟨g, rfl⟩⟩

theorem Mid.cell0 {w : World} {g : Nat} {l : List Nat} {post : List Value} (h : Mid w g [] l post) {k : Nat} (hk : k < l.length) : w.cell? ⟨g, k, none⟩ = some (.int .u32 ((l.getD k 0 : Nat) : Int)) := by
  have := h.cell hk
  simpa using this
theorem Mid.set00 {w : World} {g : Nat} {l : List Nat} {post : List Value} (h : Mid w g [] l post) {k : Nat} (hk : k < l.length) (x : Nat) {e : Int} (he : e = (x : Int)) : Mid (w.setCell ⟨g, k, none⟩ (.int .u32 e)) g [] (l.set k x) post := by
  have := h.set' hk x he (o := 0) rfl
  simpa using this
theorem chunk_end {X u : Nat} {L : List Nat} {k cr : Nat} (hk : k = (limbs X).length) (h : L.length = k ∧ Lim L ∧ val (L.take k) + P k * cr = val ((limbs X).take k) * 1000000000 + u) (hX : X ≠ 0) (hcr : cr < 4294967296) :
    limbs (X * 1000000000 + u) = if cr = 0 then L else L ++ [cr] := by
  obtain ⟨h1, h2, h3⟩ := h
  rw [List.take_of_length_le (by omega), List.take_of_length_le (by omega), val_limbs] at h3
  rw [← h3]
  split
  · next h0 =>
    rw [h0, Nat.mul_zero, Nat.add_zero]
    refine limbs_canon h2 fun e => ?_
    rcases List.eq_nil_or_concat L with rfl | ⟨r, x, rfl⟩
    · simp at e
    · simp only [List.concat_eq_append] at *
      simp at e
      subst e
      have hr : val r < P r.length := val_lt h2.left
      rw [h0, Nat.mul_zero, Nat.add_zero, val_snoc, Nat.mul_zero, Nat.add_zero] at h3
      have hk1 : k = r.length + 1 := by rw [← h1]; simp
      have hle := limbs_length_le (n := X) (k := r.length) (by omega)
      omega
  · next h0 =>
    rw [← h1, ← val_snoc]
    exact limbs_snoc h2 hcr h0

set_option maxRecDepth 20000 in
set_option maxHeartbeats 1000000 in
theorem appendChunk_any (B X u : Nat) (v : Value) (w : World) (hown : OwnR w B v (limbs X)) (hB : B ≤ w.heap.size) (hu : u < 4294967296) (hn : (limbs X).length ≤ 1000000) :
    Calls Tryz.prog 253 #[v, .int .u64 (u : Int)] w (RetR w B (limbs (X * 1000000000 + u))) := by
  obtain ⟨A, c, rfl, hA⟩ := hown.shape
  by_cases h0 : X = 0
  · subst h0
    rw [limbs_zero] at *
    clear hA
    have hul : Lim [u] := Lim.cons hu Lim.nil
    go_enter Tryz.func253, Tryz.ntmps253
    go_wp2_with fail
    go_loopw [5, 11] (fun sc si wr => sc = .int .u64 (u : Int) ∧ si = .int .i64 0 ∧ wr = w) (fun _ _ _ => 0)
    case atStart => exact ⟨rfl, rfl, rfl⟩
    case round =>
      obtain ⟨rfl, rfl, rfl⟩ := hrel
      by_cases hu0 : u = 0
      · subst hu0
        go_wp2_with fail
        go_ret
        exact ⟨_, rfl, by rw [Nat.zero_mul, Nat.zero_add, limbs_zero]; exact hown, Below.refl _ _⟩
      · have hd : decide ((0 : Int) < (u : Int)) = true := by simp; omega
        have hnum : Num (wr.alloc (.cells #[.int .u32 (u : Int)] 99)) [u] (some ⟨wr.heap.size, 0, none⟩) 1 1 := (show Row _ _ [u] from heap_alloc_new wr _).num hul rfl (Nat.le_refl _)
        have hbA : Below B wr (wr.alloc (.cells #[.int .u32 (u : Int)] 99)) := (Below.refl _ _).alloc hB _
        go_wp2_with (at_builtin; refine wpList_app rfl (.tmp 31) (.tmp 34) rfl rfl B _ [] [u] rfl (World.ownsRow.alloc hown _) _ 1 1 rfl hnum ?c1 ?c2 ?_)
        case c1 => simp
        case c2 => simp; omega
        intro v' w' hown2 hgr _
        go_wp2
        go_ret
        refine ⟨v', rfl, ?_, hbA.grown hgr (by simp; omega) (fun k hk => (World.ownsRow.lt hown k hk).1)⟩
        have e : limbs (0 * 1000000000 + u) = [] ++ [u] := by
          rw [Nat.zero_mul, Nat.zero_add, limbs_pos hu0, Nat.mod_eq_of_lt hu, Nat.div_eq_of_lt hu, limbs_zero]; rfl
        rw [e]; exact hown2
  · obtain ⟨g, rfl⟩ := hA (fun h => h0 (limbs_nil.1 h))
    obtain ⟨-, hBg, hnc, hcm, post, hmid, hpl⟩ := hown.mid
    have hll := lim_limbs X
    have hlen : (limbs X).length = (limbs X).length := rfl
    generalize hl : limbs X = l at *
    obtain ⟨n, hn'⟩ : ∃ n, l.length = n := ⟨_, rfl⟩
    rw [hn'] at hn hnc hpl
    rw [hn'] at hown ⊢
    have HL := Lib.hid hl
    have HN := Lib.hid hn'
    have HX := Lib.hid h0
    clear hl hn' h0 hA hlen hown
    go_enter Tryz.func253, Tryz.ntmps253
    go_wp2_with fail
    go_loopw [5, 11] (fun sc si wr => ∃ (k cr : Nat) (L : List Nat), k ≤ n ∧ cr < 4294967296 ∧ sc = .int .u64 (cr : Int) ∧ si = .int .i64 (k : Int) ∧ Mid wr g [] L post ∧ Below B w wr ∧
      Hid (L.length = n ∧ Lim L ∧ (∀ j, k ≤ j → L.getD j 0 = l.getD j 0) ∧ val (L.take k) + P k * cr = val (l.take k) * 1000000000 + u)) (fun _ si _ => n - (intOf si).toNat)
    case atStart => exact ⟨0, u, l, Nat.zero_le _, hu, rfl, rfl, hmid, Below.refl _ _, show Hid _ from ⟨HN.out, hll, fun j _ => rfl, by simp [val, P_zero]⟩⟩
    case round =>
      obtain ⟨k, cr, L, hk, hcr, rfl, rfl, hm, hb, HI⟩ := hrel
      by_cases hkn : k < n
      · obtain ⟨x, hx⟩ : ∃ x, L.getD k 0 = x := ⟨_, rfl⟩
        have hx4 : x < 4294967296 := by rw [← hx]; exact HI.out.2.1.getD _
        have hkL : k < L.length := by rw [HI.out.1]; exact hkn
        have hcs := hm.cell0 hkL
        have hfs := hm.frozen k
        rw [hx] at hcs
        have HXX := Lib.hid hx; clear hx
        obtain ⟨p, hp⟩ : ∃ p, x * 1000000000 = p := ⟨_, rfl⟩
        obtain ⟨t, ht⟩ : ∃ t, cr + p = t := ⟨_, rfl⟩
        have hw1 : IntKind.u64.wrap ((x : Int) * 1000000000) = (p : Int) := by rw [IntKind.wrap_u64]; omega
        have hw2 : IntKind.u64.wrap ((cr : Int) + (p : Int)) = (t : Int) := by rw [IntKind.wrap_u64]; omega
        have htl : t < 18446744073709551616 := by omega
        have HP := Lib.hid hp
        have HT := Lib.hid ht
        clear hp ht
        go_wp2_with fail
        go_roundw
        case rel =>
          refine ⟨k + 1, t / 4294967296, L.set k (t % 4294967296), by omega, by omega, congrArg (Value.int _) (by omega), congrArg (Value.int _) (by omega), hm.set00 hkL _ (by omega), hb.setCell hBg _, ?_⟩
          show Hid _
          have hI := HI.out
          have h := put_step (k := k) (by rw [← hI.1]; exact hkL) ⟨hI.1, hI.2.1, hI.2.2.2⟩ p HT.out.symm
          refine ⟨h.1, h.2.1, fun j hj => ?_, ?_⟩
          · rw [getD_set_ne _ (by omega)]; exact hI.2.2.1 j (by omega)
          · rw [h.2.2, val_take_succ', ← hI.2.2.1 k (Nat.le_refl _), HXX.out, ← HP.out]
            grind
        case measure => simp [intOf]; omega
      · obtain rfl : k = n := by omega
        have hE : Hid (limbs (X * 1000000000 + u) = if cr = 0 then L else L ++ [cr]) := by
          have h := HI.out
          refine chunk_end (k := k) (by rw [HL.out, HN.out]) ⟨h.1, h.2.1, by rw [HL.out]; exact h.2.2.2⟩ HX.out hcr
        have hkL : k = L.length := HI.out.1.symm
        have hownL : OwnR wr B (.slice (some ⟨g, 0, none⟩) k c) L := hm.ownR hBg (by rw [← hkL]; exact hpl) hcm hkL
        have hsz : B ≤ wr.heap.size := by have := hm.lt; omega
        clear hkL
        by_cases hc0 : cr = 0
        · subst hc0
          rw [if_pos rfl] at hE
          go_wp2_with fail
          go_ret
          exact ⟨_, rfl, by rw [hE.out]; exact hownL, hb⟩
        · have hd : decide ((0 : Int) < (cr : Int)) = true := by simp; omega
          rw [if_neg hc0] at hE
          have hul : Lim [cr] := Lim.cons hcr Lim.nil
          have hnum : Num (wr.alloc (.cells #[.int .u32 (cr : Int)] 99)) [cr] (some ⟨wr.heap.size, 0, none⟩) 1 1 := (show Row _ _ [cr] from heap_alloc_new wr _).num hul rfl (Nat.le_refl _)
          have hbA : Below B w (wr.alloc (.cells #[.int .u32 (cr : Int)] 99)) := hb.alloc hsz _
          have hlenL : L.length ≤ 1000000 := by have := HI.out.1; omega
          go_wp2_with (at_builtin; refine wpList_app rfl (.tmp 31) (.tmp 34) rfl rfl B _ L [cr] rfl (World.ownsRow.alloc hownL _) _ 1 1 rfl hnum ?c1 ?c2 ?_)
          case c1 => simp; omega
          case c2 => simp; omega
          intro v' w' hown2 hgr _
          go_wp2
          go_ret
          exact ⟨v', rfl, by rw [hE.out]; exact hown2, hbA.grown hgr (by simp; omega) (fun k hk => (World.ownsRow.lt hownL k hk).1)⟩
end Go.Proofs.YtohbelnfjomcdaaGreatDoor
