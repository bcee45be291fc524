/- Rows of the call's own that grow: append at names and at symbols; slices.Clone; a new row of names. -/
import Derived.Test.YtdlmhgijpgnilaaGreatDoorQ05
import Derived.Maps.AppendAt
set_option linter.unusedVariables false
set_option linter.unusedSimpArgs false
namespace Go.Proofs.YtdlmhgijpgnilaaGreatDoor
open Go.RowKit

theorem run_appV (w : World) (t e : TypeId) (z : Value) (bytes : Nat) (hu : Tryz.prog.underlying t = some (.slice e)) (hinfo : (Tryz.prog.info? e).map (fun i => (i.zero, i.size, i.bytes)) = some (some z, 1, bytes)) (hz1 : z.cells.size = 1) (hby : bytes ≤ 16)
    (B : Nat) (v : Value) (xs : List Value) (hown : w.ownsRow B e 1 v xs.length xs) (A : Option Addr) (m c : Nat) (ys : List Value) (hr : Rd w ys A m c) (h1 : ∀ u ∈ ys, u.oneCell' = true) (hsum : xs.length + m ≤ 1099511627776) (hB : B ≤ w.heap.size) :
    ∃ v' w', (Builtin.append_ #[t, t] t #[v, .slice A m c]).run Tryz.prog w = .ok v' w' ∧ w'.ownsRow B e 1 v' (xs ++ ys).length (xs ++ ys) ∧ w.grownBy w' v.ownBlock ∧ (v'.ownBlock = v.ownBlock ∨ v'.ownBlock = some w.heap.size) := by
  obtain ⟨i, hi, hz⟩ := Option.map_eq_some_iff.1 hinfo
  simp only [Prod.mk.injEq] at hz
  obtain ⟨hz, hs, hb⟩ := hz
  rcases Nat.eq_zero_or_pos m with h0 | h0
  · subst h0
    have hys : ys = [] := List.eq_nil_of_length_eq_zero hr.len.symm
    subst hys
    refine ⟨v, w, ?_, by simpa using hown, World.grownBy.refl w _, .inl rfl⟩
    rcases hown.2 with ⟨rfl, _⟩ | ⟨g, cap, cur, rfl, _, _, hnc, _⟩
    · cases A <;> simp [Builtin.append_, run_underlying hu, sizeOf, typeInfo, hi, Builtin.lenOf, Builtin.firstCells, hs, loadCells, loadCellsFrom, storeCells]
    · cases A <;> simp [Builtin.append_, run_underlying hu, sizeOf, typeInfo, hi, Builtin.lenOf, Builtin.firstCells, hs, hnc, loadCells, loadCellsFrom, storeCells]
  · obtain ⟨b, o, rfl, hb', hc⟩ := hr.cells h0
    have hl : ys.length = m * 1 := by rw [hr.len]; omega
    have hbytes : (xs.length + m) * bytes ≤ 140737488355328 := by
      have := Nat.mul_le_mul hsum hby
      omega
    obtain ⟨v', w', h2, h3, h4, _, h5⟩ := run_append_own_at (P := Tryz.prog) w B t t e i z 1 bytes hu hi hz hs hb hz1 (by omega) v xs.length xs hown ⟨b, o, none⟩ m c ys hl
      (fun j u hju => by
        have := hc j u hju
        have e : (⟨b, o, none⟩ : Addr).add j = ⟨b, o + j, none⟩ := by unfold Addr.add; split <;> simp_all
        rw [e]; exact this) h1 (by unfold maxLen; omega) hbytes hB
    refine ⟨v', w', h2, ?_, h4, h5⟩
    rw [List.length_append, ← hr.len]
    exact h3
theorem wpList_appV {w : World} {ops : Array Oper} {rest : List Oper} {o : Oper} {a : Act} {Q : Exit → Act → World → Prop} (hgd : o.guard = none) (s x : Operand) (t e : TypeId)
    (ho : o.op = .call { callee := .builtin .append, args := #[s, x], argTypes := #[t, t] }) (hty : o.type = t) (z : Value) (bytes : Nat) (hu : Tryz.prog.underlying t = some (.slice e)) (hinfo : (Tryz.prog.info? e).map (fun i => (i.zero, i.size, i.bytes)) = some (some z, 1, bytes)) (hz1 : z.cells.size = 1) (hby : bytes ≤ 16)
    (B : Nat) (v : Value) (xs : List Value) (hs : a.eval s = v) (hown : w.ownsRow B e 1 v xs.length xs) (A : Option Addr) (m c : Nat) (ys : List Value) (hx : a.eval x = .slice A m c) (hr : Rd w ys A m c) (h1 : ∀ u ∈ ys, u.oneCell' = true) (hsum : xs.length + m ≤ 1099511627776) (hB : B ≤ w.heap.size)
    (h : ∀ v' w', w'.ownsRow B e 1 v' (xs ++ ys).length (xs ++ ys) → w.grownBy w' v.ownBlock → (v'.ownBlock = v.ownBlock ∨ v'.ownBlock = some w.heap.size) → wpList Tryz.prog ops Q rest (a.put o.dst v') w') : wpList Tryz.prog ops Q (o :: rest) a w := by
  refine wpList_plain hgd fun K hK => ?_
  obtain ⟨v', w', hrun, h2, h3, h4⟩ := run_appV w t e z bytes hu hinfo hz1 hby B v xs hown A m c ys hr h1 hsum hB
  unfold Oper.wp
  simp [execOp, ho, hty, resolve, invoke, builtin, hs, hx, hrun, Result.andThen]
  exact hK _ _ (h v' w' h2 h3 h4)
theorem info_string : (Tryz.prog.info? 9).map (fun i => (i.zero, i.size, i.bytes)) = some (some (.string ⟨#[]⟩), 1, 16) := by kernel_rfl
theorem info_int : (Tryz.prog.info? 3).map (fun i => (i.zero, i.size, i.bytes)) = some (some (.int .i64 0), 1, 8) := by kernel_rfl
theorem strings_one (l : List ByteArray) : ∀ u ∈ l.map Value.string, u.oneCell' = true := by
  intro u hu
  obtain ⟨x, _, rfl⟩ := List.mem_map.1 hu
  rfl
theorem syms_one (l : List Nat) : ∀ u ∈ syms l, u.oneCell' = true := by
  intro u hu
  obtain ⟨x, _, rfl⟩ := List.mem_map.1 hu
  rfl
/-- The call's own row of names; of symbols. -/
def OwnN (w : World) (B : Nat) (v : Value) (l : List ByteArray) : Prop := w.ownsRow B 9 1 v (l.map Value.string).length (l.map Value.string)
def OwnS (w : World) (B : Nat) (v : Value) (l : List Nat) : Prop := w.ownsRow B 3 1 v (syms l).length (syms l)
theorem own_heap {w w' : World} {B n : Nat} {e : TypeId} {v : Value} {xs : List Value} (h : w.ownsRow B e 1 v n xs) (hk : ∀ g, v.ownBlock = some g → g < w.heap.size → w'.heap[g]? = w.heap[g]?) : w'.ownsRow B e 1 v n xs := by
  refine ⟨h.1, ?_⟩
  rcases h.2 with h1 | ⟨g, cap, cur, rfl, h2, h3, h4⟩
  · exact .inl h1
  · exact .inr ⟨g, cap, cur, rfl, h2, (hk g rfl (Array.getElem?_eq_some_iff.1 h3).1).trans h3, h4⟩
theorem own_below {w w' : World} {B n : Nat} {e : TypeId} {v : Value} {xs : List Value} (h : w.ownsRow B e 1 v n xs) (hb : Below w.heap.size w w') : w'.ownsRow B e 1 v n xs := own_heap h fun g _ hg => hb.block g hg
theorem own_alloc {w : World} {B n : Nat} {e : TypeId} {v : Value} {xs : List Value} (h : w.ownsRow B e 1 v n xs) (o : Obj) : (w.alloc o).ownsRow B e 1 v n xs := own_below h ((Below.refl _ _).alloc (Nat.le_refl _) _)
theorem own_grown {w w' : World} {B n : Nat} {e : TypeId} {v v0 : Value} {xs : List Value} (h : w.ownsRow B e 1 v n xs) (hg : w.grownBy w' v0.ownBlock) (hne : ∀ g, v.ownBlock = some g → v0.ownBlock ≠ some g) : w'.ownsRow B e 1 v n xs :=
  own_heap h fun g hv hlt => hg.block g hlt fun he => hne g hv he.symm
/-- A row of the call's own is at no old block. -/
theorem own_new {w : World} {B n : Nat} {e : TypeId} {v : Value} {xs : List Value} (h : w.ownsRow B e 1 v n xs) : ∀ g, v.ownBlock = some g → B ≤ g ∧ g < w.heap.size ∧ ∃ cur, w.heap[g]? = some (.cells cur e (0, 0)) := by
  intro g hg
  rcases h.2 with ⟨rfl, _⟩ | ⟨g', cap, cur, rfl, h2, h3, _⟩
  · simp [Value.ownBlock] at hg
  · have : g' = g := by simpa [Value.ownBlock] using hg
    subst this
    exact ⟨h2, (Array.getElem?_eq_some_iff.1 h3).1, cur, h3⟩
theorem own_apart {w : World} {B B' n n' : Nat} {e e' : TypeId} {v v' : Value} {xs xs' : List Value} (h : w.ownsRow B e 1 v n xs) (h' : w.ownsRow B' e' 1 v' n' xs') (hne : e ≠ e') : ∀ g, v.ownBlock = some g → v'.ownBlock ≠ some g := by
  intro g hg hg'
  obtain ⟨_, _, cur, h1⟩ := own_new h g hg
  obtain ⟨_, _, cur', h2⟩ := own_new h' g hg'
  rw [h1] at h2
  injection h2 with h2
  injection h2 with _ h2
  exact hne h2
theorem below_grown {w0 w w' : World} {B : Nat} {v : Value} {n : Nat} {e : TypeId} {xs : List Value} (h : Below B w0 w) (hown : w.ownsRow B e 1 v n xs) (hg : w.grownBy w' v.ownBlock) (hB : B ≤ w.heap.size) : Below B w0 w' :=
  ⟨hg.os.trans h.os, hg.tape.trans h.tape, hg.output.trans h.output, Nat.le_trans h.size hg.size, fun i hi => (hg.block i (by omega) (fun he => by have := (own_new hown i he.symm).1; omega)).trans (h.block i hi)⟩
theorem OwnN.reads {w : World} {B : Nat} {v : Value} {l : List ByteArray} (h : OwnN w B v l) : ∃ A c, v = .slice A l.length c ∧ Names w l A l.length c := by
  obtain ⟨A, c, hv, hr⟩ := Rd.of_own h
  rw [List.length_map] at hv hr
  exact ⟨A, c, hv, hr⟩
theorem OwnS.reads {w : World} {B : Nat} {v : Value} {l : List Nat} (h : OwnS w B v l) : ∃ A c, v = .slice A l.length c ∧ Syms w l A l.length c := by
  obtain ⟨A, c, hv, hr⟩ := Rd.of_own h
  rw [syms_length] at hv hr
  exact ⟨A, c, hv, hr⟩
theorem OwnN.of_append {w : World} {B : Nat} {v : Value} {l r : List ByteArray} (h : w.ownsRow B 9 1 v (l.map Value.string ++ r.map Value.string).length (l.map Value.string ++ r.map Value.string)) : OwnN w B v (l ++ r) := by
  unfold OwnN
  rw [List.map_append]; exact h
theorem OwnS.of_snoc {w : World} {B : Nat} {v : Value} {l : List Nat} {x : Nat} (h : w.ownsRow B 3 1 v (syms l ++ [Value.int .i64 (x : Int)]).length (syms l ++ [Value.int .i64 (x : Int)])) : OwnS w B v (l ++ [x]) := by
  unfold OwnS
  rw [syms_snoc]; exact h
theorem OwnN.of_len {w : World} {B : Nat} {v : Value} {l : List ByteArray} (h : w.ownsRow B 9 1 v l.length (l.map Value.string)) : OwnN w B v l := by
  unfold OwnN
  rw [List.length_map]; exact h
theorem OwnN.nil (w : World) (B : Nat) : OwnN w B (.slice none 0 0) [] := World.ownsRow_nil ..
theorem OwnS.nil (w : World) (B : Nat) : OwnS w B (.slice none 0 0) [] := World.ownsRow_nil ..
/-- A block of one new cell. -/
theorem Rd.one (w : World) (x : Value) (t : TypeId) : Rd (w.alloc (.cells #[x] t)) [x] (some ⟨w.heap.size, 0, none⟩) 1 1 :=
  ⟨rfl, Nat.le_refl _, fun _ => ⟨w.heap.size, 0, rfl, by simp, fun k y hy => by
    have h := cell_of_row (w.alloc (.cells #[x] t)) w.heap.size (0 + k) #[x] t (0, 0) (heap_alloc_new w _)
    rw [h, Nat.zero_add]
    simpa using hy⟩⟩
theorem Rd.lits (w : World) (xs : List Value) (t : TypeId) {n : Nat} (hn : n = xs.length) : Rd (w.alloc (.cells xs.toArray t)) xs (some ⟨w.heap.size, 0, none⟩) n n :=
  ⟨hn, Nat.le_refl _, fun _ => ⟨w.heap.size, 0, rfl, by simp, fun k y hy => by
    have h := cell_of_row (w.alloc (.cells xs.toArray t)) w.heap.size (0 + k) xs.toArray t (0, 0) (heap_alloc_new w _)
    rw [h, Nat.zero_add]
    simpa using hy⟩⟩

/-- What a function hands back that makes a new row of names. -/
def RetN (w0 : World) (l : List ByteArray) (e : Ending) (w' : World) : Prop := ∃ v, e = .returned v ∧ OwnN w' w0.heap.size v l ∧ Below w0.heap.size w0 w'
end Go.Proofs.YtdlmhgijpgnilaaGreatDoor

namespace Go.Proofs.YtdlmhgijpgnilaaGreatDoor
open Go.RowKit

theorem names_eq {l r : List ByteArray} (hl : l.length = r.length) (h : ∀ j, j < l.length → l.getD j ByteArray.empty = r.getD j ByteArray.empty) : l = r := by
  apply List.ext_getElem hl
  intro j h1 h2
  have := h j h1
  rw [List.getD_eq_getElem?_getD, List.getD_eq_getElem?_getD, List.getElem?_eq_getElem h1, List.getElem?_eq_getElem h2] at this
  exact this
theorem nats_eq {l r : List Nat} (hl : l.length = r.length) (h : ∀ j, j < l.length → l.getD j 0 = r.getD j 0) : l = r := by
  apply List.ext_getElem hl
  intro j h1 h2
  have := h j h1
  rw [List.getD_eq_getElem?_getD, List.getD_eq_getElem?_getD, List.getElem?_eq_getElem h1, List.getElem?_eq_getElem h2] at this
  exact this
/-- A number modulo the length of a table. -/
def RetMod (w0 : World) (n : Nat) (e : Ending) (w' : World) : Prop := ∃ r : Nat, r < n ∧ e = .returned (.int .i64 (r : Int)) ∧ w0 = w'
theorem retMod {w : World} {n : Nat} {x : Int} (h0 : 0 ≤ x) (h1 : x < n) : RetMod w n (.returned (.int .i64 x)) w := ⟨x.toNat, by omega, y_int (by omega), rfl⟩
set_option maxHeartbeats 1000000 in
theorem Mod_in (k : Int) (n : Nat) (w : World) (hk1 : -9223372036854775808 ≤ k) (hk2 : k ≤ 9223372036854775807) (h0 : 0 < n) (hn : n ≤ 1073741824) :
    Calls Tryz.prog 20 #[.int .i64 k, .int .i64 (n : Int)] w (RetMod w n) := by
  have hz : ((n : Int) == 0) = false := by simp; omega
  have hn1 : (1 : Int) ≤ (n : Int) := by omega
  rcases Int.lt_or_le k 0 with h | h
  · obtain ⟨y, hy⟩ : ∃ y, k.tmod n = y := ⟨_, rfl⟩
    have b1 : -(n : Int) < y ∧ y ≤ 0 := by
      rw [← hy]
      have h1 := Int.lt_tmod_of_pos k (b := (n : Int)) (by omega)
      have h2 : (-k).tmod n = -(k.tmod n) := Int.neg_tmod ..
      have h3 := Int.tmod_nonneg (a := -k) (n : Int) (by omega)
      omega
    obtain ⟨b2, b3⟩ := b1
    by_cases hy0 : y < 0
    · go_enter Tryz.func20, Tryz.ntmps20
      go_wp2_with fail
      go_ret
      exact retMod (by omega) (by omega)
    · go_enter Tryz.func20, Tryz.ntmps20
      go_wp2_with fail
      go_ret
      exact retMod (by omega) (by omega)
  · have b1 : 0 ≤ k % n := Int.emod_nonneg _ (by omega)
    have b2 : k % n < n := Int.emod_lt_of_pos _ (by omega)
    go_enter Tryz.func20, Tryz.ntmps20
    go_wp2_with fail
    go_ret
    exact retMod (by omega) (by omega)
/-- Strings answers something, and says yes to lists of at most 40 names alone. -/
def RetS (w0 : World) (n : Nat) (e : Ending) (w' : World) : Prop := ∃ V : Bool, e = .returned (.bool V) ∧ (V = true → n ≤ 40) ∧ w0 = w'
set_option maxHeartbeats 1000000 in
theorem Strings_any (A : Option Addr) (n c : Nat) (l : List ByteArray) (w : World) (h : Names w l A n c) :
    Calls Tryz.prog 15 #[.slice A n c] w (RetS w n) := by
  by_cases h1 : 40 < n
  · have h2 : (40 : Int) < (n : Int) := by omega
    go_enter Tryz.func15, Tryz.ntmps15
    go_wp2_with fail
    go_ret
    exact ⟨false, rfl, fun h => absurd h (by decide), rfl⟩
  · have h2 : ¬ (40 : Int) < (n : Int) := by omega
    have HL := Lib.hid h
    clear h
    go_enter Tryz.func15, Tryz.ntmps15
    go_wp2_with fail
    go_loop [3] (fun i => ∃ k : Nat, k ≤ n ∧ i = .int .i64 k) (fun i => n - (intOf i).toNat)
    case atStart => exact ⟨0, Nat.zero_le _, rfl⟩
    case round =>
      obtain ⟨k, hk, rfl⟩ := hrel
      rcases Nat.lt_or_ge k n with hkn | hkn
      · obtain ⟨b, o, rfl, _, hc⟩ := HL.out.at_ hkn
        obtain ⟨s, hs⟩ : ∃ s, l.getD k ByteArray.empty = s := ⟨_, rfl⟩
        rw [hs] at hc
        clear hs
        by_cases h3 : 40 < s.size
        · have h4 : (40 : Int) < (s.size : Int) := by omega
          go_wp2_with fail
          go_ret
          exact ⟨false, rfl, fun h => absurd h (by decide), rfl⟩
        · have h4 : ¬ (40 : Int) < (s.size : Int) := by omega
          go_wp2_with fail
          go_round
          case rel => exact ⟨k + 1, by omega, by go_num⟩
          case measure => simp [intOf]; omega
      · go_wp2_with fail
        go_ret
        exact ⟨true, rfl, fun _ => by omega, rfl⟩
theorem fndT_no {l : List ByteArray} (x : ByteArray) (h : tab l = false) : fndT l x = 0 := by unfold fndT; rw [h]; rfl
theorem fndT_yes {l : List ByteArray} (x : ByteArray) (h : tab l = true) : fndT l x = fnd l x := by unfold fndT; rw [h]; rfl
set_option maxHeartbeats 1000000 in
theorem r_Find_any (A : Option Addr) (n c : Nat) (l : List ByteArray) (x : ByteArray) (w : World) (h : Names w l A n c) (hn : n ≤ 1073741824) (m : Nat) (H : Hid (fndT l x = m)) :
    Calls Tryz.prog 53 #[.slice A n c, .string x] w (RetD w (.int .i64 (m : Int))) := by
  obtain ⟨V, hV⟩ : ∃ b, tab l = b := ⟨_, rfl⟩
  have HV := Lib.hid hV
  have HL := Lib.hid h
  clear hV h
  go_enter Tryz.func53, Tryz.ntmps53
  go_wp2_with fail
  refine (r_Valid_any _ _ _ _ _ HL.out V HV).mono ?_
  rintro e w' ⟨rfl, q, rfl⟩
  cases V
  · have hm := H.out
    rw [fndT_no x HV.out] at hm
    subst hm
    go_wp2_with fail
    go_ret
    exact ⟨rfl, q, rfl⟩
  · have HM : Hid (fnd l x = m) := Lib.hid ((fndT_yes x HV.out).symm.trans H.out)
    go_wp2_with (go_at_call 65; refine (find_any _ _ _ _ x _ (HL.out.drewN q) hn m HM).mono ?_; rintro e w' ⟨rfl, rfl⟩)
    go_ret
    exact ⟨rfl, q, rfl⟩
end Go.Proofs.YtdlmhgijpgnilaaGreatDoor
