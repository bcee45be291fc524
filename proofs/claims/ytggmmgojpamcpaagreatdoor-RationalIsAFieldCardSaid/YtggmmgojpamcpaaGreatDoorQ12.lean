/- Sizes of sums, products, quotients. -/
import Derived.Test.YtggmmgojpamcpaaGreatDoorQ11
import Derived.Deep.RegionHeld
import Derived.Test.YtggmmgojpamcpaaGreatDoorRows
import Derived.Lib.LaidTab
import Derived.LaidSub
import Derived.LaidLaws
import Derived.MakeChecks
import Derived.Shelf.Vars
import Derived.HandedShaped
import Derived.Handed
import Derived.Lib.SmallJoins
import Derived.ChangeSlices
import Derived.Carry
import Derived.ProofKit
import Derived.LaidMore
import Derived.ChangeSame
import Derived.Stop.Joined
namespace Go.Proofs.YtggmmgojpamcpaaGreatDoor
open Go.RowKit

theorem mk_le (n : Int) {d : Nat} (hd : d ≠ 0) : (mkRat n d).num.natAbs ≤ n.natAbs ∧ (mkRat n d).den ≤ d := by
  rw [Rat.num_mkRat, Rat.den_mkRat, if_neg hd, if_neg hd]
  refine ⟨?_, Nat.div_le_self _ _⟩
  exact Int.natAbs_ediv_le_natAbs _ _
theorem len_sum {a b p q : Nat} (h1 : (limbs a).length ≤ p) (h2 : (limbs b).length ≤ q) : (limbs (a + b)).length ≤ max p q + 1 := Nat.le_trans (length_plus a b) (by omega)
theorem len_prod {a b p q : Nat} (h1 : (limbs a).length ≤ p) (h2 : (limbs b).length ≤ q) : (limbs (a * b)).length ≤ p + q := Nat.le_trans (length_mul a b) (by omega)
theorem sz_le {n : Int} {d L : Nat} (hd : d ≠ 0) (h1 : (limbs n.natAbs).length ≤ L) (h2 : (limbs d).length ≤ L) : Sz (mkRat n d) L :=
  ⟨Nat.le_trans (length_mono (mk_le n hd).1) h1, Nat.le_trans (length_mono (mk_le n hd).2) h2⟩
theorem sz_mul {x y : Rat} {p q L : Nat} (hx : Sz x p) (hy : Sz y q) (hL : p + q ≤ L) : Sz (x * y) L := by
  rw [Rat.mul_def']
  refine sz_le (Nat.mul_ne_zero x.den_nz y.den_nz) ?_ ?_
  · rw [Int.natAbs_mul]; exact Nat.le_trans (len_prod hx.1 hy.1) hL
  · exact Nat.le_trans (len_prod hx.2 hy.2) hL
theorem sz_add {x y : Rat} {p q L : Nat} (hx : Sz x p) (hy : Sz y q) (hL : p + q + 1 ≤ L) : Sz (x + y) L := by
  rw [Rat.add_def']
  refine sz_le (Nat.mul_ne_zero x.den_nz y.den_nz) ?_ ?_
  · refine Nat.le_trans (length_mono (Int.natAbs_add_le _ _)) ?_
    rw [Int.natAbs_mul, Int.natAbs_mul, Int.natAbs_natCast, Int.natAbs_natCast]
    exact Nat.le_trans (len_sum (len_prod hx.1 hy.2) (len_prod hy.1 hx.2)) (by omega)
  · exact Nat.le_trans (len_prod hx.2 hy.2) (by omega)
theorem sz_neg {x : Rat} {p : Nat} (hx : Sz x p) : Sz (-x) p := by
  unfold Sz
  rw [Rat.neg_num, Rat.neg_den, Int.natAbs_neg]
  exact hx
theorem sz_sub {x y : Rat} {p q L : Nat} (hx : Sz x p) (hy : Sz y q) (hL : p + q + 1 ≤ L) : Sz (x - y) L := by
  rw [Rat.sub_eq_add_neg]
  exact sz_add hx (sz_neg hy) hL
theorem sz_zero (L : Nat) (h : 1 ≤ L) : Sz 0 L := ⟨by show (limbs 0).length ≤ L; rw [limbs_zero]; simp, by show (limbs 1).length ≤ L; rw [limbs_one]; exact h⟩
theorem r_Same_true (v v' : Value) (x y : Rat) (w : World) (L : Nat) (h : RatQ w v x) (h' : RatQ w v' y) (sx : Sz x L) (hL : L ≤ 100000000) (e : x = y) :
    Calls Tryz.prog 19 #[v, v'] w (RetV w (.bool true)) := by
  subst e
  have := r_Same v v' x x w h h' (sx.mono hL) (sx.mono hL)
  rwa [decide_eq_true rfl] at this
theorem cell_alc {w : World} {a : Addr} {v : Value} (o : Obj) (h : w.cell? a = some v) : (w.alloc o).cell? a = some v := (World.cell?_alloc_some w a o (by rw [h]; rfl)).trans h
theorem RatQ.drew1 {w : World} {v : Value} {q : Rat} (h : RatQ w v q) : RatQ w.drew v q := by
  obtain ⟨A, n, c, A', m, c', e, h1, h2⟩ := h
  exact ⟨A, n, c, A', m, c', e, h1.drew, h2.drew⟩
/-- A light and valid number. -/
theorem fair_rat {w : World} {v : Value} {neg : Bool} {ln ld : List Nat} (h : Fld w v neg ln ld) (hv : lgt ln ld = true ∧ vld neg ln ld = true) : ∃ q, RatQ w v q ∧ Sz q 6 := by
  obtain ⟨A, n, c, A', m, c', rfl, h1, h2⟩ := h.out
  have hl := hv.1
  unfold lgt at hl
  simp only [Bool.and_eq_true, decide_eq_true_eq] at hl
  have hq := ratq_of hv.2 h1 h2
  refine ⟨_, hq, ?_⟩
  obtain ⟨e1, e2, e3, e4, e5⟩ := vld_true h1.lim h2.lim hv.2
  have hf : fq neg ln ld = qv neg (val ln) (dv ld) := by unfold fq; rw [if_pos hv.2]
  rw [hf]
  refine sz_qv e3 e4 (by rw [← e1]; exact hl.1) ?_
  by_cases h1 : dv ld = 1
  · rw [h1, limbs_one]; decide
  · rw [← dl_ne h1, ← e2]; exact hl.2
theorem frr_at {x y z : Bool × List Nat × List Nat} (h : frr x y z = true) : (lgt x.2.1 x.2.2 = true ∧ vld x.1 x.2.1 x.2.2 = true) ∧ (lgt y.2.1 y.2.2 = true ∧ vld y.1 y.2.1 y.2.2 = true) ∧ (lgt z.2.1 z.2.2 = true ∧ vld z.1 z.2.1 z.2.2 = true) := by
  unfold frr at h
  simp only [Bool.and_eq_true] at h
  obtain ⟨⟨⟨⟨⟨a, b⟩, c⟩, d⟩, e⟩, f⟩ := h
  exact ⟨⟨a, d⟩, ⟨b, e⟩, ⟨c, f⟩⟩
end Go.Proofs.YtggmmgojpamcpaaGreatDoor

namespace Go.Proofs.YtggmmgojpamcpaaGreatDoor
open Go Go.RowKit

def lay5 : List (String × DataW Unit) := Rows.rationalIsAFieldRow.laid
theorem own : ownKnob Tryz.prog.godebug = none := by kernel_rfl
theorem tab_of {W : World} {name : String} {zs : List Int} {k : IntKind} {g : Nat} {t e : TypeId} {n : Nat} (h : laidMetH Tryz.prog lay5 W) (hf : lay5.filter (fun x => x.1 == name) = [(name, Lib.tabData k zs)]) (hnh : ([(name, Lib.tabData (H := Unit) k zs)].all fun x => x.2.handleName?.isNone) = true)
    (hg : Tryz.prog.globalNamed name = some g) (hty : (Tryz.prog.globals[g]?).map (·.type) = some t) (ht : Tryz.prog.underlying t = some (.array n e)) (he : Tryz.prog.underlying e = some (.int k)) (hce : Tryz.prog.cellsOf e = 1) (hct : Tryz.prog.cellsOf t = n) : Lib.TabIs Tryz.prog W name k zs := by
  have h1 := h.filter (fun x => x.1 == name)
  rw [hf, MakeChecks.laidMetH_plain _ _ _ hnh] at h1
  exact Lib.tabIs_of_head hg hty ht he hce hct h1
theorem syn_of {W : World} (h : laidMetH Tryz.prog lay5 W) : ∃ tp p, W.var? Tryz.prog "strconv.ErrSyntax" = some #[.iface tp p] := by
  have h1 := h.filter (fun x => x.1 == "strconv.ErrSyntax")
  have hf : lay5.filter (fun x => x.1 == "strconv.ErrSyntax") = [("strconv.ErrSyntax", Rows.laid_strconv_ErrSyntax)] := by rfl
  rw [hf, MakeChecks.laidMetH_plain _ _ _ (by rfl)] at h1
  obtain ⟨ps, ⟨g0, t0, cs0, f0, p0, q0, hg0, ht0, hv0, hd0, _, _⟩, _⟩ := h1
  have hg : Tryz.prog.globalNamed "strconv.ErrSyntax" = some 4 := by kernel_rfl
  have ht : (Tryz.prog.globals[4]?).map (·.type) = some 89 := by kernel_rfl
  obtain rfl := Option.some.inj (hg.symm.trans hg0)
  obtain rfl := Option.some.inj (ht.symm.trans ht0)
  obtain ⟨f1, u, v, hcs, _, _⟩ := iface_of_trod Tryz.underlying89 hd0
  obtain ⟨l⟩ := cs0
  exact ⟨u, v, by rw [hv0]; congr 2⟩
theorem txt_of {W : World} (h : laidMetH Tryz.prog lay5 W) (hs : W.ShapedOpen Tryz.prog) : Txt W := by
  have t64 : Lib.TabIs Tryz.prog W "math/bits.deBruijn64tab" .u8 (Lib.deBruijn64tab.map fun n : Nat => (n : Int)) := tab_of h (by rfl) (by rfl) (g := 0) (t := 109) (e := 5) (n := 64) (by kernel_rfl) (by kernel_rfl) Tryz.underlying109 Tryz.underlying5 (by kernel_rfl) (by kernel_rfl)
  have t32 : Lib.TabIs Tryz.prog W "math/bits.deBruijn32tab" .u8 (Lib.deBruijn32tab.map fun n : Nat => (n : Int)) := tab_of h (by rfl) (by rfl) (g := 1) (t := 115) (e := 5) (n := 32) (by kernel_rfl) (by kernel_rfl) Tryz.underlying115 Tryz.underlying5 (by kernel_rfl) (by kernel_rfl)
  have p10 : Lib.TabIs Tryz.prog W "internal/strconv.uint64pow10" .u64 Lib.pow10Tab := tab_of h (by rfl) (by rfl) (g := 6) (t := 136) (e := 51) (n := 20) (by kernel_rfl) (by kernel_rfl) Tryz.underlying136 Tryz.underlying51 (by kernel_rfl) (by kernel_rfl)
  refine ⟨⟨fun j hj => ?_, fun j hj => ?_⟩, p10, syn_of h, cell_of_shapedOpen_int hs (zero := #[.int .i64 0]) (t := 3) (by decide) (by kernel_rfl) rfl (by kernel_rfl) (by kernel_rfl) Tryz.underlying3⟩
  · have := t64.cell (g := 0) (by kernel_rfl) j (by simpa using hj)
    rw [this]
    congr 2
    simp [List.getD_eq_getElem?_getD, List.getElem?_map, hj]
  · have := t32.cell (g := 1) (by kernel_rfl) j (by simpa using hj)
    rw [this]
    congr 2
    simp [List.getD_eq_getElem?_getD, List.getElem?_map, hj]
end Go.Proofs.YtggmmgojpamcpaaGreatDoor

namespace Go.Proofs.YtggmmgojpamcpaaGreatDoor
open Go Go.ChangeShapes Go.WideShapes Go.RowKit

section
variable {H : Type} {enc : TypeId × Value → H}
/-- The wrap of a listed row, the world's shape kept. -/
theorem handed_and_shaped {a : Assume} {C : Checked} {os : Os} {f : FuncId} {fn : Func} {s : ChangeSpec} {conds : List PathCond} {apart fresh handsOn again : Bool} {X : World → Array Value → Prop}
    (hX : ∀ (w w' : World) (args : Array Value), w.heap = w'.heap → X w args → X w' args)
    (own : ownKnob C.prog.godebug = none) (started : os.Started) (noInit : C.prog.inits.idxOf? f = none) (hfn : C.prog.funcs[f]? = some fn)
    (witness : ∃ (w : World) (tape : Tape) (i : Input), w.os = os ∧ (w.forCall tape i).Shaped C.prog ∧ i.vars = [] ∧ Input.okWide C.prog (w.forCall tape i) .any w.heap.size f i ∧
      ((s.pre enc C.prog fn conds apart (w.forCall tape i).memory i.args ∧ X (w.forCall tape i).memory i.args) ∧ sizedMet enc C.prog fn (OpenSpec.ofChange s) apart (w.forCall tape i).memory i.args) ∧ a.holds C.prog (lone (Frame.enter C.prog f i.args .normal) [] (w.forCall tape i)))
    (contract : ∀ (W : World) (base : Nat) (args : Array Value) (ds gs : List (DataW H)) (before : List MemPlace),
      (∀ (j : Nat) t v, fn.params[j]? = some t → args[j]? = some v → Value.okWide C.prog W .any base t v) →
      DataW.Whole enc C.prog fn.params.toList s.vars apart W args.toList ds gs before →
      W.ShapedOpen C.prog → X W args →
      Calls C.prog f args W fun e W' => ∃ v, e = .returned v ∧ s.post enc C.prog fn apart fresh handsOn again W args v W') :
    ReturnsInHanded a C os f .any (fun w args => (s.pre enc C.prog fn conds apart w args ∧ X w args) ∧ sizedMet enc C.prog fn (OpenSpec.ofChange s) apart w args) (s.post enc C.prog fn apart fresh handsOn again) := by
  refine returnsInHanded_of_calls own started noInit witness ?_
  intro w tape i _ hsh _ hok hpre hholds
  obtain ⟨_, _, _, fn', hfn', _, _, _, _, hval⟩ := hok
  have e : fn' = fn := Option.some.inj (hfn'.symm.trans hfn)
  subst e
  obtain ⟨⟨⟨ds, gs, before, hw, hc⟩, hx⟩, hz⟩ := hpre
  have hw' := DataW.Whole.of_heap (w' := w.forCall tape i) (by rfl) hw
  refine (contract (w.forCall tape i) w.heap.size i.args ds gs before hval hw' hsh (hX _ _ _ (by rfl) hx)).mono fun e W' ⟨v, he, hp⟩ => ?_
  subst he
  exact ChangeSpec.post_blind hp

theorem num_of {W : World} {n : Nat} {v : Value} {y : DataW H × List MemPlace} (h : DataW.trod enc Tryz.prog W 0 (fun _ => true) true n 22 [v] = some y) : ∃ A m c l, v = .slice A m c ∧ Num W l A m c := by
  rcases open_ints Tryz.underlying22 Tryz.underlying58 (by kernel_rfl) h with ⟨hcs, _⟩ | ⟨a, len, cap, zs, hcs, _, hl, hm, hz, _, hcell, hwz⟩
  · exact ⟨none, 0, 0, [], by simpa using hcs, Num.nil _ _ _⟩
  · simp only [if_true] at hz
    have hb : ∀ z ∈ zs, 0 ≤ z ∧ z < 4294967296 := fun z hzz => by
      have := hwz z hzz
      simp only [Lit.wf, Bool.and_eq_true, decide_eq_true_eq] at this
      have e1 : IntKind.u32.min = 0 := rfl
      have e2 : IntKind.u32.max = 4294967295 := rfl
      omega
    refine ⟨some a, len, cap, (zs.take len).map Int.toNat, by simpa using hcs, by simp; omega, hl, fun x hx => ?_, fun hn => ?_⟩
    · obtain ⟨z, hz1, rfl⟩ := List.mem_map.1 hx
      have := hb z (List.mem_of_mem_take hz1)
      omega
    · obtain ⟨b, off, spot⟩ := a
      have hspot : spot = none := by simpa [Addr.add] using World.cell?_spot (hcell 0 (by omega))
      subst hspot
      have hc0 : ∀ j, j < zs.length → W.cell? ⟨b, off + j, none⟩ = some (.int .u32 (zs.getD j 0)) := fun j hj => by rw [← add_plain]; exact hcell j hj
      refine ⟨b, off, rfl, World.block_lt_of_cell? _ _ (hc0 0 (by omega)), fun k x hk => ?_⟩
      obtain ⟨z, hz1, rfl⟩ := Option.map_eq_some_iff.1 (by rwa [List.getElem?_map] at hk)
      have hkl : k < len := by
        rcases Nat.lt_or_ge k len with h | h
        · exact h
        · rw [List.getElem?_eq_none (by simp; omega)] at hz1; cases hz1
      rw [List.getElem?_take_of_lt hkl] at hz1
      rw [hc0 k (by omega), List.getD_eq_getElem?_getD, hz1]
      have := hb z (List.mem_of_getElem? hz1)
      simp
      omega
set_option maxRecDepth 100000 in
set_option linter.constructorNameAsVariable false in
theorem fld_of {W : World} {base : Nat} {v : Value} {d : DataW H} {p : List MemPlace} (hv : Value.okWide Tryz.prog W .any base 24 v) (h : DataW.Trod enc Tryz.prog W 0 (fun _ => true) true 24 v d p) : ∃ neg ln ld, Fld W v neg ln ld := by
  obtain ⟨v0, v1, v2, y0, y1, y2, n, rfl, _, _, h0, h1, h2⟩ := Joins.open_agg3 Tryz.underlying24 (by kernel_rfl) (by kernel_rfl) hv h
  obtain ⟨b, hb, _⟩ := DataW.trod_bool Tryz.underlying4 h0
  obtain ⟨A, m, c, l, rfl, hA⟩ := num_of h1
  obtain ⟨A', m', c', l', rfl, hA'⟩ := num_of h2
  have hb' : v0 = .bool b := by simpa using hb
  subst hb'
  exact ⟨b, l, l', ⟨A, m, c, A', m', c', rfl, hA, hA'⟩⟩
theorem keep_arg {W W' : World} {t : TypeId} {v : Value} {d : DataW H} {p : List MemPlace} (hr : Tryz.prog.readableRec t = true) (ht : t < Tryz.prog.types.size) (h : DataW.Trod enc Tryz.prog W 0 (fun _ => true) true t v d p) (hb : Below W.heap.size W W') (hlt : ∀ x ∈ p, x.block < W.heap.size) :
    DataW.Trod enc Tryz.prog W' 0 (fun b => decide (b < W.heap.size)) true t v d p := Below.trod (by kernel_rfl) hr ht h hb hlt
end
theorem door_met (os : Os) (args : Array Value) : laidMetH Tryz.prog lay5 ((World.doorLaid Tryz.prog 4000 os).forCall (fun _ _ => 0) ⟨#[], args, []⟩).memory := by
  rw [MakeChecks.laidMetH_plain _ _ _ (by rfl)]
  exact laidMet_of_run' 8 (by kernel_rfl) (by kernel_rfl)
def zRat : Value := .agg #[.bool false, .slice none 0 0, .slice none 0 0]
end Go.Proofs.YtggmmgojpamcpaaGreatDoor
