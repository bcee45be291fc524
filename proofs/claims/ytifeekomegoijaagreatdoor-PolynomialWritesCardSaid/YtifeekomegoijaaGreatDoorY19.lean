import Derived.Test.YtifeekomegoijaaGreatDoorY08
import Derived.Test.YtifeekomegoijaaGreatDoorY17
import Derived.Test.YtifeekomegoijaaGreatDoorY18
set_option linter.unusedVariables false
set_option linter.unusedSimpArgs false
set_option maxRecDepth 20000
set_option maxHeartbeats 1000000
namespace Go.Proofs.YtifeekomegoijaaGreatDoor
open Go.RowKit
theorem var_keep {P : Program} {w w' : World} {n : String} {cs : Array Value} (h : w.var? P n = some cs) (hk : ∀ b, b < w.heap.size -> w'.heap[b]? = w.heap[b]?) : w'.var? P n = some cs := by
 unfold World.var? at *
 cases hg : P.globalNamed n with
 | none => rw [hg] at h; exact h
 | some g =>
   rw [hg] at h
   simp only [Option.bind_some] at *
   cases ho : w.heap[g]? with
   | none => rw [ho] at h; cases h
   | some o =>
     rw [hk g (heap_lt ho), ho]
     rw [ho] at h
     exact h
structure Txt (w : World) : Prop where
 tab : Tab w
 pow : Lib.TabIs Tryz.prog w "internal/strconv.uint64pow10" .u64 Lib.pow10Tab
 syn : ∃ tp p, w.var? Tryz.prog "strconv.ErrSyntax" = some #[.iface tp p]
 max : ∃ m, w.cell? ⟨0, 0, none⟩ = some (.int .i64 m)
theorem Txt.keep {w w' : World} (h : Txt w) (hk : ∀ b, b < w.heap.size -> w'.heap[b]? = w.heap[b]?) : Txt w' := by
 obtain ⟨tp, p, hs⟩ := h.syn
 obtain ⟨m, hm⟩ := h.max
 exact ⟨h.tab.keep hk, var_keep h.pow hk, ⟨tp, p, var_keep hs hk⟩, ⟨m, (World.cell?_of_block (w := w) (hk _ (block_lt_of_cell hm))).trans hm⟩⟩
theorem Txt.below {w w' : World} (h : Txt w) (hb : Below w.heap.size w w') : Txt w' := h.keep hb.block
structure TxF (w : World) : Prop where
 tab : Tab w
 pow : Lib.TabIs Tryz.prog w "internal/strconv.uint64pow10" .u64 Lib.pow10Tab
theorem Txt.f {w : World} (h : Txt w) : TxF w := ⟨h.tab, h.pow⟩
theorem TxF.keep {w w' : World} (h : TxF w) (hk : ∀ b, b < w.heap.size -> w'.heap[b]? = w.heap[b]?) : TxF w' := ⟨h.tab.keep hk, var_keep h.pow hk⟩
theorem TxF.below {w w' : World} (h : TxF w) (hb : Below w.heap.size w w') : TxF w' := h.keep hb.block
theorem OwnR.below {w w' : World} {B : Nat} {v : Value} {l : List Nat} (h : OwnR w B v l) (hb : Below w.heap.size w w') : OwnR w' B v l := by
 refine ⟨h.1, ?_⟩
 rcases h.2 with h1 | ⟨g, cap, cur, h1, h2, h3, h4⟩
 ·exact .inl h1
 ·exact .inr ⟨g, cap, cur, h1, h2, (hb.block g (heap_lt h3)).trans h3, h4⟩
theorem bytes_take (t : ByteArray) (k : Nat) : (t.extract 0 k).data.toList = t.data.toList.take k := by
 obtain ⟨⟨l⟩⟩ := t
 rw [ByteArray.extract_mk]
 simp
theorem bytes_drop (t : ByteArray) (k n : Nat) (h : t.size <= n) : (t.extract k n).data.toList = t.data.toList.drop k := by
 obtain ⟨⟨l⟩⟩ := t
 rw [ByteArray.extract_mk]
 have : l.length <= n := h
 simp
 rw [List.take_of_length_le]
 simp; omega
def szOf : Value -> Nat
 | .string t => t.size
 | _ => 0
def RetDec (w0 : World) (r : Option Nat) (e : Ending) (w' : World) : Prop :=
 match r with
 | some a => ∃ A n c, e = .returned (.tuple #[.slice A n c, .bool true]) /\ Own w' w0.heap.size (limbs a) A n c /\ Below w0.heap.size w0 w'
 | none => e = .returned (.tuple #[.slice none 0 0, .bool false]) /\ Below w0.heap.size w0 w'
theorem decimal_any (s : ByteArray) (w : World) (hT : Txt w) (r : Option Nat) (hr : readDec s.data.toList = r) :
 Calls Tryz.prog 173 #[.string s] w (RetDec w r) := by
 have hsl : s.data.toList.length = s.size := by rw [Array.length_toList]; rfl
 have HR := Lib.hid hr
 clear hr
 have hfst : ∀ h : 0 < s.size, s.data.toList.getD 0 0 = s[0]'h := fun h => by
  rw [List.getD_eq_getElem?_getD, List.getElem?_eq_getElem (by rw [hsl]; exact h)]
  rfl
 by_cases hA : s.size = 0
 ·have hr0 : r = none := by rw [<- HR.out]; unfold readDec; rw [hsl, if_pos (.inl hA)]
  have e0 : ((s.size : Int) == 0) = true := beq_iff_eq.2 (by omega)
  subst hr0
  clear hfst hsl hA
  go_enter Tryz.func173, Tryz.ntmps173
  go_wp2_with fail
  go_ret2
  exact ⟨rfl, Below.refl _ _⟩
 have e0 : ((s.size : Int) == 0) = false := by
  rw [beq_eq_false_iff_ne]; omega
 by_cases hB : 2000 < s.size
 ·have hr0 : r = none := by rw [<- HR.out]; unfold readDec; rw [hsl, if_pos (.inr (.inl hB))]
  have e1 : decide ((2000 : Int) < (s.size : Int)) = true := decide_eq_true (by omega)
  subst hr0
  clear hfst hsl hA hB
  go_enter Tryz.func173, Tryz.ntmps173
  go_wp2_with fail
  go_ret2
  exact ⟨rfl, Below.refl _ _⟩
 have e1 : decide ((2000 : Int) < (s.size : Int)) = false := decide_eq_false (by omega)
 have hpos : 0 < s.size := by omega
 by_cases hC : 1 < s.size /\ s[0].toNat = 48
 ·have hr0 : r = none := by
   rw [<- HR.out]; unfold readDec
   rw [hsl, hfst hpos, if_pos (.inr (.inr ⟨hC.1, UInt8.toNat_inj.1 hC.2⟩))]
  have e2 : decide ((1 : Int) < (s.size : Int)) = true := decide_eq_true (by omega)
  have e3 : ((s[0].toNat : Int) == 48) = true := by
   rw [beq_iff_eq]; have := hC.2; omega
  subst hr0
  clear hfst hsl hA hB hC
  go_enter Tryz.func173, Tryz.ntmps173
  go_wp2_with fail
  go_ret2
  exact ⟨rfl, Below.refl _ _⟩
 have hr1 : decVal 0 s.data.toList = r := by
  rw [<- HR.out]; unfold readDec
  rw [hsl, hfst hpos, if_neg]
  rintro (h | h | ⟨h, h'⟩)
  ·exact hA h
  ·exact hB h
  ·exact hC ⟨h, by rw [h']; rfl⟩
 have HR1 := Lib.hid hr1
 clear hr1 HR
 obtain ⟨k0, hk0⟩ : ∃ k0, (s.size - 1) % 9 + 1 = k0 := ⟨_, rfl⟩
 have hw1 : IntKind.i64.wrap ((s.size : Int) - 1) = ((s.size - 1 : Nat) : Int) := by rw [IntWalk.i64_in _ (by omega)]; omega
 have hcase : (s.size = 1) \/ (1 < s.size /\ s[0].toNat ≠ 48) := by
  rcases Nat.lt_or_ge 1 s.size with h | h
  ·exact .inr ⟨h, fun h' => hC ⟨h, h'⟩⟩
  ·exact .inl (by omega)
 have hK : Hid (1 <= k0 /\ k0 <= 9 /\ k0 <= s.size /\ (s.size - k0) % 9 = 0 /\ s.size <= 2000) := by
  show _ /\ _
  omega
 have HK0 := Lib.hid hk0
 clear hC hfst hA hB hk0
 refine Or.elim hcase (fun hc => ?ca) (fun hc => ?cb)
 all_goals clear hcase
 case' ca =>
  have e2 : decide ((1 : Int) < (s.size : Int)) = false := decide_eq_false (by omega)
  clear hc
  go_enter Tryz.func173, Tryz.ntmps173
  go_wp2_with fail
 case' cb =>
  have e2 : decide ((1 : Int) < (s.size : Int)) = true := decide_eq_true (by omega)
  have e3 : ((s[0].toNat : Int) == 48) = false := by
   rw [beq_eq_false_iff_ne]; have := hc.2; omega
  clear hc
  go_enter Tryz.func173, Tryz.ntmps173
  go_wp2_with fail
 all_goals
  go_loopw [0, 2, 4] (fun s0 s2 s4 wr => ∃ (t : ByteArray) (v : Value) (X k : Nat), s0 = .string t /\ s2 = v /\ s4 = .int .i64 (k : Int) /\ OwnR wr w.heap.size v (limbs X) /\ Below w.heap.size w wr /\
   Hid (decVal 0 s.data.toList = decVal X t.data.toList /\ X < 10 ^ (s.size - t.size) /\ (X = 0 \/ k = 9) /\ t.size <= s.size /\ s.size <= 2000 /\ (0 < t.size -> 1 <= k /\ k <= 9 /\ k <= t.size /\ (t.size - k) % 9 = 0))) (fun s0 _ _ _ => szOf s0)
  case atStart =>
   refine ⟨s, _, 0, k0, rfl, rfl, congrArg (Value.int _) (by have := HK0.out; omega), by rw [limbs_zero]; exact OwnR.nil _ _, Below.refl _ _, ?_⟩
   show Hid _
   have := hK.out
   exact ⟨rfl, by rw [Nat.sub_self]; decide, .inl rfl, Nat.le_refl _, this.2.2.2.2, fun _ => ⟨this.1, this.2.1, this.2.2.1, this.2.2.2.1⟩⟩
  case round =>
   obtain ⟨t, v, X, k, rfl, rfl, rfl, hv, hb, HI⟩ := hrel
   by_cases ht : 0 < t.size
   ·have hdt : decide ((0 : Int) < (t.size : Int)) = true := decide_eq_true (by omega)
    obtain ⟨i1, i2, i3, i4, i5, i6⟩ := HI.out
    obtain ⟨i7, i8, i9, i10⟩ := i6 ht
    have hkt : (k : Int) <= (t.size : Int) := by omega
    have hk0' : (0 : Int) <= (k : Int) := by omega
    have hts : (t.size : Int) <= 2000 := by omega
    have htl : t.data.toList.length = t.size := by rw [Array.length_toList]; rfl
    have hne : t.data.toList.take k ≠ [] := fun h => by
     have := congrArg List.length h
     rw [List.length_take, htl, List.length_nil] at this
     omega
    have hcl : (t.data.toList.take k).length <= 9 := by rw [List.length_take]; omega
    have hex : (t.extract 0 k).data.toList = t.data.toList.take k := bytes_take t k
    have hsz : (t.extract 0 k).size <= 9 := by
     have : (t.extract 0 k).data.toList.length = (t.extract 0 k).size := by rw [Array.length_toList]; rfl
     rw [<- this, hex]; exact hcl
    have hXl : (limbs X).length <= 2000 := limbs_length_le (Nat.lt_of_lt_of_le i2 (pow_ten_P (by omega)))
    clear i1 i2 i3 i4 i5 i6 i7 i8 i9 i10 e1 e0
    rcases parse32 hne hcl with ⟨u, hp, hd, hu⟩ | ⟨hp, hd⟩
    ·rw [<- hex] at hp
     have HP := Lib.hid hp
     have HDV := Lib.hid hd
     clear hp hd hne hcl hex
     go_wp2_with fail
     refine (Lx.Tryz.strconv_ParseUint_10_at32_ok (t.extract 0 k) (by omega) u HP.out _).mono ?_
     rintro e w2 ⟨rfl, hw2⟩
     have hb2 : Below wr.heap.size wr w2 := by
      rcases hw2 with rfl | rfl
      ·exact Below.refl _ _
      ·exact Lib.bytesWorld_below _ _ _
     clear hw2
     go_wp2_with fail
     have hb12 := hb.trans (hb2.mono hb.size)
     refine (appendChunk_any w.heap.size X u _ _ (hv.below hb2) hb12.size hu (by omega)).mono ?_
     rintro e w3 ⟨v3, rfl, hv3, hb3⟩
     have hb13 := hb12.trans hb3
     go_wp2_with fail
     go_roundw
     case rel =>
      obtain ⟨i1, i2, i3, i4, i5, i6⟩ := HI.out
      obtain ⟨i7, i8, i9, i10⟩ := i6 ht
      have hdl : (t.extract k t.size).data.toList = t.data.toList.drop k := bytes_drop t k t.size (Nat.le_refl _)
      have hds : (t.extract k t.size).size = t.size - k := by
       have : (t.extract k t.size).data.toList.length = (t.extract k t.size).size := by rw [Array.length_toList]; rfl
       rw [<- this, hdl, List.length_drop, htl]
      have hst := dec_step (l := s.data.toList) (t := t.data.toList) i1 (by rw [hsl, htl]; exact i2) i3 (by omega) (by omega) HDV.out
      refine ⟨t.extract k t.size, _, X * 1000000000 + u, 9, rfl, rfl, rfl, hv3, hb13, ?_⟩
      show Hid _
      rw [hdl, hds]
      rw [List.length_drop, hsl, htl] at hst
      exact ⟨hst.1, hst.2, .inr rfl, by omega, i5, fun h => by omega⟩
     case measure =>
      have hds : (t.extract k t.size).size = t.size - k := by
       have : (t.extract k t.size).data.toList.length = (t.extract k t.size).size := by rw [Array.length_toList]; rfl
       rw [<- this, bytes_drop t k t.size (Nat.le_refl _), List.length_drop, htl]
      have := HI.out.2.2.2.2.2 ht
      simp only [szOf]
      omega
    ·rw [<- hex] at hp
     have HP := Lib.hid hp
     have HDV := Lib.hid hd
     clear hp hd hne hcl hex
     obtain ⟨tp, p, hsyn⟩ := (hT.below hb).syn
     go_wp2_with fail
     refine (Any.strconv_ParseUint_10_at32_syntax_var Lx.Tryz.laysPu14 (t.extract 0 k) (by omega) HP.out tp p _ hsyn).mono ?_
     rintro e w2 ⟨N, rfl, _, _, hb2⟩
     have hr0 : r = none := by rw [<- HR1.out]; exact dec_none HI.out.1 HDV.out
     subst hr0
     clear hsyn
     go_wp2_with fail
     go_ret2
     exact ⟨rfl, hb.trans (hb2.mono hb.size)⟩
   ·have ht0 : t.size = 0 := by omega
    have hdt : decide ((0 : Int) < (t.size : Int)) = false := decide_eq_false (by omega)
    have hr0 : r = some X := by
     rw [<- HR1.out, HI.out.1]
     have : t.data.toList = [] := List.eq_nil_of_length_eq_zero (by rw [Array.length_toList]; exact ht0)
     rw [this]; rfl
    subst hr0
    obtain ⟨A, c, rfl, ho⟩ := hv.own (lim_limbs X)
    clear ht
    go_wp2_with fail
    go_ret2
    exact ⟨_, _, _, rfl, ho, hb⟩
end Go.Proofs.YtifeekomegoijaaGreatDoor
