/- awake; the laws of the specification's calls up to Below. -/
import Derived.Test.YtpgkimehmmelgaaN12
namespace Go.Proofs.Ytpgkimehmmelgaa
open Go.RowKit

theorem Same_b (A A' : Option Addr) (n c m c' : Nat) (l r : List ByteArray) (w : World) (V : Bool) (hx : Names w l A n c) (hy : Names w r A' m c') (hn : n ≤ 1073741824) (hm : m ≤ 1073741824) (H : Hid (decide (l = r) = V)) :
    Calls Try.prog 17 #[.slice A n c, .slice A' m c'] w (RetB w (.bool V)) := (Same_any A A' n c m c' l r w V hx hy hn hm H).mono fun _ _ hh => RetD.b hh
theorem same_b (A A' : Option Addr) (n c m c' : Nat) (l r : List Nat) (w : World) (V : Bool) (hx : Syms w l A n c) (hy : Syms w r A' m c') (hn : n ≤ 1073741824) (hm : m ≤ 1073741824) (H : Hid (decide (l = r) = V)) :
    Calls Try.prog 18 #[.slice A n c, .slice A' m c'] w (RetB w (.bool V)) := (same_any A A' n c m c' l r w V hx hy hn hm H).mono fun _ _ hh => RetD.b hh
theorem r_Find_b (A : Option Addr) (n c : Nat) (l : List ByteArray) (x : ByteArray) (w : World) (h : Names w l A n c) (hn : n ≤ 1073741824) (m : Nat) (H : Hid (fndT l x = m)) :
    Calls Try.prog 12 #[.slice A n c, .string x] w (RetB w (.int .i64 (m : Int))) := (r_Find_any A n c l x w h hn m H).mono fun _ _ hh => RetD.b hh
theorem r_Name_b (A : Option Addr) (n c : Nat) (l : List ByteArray) (s : Int) (w : World) (h : Names w l A n c) (x : ByteArray) (H : Hid (nam l s = x)) (hs1 : -9223372036854775808 ≤ s) (hs2 : s ≤ 9223372036854775807) :
    Calls Try.prog 14 #[.slice A n c, .int .i64 s] w (RetB w (.string x)) := (r_Name_any A n c l s w h x H hs1 hs2).mono fun _ _ hh => RetD.b hh
def nA : ByteArray := ⟨#[97]⟩
def nB : ByteArray := ⟨#[98]⟩
def nC : ByteArray := ⟨#[99]⟩
theorem ans_awake : ans [nA, nB] [nB, nC] = ([nA, nB, nC], [2, 3], 0) := by decide +kernel
theorem alloc_size (w : World) (o : Obj) : (w.alloc o).heap.size = w.heap.size + 1 := by simp
theorem lits2 (w : World) (xs ys : List Value) (t : TypeId) {n m : Nat} (hn : n = xs.length) (hm : m = ys.length) :
    Rd ((w.alloc (.cells xs.toArray t)).alloc (.cells ys.toArray t)) xs (some ⟨w.heap.size, 0, none⟩) n n ∧ Rd ((w.alloc (.cells xs.toArray t)).alloc (.cells ys.toArray t)) ys (some ⟨w.heap.size + 1, 0, none⟩) m m ∧ Below w.heap.size w ((w.alloc (.cells xs.toArray t)).alloc (.cells ys.toArray t)) := by
  have h1 := Rd.lits w xs t hn
  have h2 := Rd.lits (w.alloc (.cells xs.toArray t)) ys t hm
  rw [alloc_size] at h2
  have b1 : Below (w.alloc (.cells xs.toArray t)).heap.size (w.alloc (.cells xs.toArray t)) ((w.alloc (.cells xs.toArray t)).alloc (.cells ys.toArray t)) := (Below.refl _ _).alloc (Nat.le_refl _) _
  have b0 : Below w.heap.size w (w.alloc (.cells xs.toArray t)) := (Below.refl _ _).alloc (Nat.le_refl _) _
  exact ⟨h1.below b1, h2, b0.trans (b1.mono b0.size)⟩
theorem alloc_below (w : World) (o : Obj) : Below w.heap.size w (w.alloc o) := (Below.refl _ _).alloc (Nat.le_refl _) _

set_option maxHeartbeats 2000000 in
theorem awake_b (w : World) : Calls Try.prog 8 #[] w (RetB w (.bool true)) := by
  obtain ⟨h1, h2, hb0⟩ := lits2 w [.string nA, .string nB] [.string nB, .string nC] 9 (n := 2) (m := 2) rfl rfl
  have hM := Merge_any _ _ 2 2 2 2 [nA, nB] [nB, nC] _ h1 h2
  rw [ans_awake] at hM
  have HM := Lib.hid hM
  clear hM h1 h2
  go_enter Try.func8, Try.ntmps8
  go_wp2_with fail
  refine HM.out.mono ?_
  rintro e w1 ⟨A, c, A', c', rfl, hN, hS, hb1⟩
  have hb01 := hb0.trans (hb1.mono hb0.size)
  clear HM hb0 hb1
  have h3 := Rd.lits w1 [.string nA, .string nB, .string nC] 9 (n := 3) rfl
  have hb2 := alloc_below w1 (.cells [Value.string nA, .string nB, .string nC].toArray 9)
  have hN2 := Lib.hid (Names.below hN hb2)
  have hS2 := Lib.hid (Syms.below hS hb2)
  have hb02 := hb01.trans (hb2.mono hb01.size)
  have H3 := Lib.hid h3
  clear hN hS hb2 h3 hb01
  go_wp2_with fail
  refine (Same_b A _ 3 c 3 3 [nA, nB, nC] [nA, nB, nC] _ true hN2.out H3.out (by omega) (by omega) (Lib.hid (by decide))).mono ?_
  rintro e w2 ⟨rfl, hb3⟩
  have hb03 := hb02.trans (hb3.mono hb02.size)
  have hS3 := Syms.below hS2.out hb3
  have h4 := Rd.lits w2 [.int .i64 2, .int .i64 3] 3 (n := 2) rfl
  have hb4 := alloc_below w2 (.cells [Value.int .i64 2, .int .i64 3].toArray 3)
  have hS4 := Lib.hid (Syms.below hS3 hb4)
  have hb04 := hb03.trans (hb4.mono hb03.size)
  have H4 := Lib.hid h4
  clear hb4 h4 hb03 hb02 hb3 hS3 hN2 hS2 H3
  go_wp2_with fail
  refine (same_b A' _ 2 c' 2 2 [2, 3] [2, 3] _ true hS4.out H4.out (by omega) (by omega) (Lib.hid (by decide))).mono ?_
  rintro e w3 ⟨rfl, hb5⟩
  go_wp2_with fail
  go_ret
  exact ⟨rfl, hb04.trans (hb5.mono hb04.size)⟩
end Go.Proofs.Ytpgkimehmmelgaa
