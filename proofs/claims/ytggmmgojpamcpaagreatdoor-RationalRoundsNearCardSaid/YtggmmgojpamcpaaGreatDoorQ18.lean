/- appendChunk. -/
import Derived.Test.YtggmmgojpamcpaaGreatDoorQ06
set_option linter.unusedVariables false
set_option linter.unusedSimpArgs false
namespace Go.Proofs.YtggmmgojpamcpaaGreatDoor
open Go.RowKit

/-- A row of limbs that is the call's own and may grow, handed back; memory below B is as it was. -/
def RetR (w0 : World) (B : Nat) (l : List Nat) (e : Ending) (w' : World) : Prop := ∃ v', e = .returned v' ∧ OwnR w' B v' l ∧ Below B w0 w'

theorem OwnR.mid {w : World} {B g n c : Nat} {l : List Nat} (h : OwnR w B (.slice (some ⟨g, 0, none⟩) n c) l) : n = l.length ∧ B ≤ g ∧ n ≤ c ∧ c ≤ maxLen ∧ ∃ post, Mid w g [] l post ∧ l.length + post.length = c := by
  rcases h.2 with ⟨h0, _⟩ | ⟨g', cap, cur, hv, hB, hh, hnc, hcm, hsz, hcur⟩
  · cases h0
  · injection hv with h1 h2 h3
    injection h1 with h1
    injection h1 with h1
    subst h1 h2 h3
    refine ⟨rfl, hB, hnc, hcm, cur.toList.drop (l.length * 1), ?_, ?_⟩
    · unfold Mid
      rw [hh, List.nil_append, ← hcur, List.take_append_drop, Array.toArray_toList]
    · have h1 : cur.toList.length = c := by rw [Array.length_toList, hsz, Nat.mul_one]
      rw [List.length_drop, h1]; show l.length + (c - l.length * 1) = c; omega
theorem Mid.ownR {w : World} {B g c : Nat} {l : List Nat} {post : List Value} (h : Mid w g [] l post) (hB : B ≤ g) (hc : l.length + post.length = c) (hm : c ≤ maxLen) {n : Nat} (hn : n = l.length) : OwnR w B (.slice (some ⟨g, 0, none⟩) n c) l := by
  subst hn
  refine ⟨by rw [u32s_length]; omega, .inr ⟨g, c, _, rfl, hB, h, by omega, hm, ?_, ?_⟩⟩
  · simp [u32s_length]; omega
  · rw [List.nil_append, show l.length * 1 = (u32s l).length from by rw [u32s_length]; omega]
    simp
theorem OwnR.shape {w : World} {B : Nat} {v : Value} {l : List Nat} (h : OwnR w B v l) : ∃ A c, v = .slice A l.length c ∧ (l ≠ [] → ∃ g, A = some ⟨g, 0, none⟩) := by
  rcases h.2 with ⟨rfl, hn⟩ | ⟨g, cap, cur, rfl, _⟩
  · exact ⟨none, 0, by rw [hn], fun hl => absurd (List.eq_nil_of_length_eq_zero hn) hl⟩
  · exact ⟨_, cap, rfl, fun _ => ⟨g, rfl⟩⟩

theorem Mid.cell0 {w : World} {g : Nat} {l : List Nat} {post : List Value} (h : Mid w g [] l post) {k : Nat} (hk : k < l.length) : w.cell? ⟨g, k, none⟩ = some (.int .u32 ((l.getD k 0 : Nat) : Int)) := by
  have := h.cell hk
  simpa using this
theorem Mid.set00 {w : World} {g : Nat} {l : List Nat} {post : List Value} (h : Mid w g [] l post) {k : Nat} (hk : k < l.length) (x : Nat) {e : Int} (he : e = (x : Int)) : Mid (w.setCell ⟨g, k, none⟩ (.int .u32 e)) g [] (l.set k x) post := by
  have := h.set' hk x he (o := 0) rfl
  simpa using this
theorem chunk_end {X u : Nat} {L : List Nat} {k cr : Nat} (hk : k = (limbs X).length) (h : L.length = k ∧ Lim L ∧ val (L.take k) + P k * cr = val ((limbs X).take k) * 1000000000 + u) (hX : X ≠ 0) (hcr : cr < 4294967296) :
    limbs (X * 1000000000 + u) = if cr = 0 then L else L ++ [cr] := by
  obtain ⟨h1, h2, h3⟩ := h
  rw [List.take_of_length_le (by omega), List.take_of_length_le (by omega), val_limbs] at h3
  rw [← h3]
  split
  · next h0 =>
    rw [h0, Nat.mul_zero, Nat.add_zero]
    refine limbs_canon h2 fun e => ?_
    rcases List.eq_nil_or_concat L with rfl | ⟨r, x, rfl⟩
    · simp at e
    · simp only [List.concat_eq_append] at *
      simp at e
      subst e
      have hr : val r < P r.length := val_lt h2.left
      rw [h0, Nat.mul_zero, Nat.add_zero, val_snoc, Nat.mul_zero, Nat.add_zero] at h3
      have hk1 : k = r.length + 1 := by rw [← h1]; simp
      have hle := limbs_length_le (n := X) (k := r.length) (by omega)
      omega
  · next h0 =>
    rw [← h1, ← val_snoc]
    exact limbs_snoc h2 hcr h0

set_option maxRecDepth 20000 in
set_option maxHeartbeats 1000000 in
theorem appendChunk_any (B X u : Nat) (v : Value) (w : World) (hown : OwnR w B v (limbs X)) (hB : B ≤ w.heap.size) (hu : u < 4294967296) (hn : (limbs X).length ≤ 1000000) :
    Calls Tryz.prog 110 #[v, .int .u64 (u : Int)] w (RetR w B (limbs (X * 1000000000 + u))) := by
  obtain ⟨A, c, rfl, hA⟩ := hown.shape
  by_cases h0 : X = 0
  · subst h0
    rw [limbs_zero] at *
    clear hA
    have hul : Lim [u] := Lim.cons hu Lim.nil
    go_enter Tryz.func110, Tryz.ntmps110
    go_wp2_with fail
    go_loopw [5, 11] (fun sc si wr => sc = .int .u64 (u : Int) ∧ si = .int .i64 0 ∧ wr = w) (fun _ _ _ => 0)
    case atStart => exact ⟨rfl, rfl, rfl⟩
    case round =>
      obtain ⟨rfl, rfl, rfl⟩ := hrel
      by_cases hu0 : u = 0
      · subst hu0
        go_wp2_with fail
        go_ret
        exact ⟨_, rfl, by rw [Nat.zero_mul, Nat.zero_add, limbs_zero]; exact hown, Below.refl _ _⟩
      · have hd : decide ((0 : Int) < (u : Int)) = true := by simp; omega
        have hnum : Num (wr.alloc (.cells #[.int .u32 (u : Int)] 58)) [u] (some ⟨wr.heap.size, 0, none⟩) 1 1 := (show Row _ _ [u] from heap_alloc_new wr _).num hul rfl (Nat.le_refl _)
        have hbA : Below B wr (wr.alloc (.cells #[.int .u32 (u : Int)] 58)) := (Below.refl _ _).alloc hB _
        go_wp2_with (at_builtin; refine wpList_app rfl (.tmp 31) (.tmp 34) rfl rfl B _ [] [u] rfl (World.ownsRow.alloc hown _) _ 1 1 rfl hnum ?c1 ?c2 ?_)
        case c1 => simp
        case c2 => simp; omega
        intro v' w' hown2 hgr _
        go_wp2
        go_ret
        refine ⟨v', rfl, ?_, hbA.grown hgr (by simp; omega) (fun k hk => (World.ownsRow.lt hown k hk).1)⟩
        have e : limbs (0 * 1000000000 + u) = [] ++ [u] := by
          rw [Nat.zero_mul, Nat.zero_add, limbs_pos hu0, Nat.mod_eq_of_lt hu, Nat.div_eq_of_lt hu, limbs_zero]; rfl
        rw [e]; exact hown2
  · obtain ⟨g, rfl⟩ := hA (fun h => h0 (limbs_nil.1 h))
    obtain ⟨-, hBg, hnc, hcm, post, hmid, hpl⟩ := hown.mid
    have hll := lim_limbs X
    have hlen : (limbs X).length = (limbs X).length := rfl
    generalize hl : limbs X = l at *
    obtain ⟨n, hn'⟩ : ∃ n, l.length = n := ⟨_, rfl⟩
    rw [hn'] at hn hnc hpl
    rw [hn'] at hown ⊢
    have HL := Lib.hid hl
    have HN := Lib.hid hn'
    have HX := Lib.hid h0
    clear hl hn' h0 hA hlen hown
    go_enter Tryz.func110, Tryz.ntmps110
    go_wp2_with fail
    go_loopw [5, 11] (fun sc si wr => ∃ (k cr : Nat) (L : List Nat), k ≤ n ∧ cr < 4294967296 ∧ sc = .int .u64 (cr : Int) ∧ si = .int .i64 (k : Int) ∧ Mid wr g [] L post ∧ Below B w wr ∧
      Hid (L.length = n ∧ Lim L ∧ (∀ j, k ≤ j → L.getD j 0 = l.getD j 0) ∧ val (L.take k) + P k * cr = val (l.take k) * 1000000000 + u)) (fun _ si _ => n - (intOf si).toNat)
    case atStart => exact ⟨0, u, l, Nat.zero_le _, hu, rfl, rfl, hmid, Below.refl _ _, show Hid _ from ⟨HN.out, hll, fun j _ => rfl, by simp [val, P_zero]⟩⟩
    case round =>
      obtain ⟨k, cr, L, hk, hcr, rfl, rfl, hm, hb, HI⟩ := hrel
      by_cases hkn : k < n
      · obtain ⟨x, hx⟩ : ∃ x, L.getD k 0 = x := ⟨_, rfl⟩
        have hx4 : x < 4294967296 := by rw [← hx]; exact HI.out.2.1.getD _
        have hkL : k < L.length := by rw [HI.out.1]; exact hkn
        have hcs := hm.cell0 hkL
        have hfs := hm.frozen k
        rw [hx] at hcs
        have HXX := Lib.hid hx; clear hx
        obtain ⟨p, hp⟩ : ∃ p, x * 1000000000 = p := ⟨_, rfl⟩
        obtain ⟨t, ht⟩ : ∃ t, cr + p = t := ⟨_, rfl⟩
        have hw1 : IntKind.u64.wrap ((x : Int) * 1000000000) = (p : Int) := by rw [IntKind.wrap_u64]; omega
        have hw2 : IntKind.u64.wrap ((cr : Int) + (p : Int)) = (t : Int) := by rw [IntKind.wrap_u64]; omega
        have htl : t < 18446744073709551616 := by omega
        have HP := Lib.hid hp
        have HT := Lib.hid ht
        clear hp ht
        go_wp2_with fail
        go_roundw
        case rel =>
          refine ⟨k + 1, t / 4294967296, L.set k (t % 4294967296), by omega, by omega, congrArg (Value.int _) (by omega), congrArg (Value.int _) (by omega), hm.set00 hkL _ (by omega), hb.setCell hBg _, ?_⟩
          show Hid _
          have hI := HI.out
          have h := put_step (k := k) (by rw [← hI.1]; exact hkL) ⟨hI.1, hI.2.1, hI.2.2.2⟩ p HT.out.symm
          refine ⟨h.1, h.2.1, fun j hj => ?_, ?_⟩
          · rw [getD_set_ne _ (by omega)]; exact hI.2.2.1 j (by omega)
          · rw [h.2.2, val_take_succ', ← hI.2.2.1 k (Nat.le_refl _), HXX.out, ← HP.out]
            grind
        case measure => simp [intOf]; omega
      · obtain rfl : k = n := by omega
        have hE : Hid (limbs (X * 1000000000 + u) = if cr = 0 then L else L ++ [cr]) := by
          have h := HI.out
          refine chunk_end (k := k) (by rw [HL.out, HN.out]) ⟨h.1, h.2.1, by rw [HL.out]; exact h.2.2.2⟩ HX.out hcr
        have hkL : k = L.length := HI.out.1.symm
        have hownL : OwnR wr B (.slice (some ⟨g, 0, none⟩) k c) L := hm.ownR hBg (by rw [← hkL]; exact hpl) hcm hkL
        have hsz : B ≤ wr.heap.size := by have := hm.lt; omega
        clear hkL
        by_cases hc0 : cr = 0
        · subst hc0
          rw [if_pos rfl] at hE
          go_wp2_with fail
          go_ret
          exact ⟨_, rfl, by rw [hE.out]; exact hownL, hb⟩
        · have hd : decide ((0 : Int) < (cr : Int)) = true := by simp; omega
          rw [if_neg hc0] at hE
          have hul : Lim [cr] := Lim.cons hcr Lim.nil
          have hnum : Num (wr.alloc (.cells #[.int .u32 (cr : Int)] 58)) [cr] (some ⟨wr.heap.size, 0, none⟩) 1 1 := (show Row _ _ [cr] from heap_alloc_new wr _).num hul rfl (Nat.le_refl _)
          have hbA : Below B w (wr.alloc (.cells #[.int .u32 (cr : Int)] 58)) := hb.alloc hsz _
          have hlenL : L.length ≤ 1000000 := by have := HI.out.1; omega
          go_wp2_with (at_builtin; refine wpList_app rfl (.tmp 31) (.tmp 34) rfl rfl B _ L [cr] rfl (World.ownsRow.alloc hownL _) _ 1 1 rfl hnum ?c1 ?c2 ?_)
          case c1 => simp; omega
          case c2 => simp; omega
          intro v' w' hown2 hgr _
          go_wp2
          go_ret
          exact ⟨v', rfl, by rw [hE.out]; exact hown2, hbA.grown hgr (by simp; omega) (fun k hk => (World.ownsRow.lt hownL k hk).1)⟩
end Go.Proofs.YtggmmgojpamcpaaGreatDoor
