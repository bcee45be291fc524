/- The specification's read, Parse. -/
import Derived.Test.YtggmmgojpamcpaaGreatDoorQ46
import Derived.Test.YtggmmgojpamcpaaGreatDoorQ22
set_option linter.unusedVariables false
set_option linter.unusedSimpArgs false
namespace Go.Proofs.YtggmmgojpamcpaaGreatDoor
open Go.RowKit

def RetRead (w0 : World) (r : Option Nat) (e : Ending) (w' : World) : Prop :=
  ∃ A n c, e = .returned (.tuple #[.slice A n c, .bool r.isSome]) ∧ Num w' (limbs (r.getD 0)) A n c ∧ n ≤ 2001 ∧ Below w0.heap.size w0 w'
theorem at_data (s : ByteArray) (k : Nat) (h : k < s.size) : s.data.toList[k]? = some s[k] := by
  rw [List.getElem?_eq_getElem (by rw [Array.length_toList]; exact h)]; rfl
theorem dec_take (s : ByteArray) (k : Nat) (h : k < s.size) (v : Nat) (hv : decVal 0 (s.data.toList.take k) = some v) : decVal 0 (s.data.toList.take (k + 1)) = if isDig s[k] then some (v * 10 + (s[k].toNat - 48)) else none := by
  rw [List.take_succ_eq_append_getElem (by simpa using h), decVal_append, hv]
  show decVal v [s[k]] = _
  simp only [decVal]
theorem dec_take_none (s : ByteArray) (k : Nat) (hv : decVal 0 (s.data.toList.take k) = none) : decVal 0 s.data.toList = none := by
  conv => lhs; rw [← List.take_append_drop k s.data.toList]
  rw [decVal_append, hv]; rfl

set_option maxRecDepth 20000 in
set_option maxHeartbeats 4000000 in
theorem r_read (s : ByteArray) (w : World) (r : Option Nat) (hr : Hid (readDec s.data.toList = r)) (hsz : s.size ≤ 1000000) :
    Calls Tryz.prog 85 #[.string s] w (RetRead w r) := by
  have hlen : s.data.toList.length = s.size := by rw [Array.length_toList]; rfl
  have HN : Hid (r = none → ∀ W', Below w.heap.size w W' → RetRead w r (.returned (.tuple #[.slice none 0 0, .bool false])) W') := by
    show _ → ∀ _, _
    intro h W' hb; subst h
    exact ⟨none, 0, 0, rfl, by rw [show (none : Option Nat).getD 0 = 0 from rfl, limbs_zero]; exact Num.nil _ _ _, by decide, hb⟩
  have HL := Lib.hid hlen
  clear hlen
  by_cases h0 : s.size = 0
  · have hl : s.data.toList = [] := List.eq_nil_of_length_eq_zero (by rw [HL.out, h0])
    have ht : s.toList = [] := by rw [Lib.toList_data]; exact hl
    have ht' : s.toList.isEmpty = true := by rw [ht]; rfl
    have HF := Lib.hid (HN.out (by rw [← hr.out]; unfold readDec; rw [if_pos (.inl (by rw [HL.out, h0]))]))
    clear hl h0
    go_enter Tryz.func85, Tryz.ntmps85
    go_wp2_with fail
    go_ret2
    exact HF.out _ (Below.refl _ _)
  have hne : ¬ s.toList = [] := by
    rw [Lib.toList_data]; intro h; apply h0; rw [← HL.out, h]; rfl
  have hne' : s.toList.isEmpty = false := by
    cases h : s.toList with
    | nil => exact absurd h hne
    | cons => rfl
  by_cases h2 : 2000 < s.size
  · have HF := Lib.hid (HN.out (by rw [← hr.out]; unfold readDec; rw [if_pos (.inr (.inl (by rw [HL.out]; exact h2)))]))
    have hd : decide ((2000 : Int) < (s.size : Int)) = true := decide_eq_true (by omega)
    go_enter Tryz.func85, Tryz.ntmps85
    go_wp2_with fail
    go_ret2
    exact HF.out _ (Below.refl _ _)
  have hd : decide ((2000 : Int) < (s.size : Int)) = false := decide_eq_false (by omega)
  have hp0 : 0 < s.size := Nat.pos_of_ne_zero h0
  by_cases h1 : 1 < s.size ∧ s[0] = 48
  · obtain ⟨h1, h48⟩ := h1
    have HF := Lib.hid (HN.out (by
      rw [← hr.out]; unfold readDec
      rw [if_pos (.inr (.inr ⟨by rw [HL.out]; exact h1, by rw [List.getD_eq_getElem?_getD, at_data s 0 hp0]; exact h48⟩))]))
    have hb : ((s[0].toNat : Int) == 48) = true := by rw [h48]; rfl
    have hd1 : decide ((1 : Int) < (s.size : Int)) = true := decide_eq_true (by omega)
    clear h48
    go_enter Tryz.func85, Tryz.ntmps85
    go_wp2_with fail
    go_ret2
    exact HF.out _ (Below.refl _ _)
  have HR : Hid (decVal 0 s.data.toList = r) := by
    show _ = _
    rw [← hr.out]
    unfold readDec
    rw [if_neg]
    rintro (h | h | ⟨h, h3⟩)
    · rw [HL.out] at h; exact h0 h
    · rw [HL.out] at h; exact h2 h
    · rw [HL.out] at h
      rw [List.getD_eq_getElem?_getD, at_data s 0 hp0] at h3
      exact h1 ⟨h, h3⟩
  have hw : (1 < s.size ∧ ((s[0].toNat : Int) == 48) = false ∧ decide ((1 : Int) < (s.size : Int)) = true) ∨ (s.size ≤ 1 ∧ decide ((1 : Int) < (s.size : Int)) = false) := by
    by_cases h : 1 < s.size
    · refine .inl ⟨h, ?_, decide_eq_true (by omega)⟩
      rw [beq_eq_false_iff_ne]
      intro e
      exact h1 ⟨h, by apply UInt8.toNat.inj; show _ = 48; omega⟩
    · exact .inr ⟨by omega, decide_eq_false (by omega)⟩
  clear h1 h0 h2
  rcases hw with ⟨hk1, hk2, hk3⟩ | ⟨hk1, hk3⟩
  all_goals
    go_enter Tryz.func85, Tryz.ntmps85
    go_wp2_with fail
    go_loopw [4, 5] (fun so si wr => ∃ (k v : Nat) (A : Option Addr) (n c : Nat), k ≤ s.size ∧ so = .slice A n c ∧ si = .int .i64 k ∧ Num wr (limbs v) A n c ∧ n ≤ 2001 ∧ Below w.heap.size w wr ∧ Hid (decVal 0 (s.data.toList.take k) = some v))
      (fun _ si _ => s.size - (intOf si).toNat)
    case atStart => exact ⟨0, 0, none, 0, 0, Nat.zero_le _, rfl, rfl, by rw [limbs_zero]; exact Num.nil _ _ _, by decide, Below.refl _ _, rfl⟩
    case round =>
      obtain ⟨k, v, A, n, c, hk, rfl, rfl, hv, hn, hb, HD⟩ := hrel
      by_cases hkn : k < s.size
      · have hc8 : s[k].toNat < 256 := s[k].toNat_lt
        have HT := Lib.hid (dec_take s k hkn v HD.out)
        by_cases hdg : isDig s[k] = true
        · obtain ⟨d, hd⟩ : ∃ d, s[k].toNat = 48 + d := ⟨s[k].toNat - 48, by have := of_decide_eq_true (show decide (48 ≤ s[k].toNat ∧ s[k].toNat ≤ 57) = true from hdg); omega⟩
          have hd9 : d ≤ 9 := by have := of_decide_eq_true (show decide (48 ≤ s[k].toNat ∧ s[k].toNat ≤ 57) = true from hdg); omega
          have hlo : decide ((s[k].toNat : Int) < 48) = false := decide_eq_false (by omega)
          have hhi : decide ((57 : Int) < (s[k].toNat : Int)) = false := decide_eq_false (by omega)
          have hsub : IntKind.u8.wrap ((s[k].toNat : Int) - 48) = (d : Int) := by rw [IntKind.wrap_u8]; omega
          have hw64 : IntKind.u64.wrap (d : Int) = (d : Int) := by rw [IntKind.wrap_u64]; omega
          have HD2 : Hid (decVal 0 (s.data.toList.take (k + 1)) = some (v * 10 + d)) := by
            show _ = _
            rw [HT.out, if_pos hdg, hd]; congr 2; omega
          clear hd hdg HT
          have hbo : Below wr.heap.size wr (wr.alloc (.cells #[.int .u32 10] 58)).drew := (show Below wr.heap.size wr (wr.alloc (.cells #[.int .u32 10] 58)) from (Below.refl _ _).alloc (Nat.le_refl _) _).drew
          have hten : Num (wr.alloc (.cells #[.int .u32 10] 58)).drew (limbs 10) (some ⟨wr.heap.size, 0, none⟩) 1 1 := by
            rw [limbs_dig (by decide) (by decide)]
            exact ((show Row _ _ [10] from heap_alloc_new wr _).num (Lim.cons (by decide) Lim.nil) rfl (Nat.le_refl _)).drew
          have hvD := hv.below hbo
          have hk2000 : s.size ≤ 2000 := by have := of_decide_eq_false hd; omega
          clear hv
          go_wp2_with fail
          go_region_with (first
            | (have _g := hb2; go_at_call 76; refine (r_plus _ _ _ _ _ _ (v * 10) d _ (h1.num.below hb2) h2.num ?_ ?_).mono ?_; (have := h1.len; have := HTL.out; omega); (have := h2.len; have := HDL.out; omega); rintro e' w3 ⟨A3, n3, c3, rfl, h3, hb3⟩)
            | (have _g := hb1; go_at_call 52; refine (r_natural d _ ?_).mono ?_; omega; rintro e' w2 ⟨A2, n2, c2, rfl, h2, hb2⟩; have HDL := Lib.hid (small_len (n := d) (by omega)))
            | (go_at_call 74; refine (r_times _ _ _ _ _ _ v 10 _ hvD hten ?_ ?_).mono ?_; omega; omega; rintro e' w1 ⟨A1, n1, c1, rfl, h1, hb1⟩; have HTL := Lib.hid (len_prod (a := v) (b := 10) (p := 2001) (q := 1) (by rw [← hvD.len]; omega) (small_len (by decide)))))
          all_goals
            clear hw64 hsub
            go_wp2_with fail
            have h4 := decVal_lt HD2.out
            have h5 : (s.data.toList.take (k + 1)).length ≤ 2000 := by rw [List.length_take, HL.out]; omega
            have h6 := limbs_length_le (Nat.lt_of_lt_of_le h4 (pow_ten_P h5))
            have hb03 := hb.trans ((hbo.trans ((hb1.trans (hb2.mono hb1.size)).trans (hb3.mono (by have := hb1.size; have := hb2.size; omega)) |>.mono hbo.size)).mono hb.size)
            have hn3 : n3 ≤ 2001 := by rw [h3.len]; omega
            exact ⟨⟨k + 1, v * 10 + d, _, _, _, by omega, rfl, by go_num, h3.num, hn3, hb03, HD2⟩, by simp [intOf]; omega⟩
        · have HF := Lib.hid (HN.out (by
            have h1 := HT.out
            rw [if_neg hdg] at h1
            rw [← HR.out]; exact dec_take_none s (k + 1) h1))
          have hnd : ¬ (48 ≤ s[k].toNat ∧ s[k].toNat ≤ 57) := fun h => hdg (decide_eq_true h)
          have hw2 : (decide ((s[k].toNat : Int) < 48) = true) ∨ (decide ((s[k].toNat : Int) < 48) = false ∧ decide ((57 : Int) < (s[k].toNat : Int)) = true) := by
            by_cases h : s[k].toNat < 48
            · exact .inl (decide_eq_true (by omega))
            · exact .inr ⟨decide_eq_false (by omega), decide_eq_true (by omega)⟩
          clear hdg hnd
          rcases hw2 with hw2 | ⟨hw2, hw3⟩
          all_goals
            go_wp2_with fail
            go_ret2
            exact HF.out _ hb
      · have HE : Hid (r = some v) := by
          have h1 := HD.out
          rw [List.take_of_length_le (by rw [HL.out]; omega)] at h1
          show _ = _
          rw [← HR.out, h1]
        go_wp2_with fail
        go_ret2
        rw [HE.out]
        exact ⟨_, _, _, rfl, hv, hn, hb⟩
end Go.Proofs.YtggmmgojpamcpaaGreatDoor
