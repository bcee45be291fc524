/- The specification's Rank. -/
import Derived.Test.YtdlmhgijpgnilaaGreatDoorQ27
import Derived.Test.YtdlmhgijpgnilaaGreatDoorQ22
import Derived.Test.YtdlmhgijpgnilaaGreatDoorQ33
import Derived.Deep.CutRange
set_option linter.unusedVariables false
set_option linter.unusedSimpArgs false
namespace Go.Proofs.YtdlmhgijpgnilaaGreatDoor
open Go.RowKit

theorem r_MulV (v v' : Value) (x y r : Rat) (w : World) (h : Inr w v x) (h' : Inr w v' y) (sx : Sz x 400000) (sy : Sz y 400000) (hr : x * y = r) : Calls Tryz.prog 33 #[v, v'] w (RetRat w r) := by
  rw [← hr]; exact r_Mul v v' x y w h h' sx sy
theorem r_AddV (v v' : Value) (x y r : Rat) (w : World) (h : Inr w v x) (h' : Inr w v' y) (sx : Sz x 400000) (sy : Sz y 400000) (hr : x + y = r) : Calls Tryz.prog 23 #[v, v'] w (RetRat w r) := by
  rw [← hr]; exact r_Add v v' x y w h h' sx sy
theorem r_SubV (v v' : Value) (x y r : Rat) (w : World) (h : Inr w v x) (h' : Inr w v' y) (sx : Sz x 400000) (sy : Sz y 400000) (hr : x - y = r) : Calls Tryz.prog 42 #[v, v'] w (RetRat w r) := by
  rw [← hr]; exact r_Sub v v' x y w h h' sx sy
/-- A word in memory at a known place, and one of its letters. -/
structure At (W : World) (l : List Int) (b o n c k : Nat) (x : Int) : Prop where
  ints : Ints W l (some ⟨b, o, none⟩) n c
  x : l.getD k 0 = x
theorem At.below {W W' : World} {l : List Int} {b o n c k : Nat} {x : Int} (h : At W l b o n c k x) (hb : Below W.heap.size W W') : At W' l b o n c k x := ⟨h.ints.below hb, h.x⟩
theorem At.at2 {W : World} {l : List Int} {b o n c k : Nat} {x : Int} (h : At W l b o n c k x) (hk : k < n) : W.cell? ⟨b, o + k, none⟩ = some (.int .i64 x) := by
  obtain ⟨b', o', e, _, hc⟩ := h.ints.at_ hk
  cases e
  rw [hc, h.x]
/-- Between two rounds. -/
structure RqI (w0 : World) (s : Int) (l : List Int) (k : Nat) (W : World) : Prop where
  res : Rc W w0.heap.size (.bool false) (.slice none 0 0) (.slice none 0 0)
  rank : ∃ nb A n c B m d, Rc W (w0.heap.size + 1) (.bool nb) (.slice A n c) (.slice B m d) ∧ RatQ W (.agg #[.bool nb, .slice A n c, .slice B m d]) ((rk s (l.take k) : Int) : Rat)
  below : Below w0.heap.size w0 W
set_option maxRecDepth 20000 in
set_option maxHeartbeats 8000000 in
theorem qRank_ok (A : Option Addr) (n c : Nat) (l : List Int) (s : Int) (w : World) (h : Ints w l A n c) (hok : wok l s = true) :
    Calls Tryz.prog 10 #[.slice A n c, .int .i64 s] w (RetRatE w ((rk s l : Int) : Rat) 0) := by
  obtain ⟨hs1, hs2, hl, hm⟩ := wok_out hok
  have HN := Lib.hid h.len
  have HM := Lib.hid hm
  have HL := Lib.hid hl
  have HOK := Lib.hid hok
  have HR := Lib.hid h
  have hbA : Below w.heap.size w (w.alloc (.cells #[.bool false, .slice none 0 0, .slice none 0 0] 25)) := (Below.refl _ _).alloc (Nat.le_refl _) _
  have hbB := hbA.alloc hbA.size (.cells #[.bool false, .slice none 0 0, .slice none 0 0] 25)
  have r1 := (Rc.new w (.bool false) (.slice none 0 0) (.slice none 0 0)).alloc (.cells #[.bool false, .slice none 0 0, .slice none 0 0] 25)
  have r2 := Rc.new (w.alloc (.cells #[.bool false, .slice none 0 0, .slice none 0 0] 25)) (.bool false) (.slice none 0 0) (.slice none 0 0)
  rw [World.size_alloc] at r2
  clear hm hl hok h
  have hnn : n ≤ 256 := by have := HN.out; have := HL.out; omega
  have hI0 : RqI w s l 0 ((w.alloc (.cells #[.bool false, .slice none 0 0, .slice none 0 0] 25)).alloc (.cells #[.bool false, .slice none 0 0, .slice none 0 0] 25)) :=
    ⟨r1, ⟨_, _, _, _, _, _, _, r2, by rw [rkq_zero]; exact ratq_zero _⟩, hbB⟩
  clear r1 r2 hbB
  go_enter Tryz.func10, Tryz.ntmps10
  go_wp2_with fail
  refine (qValid_any A n c l s _ (HR.out.below hbA) true HOK).mono ?_
  rintro e w' ⟨rfl, rfl⟩
  go_wp2_with fail
  generalize (w.alloc (.cells #[.bool false, .slice none 0 0, .slice none 0 0] 25)).alloc (.cells #[.bool false, .slice none 0 0, .slice none 0 0] 25) = W2 at *
  go_loopw [7] (fun i wr => ∃ k : Nat, k ≤ n ∧ i = .int .i64 (k : Int) ∧ RqI w s l k wr) (fun i _ => (n - intOf i).toNat)
  case atStart => exact ⟨0, Nat.zero_le _, rfl, hI0⟩
  case round =>
    obtain ⟨k, hk, rfl, hI⟩ := hrel
    rcases Nat.lt_or_ge k n with hkn | hkn
    · obtain ⟨b, o, rfl, _, _⟩ := (HR.out.below hI.below).at_ hkn
      obtain ⟨x, hx⟩ : ∃ x, l.getD k 0 = x := ⟨_, rfl⟩
      have hL : At wr.drew l b o n c k x := ⟨(HR.out.below hI.below).below (Below.refl _ _).drew, hx⟩
      have hxm := HM.out _ (mem_getD (l := l) (k := k) (by have := HN.out; omega))
      rw [hx] at hxm
      have hst := rkq_step s l (k := k) (by have := HN.out; omega)
      have hz1 := rkq_sz HOK.out k (by have := HN.out; omega)
      rw [hx] at hst
      obtain ⟨rb, rA, rn, rc, rB, rm, rd, hrr, hrq⟩ := hI.rank
      have hres := hI.res
      obtain ⟨q0, hq0⟩ : ∃ q : Rat, ((rk s (l.take k) : Int) : Rat) = q := ⟨_, rfl⟩
      obtain ⟨q1, hq1⟩ : ∃ q : Rat, ((rk s (l.take (k + 1)) : Int) : Rat) = q := ⟨_, rfl⟩
      obtain ⟨q2, hq2⟩ : ∃ q : Rat, q0 * ((s : Int) : Rat) = q := ⟨_, rfl⟩
      rw [hq0] at hrq hz1 hst
      rw [hq1, hq2] at hst
      have zs : Sz (s : Rat) 1 := sz_whole (by omega) (by omega)
      have zx : Sz (x : Rat) 1 := sz_whole (by omega) (by omega)
      have zm : Sz q2 (3 * k + 2) := by rw [← hq2]; exact sz_mul hz1 zs (by omega)
      have HST : Hid (q2 + ((x : Int) : Rat) = q1) := Lib.hid hst.symm
      have HM2 := Lib.hid hq2
      have HQ1 := Lib.hid hq1
      have HZ := Lib.hid (And.intro (hz1.mono (show 3 * k + 1 ≤ 900 by omega)) (And.intro (zs.mono (show 1 ≤ 900 by omega)) (And.intro (zx.mono (show 1 ≤ 900 by omega)) (zm.mono (show 3 * k + 2 ≤ 900 by omega)))))
      have hb9 := hI.below.drew
      replace hrr : Rc wr.drew _ _ _ _ := hrr
      replace hres : Rc wr.drew _ _ _ _ := hres
      replace hrq := hrq.drew1
      have hz9 := hb9.size
      have hk1 : (k : Int) < (n : Int) := by omega
      have hk2 : k < n := hkn
      clear hI hst hz1 zs zx zm hq0 hq1 hq2 hx hI0
      go_upto_region 7 with (fail)
      refine wp_region_front0 (by kernel_rfl) (fun i => decide (i < 10)) (sOf [.val (.agg #[.bool rb, .slice rA rn rc, .slice rB rm rd]), .val (.int .i64 s), .rat ((s : Rat)), .rat (q2), .val (.slice (some ⟨b, o, none⟩) n c), .val (.int .i64 (k : Int)), .val (.pointer (some ⟨b, o + k, none⟩)), .val (.int .i64 x), .rat ((x : Rat)), .rat (q1)]) [20, 21, 22, 23, 24, 25, 26, 27, 28, 29] (gOf [.val (.agg #[.bool rb, .slice rA rn rc, .slice rB rm rd]), .val (.int .i64 s), .rat ((s : Rat)), .rat (q2), .val (.slice (some ⟨b, o, none⟩) n c), .val (.int .i64 (k : Int)), .val (.pointer (some ⟨b, o + k, none⟩)), .val (.int .i64 x), .rat ((x : Rat)), .rat (q1)]) (fun wx => Below wr.drew.heap.size wr.drew wx) (Below.refl _ _) (by kernel_rfl) (by kernel_rfl) (gOf_keep _) (gOf_ptr _) ?step 1 (by kernel_rfl) _ rfl ?fin
      case step =>
        intro i oi ho hF f wx hB hdep K hK
        have hi : i < 10 := of_decide_eq_true hF
        clear hF
        simp only [frontAct, List.foldl_cons, List.foldl_nil, List.setIfInBounds_toArray, List.set_cons_succ, List.set_cons_zero] at hK ⊢
        obtain rfl | rfl | rfl | rfl | rfl | rfl | rfl | rfl | rfl | rfl : i = 0 ∨ i = 1 ∨ i = 2 ∨ i = 3 ∨ i = 4 ∨ i = 5 ∨ i = 6 ∨ i = 7 ∨ i = 8 ∨ i = 9 := by omega
        · obtain rfl := Option.some.inj ho
          have HQ : Hid (∀ (val : Value) w', val = .agg #[.bool rb, .slice rA rn rc, .slice rB rm rd] → Below wx.heap.size wx w' → Below wr.drew.heap.size wr.drew w' → K _ w') := Lib.hid (fun val w' h1 h2 h3 => hK val w' h1 h2 h3 (fun h => by cases h))
          simp only [Act.put, List.setIfInBounds_toArray, List.set_cons_succ, List.set_cons_zero] at HQ
          clear hK hdep
          obtain ⟨p0, p1, p2⟩ := (hrr.below hB hrr.lt).cells
          go_simp
          exact HQ.out (.agg #[.bool rb, .slice rA rn rc, .slice rB rm rd]) wx rfl (Below.refl _ _) hB
        · obtain rfl := Option.some.inj ho
          have HQ : Hid (∀ (val : Value) w', val = .int .i64 s → Below wx.heap.size wx w' → Below wr.drew.heap.size wr.drew w' → K _ w') := Lib.hid (fun val w' h1 h2 h3 => hK val w' h1 h2 h3 (fun h => by cases h))
          simp only [Act.put, List.setIfInBounds_toArray, List.set_cons_succ, List.set_cons_zero] at HQ
          clear hK hdep
          go_simp
          exact HQ.out (.int .i64 s) wx rfl (Below.refl _ _) hB
        · obtain rfl := Option.some.inj ho
          have HQ : Hid (∀ (val : Value) w', RatQ w' val ((s : Rat)) → Below wx.heap.size wx w' → Below wr.drew.heap.size wr.drew w' → K _ w') := Lib.hid (fun val w' h1 h2 h3 => hK val w' h1 h2 h3 (fun h => by cases h))
          have e21 := hdep ⟨1, .data⟩ (by simp) (by rfl)
          simp only [Act.put, List.setIfInBounds_toArray, List.set_cons_succ, List.set_cons_zero] at HQ
          clear hK hdep
          replace e21 : f 21 = .int .i64 s := e21
          generalize f 21 = f21 at *
          subst e21
          go_simp
          refine (r_Of s 1 _ (by decide) ((s : Int) : Rat) (qv_whole s) (by omega) (by omega) (by decide) (by decide)).mono ?_
          rintro e0 w' ⟨val, rfl, hr, hb⟩
          exact HQ.out val w' hr hb (hB.trans (hb.mono hB.size))
        · obtain rfl := Option.some.inj ho
          have HQ : Hid (∀ (val : Value) w', RatQ w' val (q2) → Below wx.heap.size wx w' → Below wr.drew.heap.size wr.drew w' → K _ w') := Lib.hid (fun val w' h1 h2 h3 => hK val w' h1 h2 h3 (fun h => by cases h))
          have e20 := hdep ⟨0, .data⟩ (by simp) (by rfl)
          have e22 := hdep ⟨2, .data⟩ (by simp) (by rfl)
          simp only [Act.put, List.setIfInBounds_toArray, List.set_cons_succ, List.set_cons_zero] at HQ
          clear hK hdep
          replace e20 : f 20 = .agg #[.bool rb, .slice rA rn rc, .slice rB rm rd] := e20
          generalize f 20 = f20 at *
          subst e20
          replace e22 : RatQ wx (f 22) ((s : Rat)) := e22
          generalize f 22 = f22 at *
          go_simp
          refine (r_MulV _ _ q0 ((s : Int) : Rat) q2 _ ((hrq.below hB).inr HZ.out.1 (by omega)) (e22.inr HZ.out.2.1 (by omega)) (HZ.out.1.mono (by omega)) (HZ.out.2.1.mono (by omega)) HM2.out).mono ?_
          rintro e0 w' ⟨val, rfl, hr, hb⟩
          exact HQ.out val w' hr hb (hB.trans (hb.mono hB.size))
        · obtain rfl := Option.some.inj ho
          have HQ : Hid (∀ (val : Value) w', val = .slice (some ⟨b, o, none⟩) n c → Below wx.heap.size wx w' → Below wr.drew.heap.size wr.drew w' → K _ w') := Lib.hid (fun val w' h1 h2 h3 => hK val w' h1 h2 h3 (fun h => by cases h))
          simp only [Act.put, List.setIfInBounds_toArray, List.set_cons_succ, List.set_cons_zero] at HQ
          clear hK hdep
          go_simp
          exact HQ.out (.slice (some ⟨b, o, none⟩) n c) wx rfl (Below.refl _ _) hB
        · obtain rfl := Option.some.inj ho
          have HQ : Hid (∀ (val : Value) w', val = .int .i64 (k : Int) → Below wx.heap.size wx w' → Below wr.drew.heap.size wr.drew w' → K _ w') := Lib.hid (fun val w' h1 h2 h3 => hK val w' h1 h2 h3 (fun h => by cases h))
          simp only [Act.put, List.setIfInBounds_toArray, List.set_cons_succ, List.set_cons_zero] at HQ
          clear hK hdep
          go_simp
          exact HQ.out (.int .i64 (k : Int)) wx rfl (Below.refl _ _) hB
        · obtain rfl := Option.some.inj ho
          have HQ : Hid (∀ (val : Value) w', val = .pointer (some ⟨b, o + k, none⟩) → Below wx.heap.size wx w' → Below wr.drew.heap.size wr.drew w' → K _ w') := Lib.hid (fun val w' h1 h2 h3 => hK val w' h1 h2 h3 (fun h => by cases h))
          have e24 := hdep ⟨4, .data⟩ (by simp) (by rfl)
          have e25 := hdep ⟨5, .data⟩ (by simp) (by rfl)
          simp only [Act.put, List.setIfInBounds_toArray, List.set_cons_succ, List.set_cons_zero] at HQ
          clear hK hdep
          replace e24 : f 24 = .slice (some ⟨b, o, none⟩) n c := e24
          generalize f 24 = f24 at *
          subst e24
          replace e25 : f 25 = .int .i64 (k : Int) := e25
          generalize f 25 = f25 at *
          subst e25
          go_simp
          exact HQ.out (.pointer (some ⟨b, o + k, none⟩)) wx rfl (Below.refl _ _) hB
        · obtain rfl := Option.some.inj ho
          have HQ : Hid (∀ (val : Value) w', val = .int .i64 x → Below wx.heap.size wx w' → Below wr.drew.heap.size wr.drew w' → K _ w') := Lib.hid (fun val w' h1 h2 h3 => hK val w' h1 h2 h3 (fun h => by cases h))
          have e26 := hdep ⟨6, .data⟩ (by simp) (by rfl)
          simp only [Act.put, List.setIfInBounds_toArray, List.set_cons_succ, List.set_cons_zero] at HQ
          clear hK hdep
          replace e26 : f 26 = .pointer (some ⟨b, o + k, none⟩) := e26
          generalize f 26 = f26 at *
          subst e26
          have hcx := (hL.below hB).at2 hkn
          go_simp
          exact HQ.out (.int .i64 x) wx rfl (Below.refl _ _) hB
        · obtain rfl := Option.some.inj ho
          have HQ : Hid (∀ (val : Value) w', RatQ w' val ((x : Rat)) → Below wx.heap.size wx w' → Below wr.drew.heap.size wr.drew w' → K _ w') := Lib.hid (fun val w' h1 h2 h3 => hK val w' h1 h2 h3 (fun h => by cases h))
          have e27 := hdep ⟨7, .data⟩ (by simp) (by rfl)
          simp only [Act.put, List.setIfInBounds_toArray, List.set_cons_succ, List.set_cons_zero] at HQ
          clear hK hdep
          replace e27 : f 27 = .int .i64 x := e27
          generalize f 27 = f27 at *
          subst e27
          go_simp
          refine (r_Of x 1 _ (by decide) ((x : Int) : Rat) (qv_whole x) (by omega) (by omega) (by decide) (by decide)).mono ?_
          rintro e0 w' ⟨val, rfl, hr, hb⟩
          exact HQ.out val w' hr hb (hB.trans (hb.mono hB.size))
        · obtain rfl := Option.some.inj ho
          have HQ : Hid (∀ (val : Value) w', RatQ w' val (q1) → Below wx.heap.size wx w' → Below wr.drew.heap.size wr.drew w' → K _ w') := Lib.hid (fun val w' h1 h2 h3 => hK val w' h1 h2 h3 (fun h => by cases h))
          have e23 := hdep ⟨3, .data⟩ (by simp) (by rfl)
          have e28 := hdep ⟨8, .data⟩ (by simp) (by rfl)
          simp only [Act.put, List.setIfInBounds_toArray, List.set_cons_succ, List.set_cons_zero] at HQ
          clear hK hdep
          replace e23 : RatQ wx (f 23) (q2) := e23
          generalize f 23 = f23 at *
          replace e28 : RatQ wx (f 28) ((x : Rat)) := e28
          generalize f 28 = f28 at *
          go_simp
          refine (r_AddV _ _ q2 ((x : Int) : Rat) q1 _ (e23.inr HZ.out.2.2.2 (by omega)) (e28.inr HZ.out.2.2.1 (by omega)) (HZ.out.2.2.2.mono (by omega)) (HZ.out.2.2.1.mono (by omega)) HST.out).mono ?_
          rintro e0 w' ⟨val, rfl, hr, hb⟩
          exact HQ.out val w' hr hb (hB.trans (hb.mono hB.size))
      case fin =>
        intro f wx hB hG hne
        have h4 : RatQ wx (f 29) q1 := hG 9 (by decide) (by rfl)
        obtain ⟨t0, tA, tn, tc, tB, tm, td, ex⟩ := h4.agg
        clear hG hne
        simp only [frontAct, List.foldl_cons, List.foldl_nil, List.setIfInBounds_toArray, List.set_cons_succ, List.set_cons_zero]
        generalize f 29 = f29 at *
        subst ex
        replace hrr := hrr.below hB hrr.lt
        replace hres := hres.below hB hres.lt
        replace hb9 := hb9.trans (hB.mono hz9)
        obtain ⟨p0, p1, p2⟩ := hrr.cells
        obtain ⟨f0, f1, f2⟩ := hrr.frozen
        have hres2 := hres.far3 (g' := w.heap.size + 1) (by omega) (.bool t0) (.slice tA tn tc) (.slice tB tm td)
        have hrk := hrr.set (.bool t0) (.slice tA tn tc) (.slice tB tm td)
        have hrkq := h4.set3 hrr (.bool t0) (.slice tA tn tc) (.slice tB tm td)
        rw [← HQ1.out] at hrkq
        have hbel := below_set3 hb9 (g := w.heap.size + 1) (by omega) (.bool t0) (.slice tA tn tc) (.slice tB tm td)
        have HEND : Hid (RqI w s l (k + 1) _) := Lib.hid ⟨hres2, ⟨_, _, _, _, _, _, _, hrk, hrkq⟩, hbel⟩
        clear hres2 hrk hrkq hbel hrr hres hrq hL h4 hb9
        refine wpAny_ready (rs := [10]) (by kernel_rfl) (by simp) ?_
        refine AllReady.cons rfl (fun K hK => ?_) AllReady.nil
        have HQ := Lib.hid hK
        clear hK
        go_simp
        refine HQ.out _ _ ?_
        clear HQ K
        refine wpAny_done (by kernel_rfl) ?_ _
        go_wp2_with fail
        go_roundw
        case rel => exact ⟨k + 1, by omega, by go_num, HEND.out⟩
        case measure => simp [intOf]; omega
    · obtain rfl : k = n := by omega
      obtain ⟨rb, rA, rn, rc, rB, rm, rd, hrr, hrq⟩ := hI.rank
      rw [List.take_of_length_le (by have := HN.out; omega)] at hrq
      obtain ⟨r0, r1, r2⟩ := hrr.cells
      obtain ⟨p0, p1, p2⟩ := hI.res.cells
      obtain ⟨f0, f1, f2⟩ := hI.res.frozen
      have HEND := Lib.hid (And.intro (hI.res.set (.bool rb) (.slice rA rn rc) (.slice rB rm rd)) (And.intro (hrq.set3 hI.res (.bool rb) (.slice rA rn rc) (.slice rB rm rd)) (below_set3 hI.below (Nat.le_refl _) (.bool rb) (.slice rA rn rc) (.slice rB rm rd))))
      clear hI hrr hrq hI0
      go_wp2_with fail
      refine ret_rc_tmp Tryz.results10 rfl rfl HEND.out.1 rfl ?_
      exact ⟨_, rfl, HEND.out.2.1, HEND.out.2.2⟩
set_option maxRecDepth 20000 in
set_option maxHeartbeats 1000000 in
theorem qRank_bad (A : Option Addr) (n c : Nat) (l : List Int) (s : Int) (w : World) (h : Ints w l A n c) (hok : wok l s = false) :
    Calls Tryz.prog 10 #[.slice A n c, .int .i64 s] w (RetRatE w 0 9) := by
  have HOK := Lib.hid hok
  have hbA : Below w.heap.size w (w.alloc (.cells #[.bool false, .slice none 0 0, .slice none 0 0] 25)) := (Below.refl _ _).alloc (Nat.le_refl _) _
  have r1 := Rc.new w (.bool false) (.slice none 0 0) (.slice none 0 0)
  have h1 := h.below hbA
  obtain ⟨p0, p1, p2⟩ := r1.cells
  obtain ⟨f0, f1, f2⟩ := r1.frozen
  have HEND := Lib.hid (And.intro r1 hbA)
  clear h hok hbA r1
  go_enter Tryz.func10, Tryz.ntmps10
  go_wp2_with fail
  refine (qValid_any A n c l s _ h1 false HOK).mono ?_
  rintro e w' ⟨rfl, rfl⟩
  go_wp2_with fail
  refine ret_rc_tmp Tryz.results10 rfl rfl HEND.out.1 rfl ?_
  exact ⟨_, rfl, ratq_zero _, HEND.out.2⟩
theorem qRank_any (A : Option Addr) (n c : Nat) (l : List Int) (s : Int) (w : World) (h : Ints w l A n c) :
    Calls Tryz.prog 10 #[.slice A n c, .int .i64 s] w (RetRatE w (rankA l s).1 (rankA l s).2) := by
  by_cases hok : wok l s = true
  · have := qRank_ok A n c l s w h hok
    unfold rankA
    rw [if_pos hok]; exact this
  · have hok2 : wok l s = false := by simpa using hok
    have := qRank_bad A n c l s w h hok2
    unfold rankA
    rw [if_neg hok]; exact this
end Go.Proofs.YtdlmhgijpgnilaaGreatDoor
