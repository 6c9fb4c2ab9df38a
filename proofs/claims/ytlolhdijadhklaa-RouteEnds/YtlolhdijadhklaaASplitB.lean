/- rightSplit. -/
import Derived.Test.YtlolhdijadhklaaASpans
namespace Go.Proofs.Ytlolhdijadhklaa
open Go.RowKit Atl
set_option linter.unusedVariables false
set_option maxRecDepth 10000

theorem splitB_is (la : Int) (l : List Sp) (p : Pl) (s : Sp) : splitB la l p s = ((p.pa == 0) && ((p.ot == la) && (decide (plc l p.ot < 0) && (parts s p.key && decide ((l.length : Int) < 16))))) := by
  unfold splitB
  rw [Bool.eq_iff_iff]
  simp [and_assoc]
  omega
set_option maxRecDepth 100000 in
set_option maxHeartbeats 6400000 in
theorem splitp_any (a : Am) (u : S3) (i : Nat) (s : Sp) (w : World) (h : Rat w a u) (hs : a.l[i]? = some s) (hk : a.p.key.size ≤ 140737488351232) : Calls Try.prog 77 #[av a u, .int .i64 (i : Int)] w fun e w' => e = .returned (.bool (splitB a.la a.l a.p s)) ∧ w.grownBy w' none := by
  obtain ⟨W1, hW1⟩ : ∃ W1, W1 = (w.alloc (.cells (aa a u) 26)).alloc (.cells (pa a.p) 24) := ⟨_, rfl⟩
  obtain ⟨Q, hQ⟩ : ∃ Q, Q = w.heap.size := ⟨_, rfl⟩
  have hq : (w.alloc (.cells (aa a u) 26)).heap.size = Q + 1 := by rw [hQ]; simp
  have G1 : Hid (w.grownBy W1 none) := by rw [hW1]; exact grown_tr (World.grownBy_alloc _ _ none) (World.grownBy_alloc _ _ none)
  have CA : Hid (∀ W, W1.grownBy W none → W.rangeAt Q 0 (ac a u)) := fun W g => by rw [hW1] at g; rw [hQ]; exact (cs_new (grown_tr (World.grownBy_alloc _ _ none) g)).1
  have CP : Hid (∀ W, W1.grownBy W none → W.rangeAt (Q + 1) 0 (pc a.p)) := fun W g => by rw [hW1] at g; rw [← hq]; exact (cs_new g).1
  have GA : Hid (w.grownBy (w.alloc (.cells (aa a u) 26)) none) := World.grownBy_alloc _ _ none
  have PI : Hid ((w.alloc (.cells (aa a u) 26)).rangeAt w.heap.size 3 (pc a.p)) := plan_in (cs_new (grown_refl _ _)).1
  have HW1 : Hid (W1 = _) := hW1
  have HQ : Hid (Q = w.heap.size) := hQ
  clear hW1 hq hQ
  have PL : Hid (∀ y : Gr W1, _) := fun y => place_any a u a.p.ot y.now (h.grown (grown_tr G1.out y.grown))
  have PT : ∀ y : Gr W1, _ := fun y => parts_any s a.p.key hk y.now
  have CC : ∀ y : Gr W1, _ := fun y => cells_a (CA.out y.now y.grown)
  have CQ : ∀ y : Gr W1, _ := fun y => cells_p (CP.out y.now y.grown)
  have hl := (List.getElem?_eq_some_iff.1 hs).1
  obtain ⟨ua, un, uc⟩ := u
  obtain ⟨hR, hn, hb⟩ := h
  simp only at hn hR PL CA HW1 CC PI ⊢
  rw [← hn] at hl hb
  obtain ⟨g, o, ea, _⟩ := range_at hR hs
  have CS : ∀ y : Gr W1, _ := fun y => by
    have k := hR.grown (grown_tr G1.out y.grown)
    rw [ea] at k
    exact cells_s (range_in k hs)
  subst ea
  generalize hB : splitB a.la a.l a.p s = B
  rw [splitB_is, ← hn] at hB
  have HB : Hid (((a.p.pa == 0) && ((a.p.ot == a.la) && (decide (plc a.l a.p.ot < 0) && (parts s a.p.key && decide ((un : Int) < 16))))) = B) := hB
  have PLO := PL.out
  generalize plc a.l a.p.ot = pl at *
  have un16 : (un : Int) ≤ 9223372036854775807 := by omega
  have x0 := fun y : Gr W1 => (CC y).1
  have x1 := fun y : Gr W1 => (CC y).2.1
  have x2 := fun y : Gr W1 => (CC y).2.2.1
  have x3 := fun y : Gr W1 => (CC y).2.2.2.1
  have x4 := fun y : Gr W1 => (CC y).2.2.2.2.1
  have x5 := fun y : Gr W1 => (CC y).2.2.2.2.2.1
  have x6 := fun y : Gr W1 => (CC y).2.2.2.2.2.2.1
  have x7 := fun y : Gr W1 => (CC y).2.2.2.2.2.2.2.1
  have x8 := fun y : Gr W1 => (CC y).2.2.2.2.2.2.2.2.1
  have x9 := fun y : Gr W1 => (CC y).2.2.2.2.2.2.2.2.2.1
  have x10 := fun y : Gr W1 => (CC y).2.2.2.2.2.2.2.2.2.2
  have z0 := fun y : Gr W1 => (CQ y).1
  have z1 := fun y : Gr W1 => (CQ y).2.1
  have z2 := fun y : Gr W1 => (CQ y).2.2.1
  have z3 := fun y : Gr W1 => (CQ y).2.2.2.1
  have z4 := fun y : Gr W1 => (CQ y).2.2.2.2.1
  have z5 := fun y : Gr W1 => (CQ y).2.2.2.2.2.1
  have z6 := fun y : Gr W1 => (CQ y).2.2.2.2.2.2.1
  have z7 := fun y : Gr W1 => (CQ y).2.2.2.2.2.2.2
  have v0 := fun y : Gr W1 => (CS y).1
  have v1 := fun y : Gr W1 => (CS y).2.1
  have v2 := fun y : Gr W1 => (CS y).2.2.1
  have v3 := fun y : Gr W1 => (CS y).2.2.2.1
  have v4 := fun y : Gr W1 => (CS y).2.2.2.2
  have hne : Nonempty (Gr W1) := ⟨W1, grown_refl _ _⟩
  have FIN : Hid (∀ y : Gr W1, w.grownBy y.now none) := fun y => grown_tr G1.out y.grown
  clear hB hR hn hb hs CC CQ CS PL hk
  cases h0 : (a.p.pa == 0) with
  | false =>
    have E : Hid (false = B) := by have := HB.out; rw [h0] at this; show _ = _; simpa using this
    go_enter Try.func77, Try.ntmps77
    go_upto_region 2 with (refine load_p w.heap.size 3 a.p rfl PI.out ?_)
    rw [← HQ.out, ← HW1.out]
    refine wp_region_quiet_at (C := fun w' => ∃ y : Gr W1, w' = y.now) (by kernel_rfl) (by kernel_rfl) ⟨⟨_, grown_drewN (grown_refl _ _) 1⟩, rfl⟩ ?_
    repeat (go_big_quiet_step ((first | (go_at_call 54; refine Gr.call (PLO _)) | (go_at_call 100; refine Gr.call (PT _)))))
    refine wpQuiet_nil ?_
    rintro _ ⟨y, rfl⟩
    go_wp2_with fail
    go_ret
    exact ⟨by rw [← E.out]; rfl, FIN.out y⟩
  | true =>
    cases h1 : (a.p.ot == a.la) with
    | false =>
      have E : Hid (false = B) := by have := HB.out; rw [h0, h1] at this; show _ = _; simpa using this
      go_enter Try.func77, Try.ntmps77
      go_upto_region 2 with (refine load_p w.heap.size 3 a.p rfl PI.out ?_)
      rw [← HQ.out, ← HW1.out]
      refine wp_region_quiet_at (C := fun w' => ∃ y : Gr W1, w' = y.now) (by kernel_rfl) (by kernel_rfl) ⟨⟨_, grown_drewN (grown_refl _ _) 1⟩, rfl⟩ ?_
      repeat (go_big_quiet_step ((first | (go_at_call 54; refine Gr.call (PLO _)) | (go_at_call 100; refine Gr.call (PT _)))))
      refine wpQuiet_nil ?_
      rintro _ ⟨y, rfl⟩
      go_wp2_with fail
      go_ret
      exact ⟨by rw [← E.out]; rfl, FIN.out y⟩
    | true =>
      cases h2 : decide (pl < 0) with
      | false =>
        have E : Hid (false = B) := by have := HB.out; rw [h0, h1, h2] at this; show _ = _; simpa using this
        go_enter Try.func77, Try.ntmps77
        go_upto_region 2 with (refine load_p w.heap.size 3 a.p rfl PI.out ?_)
        rw [← HQ.out, ← HW1.out]
        refine wp_region_quiet_at (C := fun w' => ∃ y : Gr W1, w' = y.now) (by kernel_rfl) (by kernel_rfl) ⟨⟨_, grown_drewN (grown_refl _ _) 1⟩, rfl⟩ ?_
        repeat (go_big_quiet_step ((first | (go_at_call 54; refine Gr.call (PLO _)) | (go_at_call 100; refine Gr.call (PT _)))))
        refine wpQuiet_nil ?_
        rintro _ ⟨y, rfl⟩
        go_wp2_with fail
        go_ret
        exact ⟨by rw [← E.out]; rfl, FIN.out y⟩
      | true =>
        cases h3 : parts s a.p.key with
        | false =>
          rw [h3] at PT
          have E : Hid (false = B) := by have := HB.out; rw [h0, h1, h2, h3] at this; show _ = _; simpa using this
          go_enter Try.func77, Try.ntmps77
          go_upto_region 2 with (refine load_p w.heap.size 3 a.p rfl PI.out ?_)
          rw [← HQ.out, ← HW1.out]
          refine wp_region_quiet_at (C := fun w' => ∃ y : Gr W1, w' = y.now) (by kernel_rfl) (by kernel_rfl) ⟨⟨_, grown_drewN (grown_refl _ _) 1⟩, rfl⟩ ?_
          repeat (go_big_quiet_step ((first | (go_at_call 54; refine Gr.call (PLO _)) | (go_at_call 100; refine Gr.call (PT _)))))
          refine wpQuiet_nil ?_
          rintro _ ⟨y, rfl⟩
          go_wp2_with fail
          go_ret
          exact ⟨by rw [← E.out]; rfl, FIN.out y⟩
        | true =>
          rw [h3] at PT
          cases h4 : decide ((un : Int) < 16) with
          | false =>
            have E : Hid (false = B) := by have := HB.out; rw [h0, h1, h2, h3, h4] at this; show _ = _; simpa using this
            go_enter Try.func77, Try.ntmps77
            go_upto_region 2 with (refine load_p w.heap.size 3 a.p rfl PI.out ?_)
            rw [← HQ.out, ← HW1.out]
            refine wp_region_quiet_at (C := fun w' => ∃ y : Gr W1, w' = y.now) (by kernel_rfl) (by kernel_rfl) ⟨⟨_, grown_drewN (grown_refl _ _) 1⟩, rfl⟩ ?_
            repeat (go_big_quiet_step ((first | (go_at_call 54; refine Gr.call (PLO _)) | (go_at_call 100; refine Gr.call (PT _)))))
            refine wpQuiet_nil ?_
            rintro _ ⟨y, rfl⟩
            go_wp2_with fail
            go_ret
            exact ⟨by rw [← E.out]; rfl, FIN.out y⟩
          | true =>
            have E : Hid (true = B) := by have := HB.out; rw [h0, h1, h2, h3, h4] at this; show _ = _; simpa using this
            go_enter Try.func77, Try.ntmps77
            go_upto_region 2 with (refine load_p w.heap.size 3 a.p rfl PI.out ?_)
            rw [← HQ.out, ← HW1.out]
            refine wp_region_quiet_at (C := fun w' => ∃ y : Gr W1, w' = y.now) (by kernel_rfl) (by kernel_rfl) ⟨⟨_, grown_drewN (grown_refl _ _) 1⟩, rfl⟩ ?_
            repeat (go_big_quiet_step ((first | (go_at_call 54; refine Gr.call (PLO _)) | (go_at_call 100; refine Gr.call (PT _)))))
            refine wpQuiet_nil ?_
            rintro _ ⟨y, rfl⟩
            go_wp2_with fail
            go_ret
            exact ⟨by rw [← E.out]; rfl, FIN.out y⟩
end Go.Proofs.Ytlolhdijadhklaa
