/- rightMove. -/
import Derived.Test.YtlolhdijadhklaaAPlace
namespace Go.Proofs.Ytlolhdijadhklaa
open Go.RowKit Atl
set_option linter.unusedVariables false
set_option maxRecDepth 10000

theorem moveB_is (g : Int) (p : Pl) : moveB g p = ((p.gp != p.pa) && (isG g p.gp && (isG g p.pa && ((p.ot == 0) && (p.key.toList == []))))) := by
  unfold moveB
  rw [Bool.eq_iff_iff]
  simp [and_assoc]
set_option maxRecDepth 100000 in
set_option maxHeartbeats 6400000 in
theorem move_any (a : Am) (u : S3) (w : World) : Calls Try.prog 76 #[av a u] w fun e w' => e = .returned (.bool (moveB a.g a.p)) ∧ w.grownBy w' none := by
  have GP := fun n => group_any a u n
  obtain ⟨W1, hW1⟩ : ∃ W1, W1 = (w.alloc (.cells (aa a u) 26)).alloc (.cells (pa a.p) 24) := ⟨_, rfl⟩
  obtain ⟨Q, hQ⟩ : ∃ Q, Q = w.heap.size := ⟨_, rfl⟩
  have hq : (w.alloc (.cells (aa a u) 26)).heap.size = Q + 1 := by rw [hQ]; simp
  have G1 : Hid (w.grownBy W1 none) := by rw [hW1]; exact grown_tr (World.grownBy_alloc _ _ none) (World.grownBy_alloc _ _ none)
  have CA : Hid (∀ W, W1.grownBy W none → W.rangeAt Q 0 (ac a u)) := fun W g => by rw [hW1] at g; rw [hQ]; exact (cs_new (grown_tr (World.grownBy_alloc _ _ none) g)).1
  have CP : Hid (∀ W, W1.grownBy W none → W.rangeAt (Q + 1) 0 (pc a.p)) := fun W g => by rw [hW1] at g; rw [← hq]; exact (cs_new g).1
  have GA : Hid (w.grownBy (w.alloc (.cells (aa a u) 26)) none) := World.grownBy_alloc _ _ none
  have PI : Hid ((w.alloc (.cells (aa a u) 26)).rangeAt w.heap.size 3 (pc a.p)) := plan_in (cs_new (grown_refl _ _)).1
  have HW1 : Hid (W1 = _) := hW1
  have HQ : Hid (Q = w.heap.size) := hQ
  clear hW1 hq hQ
  generalize hB : moveB a.g a.p = B
  rw [moveB_is] at hB
  have HB : Hid _ := hB
  replace HB : Hid (((a.p.gp != a.p.pa) && (isG a.g a.p.gp && (isG a.g a.p.pa && ((a.p.ot == 0) && (a.p.key.toList == []))))) = B) := hB
  clear hB
  obtain ⟨b0, b1, b2, b3, b4, b5, b6, b7⟩ := cells_p (CP.out W1 (grown_refl _ _))
  have GA1 := GP a.p.gp
  have GA2 := GP a.p.pa
  clear GP
  cases h0 : (a.p.gp != a.p.pa) with
  | false =>
    have k0 : (a.p.gp == a.p.pa) = true := by simpa using h0
    have E : Hid (false = B) := by have := HB.out; rw [h0] at this; show _ = _; simpa using this
    go_enter Try.func76, Try.ntmps76
    go_upto_region 2 with (refine load_p w.heap.size 3 a.p rfl PI.out ?_)
    rw [← HQ.out, ← HW1.out]
    go_wp2_with fail
    go_ret
    exact ⟨by rw [← E.out]; rfl, G1.out⟩
  | true =>
    have k0 : (a.p.gp == a.p.pa) = false := by simpa using h0
    cases h1 : isG a.g a.p.gp with
    | false =>
      rw [h1] at GA1
      have E : Hid (false = B) := by have := HB.out; rw [h0, h1] at this; show _ = _; simpa using this
      go_enter Try.func76, Try.ntmps76
      go_upto_region 2 with (refine load_p w.heap.size 3 a.p rfl PI.out ?_)
      rw [← HQ.out, ← HW1.out]
      go_wp2_with (first | (refine load_ag Q 0 a u (by rfl) rfl (CA.out W1 (grown_refl _ _)) ?_) | (go_at_call 72; (with_reducible refine (GA1 _).mono ?_); rintro e w2 ⟨rfl, g2⟩; obtain ⟨c0, c1, c2, c3, c4, c5, c6, c7⟩ := cells_p (CP.out w2 g2)))
      go_ret
      exact ⟨by rw [← E.out]; rfl, (grown_tr G1.out g2)⟩
    | true =>
      rw [h1] at GA1
      cases h2 : isG a.g a.p.pa with
      | false =>
        rw [h2] at GA2
        have E : Hid (false = B) := by have := HB.out; rw [h0, h1, h2] at this; show _ = _; simpa using this
        go_enter Try.func76, Try.ntmps76
        go_upto_region 2 with (refine load_p w.heap.size 3 a.p rfl PI.out ?_)
        rw [← HQ.out, ← HW1.out]
        go_wp2_with (first | (refine load_ag Q 0 a u (by rfl) rfl (CA.out W1 (grown_refl _ _)) ?_) | (go_at_call 72; (with_reducible refine (GA1 _).mono ?_); rintro e w2 ⟨rfl, g2⟩; obtain ⟨c0, c1, c2, c3, c4, c5, c6, c7⟩ := cells_p (CP.out w2 g2)) | (refine load_ag Q 0 a u (by rfl) rfl (CA.out w2 g2) ?_) | (go_at_call 72; (with_reducible refine (GA2 _).mono ?_); rintro e w3 ⟨rfl, g3⟩; obtain ⟨d0, d1, d2, d3, d4, d5, d6, d7⟩ := cells_p (CP.out w3 (grown_tr g2 g3))))
        go_ret
        exact ⟨by rw [← E.out]; rfl, (grown_tr G1.out (grown_tr g2 g3))⟩
      | true =>
        rw [h2] at GA2
        cases h3 : (a.p.ot == 0) with
        | false =>
          have E : Hid (false = B) := by have := HB.out; rw [h0, h1, h2, h3] at this; show _ = _; simpa using this
          go_enter Try.func76, Try.ntmps76
          go_upto_region 2 with (refine load_p w.heap.size 3 a.p rfl PI.out ?_)
          rw [← HQ.out, ← HW1.out]
          go_wp2_with (first | (refine load_ag Q 0 a u (by rfl) rfl (CA.out W1 (grown_refl _ _)) ?_) | (go_at_call 72; (with_reducible refine (GA1 _).mono ?_); rintro e w2 ⟨rfl, g2⟩; obtain ⟨c0, c1, c2, c3, c4, c5, c6, c7⟩ := cells_p (CP.out w2 g2)) | (refine load_ag Q 0 a u (by rfl) rfl (CA.out w2 g2) ?_) | (go_at_call 72; (with_reducible refine (GA2 _).mono ?_); rintro e w3 ⟨rfl, g3⟩; obtain ⟨d0, d1, d2, d3, d4, d5, d6, d7⟩ := cells_p (CP.out w3 (grown_tr g2 g3))))
          go_ret
          exact ⟨by rw [← E.out]; rfl, (grown_tr G1.out (grown_tr g2 g3))⟩
        | true =>
          cases h4 : (a.p.key.toList == []) with
          | false =>
            have E : Hid (false = B) := by have := HB.out; rw [h0, h1, h2, h3, h4] at this; show _ = _; simpa using this
            go_enter Try.func76, Try.ntmps76
            go_upto_region 2 with (refine load_p w.heap.size 3 a.p rfl PI.out ?_)
            rw [← HQ.out, ← HW1.out]
            go_wp2_with (first | (refine load_ag Q 0 a u (by rfl) rfl (CA.out W1 (grown_refl _ _)) ?_) | (go_at_call 72; (with_reducible refine (GA1 _).mono ?_); rintro e w2 ⟨rfl, g2⟩; obtain ⟨c0, c1, c2, c3, c4, c5, c6, c7⟩ := cells_p (CP.out w2 g2)) | (refine load_ag Q 0 a u (by rfl) rfl (CA.out w2 g2) ?_) | (go_at_call 72; (with_reducible refine (GA2 _).mono ?_); rintro e w3 ⟨rfl, g3⟩; obtain ⟨d0, d1, d2, d3, d4, d5, d6, d7⟩ := cells_p (CP.out w3 (grown_tr g2 g3))))
            go_ret
            exact ⟨by rw [← E.out]; rfl, (grown_tr G1.out (grown_tr g2 g3))⟩
          | true =>
            have E : Hid (true = B) := by have := HB.out; rw [h0, h1, h2, h3, h4] at this; show _ = _; simpa using this
            go_enter Try.func76, Try.ntmps76
            go_upto_region 2 with (refine load_p w.heap.size 3 a.p rfl PI.out ?_)
            rw [← HQ.out, ← HW1.out]
            go_wp2_with (first | (refine load_ag Q 0 a u (by rfl) rfl (CA.out W1 (grown_refl _ _)) ?_) | (go_at_call 72; (with_reducible refine (GA1 _).mono ?_); rintro e w2 ⟨rfl, g2⟩; obtain ⟨c0, c1, c2, c3, c4, c5, c6, c7⟩ := cells_p (CP.out w2 g2)) | (refine load_ag Q 0 a u (by rfl) rfl (CA.out w2 g2) ?_) | (go_at_call 72; (with_reducible refine (GA2 _).mono ?_); rintro e w3 ⟨rfl, g3⟩; obtain ⟨d0, d1, d2, d3, d4, d5, d6, d7⟩ := cells_p (CP.out w3 (grown_tr g2 g3))))
            go_ret
            exact ⟨by rw [← E.out]; rfl, (grown_tr G1.out (grown_tr g2 g3))⟩
end Go.Proofs.Ytlolhdijadhklaa
