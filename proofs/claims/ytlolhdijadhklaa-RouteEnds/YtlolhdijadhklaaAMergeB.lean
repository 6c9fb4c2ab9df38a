/- rightMerge. -/
import Derived.Test.YtlolhdijadhklaaANext
namespace Go.Proofs.Ytlolhdijadhklaa
open Go.RowKit Atl
set_option linter.unusedVariables false
set_option maxRecDepth 10000

set_option maxRecDepth 100000 in
set_option maxHeartbeats 6400000 in
theorem mergep_any (a : Am) (u : S3) (i : Nat) (w : World) (h : Rat w a u) (hi : i < a.l.length) : Calls Try.prog 78 #[av a u, .int .i64 (i : Int)] w fun e w' => e = .returned (.bool (mergeB a.l a.p i)) ∧ w.grownBy w' none := by
  have NX : Hid (∀ W, w.grownBy W none → _) := fun W g => next_any a u i W (h.grown g) hi
  obtain ⟨W1, hW1⟩ : ∃ W1, W1 = (w.alloc (.cells (aa a u) 26)).alloc (.cells (pa a.p) 24) := ⟨_, rfl⟩
  obtain ⟨Q, hQ⟩ : ∃ Q, Q = w.heap.size := ⟨_, rfl⟩
  have hq : (w.alloc (.cells (aa a u) 26)).heap.size = Q + 1 := by rw [hQ]; simp
  have G1 : Hid (w.grownBy W1 none) := by rw [hW1]; exact grown_tr (World.grownBy_alloc _ _ none) (World.grownBy_alloc _ _ none)
  have CA : Hid (∀ W, W1.grownBy W none → W.rangeAt Q 0 (ac a u)) := fun W g => by rw [hW1] at g; rw [hQ]; exact (cs_new (grown_tr (World.grownBy_alloc _ _ none) g)).1
  have CP : Hid (∀ W, W1.grownBy W none → W.rangeAt (Q + 1) 0 (pc a.p)) := fun W g => by rw [hW1] at g; rw [← hq]; exact (cs_new g).1
  have GA : Hid (w.grownBy (w.alloc (.cells (aa a u) 26)) none) := World.grownBy_alloc _ _ none
  have PI : Hid ((w.alloc (.cells (aa a u) 26)).rangeAt w.heap.size 3 (pc a.p)) := plan_in (cs_new (grown_refl _ _)).1
  have HW1 : Hid (W1 = _) := hW1
  have HQ : Hid (Q = w.heap.size) := hQ
  clear hW1 hq hQ
  have eB : mergeB a.l a.p i = (decide (i + 1 < a.l.length) && ((a.p.ot == (a.l.getD (i + 1) zS).sh) && ((a.p.gp == (a.l.getD (i + 1) zS).gr) && (mR (a.l.getD (i + 1) zS).ep && ((a.p.pa == 0) && (a.p.key.toList == [])))))) := by
    unfold mergeB
    by_cases hl : i + 1 < a.l.length
    · rw [List.getElem?_eq_getElem hl, List.getD_eq_getElem?_getD, List.getElem?_eq_getElem hl]
      rw [Bool.eq_iff_iff]
      simp [and_assoc, hl]
    · rw [List.getElem?_eq_none (by omega), decide_eq_false hl]
      rfl
  rw [eB]
  have NY := NX.out W1 G1.out
  have RS := rise_any (a.l.getD (i + 1) zS).ep
  clear h hi eB NX
  generalize a.l.getD (i + 1) zS = t at *
  generalize decide (i + 1 < a.l.length) = b at *
  generalize hB : (b && ((a.p.ot == t.sh) && ((a.p.gp == t.gr) && (mR t.ep && ((a.p.pa == 0) && (a.p.key.toList == [])))))) = B
  have HB : Hid ((b && ((a.p.ot == t.sh) && ((a.p.gp == t.gr) && (mR t.ep && ((a.p.pa == 0) && (a.p.key.toList == [])))))) = B) := hB
  clear hB
  cases h0 : b with
  | false =>
    have E : Hid (false = B) := by have := HB.out; rw [h0] at this; show _ = _; simpa using this
    go_enter Try.func78, Try.ntmps78
    go_upto_region 2 with (refine load_p w.heap.size 3 a.p rfl PI.out ?_)
    rw [← HQ.out, ← HW1.out]
    go_upto_region 3 with (first | (refine load_a Q 0 a u rfl (CA.out W1 (grown_refl _ _)) ?_) | (go_at_call 101; (with_reducible refine NY.mono ?_); rintro e w2 ⟨rfl, g2⟩))
    obtain ⟨c0, c1, c2, c3, c4, c5, c6, c7⟩ := cells_p (CP.out (w2.alloc (.cells (sa t) 29)) (grown_alloc g2 _))
    obtain ⟨f0, f1, f2, f3, f4⟩ := cells_s (cs_new (grown_refl (w2.alloc (.cells (sa t) 29)) none)).1
    have G3 : Hid (w.grownBy (w2.alloc (.cells (sa t) 29)) none) := grown_tr G1.out (grown_alloc g2 _)
    clear c0 c1 c2 c6 f0 f1 g2
    generalize w2.alloc (.cells (sa t) 29) = w3 at *
    generalize w2.heap.size = q3 at *
    go_wp2_with (go_at_call 74; (with_reducible refine (RS _).mono ?_); rintro e w4 ⟨rfl, e4⟩; have e4' := e4.symm; clear e4; subst e4')
    go_ret
    exact ⟨by rw [← E.out]; rfl, G3.out⟩
  | true =>
    cases h1 : (a.p.ot == t.sh) with
    | false =>
      have E : Hid (false = B) := by have := HB.out; rw [h0, h1] at this; show _ = _; simpa using this
      go_enter Try.func78, Try.ntmps78
      go_upto_region 2 with (refine load_p w.heap.size 3 a.p rfl PI.out ?_)
      rw [← HQ.out, ← HW1.out]
      go_upto_region 3 with (first | (refine load_a Q 0 a u rfl (CA.out W1 (grown_refl _ _)) ?_) | (go_at_call 101; (with_reducible refine NY.mono ?_); rintro e w2 ⟨rfl, g2⟩))
      obtain ⟨c0, c1, c2, c3, c4, c5, c6, c7⟩ := cells_p (CP.out (w2.alloc (.cells (sa t) 29)) (grown_alloc g2 _))
      obtain ⟨f0, f1, f2, f3, f4⟩ := cells_s (cs_new (grown_refl (w2.alloc (.cells (sa t) 29)) none)).1
      have G3 : Hid (w.grownBy (w2.alloc (.cells (sa t) 29)) none) := grown_tr G1.out (grown_alloc g2 _)
      clear c0 c1 c2 c6 f0 f1 g2
      generalize w2.alloc (.cells (sa t) 29) = w3 at *
      generalize w2.heap.size = q3 at *
      go_wp2_with (go_at_call 74; (with_reducible refine (RS _).mono ?_); rintro e w4 ⟨rfl, e4⟩; have e4' := e4.symm; clear e4; subst e4')
      go_ret
      exact ⟨by rw [← E.out]; rfl, G3.out⟩
    | true =>
      cases h2 : (a.p.gp == t.gr) with
      | false =>
        have E : Hid (false = B) := by have := HB.out; rw [h0, h1, h2] at this; show _ = _; simpa using this
        go_enter Try.func78, Try.ntmps78
        go_upto_region 2 with (refine load_p w.heap.size 3 a.p rfl PI.out ?_)
        rw [← HQ.out, ← HW1.out]
        go_upto_region 3 with (first | (refine load_a Q 0 a u rfl (CA.out W1 (grown_refl _ _)) ?_) | (go_at_call 101; (with_reducible refine NY.mono ?_); rintro e w2 ⟨rfl, g2⟩))
        obtain ⟨c0, c1, c2, c3, c4, c5, c6, c7⟩ := cells_p (CP.out (w2.alloc (.cells (sa t) 29)) (grown_alloc g2 _))
        obtain ⟨f0, f1, f2, f3, f4⟩ := cells_s (cs_new (grown_refl (w2.alloc (.cells (sa t) 29)) none)).1
        have G3 : Hid (w.grownBy (w2.alloc (.cells (sa t) 29)) none) := grown_tr G1.out (grown_alloc g2 _)
        clear c0 c1 c2 c6 f0 f1 g2
        generalize w2.alloc (.cells (sa t) 29) = w3 at *
        generalize w2.heap.size = q3 at *
        go_wp2_with (go_at_call 74; (with_reducible refine (RS _).mono ?_); rintro e w4 ⟨rfl, e4⟩; have e4' := e4.symm; clear e4; subst e4')
        go_ret
        exact ⟨by rw [← E.out]; rfl, G3.out⟩
      | true =>
        cases h3 : mR t.ep with
        | false =>
          rw [h3] at RS
          have E : Hid (false = B) := by have := HB.out; rw [h0, h1, h2, h3] at this; show _ = _; simpa using this
          go_enter Try.func78, Try.ntmps78
          go_upto_region 2 with (refine load_p w.heap.size 3 a.p rfl PI.out ?_)
          rw [← HQ.out, ← HW1.out]
          go_upto_region 3 with (first | (refine load_a Q 0 a u rfl (CA.out W1 (grown_refl _ _)) ?_) | (go_at_call 101; (with_reducible refine NY.mono ?_); rintro e w2 ⟨rfl, g2⟩))
          obtain ⟨c0, c1, c2, c3, c4, c5, c6, c7⟩ := cells_p (CP.out (w2.alloc (.cells (sa t) 29)) (grown_alloc g2 _))
          obtain ⟨f0, f1, f2, f3, f4⟩ := cells_s (cs_new (grown_refl (w2.alloc (.cells (sa t) 29)) none)).1
          have G3 : Hid (w.grownBy (w2.alloc (.cells (sa t) 29)) none) := grown_tr G1.out (grown_alloc g2 _)
          clear c0 c1 c2 c6 f0 f1 g2
          generalize w2.alloc (.cells (sa t) 29) = w3 at *
          generalize w2.heap.size = q3 at *
          go_wp2_with (go_at_call 74; (with_reducible refine (RS _).mono ?_); rintro e w4 ⟨rfl, e4⟩; have e4' := e4.symm; clear e4; subst e4')
          go_ret
          exact ⟨by rw [← E.out]; rfl, G3.out⟩
        | true =>
          rw [h3] at RS
          cases h4 : (a.p.pa == 0) with
          | false =>
            have E : Hid (false = B) := by have := HB.out; rw [h0, h1, h2, h3, h4] at this; show _ = _; simpa using this
            go_enter Try.func78, Try.ntmps78
            go_upto_region 2 with (refine load_p w.heap.size 3 a.p rfl PI.out ?_)
            rw [← HQ.out, ← HW1.out]
            go_upto_region 3 with (first | (refine load_a Q 0 a u rfl (CA.out W1 (grown_refl _ _)) ?_) | (go_at_call 101; (with_reducible refine NY.mono ?_); rintro e w2 ⟨rfl, g2⟩))
            obtain ⟨c0, c1, c2, c3, c4, c5, c6, c7⟩ := cells_p (CP.out (w2.alloc (.cells (sa t) 29)) (grown_alloc g2 _))
            obtain ⟨f0, f1, f2, f3, f4⟩ := cells_s (cs_new (grown_refl (w2.alloc (.cells (sa t) 29)) none)).1
            have G3 : Hid (w.grownBy (w2.alloc (.cells (sa t) 29)) none) := grown_tr G1.out (grown_alloc g2 _)
            clear c0 c1 c2 c6 f0 f1 g2
            generalize w2.alloc (.cells (sa t) 29) = w3 at *
            generalize w2.heap.size = q3 at *
            go_wp2_with (go_at_call 74; (with_reducible refine (RS _).mono ?_); rintro e w4 ⟨rfl, e4⟩; have e4' := e4.symm; clear e4; subst e4')
            go_ret
            exact ⟨by rw [← E.out]; rfl, G3.out⟩
          | true =>
            cases h5 : (a.p.key.toList == []) with
            | false =>
              have E : Hid (false = B) := by have := HB.out; rw [h0, h1, h2, h3, h4, h5] at this; show _ = _; simpa using this
              go_enter Try.func78, Try.ntmps78
              go_upto_region 2 with (refine load_p w.heap.size 3 a.p rfl PI.out ?_)
              rw [← HQ.out, ← HW1.out]
              go_upto_region 3 with (first | (refine load_a Q 0 a u rfl (CA.out W1 (grown_refl _ _)) ?_) | (go_at_call 101; (with_reducible refine NY.mono ?_); rintro e w2 ⟨rfl, g2⟩))
              obtain ⟨c0, c1, c2, c3, c4, c5, c6, c7⟩ := cells_p (CP.out (w2.alloc (.cells (sa t) 29)) (grown_alloc g2 _))
              obtain ⟨f0, f1, f2, f3, f4⟩ := cells_s (cs_new (grown_refl (w2.alloc (.cells (sa t) 29)) none)).1
              have G3 : Hid (w.grownBy (w2.alloc (.cells (sa t) 29)) none) := grown_tr G1.out (grown_alloc g2 _)
              clear c0 c1 c2 c6 f0 f1 g2
              generalize w2.alloc (.cells (sa t) 29) = w3 at *
              generalize w2.heap.size = q3 at *
              go_wp2_with (go_at_call 74; (with_reducible refine (RS _).mono ?_); rintro e w4 ⟨rfl, e4⟩; have e4' := e4.symm; clear e4; subst e4')
              go_ret
              exact ⟨by rw [← E.out]; rfl, G3.out⟩
            | true =>
              have E : Hid (true = B) := by have := HB.out; rw [h0, h1, h2, h3, h4, h5] at this; show _ = _; simpa using this
              go_enter Try.func78, Try.ntmps78
              go_upto_region 2 with (refine load_p w.heap.size 3 a.p rfl PI.out ?_)
              rw [← HQ.out, ← HW1.out]
              go_upto_region 3 with (first | (refine load_a Q 0 a u rfl (CA.out W1 (grown_refl _ _)) ?_) | (go_at_call 101; (with_reducible refine NY.mono ?_); rintro e w2 ⟨rfl, g2⟩))
              obtain ⟨c0, c1, c2, c3, c4, c5, c6, c7⟩ := cells_p (CP.out (w2.alloc (.cells (sa t) 29)) (grown_alloc g2 _))
              obtain ⟨f0, f1, f2, f3, f4⟩ := cells_s (cs_new (grown_refl (w2.alloc (.cells (sa t) 29)) none)).1
              have G3 : Hid (w.grownBy (w2.alloc (.cells (sa t) 29)) none) := grown_tr G1.out (grown_alloc g2 _)
              clear c0 c1 c2 c6 f0 f1 g2
              generalize w2.alloc (.cells (sa t) 29) = w3 at *
              generalize w2.heap.size = q3 at *
              go_wp2_with (go_at_call 74; (with_reducible refine (RS _).mono ?_); rintro e w4 ⟨rfl, e4⟩; have e4' := e4.symm; clear e4; subst e4')
              go_ret
              exact ⟨by rw [← E.out]; rfl, G3.out⟩
end Go.Proofs.Ytlolhdijadhklaa
