/- rightSpans. -/
import Derived.Test.YtlolhdijadhklaaAPlace
import Derived.Test.YtlolhdijadhklaaAJoin
namespace Go.Proofs.Ytlolhdijadhklaa
open Go.RowKit Atl
set_option linter.unusedVariables false
set_option maxRecDepth 10000

theorem spansB_is (a : Am) : spansB a = ((decide (1 ≤ a.g) && decide (a.g ≤ 8)) && (decide (a.la ≤ 1099511627776) && (decide (1 ≤ a.l.length) && (decide (a.l.length ≤ 16) && (okF a.g a.la a.l 0 (a.l.drop 0) && jnF em a.l))))) := by
  unfold spansB
  simp [Bool.and_assoc]
theorem plc_ne {l : List Sp} {i : Nat} {s : Sp} (h : l[i]? = some s) : (plc l s.sh != (i : Int)) = !decide (idx l s.sh = i) ∧ (plc l s.sh == (i : Int)) = decide (idx l s.sh = i) := by
  have h1 := idx_le h
  have h2 := (List.getElem?_eq_some_iff.1 h).1
  have e : plc l s.sh = (idx l s.sh : Int) := by unfold plc; rw [if_pos (by omega)]
  have k : (plc l s.sh == (i : Int)) = decide (idx l s.sh = i) := by
    rw [e, Bool.eq_iff_iff]
    simp
    omega
  exact ⟨by rw [bne, k], k⟩
set_option maxRecDepth 100000 in
set_option maxHeartbeats 6400000 in
theorem spans_any (a : Am) (u : S3) (w : World) (h : Rat w a u) (hz : Szl a.l) : Calls Try.prog 43 #[av a u] w fun e w' => e = .returned (.bool (spansB a)) ∧ w.grownBy w' none := by
  have JN : Hid (∀ W v, eS.Rx W v a.l → _) := fun W v k => joined_any v a.l W k (by have := h.2.2; omega) hz
  have GR := groups_any a.g
  clear hz
  obtain ⟨hR, hn, hb⟩ := h
  have HP : Hid (∀ W x, w.grownBy W none → _) := fun W x g => place_any a u x W (⟨hR.grown g, hn, hb⟩ : Rat W a u)
  obtain ⟨W1, hW1⟩ : ∃ W1, W1 = w.alloc (.cells (aa a u) 26) := ⟨_, rfl⟩
  obtain ⟨Q, hQ⟩ : ∃ Q, Q = w.heap.size := ⟨_, rfl⟩
  have G1 : Hid (w.grownBy W1 none) := by rw [hW1]; exact World.grownBy_alloc _ _ none
  have CA : Hid (∀ W, W1.grownBy W none → W.rangeAt Q 0 (ac a u)) := fun W g => by rw [hW1] at g; rw [hQ]; exact (cs_new g).1
  obtain ⟨N, hN⟩ : ∃ N, a.l.length = N := ⟨_, rfl⟩
  have NL : Hid (a.l.length = N) := hN
  obtain ⟨ua, un, uc⟩ := u
  simp only at hn hR HP CA hW1 ⊢
  rw [hN] at hn hb
  subst hn
  have HX : Hid (∀ W, W1.grownBy W none → eS.Rx W (.slice ua un uc) a.l) := fun W g => hR.grown (grown_tr G1.out g)
  have un16 : (un : Int) ≤ 9223372036854775807 := by omega
  obtain ⟨a0, a1, a2, a3, a4, a5, a6, a7, a8, a9, a10⟩ := cells_a (CA.out W1 (grown_refl _ _))
  have HW1 : Hid (W1 = _) := hW1
  have HQ : Hid (Q = w.heap.size) := hQ
  clear a3 a4 a5 a6 a7 a8 a9 a10
  generalize hB : spansB a = B
  rw [spansB_is, NL.out] at hB
  have HB : Hid ((decide (1 ≤ a.g) && decide (a.g ≤ 8) && (decide (a.la ≤ 1099511627776) && (decide (1 ≤ un) && (decide (un ≤ 16) && (okF a.g a.la a.l 0 (a.l.drop 0) && jnF em a.l))))) = B) := hB
  clear hB hR hW1 hQ hb hN
  cases hG : (decide (1 ≤ a.g) && decide (a.g ≤ 8)) with
  | false =>
    rw [hG] at GR
    have E : Hid (false = B) := by have := HB.out; rw [hG] at this; show _ = _; simpa using this
    go_enter Try.func43, Try.ntmps43
    go_upto_region 1 with fail
    rw [← HQ.out, ← HW1.out]
    go_wp2_with (go_at_call 42; (with_reducible refine (GR _).mono ?_); rintro e w2 ⟨rfl, e2⟩; have e2' := e2.symm; clear e2; subst e2')
    go_ret
    exact ⟨by rw [← E.out]; rfl, G1.out⟩
  | true =>
    rw [hG] at GR
    by_cases hL : a.la ≤ 1099511627776
    · by_cases h1 : 1 ≤ un
      · by_cases h2 : un ≤ 16
        · have I0 : Hid ((okF a.g a.la a.l 0 (a.l.drop 0) && jnF em a.l) = B) := by have := HB.out; rw [hG, decide_eq_true hL, decide_eq_true h1, decide_eq_true h2] at this; show _ = _; simpa using this
          have d1 : decide (1099511627776 < a.la) = false := decide_eq_false (by omega)
          have d2 : decide ((un : Int) < 1) = false := decide_eq_false (by omega)
          have d3 : decide (16 < (un : Int)) = false := decide_eq_false (by omega)
          have k1 : ¬ 1099511627776 < a.la := by omega
          have k2 : ¬ (un : Int) < 1 := by omega
          have k3 : ¬ 16 < (un : Int) := by omega
          clear HB hG hL
          have EP := epoch_any
          have GP := fun n => group_any a ⟨ua, un, uc⟩ n
          go_enter Try.func43, Try.ntmps43
          go_upto_region 1 with fail
          rw [← HQ.out, ← HW1.out]
          go_wp2_with (go_at_call 42; (with_reducible refine (GR _).mono ?_); rintro e w2 ⟨rfl, e2⟩; have e2' := e2.symm; clear e2; subst e2')
          clear GR d1 d2 d3 k1 k2 k3
          have G0 : Hid (W1.grownBy W1 none) := grown_refl _ _
          go_loopw [3, 4, 29] (fun _ _ i wr => ∃ j : Nat, j ≤ un ∧ i = .int .i64 (j : Int) ∧ Hid ((okF a.g a.la a.l j (a.l.drop j) && jnF em a.l) = B) ∧ Hid (W1.grownBy wr none)) (fun _ _ i _ => un - (intOf i).toNat)
          case atStart => exact ⟨0, by omega, rfl, I0, G0⟩
          case round =>
            clear I0 G0 a0 a1 a2
            obtain ⟨j, hj, rfl, I, G⟩ := hrel
            by_cases hlt : j < un
            · obtain ⟨s, hy⟩ : ∃ y, a.l[j]? = some y := ⟨_, List.getElem?_eq_getElem (by rw [NL.out]; exact hlt)⟩
              have I1 : Hid ((okS a.g a.la a.l j s && okF a.g a.la a.l (j + 1) (a.l.drop (j + 1)) && jnF em a.l) = B) := by
                have := I.out
                rw [drop_at hy, okF] at this
                exact this
              obtain ⟨g, o, e1, r1⟩ := range_at (HX.out wr G.out) hy
              have RG : Hid (wr.rangeAt g (o + j * 5) (sc s)) := r1
              obtain ⟨q, hq⟩ : ∃ q, q = wr.heap.size := ⟨_, rfl⟩
              obtain ⟨W2, hW2⟩ : ∃ W2, W2 = wr.alloc (.cells (sa s) 29) := ⟨_, rfl⟩
              have G2 : Hid (W1.grownBy W2 none) := by rw [hW2]; exact grown_alloc G.out _
              have SB : Hid (∀ W, W2.grownBy W none → W.rangeAt q 0 (sc s)) := fun W g => by rw [hW2] at g; rw [hq]; exact (cs_new g).1
              have HW2 : Hid (W2 = _) := hW2
              have HQ2 : Hid (q = wr.heap.size) := hq
              obtain ⟨b0, b1, b2, b3, b4⟩ := cells_s (SB.out W2 (grown_refl _ _))
              obtain ⟨a0, a1, a2, a3, a4, a5, a6, a7, a8, a9, a10⟩ := cells_a (CA.out W2 G2.out)
              obtain ⟨z1, z2⟩ := plc_ne hy
              have P1 := HP.out W2 s.sh (grown_tr G1.out G2.out)
              have eo : okS a.g a.la a.l j s = (decide (1 ≤ s.sh) && (decide (s.sh ≤ a.la) && (decide (idx a.l s.sh = j) && (isE s.ep && isG a.g s.gr)))) := by unfold okS; simp [Bool.and_assoc]
              rw [eo] at I1
              generalize plc a.l s.sh = pl at *
              subst e1
              clear a0 a2 a3 a4 a5 a6 a7 a8 a9 a10 r1 hW2 hq eo hy I
              by_cases c1 : 1 ≤ s.sh
              · have x1 : decide (s.sh < 1) = false := decide_eq_false (by omega)
                have y1 : ¬ s.sh < 1 := by omega
                by_cases c2 : s.sh ≤ a.la
                · have x2 : decide (a.la < s.sh) = false := decide_eq_false (by omega)
                  have y2 : ¬ a.la < s.sh := by omega
                  by_cases c3 : idx a.l s.sh = j
                  · rw [decide_eq_true c3] at z1 z2
                    have HC3 : Hid (idx a.l s.sh = j) := c3
                    cases c4 : isE s.ep with
                    | false =>
                      have EQ := EP s.ep
                      rw [c4] at EQ
                      have E : Hid (false = B) := by have := I1.out; rw [decide_eq_true c1, decide_eq_true c2, decide_eq_true c3, c4] at this; show _ = _; simpa using this
                      clear EP GP c3 I1 c1 c2
                      go_upto_region 6 with (refine load_s g (o + j * 5) s rfl RG.out ?_)
                      rw [← HQ2.out, ← HW2.out]
                      go_wp2_with (first | (go_at_call 54; (with_reducible refine P1.mono ?_); rintro e w3 ⟨rfl, g3⟩; obtain ⟨d0, d1, d2, d3, d4⟩ := cells_s (SB.out w3 g3)) | (go_at_call 71; (with_reducible refine (EQ _).mono ?_); rintro e w4 ⟨rfl, e4⟩; have e4' := e4.symm; clear e4; subst e4') | (refine load_ag Q 0 a _ (by rfl) rfl (CA.out W2 G2.out) ?_))
                      go_ret
                      exact ⟨by rw [← E.out]; rfl, grown_tr G1.out (grown_tr G2.out g3)⟩
                    | true =>
                      have EQ := EP s.ep
                      rw [c4] at EQ
                      cases c5 : isG a.g s.gr with
                      | false =>
                        have GQ := GP s.gr
                        rw [c5] at GQ
                        have E : Hid (false = B) := by have := I1.out; rw [decide_eq_true c1, decide_eq_true c2, decide_eq_true c3, c4, c5] at this; show _ = _; simpa using this
                        clear EP GP c3 I1 c1 c2
                        go_upto_region 6 with (refine load_s g (o + j * 5) s rfl RG.out ?_)
                        rw [← HQ2.out, ← HW2.out]
                        go_wp2_with (first | (refine load_ag Q 0 a _ (by rfl) rfl (CA.out W2 G2.out) ?_) | (go_at_call 54; (with_reducible refine P1.mono ?_); rintro e w3 ⟨rfl, g3⟩; obtain ⟨d0, d1, d2, d3, d4⟩ := cells_s (SB.out w3 g3)) | (go_at_call 71; (with_reducible refine (EQ _).mono ?_); rintro e w4 ⟨rfl, e4⟩; have e4' := e4.symm; clear e4; subst e4') | (refine load_ag Q 0 a _ (by rfl) rfl (CA.out w3 (grown_tr G2.out g3)) ?_) | (go_at_call 72; (with_reducible refine (GQ _).mono ?_); rintro e w5 ⟨rfl, g5⟩))
                        go_ret
                        exact ⟨by rw [← E.out]; rfl, grown_tr G1.out (grown_tr G2.out (grown_tr g3 g5))⟩
                      | true =>
                        have GQ := GP s.gr
                        rw [c5] at GQ
                        have I2 : Hid ((okF a.g a.la a.l (j + 1) (a.l.drop (j + 1)) && jnF em a.l) = B) := by have := I1.out; rw [decide_eq_true c1, decide_eq_true c2, decide_eq_true c3, c4, c5] at this; show _ = _; simpa using this
                        clear EP GP c3 I1 c1 c2
                        go_upto_region 6 with (refine load_s g (o + j * 5) s rfl RG.out ?_)
                        rw [← HQ2.out, ← HW2.out]
                        go_wp2_with (first | (refine load_ag Q 0 a _ (by rfl) rfl (CA.out W2 G2.out) ?_) | (go_at_call 54; (with_reducible refine P1.mono ?_); rintro e w3 ⟨rfl, g3⟩; obtain ⟨d0, d1, d2, d3, d4⟩ := cells_s (SB.out w3 g3)) | (go_at_call 71; (with_reducible refine (EQ _).mono ?_); rintro e w4 ⟨rfl, e4⟩; have e4' := e4.symm; clear e4; subst e4') | (refine load_ag Q 0 a _ (by rfl) rfl (CA.out w3 (grown_tr G2.out g3)) ?_) | (go_at_call 72; (with_reducible refine (GQ _).mono ?_); rintro e w5 ⟨rfl, g5⟩))
                        go_roundw
                        case rel => exact ⟨j + 1, by omega, by go_num, I2, grown_tr G2.out (grown_tr g3 g5)⟩
                        case measure => simp [intOf]; omega
                  · rw [decide_eq_false c3] at z1 z2
                    have E : Hid (false = B) := by have := I1.out; rw [decide_eq_false c3] at this; show _ = _; simpa using this
                    clear EP GP c3 I1 c1 c2
                    go_upto_region 6 with (refine load_s g (o + j * 5) s rfl RG.out ?_)
                    rw [← HQ2.out, ← HW2.out]
                    go_wp2_with (first | (refine load_ag Q 0 a _ (by rfl) rfl (CA.out W2 G2.out) ?_) | (go_at_call 54; (with_reducible refine P1.mono ?_); rintro e w3 ⟨rfl, g3⟩; obtain ⟨d0, d1, d2, d3, d4⟩ := cells_s (SB.out w3 g3)))
                    go_ret
                    exact ⟨by rw [← E.out]; rfl, grown_tr G1.out (grown_tr G2.out g3)⟩
                · have x2 : decide (a.la < s.sh) = true := decide_eq_true (by omega)
                  have E : Hid (false = B) := by have := I1.out; rw [decide_eq_false c2] at this; show _ = _; simpa using this
                  have y2 : a.la < s.sh := by omega
                  clear EP GP I1 c1 c2
                  go_upto_region 6 with (refine load_s g (o + j * 5) s rfl RG.out ?_)
                  rw [← HQ2.out, ← HW2.out]
                  go_wp2_with fail
                  go_ret
                  exact ⟨by rw [← E.out]; rfl, grown_tr G1.out G2.out⟩
              · have x1 : decide (s.sh < 1) = true := decide_eq_true (by omega)
                have y1 : s.sh < 1 := by omega
                have E : Hid (false = B) := by have := I1.out; rw [decide_eq_false c1] at this; show _ = _; simpa using this
                clear EP GP I1 c1
                go_upto_region 6 with (refine load_s g (o + j * 5) s rfl RG.out ?_)
                rw [← HQ2.out, ← HW2.out]
                go_wp2_with fail
                go_ret
                exact ⟨by rw [← E.out]; rfl, grown_tr G1.out G2.out⟩
            · have E : Hid (jnF em a.l = B) := by
                have := I.out
                rw [List.drop_of_length_le (by rw [NL.out]; omega), okF] at this
                show _ = _
                simpa using this
              obtain ⟨a0, a1, a2, a3, a4, a5, a6, a7, a8, a9, a10⟩ := cells_a (CA.out wr G.out)
              have JQ := JN.out wr _ (HX.out wr G.out)
              clear a0 a1 a3 a4 a5 a6 a7 a8 a9 a10
              go_wp2_with (go_at_call 73; (with_reducible refine JQ.mono ?_); rintro e w3 ⟨rfl, g3⟩)
              go_ret
              exact ⟨by rw [← E.out]; rfl, grown_tr G1.out (grown_tr G.out g3)⟩
        · have d1 : decide (1099511627776 < a.la) = false := decide_eq_false (by omega)
          have k1 : ¬ 1099511627776 < a.la := by omega
          have d2 : decide ((un : Int) < 1) = false := decide_eq_false (by omega)
          have k2 : ¬ (un : Int) < 1 := by omega
          have d3 : decide (16 < (un : Int)) = true := decide_eq_true (by omega)
          have k3 : 16 < (un : Int) := by omega
          have E : Hid (false = B) := by have := HB.out; rw [decide_eq_false h2] at this; show _ = _; simpa using this
          go_enter Try.func43, Try.ntmps43
          go_upto_region 1 with fail
          rw [← HQ.out, ← HW1.out]
          go_wp2_with (go_at_call 42; (with_reducible refine (GR _).mono ?_); rintro e w2 ⟨rfl, e2⟩; have e2' := e2.symm; clear e2; subst e2')
          go_ret
          exact ⟨by rw [← E.out]; rfl, G1.out⟩
      · have d1 : decide (1099511627776 < a.la) = false := decide_eq_false (by omega)
        have k1 : ¬ 1099511627776 < a.la := by omega
        have d2 : decide ((un : Int) < 1) = true := decide_eq_true (by omega)
        have k2 : (un : Int) < 1 := by omega
        have E : Hid (false = B) := by have := HB.out; rw [decide_eq_false h1] at this; show _ = _; simpa using this
        go_enter Try.func43, Try.ntmps43
        go_upto_region 1 with fail
        rw [← HQ.out, ← HW1.out]
        go_wp2_with (go_at_call 42; (with_reducible refine (GR _).mono ?_); rintro e w2 ⟨rfl, e2⟩; have e2' := e2.symm; clear e2; subst e2')
        go_ret
        exact ⟨by rw [← E.out]; rfl, G1.out⟩
    · have d1 : decide (1099511627776 < a.la) = true := decide_eq_true (by omega)
      have k1 : 1099511627776 < a.la := by omega
      have E : Hid (false = B) := by have := HB.out; rw [decide_eq_false hL] at this; show _ = _; simpa using this
      go_enter Try.func43, Try.ntmps43
      go_upto_region 1 with fail
      rw [← HQ.out, ← HW1.out]
      go_wp2_with (go_at_call 42; (with_reducible refine (GR _).mono ?_); rintro e w2 ⟨rfl, e2⟩; have e2' := e2.symm; clear e2; subst e2')
      go_ret
      exact ⟨by rw [← E.out]; rfl, G1.out⟩
end Go.Proofs.Ytlolhdijadhklaa
