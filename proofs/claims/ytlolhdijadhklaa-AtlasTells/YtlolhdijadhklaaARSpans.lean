/- the reference's spans. -/
import Derived.Test.YtlolhdijadhklaaARef1
import Derived.Test.YtlolhdijadhklaaASpans
namespace Go.Proofs.Ytlolhdijadhklaa
open Go.RowKit Atl
set_option linter.unusedVariables false
set_option maxRecDepth 10000

def rspB (a : Am) : Bool := decide (1 ≤ a.g) && (decide (a.g ≤ 8) && (decide (a.l.length ≠ 0) && (decide (a.l.length ≤ 16) && (decide (a.la ≤ 1099511627776) && rfF a.g a.la a.l em 0 (a.l.drop 0)))))
theorem rspB_is (a : Am) : rspB a = spansB a := by
  unfold rspB
  rw [spansB_is]
  by_cases h0 : a.l.length = 0
  · have : decide (1 ≤ a.l.length) = false := decide_eq_false (by omega)
    rw [this, h0]
    simp
  · have e1 : decide (1 ≤ a.l.length) = true := decide_eq_true (by omega)
    have e2 : decide (a.l.length ≠ 0) = true := decide_eq_true h0
    rw [rf_is a.g a.la a.l (a.l.drop 0) em 0 rfl (fun h => absurd (by simpa using congrArg List.length h) h0), e1, e2]
    simp only [List.drop_zero]
    generalize decide (1 ≤ a.g) = b1
    generalize decide (a.g ≤ 8) = b2
    generalize decide (a.l.length ≤ 16) = b3
    generalize decide (a.la ≤ 1099511627776) = b4
    generalize okF a.g a.la a.l 0 a.l = b5
    generalize jnF em a.l = b6
    cases b1 <;> cases b2 <;> cases b3 <;> cases b4 <;> cases b5 <;> cases b6 <;> rfl
/-- One round's tests. -/
theorem rfF_cons (g la : Int) (l : List Sp) (f : ByteArray) (i : Nat) (s : Sp) (r : List Sp) : rfF g la l f i (s :: r) = ((s.fr.toList == f.toList) && (decide (1 ≤ s.sh) && (decide (s.sh ≤ la) && (decide (i ≤ idx l s.sh) && (decide (1 ≤ s.ep) && (decide (s.ep ≤ 1099511627776) && (decide (1 ≤ s.gr) && (decide (s.gr ≤ g) && ((if r.isEmpty = true then s.up.toList == [] else named s.up && lt s.fr s.up) && rfF g la l s.up (i + 1) r))))))))) := by
  rw [rfF]
  unfold isE isG
  simp only [Bool.and_assoc]
theorem plc_lt {l : List Sp} {i : Nat} {s : Sp} (h : l[i]? = some s) : decide (plc l s.sh < (i : Int)) = !decide (i ≤ idx l s.sh) := by
  have h1 := idx_le h
  have h2 := (List.getElem?_eq_some_iff.1 h).1
  have e : plc l s.sh = (idx l s.sh : Int) := by unfold plc; rw [if_pos (by omega)]
  rw [e, Bool.eq_iff_iff]
  simp
set_option maxRecDepth 100000 in
set_option maxHeartbeats 64000000 in
theorem rspans_any (a : Am) (u : S3) (w : World) (h : Rat w a u) (hz : Szl a.l) : Calls Try.prog 45 #[av a u] w fun e w' => e = .returned (.bool (spansB a)) ∧ w.grownBy w' none := by
  rw [← rspB_is]
  have NA := rname_any
  have HZ : Hid (Szl a.l) := hz
  clear hz
  obtain ⟨hR, hn, hb⟩ := h
  have HP : Hid (∀ W x, w.grownBy W none → _) := fun W x g => rplace_any a u x W (⟨hR.grown g, hn, hb⟩ : Rat W a u)
  obtain ⟨W1, hW1⟩ : ∃ W1, W1 = w.alloc (.cells (aa a u) 26) := ⟨_, rfl⟩
  obtain ⟨Q, hQ⟩ : ∃ Q, Q = w.heap.size := ⟨_, rfl⟩
  have G1 : Hid (w.grownBy W1 none) := by rw [hW1]; exact World.grownBy_alloc _ _ none
  have CA : Hid (∀ W, W1.grownBy W none → W.rangeAt Q 0 (ac a u)) := fun W g => by rw [hW1] at g; rw [hQ]; exact (cs_new g).1
  obtain ⟨N, hN⟩ : ∃ N, a.l.length = N := ⟨_, rfl⟩
  have NL : Hid (a.l.length = N) := hN
  obtain ⟨ua, un, uc⟩ := u
  simp only at hn hR HP CA hW1 ⊢
  rw [hN] at hn hb
  subst hn
  have HX : Hid (∀ W, W1.grownBy W none → eS.Rx W (.slice ua un uc) a.l) := fun W g => hR.grown (grown_tr G1.out g)
  have un16 : (un : Int) ≤ 9223372036854775807 := by omega
  obtain ⟨a0, a1, a2, a3, a4, a5, a6, a7, a8, a9, a10⟩ := cells_a (CA.out W1 (grown_refl _ _))
  have HW1 : Hid (W1 = _) := hW1
  have HQ : Hid (Q = w.heap.size) := hQ
  clear a3 a4 a5 a6 a7 a8 a9 a10
  generalize hB : rspB a = B
  unfold rspB at hB
  rw [NL.out] at hB
  have HB : Hid ((decide (1 ≤ a.g) && (decide (a.g ≤ 8) && (decide (un ≠ 0) && (decide (un ≤ 16) && (decide (a.la ≤ 1099511627776) && rfF a.g a.la a.l em 0 (a.l.drop 0)))))) = B) := hB
  clear hB hR hW1 hQ hb hN
  cases h0 : decide (1 ≤ a.g) with
  | false =>
    have d0 : decide (a.g < 1) = true := by simp at h0 ⊢; omega
    have p0 : a.g < 1 := by simpa using d0
    have E : Hid (false = B) := by have := HB.out; rw [h0] at this; show _ = _; simpa using this
    go_enter Try.func45, Try.ntmps45
    go_upto_region 1 with fail
    rw [← HQ.out, ← HW1.out]
    go_wp2_with fail
    go_ret
    exact ⟨by rw [← E.out]; rfl, G1.out⟩
  | true =>
    have d0 : decide (a.g < 1) = false := by simp at h0 ⊢; omega
    have p0 : ¬ a.g < 1 := by simpa using d0
    cases h1 : decide (a.g ≤ 8) with
    | false =>
      have d1 : decide (8 < a.g) = true := by simp at h1 ⊢; omega
      have p1 : 8 < a.g := by simpa using d1
      have E : Hid (false = B) := by have := HB.out; rw [h0, h1] at this; show _ = _; simpa using this
      go_enter Try.func45, Try.ntmps45
      go_upto_region 1 with fail
      rw [← HQ.out, ← HW1.out]
      go_wp2_with fail
      go_ret
      exact ⟨by rw [← E.out]; rfl, G1.out⟩
    | true =>
      have d1 : decide (8 < a.g) = false := by simp at h1 ⊢; omega
      have p1 : ¬ 8 < a.g := by simpa using d1
      cases h2 : decide (un ≠ 0) with
      | false =>
        have d2 : ((un : Int) == 0) = true := by simp at h2 ⊢; omega
        have E : Hid (false = B) := by have := HB.out; rw [h0, h1, h2] at this; show _ = _; simpa using this
        go_enter Try.func45, Try.ntmps45
        go_upto_region 1 with fail
        rw [← HQ.out, ← HW1.out]
        go_wp2_with fail
        go_ret
        exact ⟨by rw [← E.out]; rfl, G1.out⟩
      | true =>
        have d2 : ((un : Int) == 0) = false := by simp at h2 ⊢; omega
        cases h3 : decide (un ≤ 16) with
        | false =>
          have d3 : decide (16 < (un : Int)) = true := by simp at h3 ⊢; omega
          have p3 : 16 < (un : Int) := by simpa using d3
          have E : Hid (false = B) := by have := HB.out; rw [h0, h1, h2, h3] at this; show _ = _; simpa using this
          go_enter Try.func45, Try.ntmps45
          go_upto_region 1 with fail
          rw [← HQ.out, ← HW1.out]
          go_wp2_with fail
          go_ret
          exact ⟨by rw [← E.out]; rfl, G1.out⟩
        | true =>
          have d3 : decide (16 < (un : Int)) = false := by simp at h3 ⊢; omega
          have p3 : ¬ 16 < (un : Int) := by simpa using d3
          cases h4 : decide (a.la ≤ 1099511627776) with
          | false =>
            have d4 : decide (1099511627776 < a.la) = true := by simp at h4 ⊢; omega
            have p4 : 1099511627776 < a.la := by simpa using d4
            have E : Hid (false = B) := by have := HB.out; rw [h0, h1, h2, h3, h4] at this; show _ = _; simpa using this
            go_enter Try.func45, Try.ntmps45
            go_upto_region 1 with fail
            rw [← HQ.out, ← HW1.out]
            go_wp2_with fail
            go_ret
            exact ⟨by rw [← E.out]; rfl, G1.out⟩
          | true =>
            have d4 : decide (1099511627776 < a.la) = false := by simp at h4 ⊢; omega
            have p4 : ¬ 1099511627776 < a.la := by simpa using d4
            have I0 : Hid (rfF a.g a.la a.l (lastU a.l 0) 0 (a.l.drop 0) = B) := by have := HB.out; rw [h0, h1, h2, h3, h4] at this; show _ = _; simpa only [Bool.true_and, lastU] using this
            have G0 : Hid (W1.grownBy W1 none) := grown_refl _ _
            clear HB h0 h1 h2 h3 h4
            go_enter Try.func45, Try.ntmps45
            go_upto_region 1 with fail
            rw [← HQ.out, ← HW1.out]
            go_wp2_with fail
            clear d0 d1 d2 d3 d4 p0 p1 p3 p4
            go_loopw [4, 5, 6] (fun f i _ wr => ∃ j : Nat, j ≤ un ∧ i = .int .i64 (j : Int) ∧ f = .string (lastU a.l j) ∧ Hid (rfF a.g a.la a.l (lastU a.l j) j (a.l.drop j) = B) ∧ Hid (W1.grownBy wr none)) (fun _ i _ _ => un - (intOf i).toNat)
            case atStart => exact ⟨0, by omega, rfl, rfl, I0, G0⟩
            case round =>
              clear I0 G0 a0 a1 a2
              obtain ⟨j, hj, rfl, rfl, I, G⟩ := hrel
              generalize hF : lastU a.l j = F at *
              obtain ⟨a0, a1, a2, a3, a4, a5, a6, a7, a8, a9, a10⟩ := cells_a (CA.out wr G.out)
              clear a3 a4 a5 a6 a7 a8 a9 a10 hF
              by_cases hlt : j < un
              · obtain ⟨s, hy⟩ : ∃ y, a.l[j]? = some y := ⟨_, List.getElem?_eq_getElem (by rw [NL.out]; exact hlt)⟩
                have I1 : Hid (rfF a.g a.la a.l F j (s :: a.l.drop (j + 1)) = B) := by have := I.out; rw [drop_at hy] at this; exact this
                have I1' := I1.out
                rw [rfF_cons] at I1'
                replace I1 : Hid _ := I1'
                clear I1' I
                have LU : Hid (lastU a.l (j + 1) = s.up) := lastU_succ hy
                have ZU : Hid (s.up.size ≤ 140737488351232) := (HZ.out s (List.mem_of_getElem? hy)).2
                have EM : Hid ((a.l.drop (j + 1)).isEmpty = decide (j + 1 = un)) := by
                  show _ = _
                  rw [Bool.eq_iff_iff, List.isEmpty_iff, List.drop_eq_nil_iff, NL.out]
                  simp
                  omega
                obtain ⟨g, o, e1, r1⟩ := range_at (HX.out wr G.out) hy
                have RG : Hid (wr.rangeAt g (o + j * 5) (sc s)) := r1
                obtain ⟨q, hq⟩ : ∃ q, q = wr.heap.size := ⟨_, rfl⟩
                obtain ⟨W2, hW2⟩ : ∃ W2, W2 = wr.alloc (.cells (sa s) 29) := ⟨_, rfl⟩
                have G2 : Hid (W1.grownBy W2 none) := by rw [hW2]; exact grown_alloc G.out _
                have SB : Hid (∀ W, W2.grownBy W none → W.rangeAt q 0 (sc s)) := fun W g => by rw [hW2] at g; rw [hq]; exact (cs_new g).1
                have HW2 : Hid (W2 = _) := hW2
                have HQ2 : Hid (q = wr.heap.size) := hq
                obtain ⟨b0, b1, b2, b3, b4⟩ := cells_s (SB.out W2 (grown_refl _ _))
                obtain ⟨t0, t1, t2, t3, t4, t5, t6, t7, t8, t9, t10⟩ := cells_a (CA.out W2 G2.out)
                have z1 := plc_lt hy
                have P1 := HP.out W2 s.sh (grown_tr G1.out G2.out)
                have dW : IntKind.i64.wrap ((un : Int) - 1) = (un : Int) - 1 := by rw [IntKind.wrap_i64]; omega
                generalize plc a.l s.sh = pl at *
                subst e1
                clear t0 t2 t3 t4 t5 t6 t7 t8 t9 t10 r1 hW2 hq hy
                go_upto_region 9 with (refine load_s g (o + j * 5) s rfl RG.out ?_)
                rw [← HQ2.out, ← HW2.out]
                cases h0 : (s.fr.toList == F.toList) with
                | false =>
                  have k0 : (s.fr.toList != F.toList) = true := by rw [bne, h0]; rfl
                  clear NA
                  have E : Hid (false = B) := by have := I1.out; rw [h0] at this; show _ = _; simpa using this
                  go_wp2_with fail
                  go_ret
                  exact ⟨by rw [← E.out]; rfl, grown_tr G1.out G2.out⟩
                | true =>
                  have k0 : (s.fr.toList != F.toList) = false := by rw [bne, h0]; rfl
                  cases h1 : decide (1 ≤ s.sh) with
                  | false =>
                    have m1 : decide (s.sh < 1) = true := by simp at h1 ⊢; omega
                    have m1p : s.sh < 1 := by simpa using m1
                    clear NA
                    have E : Hid (false = B) := by have := I1.out; rw [h0, h1] at this; show _ = _; simpa using this
                    go_wp2_with fail
                    go_ret
                    exact ⟨by rw [← E.out]; rfl, grown_tr G1.out G2.out⟩
                  | true =>
                    have m1 : decide (s.sh < 1) = false := by simp at h1 ⊢; omega
                    have m1p : ¬ s.sh < 1 := by simpa using m1
                    cases h2 : decide (s.sh ≤ a.la) with
                    | false =>
                      have m2 : decide (a.la < s.sh) = true := by simp at h2 ⊢; omega
                      have m2p : a.la < s.sh := by simpa using m2
                      clear NA
                      have E : Hid (false = B) := by have := I1.out; rw [h0, h1, h2] at this; show _ = _; simpa using this
                      go_wp2_with fail
                      go_ret
                      exact ⟨by rw [← E.out]; rfl, grown_tr G1.out G2.out⟩
                    | true =>
                      have m2 : decide (a.la < s.sh) = false := by simp at h2 ⊢; omega
                      have m2p : ¬ a.la < s.sh := by simpa using m2
                      cases h3 : decide (j ≤ idx a.l s.sh) with
                      | false =>
                        rw [h3] at z1
                        have z1p : pl < (j : Int) := by simpa using z1
                        clear NA
                        have E : Hid (false = B) := by have := I1.out; rw [h0, h1, h2, h3] at this; show _ = _; simpa using this
                        go_wp2_with (first | (refine load_ag Q 0 a _ (by rfl) rfl (CA.out W2 G2.out) ?_) | (go_at_call 46; (with_reducible refine P1.mono ?_); rintro e w3 ⟨rfl, g3⟩; obtain ⟨d0, d1, d2, d3, d4⟩ := cells_s (SB.out w3 g3); obtain ⟨f0, f1, f2, f3, f4, f5, f6, f7, f8, f9, f10⟩ := cells_a (CA.out w3 (grown_tr G2.out g3)); clear f1 f2 f3 f4 f5 f6 f7 f8 f9 f10))
                        go_ret
                        exact ⟨by rw [← E.out]; rfl, grown_tr G1.out (grown_tr G2.out g3)⟩
                      | true =>
                        rw [h3] at z1
                        have z1p : ¬ pl < (j : Int) := by simpa using z1
                        cases h4 : decide (1 ≤ s.ep) with
                        | false =>
                          have m4 : decide (s.ep < 1) = true := by simp at h4 ⊢; omega
                          have m4p : s.ep < 1 := by simpa using m4
                          clear NA
                          have E : Hid (false = B) := by have := I1.out; rw [h0, h1, h2, h3, h4] at this; show _ = _; simpa using this
                          go_wp2_with (first | (refine load_ag Q 0 a _ (by rfl) rfl (CA.out W2 G2.out) ?_) | (go_at_call 46; (with_reducible refine P1.mono ?_); rintro e w3 ⟨rfl, g3⟩; obtain ⟨d0, d1, d2, d3, d4⟩ := cells_s (SB.out w3 g3); obtain ⟨f0, f1, f2, f3, f4, f5, f6, f7, f8, f9, f10⟩ := cells_a (CA.out w3 (grown_tr G2.out g3)); clear f1 f2 f3 f4 f5 f6 f7 f8 f9 f10))
                          go_ret
                          exact ⟨by rw [← E.out]; rfl, grown_tr G1.out (grown_tr G2.out g3)⟩
                        | true =>
                          have m4 : decide (s.ep < 1) = false := by simp at h4 ⊢; omega
                          have m4p : ¬ s.ep < 1 := by simpa using m4
                          cases h5 : decide (s.ep ≤ 1099511627776) with
                          | false =>
                            have m5 : decide (1099511627776 < s.ep) = true := by simp at h5 ⊢; omega
                            have m5p : 1099511627776 < s.ep := by simpa using m5
                            clear NA
                            have E : Hid (false = B) := by have := I1.out; rw [h0, h1, h2, h3, h4, h5] at this; show _ = _; simpa using this
                            go_wp2_with (first | (refine load_ag Q 0 a _ (by rfl) rfl (CA.out W2 G2.out) ?_) | (go_at_call 46; (with_reducible refine P1.mono ?_); rintro e w3 ⟨rfl, g3⟩; obtain ⟨d0, d1, d2, d3, d4⟩ := cells_s (SB.out w3 g3); obtain ⟨f0, f1, f2, f3, f4, f5, f6, f7, f8, f9, f10⟩ := cells_a (CA.out w3 (grown_tr G2.out g3)); clear f1 f2 f3 f4 f5 f6 f7 f8 f9 f10))
                            go_ret
                            exact ⟨by rw [← E.out]; rfl, grown_tr G1.out (grown_tr G2.out g3)⟩
                          | true =>
                            have m5 : decide (1099511627776 < s.ep) = false := by simp at h5 ⊢; omega
                            have m5p : ¬ 1099511627776 < s.ep := by simpa using m5
                            cases h6 : decide (1 ≤ s.gr) with
                            | false =>
                              have m6 : decide (s.gr < 1) = true := by simp at h6 ⊢; omega
                              have m6p : s.gr < 1 := by simpa using m6
                              clear NA
                              have E : Hid (false = B) := by have := I1.out; rw [h0, h1, h2, h3, h4, h5, h6] at this; show _ = _; simpa using this
                              go_wp2_with (first | (refine load_ag Q 0 a _ (by rfl) rfl (CA.out W2 G2.out) ?_) | (go_at_call 46; (with_reducible refine P1.mono ?_); rintro e w3 ⟨rfl, g3⟩; obtain ⟨d0, d1, d2, d3, d4⟩ := cells_s (SB.out w3 g3); obtain ⟨f0, f1, f2, f3, f4, f5, f6, f7, f8, f9, f10⟩ := cells_a (CA.out w3 (grown_tr G2.out g3)); clear f1 f2 f3 f4 f5 f6 f7 f8 f9 f10))
                              go_ret
                              exact ⟨by rw [← E.out]; rfl, grown_tr G1.out (grown_tr G2.out g3)⟩
                            | true =>
                              have m6 : decide (s.gr < 1) = false := by simp at h6 ⊢; omega
                              have m6p : ¬ s.gr < 1 := by simpa using m6
                              cases h7 : decide (s.gr ≤ a.g) with
                              | false =>
                                have m7 : decide (a.g < s.gr) = true := by simp at h7 ⊢; omega
                                have m7p : a.g < s.gr := by simpa using m7
                                clear NA
                                have E : Hid (false = B) := by have := I1.out; rw [h0, h1, h2, h3, h4, h5, h6, h7] at this; show _ = _; simpa using this
                                go_wp2_with (first | (refine load_ag Q 0 a _ (by rfl) rfl (CA.out W2 G2.out) ?_) | (go_at_call 46; (with_reducible refine P1.mono ?_); rintro e w3 ⟨rfl, g3⟩; obtain ⟨d0, d1, d2, d3, d4⟩ := cells_s (SB.out w3 g3); obtain ⟨f0, f1, f2, f3, f4, f5, f6, f7, f8, f9, f10⟩ := cells_a (CA.out w3 (grown_tr G2.out g3)); clear f1 f2 f3 f4 f5 f6 f7 f8 f9 f10))
                                go_ret
                                exact ⟨by rw [← E.out]; rfl, grown_tr G1.out (grown_tr G2.out g3)⟩
                              | true =>
                                have m7 : decide (a.g < s.gr) = false := by simp at h7 ⊢; omega
                                have m7p : ¬ a.g < s.gr := by simpa using m7
                                have E : Hid (((if (a.l.drop (j + 1)).isEmpty = true then s.up.toList == [] else named s.up && lt s.fr s.up) && rfF a.g a.la a.l s.up (j + 1) (a.l.drop (j + 1))) = B) := by have := I1.out; rw [h0, h1, h2, h3, h4, h5, h6, h7] at this; show _ = _; simpa only [Bool.true_and] using this
                                have eF : F = s.fr := (toList_inj.1 (by simpa using h0)).symm
                                subst eF
                                clear I1 h0 h1 h2 h3 h4 h5 h6 h7
                                go_upto_region 11 with (first | (refine load_ag Q 0 a _ (by rfl) rfl (CA.out W2 G2.out) ?_) | (go_at_call 46; (with_reducible refine P1.mono ?_); rintro e w3 ⟨rfl, g3⟩; obtain ⟨d0, d1, d2, d3, d4⟩ := cells_s (SB.out w3 g3); obtain ⟨f0, f1, f2, f3, f4, f5, f6, f7, f8, f9, f10⟩ := cells_a (CA.out w3 (grown_tr G2.out g3)); clear f1 f2 f3 f4 f5 f6 f7 f8 f9 f10))
                                clear k0 m1 m1p m2 m2p z1 z1p m4 m4p m5 m5p m6 m6p m7 m7p f0
                                by_cases hlast : j + 1 = un
                                · have L1 : ((j : Int) == (un : Int) - 1) = true := by simp; omega
                                  have L2 : decide ((j : Int) < (un : Int) - 1) = false := decide_eq_false (by omega)
                                  have L2p : ¬ (j : Int) < (un : Int) - 1 := by omega
                                  have I3 : Hid (((s.up.toList == []) && rfF a.g a.la a.l s.up (j + 1) (a.l.drop (j + 1))) = B) := by have := E.out; rw [EM.out, decide_eq_true hlast] at this; show _ = _; rw [← this]; rfl
                                  clear E hlast NA
                                  cases h9 : (s.up.toList == []) with
                                  | true =>
                                    have k9 : (s.up.toList != []) = false := by rw [bne, h9]; rfl
                                    have I4 : Hid (rfF a.g a.la a.l s.up (j + 1) (a.l.drop (j + 1)) = B) := by have := I3.out; rw [h9] at this; show _ = _; simpa using this
                                    clear I3
                                    go_wp2_with (first | (go_at_call 41; (with_reducible refine (NB _).mono ?_); rintro e w4 ⟨rfl, e4⟩; have e4' := e4.symm; clear e4; subst e4') | fail)
                                    go_roundw
                                    case rel => exact ⟨j + 1, by omega, by go_num, by rw [LU.out], by rw [LU.out]; exact I4, grown_tr G2.out g3⟩
                                    case measure => simp [intOf]; omega
                                  | false =>
                                    have k9 : (s.up.toList != []) = true := by rw [bne, h9]; rfl
                                    have E : Hid (false = B) := by have := I3.out; rw [h9] at this; show _ = _; simpa using this
                                    clear I3
                                    go_wp2_with (first | (go_at_call 41; (with_reducible refine (NB _).mono ?_); rintro e w4 ⟨rfl, e4⟩; have e4' := e4.symm; clear e4; subst e4') | fail)
                                    go_ret
                                    exact ⟨by rw [← E.out]; rfl, grown_tr G1.out (grown_tr G2.out g3)⟩
                                · have L1 : ((j : Int) == (un : Int) - 1) = false := by simp; omega
                                  have L2 : decide ((j : Int) < (un : Int) - 1) = true := decide_eq_true (by omega)
                                  have L2p : (j : Int) < (un : Int) - 1 := by omega
                                  have NB := NA s.up ZU.out
                                  have I3 : Hid ((named s.up && lt s.fr s.up && rfF a.g a.la a.l s.up (j + 1) (a.l.drop (j + 1))) = B) := by have := E.out; rw [EM.out, decide_eq_false hlast] at this; show _ = _; rw [← this]; rfl
                                  clear E hlast NA
                                  cases h9 : named s.up with
                                  | false =>
                                    rw [h9] at NB
                                    have E : Hid (false = B) := by have := I3.out; rw [h9] at this; show _ = _; simpa using this
                                    clear I3
                                    go_wp2_with (first | (go_at_call 41; (with_reducible refine (NB _).mono ?_); rintro e w4 ⟨rfl, e4⟩; have e4' := e4.symm; clear e4; subst e4') | fail)
                                    go_ret
                                    exact ⟨by rw [← E.out]; rfl, grown_tr G1.out (grown_tr G2.out g3)⟩
                                  | true =>
                                    rw [h9] at NB
                                    rcases tri s.up s.fr with ⟨h10, q1, q2⟩ | ⟨h10, q1⟩ | ⟨h10, q1, q2⟩
                                    · have I4 : Hid (rfF a.g a.la a.l s.up (j + 1) (a.l.drop (j + 1)) = B) := by have := I3.out; rw [h9, h10] at this; show _ = _; simpa using this
                                      clear I3 h10
                                      go_wp2_with (first | (go_at_call 41; (with_reducible refine (NB _).mono ?_); rintro e w4 ⟨rfl, e4⟩; have e4' := e4.symm; clear e4; subst e4') | fail)
                                      go_roundw
                                      case rel => exact ⟨j + 1, by omega, by go_num, by rw [LU.out], by rw [LU.out]; exact I4, grown_tr G2.out g3⟩
                                      case measure => simp [intOf]; omega
                                    · have E : Hid (false = B) := by have := I3.out; rw [h9, h10] at this; show _ = _; simpa using this
                                      clear I3 h10
                                      go_wp2_with (first | (go_at_call 41; (with_reducible refine (NB _).mono ?_); rintro e w4 ⟨rfl, e4⟩; have e4' := e4.symm; clear e4; subst e4') | fail)
                                      go_ret
                                      exact ⟨by rw [← E.out]; rfl, grown_tr G1.out (grown_tr G2.out g3)⟩
                                    · have E : Hid (false = B) := by have := I3.out; rw [h9, h10] at this; show _ = _; simpa using this
                                      clear I3 h10
                                      go_wp2_with (first | (go_at_call 41; (with_reducible refine (NB _).mono ?_); rintro e w4 ⟨rfl, e4⟩; have e4' := e4.symm; clear e4; subst e4') | fail)
                                      go_ret
                                      exact ⟨by rw [← E.out]; rfl, grown_tr G1.out (grown_tr G2.out g3)⟩
              · have E : Hid (true = B) := by
                  have := I.out
                  rw [List.drop_of_length_le (by rw [NL.out]; omega), rfF] at this
                  exact this
                go_wp2_with fail
                go_ret
                exact ⟨by rw [← E.out]; rfl, grown_tr G1.out G.out⟩
end Go.Proofs.Ytlolhdijadhklaa
