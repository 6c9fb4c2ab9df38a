/- the reference's Check. -/
import Derived.Test.YtlolhdijadhklaaARMove
import Derived.Test.YtlolhdijadhklaaARSpans
import Derived.Test.YtlolhdijadhklaaAMath3
import Derived.Test.YtlolhdijadhklaaACheck
import Derived.Test.YtlolhdijadhklaaABackM
namespace Go.Proofs.Ytlolhdijadhklaa
open Go.RowKit Atl
set_option linter.unusedVariables false
set_option maxRecDepth 10000

theorem rz_of {a : Am} (h : spansB a = true) : Rgt ⟨a.g, a.la, a.l, zP⟩ := chk_is.1 (by
  unfold chk
  rw [plan_zP]
  rw [show spansB ⟨a.g, a.la, a.l, zP⟩ = spansB a from rfl, h]
  rfl)
theorem idx_none {l : List Sp} {x : Int} (h : plc l x < 0) : l[idx l x]? = none := by
  rw [List.getElem?_eq_none_iff]
  unfold plc at h
  by_cases hl : idx l x < l.length
  · rw [if_pos hl] at h; omega
  · omega
theorem k_bad {a : Am} {s : Sp} (h : a.p.k < 1 ∨ 3 < a.p.k) : kindB a s = false := by
  unfold kindB
  rw [if_neg (by omega), if_neg (by omega), if_neg (by omega)]
/-- What region 12 asks of a plan that is no move. -/
def sidB (p : Pl) (s : Sp) : Bool := (p.gp == s.gr) && ((p.pa == 0) && (((p.ph == 1) && (p.ep == s.ep)) || ((p.ph == 9) && (p.ep == s.ep - 2))))
theorem sid_no {a : Am} {s : Sp} (k1 : ¬ a.p.k = 1) (h : sidB a.p s = false) : (stB a.p s && kindB a s) = false := by
  rw [Bool.eq_false_iff]
  intro hh
  rw [Bool.and_eq_true] at hh
  obtain ⟨h1, h2⟩ := hh
  unfold stB at h1
  rw [if_neg k1, if_neg (show ¬ (a.p.k = 1 ∧ (a.p.ph = 2 ∨ a.p.ph = 3)) from fun e => k1 e.1)] at h1
  have pz : a.p.pa = 0 := by
    unfold kindB at h2
    rw [if_neg k1] at h2
    by_cases k2 : a.p.k = 2
    · rw [if_pos k2] at h2
      unfold splitB at h2
      simp only [Bool.and_eq_true, decide_eq_true_eq] at h2
      exact h2.1.1.1.1
    · rw [if_neg k2] at h2
      by_cases k3 : a.p.k = 3
      · rw [if_pos k3] at h2
        unfold mergeB at h2
        cases ht : a.l[idx a.l a.p.sh + 1]? with
        | none => rw [ht] at h2; cases h2
        | some t =>
          rw [ht] at h2
          simp only [Bool.and_eq_true, decide_eq_true_eq] at h2
          exact h2.1.2
      · rw [if_neg k3] at h2; cases h2
  have : sidB a.p s = true := by
    unfold sidB
    by_cases p1 : a.p.ph = 1
    · rw [if_pos p1] at h1
      simp only [Bool.and_eq_true, decide_eq_true_eq] at h1
      simp [h1.1, h1.2, p1, pz]
    · rw [if_neg p1] at h1
      by_cases p9 : a.p.ph = 9
      · rw [if_pos p9] at h1
        simp only [Bool.and_eq_true, decide_eq_true_eq] at h1
        simp [h1.1, p9, pz]
        omega
      · rw [if_neg p9] at h1; cases h1
  rw [this] at h
  cases h
theorem sid_yes {p : Pl} {s : Sp} (k1 : ¬ p.k = 1) (h : sidB p s = true) : stB p s = true ∧ p.pa = 0 ∧ p.gp = s.gr := by
  unfold sidB at h
  simp only [Bool.and_eq_true, Bool.or_eq_true, beq_iff_eq] at h
  obtain ⟨h1, h2, h3⟩ := h
  refine ⟨?_, h2, h1⟩
  unfold stB
  rcases h3 with ⟨p1, e⟩ | ⟨p9, e⟩
  · simp [p1, k1, h1, e]
  · simp [p9, k1, h1, e] <;> omega
theorem split_is {a : Am} {s : Sp} (k2 : a.p.k = 2) (pz : a.p.pa = 0) : kindB a s = ((a.p.ot == a.la) && (decide (plc a.l a.p.ot < 0) && (parts s a.p.key && decide (a.l.length < 16)))) := by
  unfold kindB splitB
  rw [if_neg (by omega), if_pos k2, Bool.eq_iff_iff]
  simp [pz, and_assoc]
theorem merge_is {a : Am} {s t : Sp} (k3 : a.p.k = 3) (pz : a.p.pa = 0) (hg : a.p.gp = s.gr) (ht : a.l[idx a.l a.p.sh + 1]? = some t) : kindB a s = ((a.p.key.toList == []) && ((t.sh == a.p.ot) && ((t.gr == s.gr) && decide (t.ep ≤ 1099511627774)))) := by
  unfold kindB mergeB mR
  rw [if_neg (by omega), if_neg (by omega), if_pos k3, ht, Bool.eq_iff_iff]
  simp [pz, hg]
  constructor
  · rintro ⟨⟨⟨h1, h2⟩, h3⟩, h4⟩; exact ⟨h4, h1.symm, h2.symm, h3⟩
  · rintro ⟨h4, h1, h2, h3⟩; exact ⟨⟨⟨h1.symm, h2.symm⟩, h3⟩, h4⟩
theorem merge_no {a : Am} {s : Sp} (k3 : a.p.k = 3) (ht : a.l[idx a.l a.p.sh + 1]? = none) : kindB a s = false := by
  unfold kindB mergeB
  rw [if_neg (by omega), if_neg (by omega), if_pos k3, ht]
set_option maxRecDepth 100000 in
set_option maxHeartbeats 64000000 in
theorem rcheck_any (a : Am) (u : S3) (w : World) (h : Rat w a u) (hz : Szm a) : Calls Try.prog 15 #[av a u] w fun e w' => e = .returned (.bool (chk a)) ∧ w.grownBy w' none := by
  have SA : Hid (∀ W, w.grownBy W none → Calls Try.prog 45 #[av a u] W fun e w' => e = .returned (.bool (spansB a)) ∧ W.grownBy w' none) := fun W g => rspans_any a u W (h.grown g) hz.1
  have PL : Hid (∀ x W, w.grownBy W none → Calls Try.prog 46 #[av a u, .int .i64 x] W fun e w' => e = .returned (.int .i64 (plc a.l x)) ∧ W.grownBy w' none) := fun x W g => rplace_any a u x W (h.grown g)
  have IN : Hid (∀ s W, Calls Try.prog 48 #[sv s, .string a.p.key] W fun e w' => e = .returned (.bool (parts s a.p.key)) ∧ W.grownBy w' none) := fun s W => inside_any s a.p.key hz.2 W
  have EQ : ∀ W, (binOp .eql 24 (pv a.p) (.agg #[.int .i64 0, .int .i64 0, .int .i64 0, .int .i64 0, .int .i64 0, .int .i64 0, .int .i64 0, .string ⟨#[]⟩])).run Try.prog W = .ok (.bool (peq a.p zP)) W := fun W => eql_plan a.p zP W
  have RA : Hid (Rat w a u) := h
  obtain ⟨W0, hW0⟩ : ∃ W0, W0 = w.alloc (.cells (aa a u) 26) := ⟨_, rfl⟩
  have G0 : Hid (w.grownBy W0 none) := by rw [hW0]; exact World.grownBy_alloc _ _ none
  have CA : Hid (∀ W, W0.grownBy W none → W.rangeAt w.heap.size 0 (ac a u)) := fun W g => by rw [hW0] at g; exact (cs_new g).1
  have HW0 : Hid (W0 = _) := hW0
  clear hW0 h hz
  generalize hB : chk a = B
  have HB : Hid ((spansB a && planB a) = B) := hB
  clear hB
  go_enter Try.func15, Try.ntmps15
  go_upto_region 1 with fail
  rw [← HW0.out]
  have SPL := SA.out W0 G0.out
  clear SA HW0
  cases hs : spansB a with
  | false =>
    have E : Hid (false = B) := by have := HB.out; rw [hs] at this; show _ = _; simpa using this
    rw [hs] at SPL
    clear hs HB EQ
    go_wp2_with (first
      | (refine load_a w.heap.size 0 a u rfl (CA.out W0 (grown_refl _ _)) ?_)
      | (go_at_call 45; (with_reducible refine SPL.mono ?_); rintro e w1 ⟨rfl, g1⟩))
    go_ret
    exact ⟨by rw [← E.out]; rfl, grown_tr G0.out g1⟩
  | true =>
    have E1 : Hid (planB a = B) := by have := HB.out; rw [hs] at this; show _ = _; simpa using this
    have RZ := rz_of hs
    rw [hs] at SPL
    clear hs HB
    go_upto_region 3 with (first
      | (refine load_a w.heap.size 0 a u rfl (CA.out W0 (grown_refl _ _)) ?_)
      | (go_at_call 45; (with_reducible refine SPL.mono ?_); rintro e w1 ⟨rfl, g1⟩))
    have PI : Hid (w1.rangeAt w.heap.size 3 (pc a.p)) := plan_in (CA.out w1 g1)
    have G1 : Hid (W0.grownBy w1 none) := g1
    clear SPL g1
    go_upto_region 4 with (refine load_p w.heap.size 3 a.p rfl PI.out ?_)
    have G3 : Hid (W0.grownBy (w1.alloc (.cells (pa a.p) 24)) none) := grown_alloc G1.out _
    have CP : Hid (∀ W, (w1.alloc (.cells (pa a.p) 24)).grownBy W none → W.rangeAt w1.heap.size 0 (pc a.p)) := fun W g => (cs_new g).1
    clear PI G1
    generalize w1.alloc (.cells (pa a.p) 24) = v3 at *
    generalize w1.heap.size = q3 at *
    cases hp : peq a.p zP with
    | true =>
      have E : Hid (true = B) := by have := E1.out; unfold planB at this; rw [hp] at this; show _ = _; simpa using this
      rw [hp] at EQ
      clear hp E1
      go_wp2_with (refine load_p q3 0 a.p rfl (CP.out v3 (grown_refl _ _)) ?_)
      go_ret
      exact ⟨by rw [← E.out]; rfl, grown_tr G0.out G3.out⟩
    | false =>
      rw [hp] at EQ
      have HP : Hid (peq a.p zP = false) := hp
      obtain ⟨P, hP⟩ : ∃ P, plc a.l a.p.sh = P := ⟨_, rfl⟩
      have PLL := PL.out a.p.sh v3 (grown_tr G0.out G3.out)
      rw [hP] at PLL
      have c2 := (cells_p (CP.out v3 (grown_refl _ _))).2.2.1
      have HPP : Hid (plc a.l a.p.sh = P) := hP
      clear hp hP
      go_upto_region 7 with (first
        | (refine load_p q3 0 a.p rfl (CP.out v3 (grown_refl _ _)) ?_)
        | (refine load_a w.heap.size 0 a u rfl (CA.out v3 G3.out) ?_)
        | (go_at_call 46; (with_reducible refine PLL.mono ?_); rintro e w6 ⟨rfl, g6⟩))
      have G6 : Hid (v3.grownBy w6 none) := g6
      obtain ⟨b0, b1, b2, b3, b4, b5, b6, b7⟩ := cells_p (CP.out w6 G6.out)
      simp only [Nat.zero_add] at b0 b1 b2 b3 b4 b5 b6 b7
      clear PLL g6 c2 EQ
      by_cases hneg : P < 0
      · have E : Hid (false = B) := by have := E1.out; rw [planB_none (idx_none (by rw [HPP.out]; exact hneg)), HP.out] at this; exact this
        go_wp2_with fail
        go_ret
        exact ⟨by rw [← E.out]; rfl, grown_tr G0.out (grown_tr G3.out G6.out)⟩
      · obtain ⟨s, hs, hx, hi⟩ := plc_neg (by rw [HPP.out]; exact hneg)
        have HS : Hid (a.l[idx a.l a.p.sh]? = some s) := hs
        have hsp := RZ.sp s (List.mem_of_getElem? hs)
        have n16 := RZ.n16
        unfold SpR at hsp
        have se1 : 1 ≤ s.ep := hsp.2.2.1
        have se2 : s.ep ≤ 1099511627776 := hsp.2.2.2.1
        have EB : Hid ((decide (1 ≤ a.p.ep) && (mR a.p.ep && (stB a.p s && kindB a s))) = B) := by have := E1.out; rw [planB_some hs, HP.out, Bool.false_or] at this; exact this
        have hPi : P = (idx a.l a.p.sh : Int) := by rw [← HPP.out]; exact hi
        clear hx hi hsp hs E1 HPP RZ
        by_cases hk1 : a.p.k < 1
        · have E : Hid (false = B) := by have := EB.out; rw [k_bad (.inl hk1)] at this; show _ = _; simpa using this
          clear n16 se1 se2 hPi
          go_wp2_with fail
          go_ret
          exact ⟨by rw [← E.out]; rfl, grown_tr G0.out (grown_tr G3.out G6.out)⟩
        · by_cases hk3 : 3 < a.p.k
          · have E : Hid (false = B) := by have := EB.out; rw [k_bad (.inr hk3)] at this; show _ = _; simpa using this
            clear n16 se1 se2 hPi
            go_wp2_with fail
            go_ret
            exact ⟨by rw [← E.out]; rfl, grown_tr G0.out (grown_tr G3.out G6.out)⟩
          · by_cases he1 : a.p.ep < 1
            · have E : Hid (false = B) := by have := EB.out; rw [decide_eq_false (show ¬ 1 ≤ a.p.ep by omega)] at this; show _ = _; simpa using this
              clear n16 se1 se2 hPi
              go_wp2_with fail
              go_ret
              exact ⟨by rw [← E.out]; rfl, grown_tr G0.out (grown_tr G3.out G6.out)⟩
            · by_cases he2 : 1099511627774 < a.p.ep
              · have E : Hid (false = B) := by have := EB.out; rw [show mR a.p.ep = false from decide_eq_false (by omega)] at this; show _ = _; simpa using this
                clear n16 se1 se2 hPi
                go_wp2_with fail
                go_ret
                exact ⟨by rw [← E.out]; rfl, grown_tr G0.out (grown_tr G3.out G6.out)⟩
              · have EK : Hid ((stB a.p s && kindB a s) = B) := by have := EB.out; rw [decide_eq_true (show 1 ≤ a.p.ep by omega), show mR a.p.ep = true from decide_eq_true (by omega)] at this; show _ = _; simpa using this
                have hl := (List.getElem?_eq_some_iff.1 HS.out).1
                obtain ⟨ua, un, uc⟩ := u
                have hn : un = a.l.length := RA.out.2.1
                obtain ⟨N, hN⟩ : ∃ N, a.l.length = N := ⟨_, rfl⟩
                generalize hix : idx a.l a.p.sh = i at *
                have HIX : Hid (idx a.l a.p.sh = i) := hix
                subst hPi
                rw [hN] at hn hl n16
                subst hn
                have NL : Hid (a.l.length = un) := hN
                have RX : Hid (∀ W, W0.grownBy W none → eS.Rx W (.slice ua un uc) a.l) := fun W g => RA.out.1.grown (grown_tr G0.out g)
                try simp only at CA PL
                have i0 : ¬ ((i : Int) < 0) := by omega
                have i1 : (i : Int) < (un : Int) := by omega
                have i2 : (i : Int).toNat = i := by omega
                clear hN hix hneg EB
                obtain ⟨g, o, ea, r1⟩ := range_at (RX.out w6 (grown_tr G3.out G6.out)) HS.out
                have a2 := (cells_a (CA.out w6 (grown_tr G3.out G6.out))).2.2.1
                simp only at ea a2
                subst ea
                have R1 : Hid (w6.rangeAt g (o + i * 5) (sc s)) := r1
                clear r1
                go_upto_region 10 with (refine load_s g (o + i * 5) s rfl R1.out ?_)
                have G9 : Hid (W0.grownBy (w6.alloc (.cells (sa s) 29)) none) := grown_alloc (grown_tr G3.out G6.out) _
                have C9 : Hid (∀ W, (w6.alloc (.cells (sa s) 29)).grownBy W none → W.rangeAt q3 0 (pc a.p)) := fun W g => CP.out W (grown_tr G6.out (grown_tr (World.grownBy_alloc _ _ none) g))
                have S9 : Hid (∀ W, (w6.alloc (.cells (sa s) 29)).grownBy W none → W.rangeAt w6.heap.size 0 (sc s)) := fun W g => (box_s g).1
                clear b0 b1 b2 b3 b4 b5 b6 b7 a2 R1 G6 G3 CP
                generalize w6.alloc (.cells (sa s) 29) = v9 at *
                generalize w6.heap.size = q5 at *
                obtain ⟨b0, b1, b2, b3, b4, b5, b6, b7⟩ := cells_p (C9.out v9 (grown_refl _ _))
                obtain ⟨s0, s1, s2, s3, s4⟩ := cells_s (S9.out v9 (grown_refl _ _))
                simp only [Nat.zero_add] at b0 b1 b2 b3 b4 b5 b6 b7 s0 s1 s2 s3 s4
                have KR : Hid (1 ≤ a.p.k ∧ a.p.k ≤ 3 ∧ un ≤ 16) := (⟨by omega, by omega, n16⟩ : _ ∧ _)
                clear he1 he2 hk1 hk3 hl n16
                by_cases k1 : a.p.k = 1
                · have d1 : (a.p.k == 1) = true := by simpa using k1
                  have E : Hid (rmvB a s = B) := by have := EK.out; unfold kindB at this; rw [if_pos k1] at this; rw [rmvB_is]; exact this
                  have RM := fun W => rmove_any a ⟨some ⟨g, o, none⟩, un, uc⟩ s k1 se1 se2 W
                  clear k1 se1 se2 i0 i1 i2 s0 s1 s2 s3 s4
                  go_wp2_with (first
                    | (refine load_a w.heap.size 0 a _ rfl (CA.out v9 G9.out) ?_)
                    | (refine load_s q5 0 s rfl (S9.out v9 (grown_refl _ _)) ?_)
                    | (go_at_call 47; (with_reducible refine (RM _).mono ?_); rintro e w11 ⟨rfl, g11⟩))
                  go_ret
                  exact ⟨by rw [← E.out]; rfl, grown_tr G0.out (grown_tr G9.out g11)⟩
                · have d1 : (a.p.k == 1) = false := by simpa using k1
                  have w2 : IntKind.i64.wrap (s.ep - 2) = s.ep - 2 := by rw [IntKind.wrap_i64]; omega
                  have K1 : Hid (¬ a.p.k = 1) := k1
                  clear k1 se1 se2
                  go_upto_region 12 with fail
                  go_cut [95] from 45 to 94 (fun t wx => t = .bool (!sidB a.p s) ∧ wx = v9)
                  case first =>
                    clear i0 i1 i2
                    cases f1 : (a.p.gp == s.gr) with
                    | true =>
                      have f1n : (a.p.gp != s.gr) = false := by unfold bne; rw [f1]; rfl
                      have f1O : Hid ((a.p.gp == s.gr) = true) := f1
                      cases f2 : (a.p.pa == 0) with
                      | true =>
                        have f2n : (a.p.pa != 0) = false := by unfold bne; rw [f2]; rfl
                        have f2O : Hid ((a.p.pa == 0) = true) := f2
                        cases f3 : (a.p.ph == 1) with
                        | true =>
                          have f3n : (a.p.ph != 1) = false := by unfold bne; rw [f3]; rfl
                          have f3O : Hid ((a.p.ph == 1) = true) := f3
                          have f5 : (a.p.ph == 9) = false := by have := f3O.out; simp at this ⊢; omega
                          have f5O : Hid ((a.p.ph == 9) = false) := f5
                          cases f4 : (a.p.ep == s.ep) with
                          | true =>
                            have f4n : (a.p.ep != s.ep) = false := by unfold bne; rw [f4]; rfl
                            have f4O : Hid ((a.p.ep == s.ep) = true) := f4
                            go_wp2_with fail
                            go_meet
                            exact ⟨by unfold sidB; simp only [f1O.out, f2O.out, f3O.out, f4O.out, f5O.out]; first | rfl | simp, rfl⟩
                          | false =>
                            have f4n : (a.p.ep != s.ep) = true := by unfold bne; rw [f4]; rfl
                            have f4O : Hid ((a.p.ep == s.ep) = false) := f4
                            go_wp2_with fail
                            go_meet
                            exact ⟨by unfold sidB; simp only [f1O.out, f2O.out, f3O.out, f4O.out, f5O.out]; first | rfl | simp, rfl⟩
                        | false =>
                          have f3n : (a.p.ph != 1) = true := by unfold bne; rw [f3]; rfl
                          have f3O : Hid ((a.p.ph == 1) = false) := f3
                          cases f5 : (a.p.ph == 9) with
                          | true =>
                            have f5n : (a.p.ph != 9) = false := by unfold bne; rw [f5]; rfl
                            have f5O : Hid ((a.p.ph == 9) = true) := f5
                            cases f6 : (a.p.ep == s.ep - 2) with
                            | true =>
                              have f6n : (a.p.ep != s.ep - 2) = false := by unfold bne; rw [f6]; rfl
                              have f6O : Hid ((a.p.ep == s.ep - 2) = true) := f6
                              go_wp2_with fail
                              go_meet
                              exact ⟨by unfold sidB; simp only [f1O.out, f2O.out, f3O.out, f5O.out, f6O.out]; first | rfl | simp, rfl⟩
                            | false =>
                              have f6n : (a.p.ep != s.ep - 2) = true := by unfold bne; rw [f6]; rfl
                              have f6O : Hid ((a.p.ep == s.ep - 2) = false) := f6
                              go_wp2_with fail
                              go_meet
                              exact ⟨by unfold sidB; simp only [f1O.out, f2O.out, f3O.out, f5O.out, f6O.out]; first | rfl | simp, rfl⟩
                          | false =>
                            have f5n : (a.p.ph != 9) = true := by unfold bne; rw [f5]; rfl
                            have f5O : Hid ((a.p.ph == 9) = false) := f5
                            go_wp2_with fail
                            go_meet
                            exact ⟨by unfold sidB; simp only [f1O.out, f2O.out, f3O.out, f5O.out]; first | rfl | simp, rfl⟩
                      | false =>
                        have f2n : (a.p.pa != 0) = true := by unfold bne; rw [f2]; rfl
                        have f2O : Hid ((a.p.pa == 0) = false) := f2
                        go_wp2_with fail
                        go_meet
                        exact ⟨by unfold sidB; simp only [f1O.out, f2O.out]; first | rfl | simp, rfl⟩
                    | false =>
                      have f1n : (a.p.gp != s.gr) = true := by unfold bne; rw [f1]; rfl
                      have f1O : Hid ((a.p.gp == s.gr) = false) := f1
                      go_wp2_with fail
                      go_meet
                      exact ⟨by unfold sidB; simp only [f1O.out]; first | rfl | simp, rfl⟩
                  case rest =>
                    obtain ⟨rfl, rfl⟩ := hcut
                    cases hsd : sidB a.p s with
                    | false =>
                      have E : Hid (false = B) := by have := EK.out; rw [sid_no K1.out hsd] at this; exact this
                      clear hsd i0 i1 i2
                      go_wp2_with fail
                      go_ret
                      exact ⟨by rw [← E.out]; rfl, grown_tr G0.out G9.out⟩
                    | true =>
                      obtain ⟨st, pz, hg⟩ := sid_yes K1.out hsd
                      have EE : Hid (kindB a s = B) := by have := EK.out; rw [st, Bool.true_and] at this; exact this
                      have PZ : Hid (a.p.pa = 0 ∧ a.p.gp = s.gr) := (⟨pz, hg⟩ : _ ∧ _)
                      clear hsd st pz hg EK
                      by_cases k2 : a.p.k = 2
                      · have d2 : (a.p.k == 2) = true := by simpa using k2
                        have ES : Hid (((a.p.ot == a.la) && (decide (plc a.l a.p.ot < 0) && (parts s a.p.key && decide (un < 16)))) = B) := by have := EE.out; rw [split_is k2 PZ.out.1, NL.out] at this; exact this
                        have PO := PL.out a.p.ot wc (grown_tr G0.out G9.out)
                        obtain ⟨a0, a1, a2, _⟩ := cells_a (CA.out wc G9.out)
                        simp only at a2
                        clear k2 EE i0 i1 i2
                        cases o1 : (a.p.ot == a.la) with
                        | false =>
                          have E : Hid (false = B) := by have := ES.out; rw [o1] at this; show _ = _; simpa using this
                          go_wp2_with fail
                          go_ret
                          exact ⟨by rw [← E.out]; rfl, grown_tr G0.out G9.out⟩
                        | true =>
                          obtain ⟨P2, hP2⟩ : ∃ P2, plc a.l a.p.ot = P2 := ⟨_, rfl⟩
                          rw [hP2] at PO
                          by_cases hn2 : P2 < 0
                          · cases pk : parts s a.p.key with
                            | false =>
                              have INS := fun W => IN.out s W
                              rw [pk] at INS
                              have E : Hid (false = B) := by have := ES.out; rw [pk] at this; show _ = _; simpa using this
                              clear pk hP2
                              go_wp2_with (first
                                | (refine load_ag w.heap.size 0 a _ (by rfl) rfl (CA.out wc G9.out) ?_)
                                | (go_at_call 46; (with_reducible refine PO.mono ?_); rintro e w15 ⟨rfl, g15⟩; have y7 := (cells_p (C9.out w15 g15)).2.2.2.2.2.2.2)
                                | (refine load_sg q5 0 s (by rfl) rfl (S9.out w15 g15) ?_)
                                | (go_at_call 48; (with_reducible refine (INS _).mono ?_); rintro e w16 ⟨rfl, g16⟩))
                              go_ret
                              exact ⟨by rw [← E.out]; rfl, grown_tr G0.out (grown_tr G9.out (grown_tr g15 g16))⟩
                            | true =>
                              have INS := fun W => IN.out s W
                              rw [pk] at INS
                              have E : Hid (decide (un < 16) = B) := by have := ES.out; rw [o1, hP2, decide_eq_true hn2, pk] at this; show _ = _; simpa using this
                              clear pk hP2
                              go_wp2_with (first
                                | (refine load_ag w.heap.size 0 a _ (by rfl) rfl (CA.out wc G9.out) ?_)
                                | (go_at_call 46; (with_reducible refine PO.mono ?_); rintro e w15 ⟨rfl, g15⟩; have y7 := (cells_p (C9.out w15 g15)).2.2.2.2.2.2.2)
                                | (refine load_sg q5 0 s (by rfl) rfl (S9.out w15 g15) ?_)
                                | (go_at_call 48; (with_reducible refine (INS _).mono ?_); rintro e w16 ⟨rfl, g16⟩; have z2 := (cells_a (CA.out w16 (grown_tr G9.out (grown_tr g15 g16)))).2.2.1))
                              go_ret
                              exact ⟨ret_bool (by rw [← E.out, Bool.eq_iff_iff]; simp <;> omega), grown_tr G0.out (grown_tr G9.out (grown_tr g15 g16))⟩
                          · have E : Hid (false = B) := by have := ES.out; rw [hP2, decide_eq_false hn2] at this; show _ = _; simpa using this
                            clear hP2
                            go_wp2_with (first
                              | (refine load_ag w.heap.size 0 a _ (by rfl) rfl (CA.out wc G9.out) ?_)
                              | (go_at_call 46; (with_reducible refine PO.mono ?_); rintro e w15 ⟨rfl, g15⟩))
                            go_ret
                            exact ⟨by rw [← E.out]; rfl, grown_tr G0.out (grown_tr G9.out g15)⟩
                      · have d2 : (a.p.k == 2) = false := by simpa using k2
                        have k3 : a.p.k = 3 := by have h1 := KR.out; have h2 := K1.out; omega
                        have K3 : Hid (a.p.k = 3) := k3
                        obtain ⟨_, _, x2, _⟩ := cells_a (CA.out wc G9.out)
                        simp only at x2
                        have hw1 : IntKind.i64.wrap ((i : Int) + 1) = (i : Int) + 1 := by rw [IntKind.wrap_i64]; have := KR.out; omega
                        have TN : Hid (a.l[i + 1]? = none → kindB a s = false) := fun ht => merge_no K3.out (by rw [HIX.out]; exact ht)
                        have TS : Hid (∀ t, a.l[i + 1]? = some t → kindB a s = ((a.p.key.toList == []) && ((t.sh == a.p.ot) && ((t.gr == s.gr) && decide (t.ep ≤ 1099511627774))))) := fun t ht => merge_is K3.out PZ.out.1 PZ.out.2 (by rw [HIX.out]; exact ht)
                        clear k2 k3 w2 b1 b2 b4 b5 b6 s0 s1 s2 s3
                        cases ky : (a.p.key.toList == []) with
                        | false =>
                          have E : Hid (false = B) := by
                            have hE := EE.out
                            cases ht : a.l[i + 1]? with
                            | none => rw [TN.out ht] at hE; exact hE
                            | some t => rw [TS.out t ht, ky] at hE; show _ = _; simpa using hE
                          go_upto_region 16 with fail
                          go_quiet (fail)
                          go_wp2_with fail
                          go_ret
                          exact ⟨by rw [← E.out]; rfl, grown_tr G0.out (grown_drewN G9.out _)⟩
                        | true =>
                          by_cases hlt : i + 1 < un
                          · obtain ⟨t, ht⟩ : ∃ t, a.l[i + 1]? = some t := ⟨_, List.getElem?_eq_getElem (by rw [NL.out]; exact hlt)⟩
                            have E0 : Hid (((t.sh == a.p.ot) && ((t.gr == s.gr) && decide (t.ep ≤ 1099511627774))) = B) := by have hE := EE.out; rw [TS.out t ht, ky, Bool.true_and] at hE; exact hE
                            obtain ⟨t0, t1, t2, t3, t4⟩ := cells_s (range_in (RX.out wc G9.out) ht)
                            have c1 : 0 ≤ (i : Int) + 1 := by omega
                            have c2 : (i : Int) + 1 < (un : Int) := by omega
                            have c3 : ((i : Int) + 1).toNat = i + 1 := by omega
                            clear ht hlt i0 i1 i2 t0 t1
                            cases f1 : (t.sh == a.p.ot) with
                            | false =>
                              have E : Hid (false = B) := by have hE := E0.out; rw [f1] at hE; show _ = _; simpa using hE
                              go_upto_region 16 with fail
                              go_quiet (fail)
                              go_wp2_with fail
                              go_ret
                              exact ⟨by rw [← E.out]; rfl, grown_tr G0.out (grown_drewN G9.out _)⟩
                            | true =>
                              cases f2 : (t.gr == s.gr) with
                              | false =>
                                have E : Hid (false = B) := by have hE := E0.out; rw [f2] at hE; show _ = _; simpa using hE
                                go_upto_region 16 with fail
                                go_quiet (fail)
                                go_wp2_with fail
                                go_ret
                                exact ⟨by rw [← E.out]; rfl, grown_tr G0.out (grown_drewN G9.out _)⟩
                              | true =>
                                have E : Hid (decide (t.ep ≤ 1099511627774) = B) := by have hE := E0.out; rw [f1, f2] at hE; show _ = _; simpa using hE
                                go_upto_region 16 with fail
                                go_quiet (fail)
                                go_wp2_with fail
                                go_ret
                                exact ⟨ret_bool (by first | (rw [← E.out]; done) | (rw [← E.out, Bool.eq_iff_iff]; simp)), grown_tr G0.out (grown_drewN G9.out _)⟩
                          · have E : Hid (false = B) := by have hE := EE.out; rw [TN.out (List.getElem?_eq_none (by rw [NL.out]; omega))] at hE; exact hE
                            have c2 : ¬ ((i : Int) + 1 < (un : Int)) := by omega
                            clear hlt i0 i1 i2
                            go_upto_region 16 with fail
                            go_quiet (fail)
                            go_wp2_with fail
                            go_ret
                            exact ⟨by rw [← E.out]; rfl, grown_tr G0.out (grown_drewN G9.out _)⟩

end Go.Proofs.Ytlolhdijadhklaa
