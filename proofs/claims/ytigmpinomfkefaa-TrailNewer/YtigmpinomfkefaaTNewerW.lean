/- Of two logs one is as new or newer: the statement's walk. -/
import Derived.Test.YtigmpinomfkefaaTAwake
import Derived.Test.YtigmpinomfkefaaTArgs
namespace Go.Proofs.Ytigmpinomfkefaa
open Go.RowKit Trl
set_option linter.unusedVariables false

namespace trailNewer
theorem new_is (b k : Int) (l : List En) (n q : Int) : new b k l n q = (decide (lastT k l < q) || (decide (q = lastT k l) && decide (b + (l.length : Int) ≤ n))) := rfl
set_option maxRecDepth 100000 in
set_option maxHeartbeats 6400000 in
theorem walk (w : World) (va : Value) (o0 : ∃ b k l, Tr w va b k l) (vb : Value) (o1 : ∃ b k l, Tr w vb b k l) :
    Calls Try.prog 4 #[va, vb] w fun e w' => e = .returned (.bool true) ∧ Below w.heap.size w w' := by
  obtain ⟨b1, k1, la, sa, rfl, ha, _⟩ := o0
  obtain ⟨b2, k2, lb, sb, rfl, hb, _⟩ := o1
  have AW : Hid (∀ W, _) := awake_any
  have CA : Hid (∀ W, w.grownBy W none → _) := fun W g => check_any b1 k1 sa la W (ha.grown g)
  have CB : Hid (∀ W, w.grownBy W none → _) := fun W g => check_any b2 k2 sb lb W (hb.grown g)
  obtain ⟨ad, ca, hv, _, _, _⟩ := id ha
  subst hv
  obtain ⟨aq, cq, hv, _, _, _⟩ := id hb
  subst hv
  have gg : Hid (∀ {W : World} {o1 o2 : Obj}, ((w.alloc o1).alloc o2).grownBy W none → w.grownBy W none) := fun {W o1 o2} g => grown_tr (grown_tr (World.grownBy_alloc w o1 none) (World.grownBy_alloc _ o2 none)) g
  have tokA : True := trivial
  cases h1 : chk b1 k1 la with
  | false =>
    rw [h1] at CA
    clear ha hb h1 CB
    generalize la.length = N at *
    generalize lb.length = M at *
    go_enter Try.func4, Try.ntmps4
    go_wp2_with (first
      | (go_at_call 5; (with_reducible refine (AW.out _).mono ?_); rintro e w1 ⟨rfl, g1⟩; obtain ⟨⟨q0, q1, q2⟩, ⟨z0, z1, z2⟩, _⟩ := two_kept g1)
      | (go_at_call 8; (with_reducible refine (CA.out _ (gg.out g1)).mono ?_); rintro e w2 ⟨rfl, g2⟩))
    go_ret
    exact ⟨rfl, grown_below (gg.out (grown_tr g1 g2))⟩
  | true =>
  rw [h1] at CA
  cases h2 : chk b2 k2 lb with
  | false =>
    rw [h2] at CB
    clear ha hb h1 h2
    generalize la.length = N at *
    generalize lb.length = M at *
    go_enter Try.func4, Try.ntmps4
    go_wp2_with (first
      | (go_at_call 5; (with_reducible refine (AW.out _).mono ?_); rintro e w1 ⟨rfl, g1⟩; obtain ⟨⟨q0, q1, q2⟩, ⟨z0, z1, z2⟩, _⟩ := two_kept g1)
      | (have _t := tokA; go_at_call 8; (with_reducible refine (CA.out _ (gg.out g1)).mono ?_); rintro e w2 ⟨rfl, g2⟩; have G2 := grown_tr g1 g2; obtain ⟨⟨r0, r1, r2⟩, ⟨y0, y1, y2⟩, _⟩ := two_kept G2; clear tokA)
      | (go_at_call 8; (with_reducible refine (CB.out _ (gg.out G2)).mono ?_); rintro e w3 ⟨rfl, g3⟩))
    go_ret
    exact ⟨rfl, grown_below (gg.out (grown_tr G2 g3))⟩
  | true =>
  rw [h2] at CB
  have LA : Hid (∀ W, w.grownBy W none → _) := fun W g => last_any b1 k1 _ la W (ha.grown g) h1
  have LB : Hid (∀ W, w.grownBy W none → _) := fun W g => last_any b2 k2 _ lb W (hb.grown g) h2
  have NA : Hid (∀ W, w.grownBy W none → _) := fun W g => newer_any b1 k1 (b2 + (lb.length : Int)) (lastT k2 lb) _ la W (ha.grown g) h1
  have NB : Hid (∀ W, w.grownBy W none → _) := fun W g => newer_any b2 k2 (b1 + (la.length : Int)) (lastT k1 la) _ lb W (hb.grown g) h2
  have NC : Hid (∀ W, w.grownBy W none → _) := fun W g => newer_any b1 k1 (b1 + (la.length : Int)) (lastT k1 la) _ la W (ha.grown g) h1
  rw [new_is] at NA NB NC
  clear ha hb h1 h2
  have tokB : True := trivial
  have tokC : True := trivial
  have tokD : True := trivial
  generalize la.length = N at *
  generalize lb.length = M at *
  obtain ⟨n, hn⟩ : ∃ n, b1 + (N : Int) = n := ⟨_, rfl⟩
  obtain ⟨m, hm⟩ : ∃ m, b2 + (M : Int) = m := ⟨_, rfl⟩
  generalize lastT k1 la = x at *
  generalize lastT k2 lb = y at *
  rw [hn] at LA NA NB NC
  rw [hm] at LB NA NB
  rw [decide_eq_false (show ¬ x < x by omega), decide_eq_true (show x = x from rfl), decide_eq_true (show n ≤ n by omega), Bool.true_and, Bool.false_or] at NC
  clear hn hm
  rcases Int.lt_trichotomy x y with hxy | hxy | hxy
  · rw [decide_eq_true hxy, Bool.true_or] at NA
    rw [decide_eq_false (show ¬ y < x by omega), decide_eq_false (show ¬ x = y by omega), Bool.false_and, Bool.or_false] at NB
    have e1 : (x == y) = false := by simp; omega
    cases e2 : (n == m)
    all_goals
      go_enter Try.func4, Try.ntmps4
      go_wp2_with (first
      | (go_at_call 5; (with_reducible refine (AW.out _).mono ?_); rintro e w1 ⟨rfl, g1⟩; obtain ⟨⟨q0, q1, q2⟩, ⟨z0, z1, z2⟩, _⟩ := two_kept g1)
      | (have _t := tokA; go_at_call 8; (with_reducible refine (CA.out _ (gg.out g1)).mono ?_); rintro e w2 ⟨rfl, g2⟩; have G2 := grown_tr g1 g2; obtain ⟨⟨r0, r1, r2⟩, ⟨y0, y1, y2⟩, _⟩ := two_kept G2; clear tokA)
      | (go_at_call 8; (with_reducible refine (CB.out _ (gg.out G2)).mono ?_); rintro e w3 ⟨rfl, g3⟩; have G3 := grown_tr G2 g3; obtain ⟨⟨s0, s1, s2⟩, ⟨x0, x1, x2⟩, _⟩ := two_kept G3)
      | (have _t := tokB; go_at_call 9; (with_reducible refine (LA.out _ (gg.out G3)).mono ?_); rintro e w4 ⟨rfl, g4⟩; have G4 := grown_tr G3 g4; obtain ⟨⟨u0, u1, u2⟩, ⟨v0, v1, v2⟩, _⟩ := two_kept G4; clear tokB)
      | (go_at_call 9; (with_reducible refine (LB.out _ (gg.out G4)).mono ?_); rintro e w5 ⟨rfl, g5⟩; have G5 := grown_tr G4 g5; obtain ⟨⟨a0, a1, a2⟩, ⟨c0, c1, c2⟩, _⟩ := two_kept G5)
      | (have _t := tokC; go_at_call 10; (with_reducible refine (NA.out _ (gg.out G5)).mono ?_); rintro e w6 ⟨rfl, g6⟩; have G6 := grown_tr G5 g6; obtain ⟨⟨d0, d1, d2⟩, ⟨i0, i1, i2⟩, _⟩ := two_kept G6; clear tokC)
      | (have _t := tokD; go_at_call 10; (with_reducible refine (NB.out _ (gg.out G6)).mono ?_); rintro e w7 ⟨rfl, g7⟩; have G7 := grown_tr G6 g7; obtain ⟨⟨j0, j1, j2⟩, ⟨l0, l1, l2⟩, _⟩ := two_kept G7; clear tokD)
      | (go_at_call 10; (with_reducible refine (NC.out _ (gg.out G7)).mono ?_); rintro e w8 ⟨rfl, g8⟩; have G8 := grown_tr G7 g8))
      go_ret
      exact ⟨rfl, grown_below (gg.out G8)⟩
  · subst hxy
    rw [decide_eq_false (show ¬ x < x by omega), decide_eq_true (show x = x from rfl), Bool.true_and, Bool.false_or] at NA NB
    rcases Int.lt_trichotomy n m with hnm | hnm | hnm
    · rw [decide_eq_true (show n ≤ m by omega)] at NA
      rw [decide_eq_false (show ¬ m ≤ n by omega)] at NB
      have e2 : (n == m) = false := by simp; omega
      go_enter Try.func4, Try.ntmps4
      go_wp2_with (first
      | (go_at_call 5; (with_reducible refine (AW.out _).mono ?_); rintro e w1 ⟨rfl, g1⟩; obtain ⟨⟨q0, q1, q2⟩, ⟨z0, z1, z2⟩, _⟩ := two_kept g1)
      | (have _t := tokA; go_at_call 8; (with_reducible refine (CA.out _ (gg.out g1)).mono ?_); rintro e w2 ⟨rfl, g2⟩; have G2 := grown_tr g1 g2; obtain ⟨⟨r0, r1, r2⟩, ⟨y0, y1, y2⟩, _⟩ := two_kept G2; clear tokA)
      | (go_at_call 8; (with_reducible refine (CB.out _ (gg.out G2)).mono ?_); rintro e w3 ⟨rfl, g3⟩; have G3 := grown_tr G2 g3; obtain ⟨⟨s0, s1, s2⟩, ⟨x0, x1, x2⟩, _⟩ := two_kept G3)
      | (have _t := tokB; go_at_call 9; (with_reducible refine (LA.out _ (gg.out G3)).mono ?_); rintro e w4 ⟨rfl, g4⟩; have G4 := grown_tr G3 g4; obtain ⟨⟨u0, u1, u2⟩, ⟨v0, v1, v2⟩, _⟩ := two_kept G4; clear tokB)
      | (go_at_call 9; (with_reducible refine (LB.out _ (gg.out G4)).mono ?_); rintro e w5 ⟨rfl, g5⟩; have G5 := grown_tr G4 g5; obtain ⟨⟨a0, a1, a2⟩, ⟨c0, c1, c2⟩, _⟩ := two_kept G5)
      | (have _t := tokC; go_at_call 10; (with_reducible refine (NA.out _ (gg.out G5)).mono ?_); rintro e w6 ⟨rfl, g6⟩; have G6 := grown_tr G5 g6; obtain ⟨⟨d0, d1, d2⟩, ⟨i0, i1, i2⟩, _⟩ := two_kept G6; clear tokC)
      | (have _t := tokD; go_at_call 10; (with_reducible refine (NB.out _ (gg.out G6)).mono ?_); rintro e w7 ⟨rfl, g7⟩; have G7 := grown_tr G6 g7; obtain ⟨⟨j0, j1, j2⟩, ⟨l0, l1, l2⟩, _⟩ := two_kept G7; clear tokD)
      | (go_at_call 10; (with_reducible refine (NC.out _ (gg.out G7)).mono ?_); rintro e w8 ⟨rfl, g8⟩; have G8 := grown_tr G7 g8))
      go_ret
      exact ⟨rfl, grown_below (gg.out G8)⟩
    · subst hnm
      rw [decide_eq_true (show n ≤ n by omega)] at NA NB
      go_enter Try.func4, Try.ntmps4
      go_wp2_with (first
      | (go_at_call 5; (with_reducible refine (AW.out _).mono ?_); rintro e w1 ⟨rfl, g1⟩; obtain ⟨⟨q0, q1, q2⟩, ⟨z0, z1, z2⟩, _⟩ := two_kept g1)
      | (have _t := tokA; go_at_call 8; (with_reducible refine (CA.out _ (gg.out g1)).mono ?_); rintro e w2 ⟨rfl, g2⟩; have G2 := grown_tr g1 g2; obtain ⟨⟨r0, r1, r2⟩, ⟨y0, y1, y2⟩, _⟩ := two_kept G2; clear tokA)
      | (go_at_call 8; (with_reducible refine (CB.out _ (gg.out G2)).mono ?_); rintro e w3 ⟨rfl, g3⟩; have G3 := grown_tr G2 g3; obtain ⟨⟨s0, s1, s2⟩, ⟨x0, x1, x2⟩, _⟩ := two_kept G3)
      | (have _t := tokB; go_at_call 9; (with_reducible refine (LA.out _ (gg.out G3)).mono ?_); rintro e w4 ⟨rfl, g4⟩; have G4 := grown_tr G3 g4; obtain ⟨⟨u0, u1, u2⟩, ⟨v0, v1, v2⟩, _⟩ := two_kept G4; clear tokB)
      | (go_at_call 9; (with_reducible refine (LB.out _ (gg.out G4)).mono ?_); rintro e w5 ⟨rfl, g5⟩; have G5 := grown_tr G4 g5; obtain ⟨⟨a0, a1, a2⟩, ⟨c0, c1, c2⟩, _⟩ := two_kept G5)
      | (have _t := tokC; go_at_call 10; (with_reducible refine (NA.out _ (gg.out G5)).mono ?_); rintro e w6 ⟨rfl, g6⟩; have G6 := grown_tr G5 g6; obtain ⟨⟨d0, d1, d2⟩, ⟨i0, i1, i2⟩, _⟩ := two_kept G6; clear tokC)
      | (have _t := tokD; go_at_call 10; (with_reducible refine (NB.out _ (gg.out G6)).mono ?_); rintro e w7 ⟨rfl, g7⟩; have G7 := grown_tr G6 g7; obtain ⟨⟨j0, j1, j2⟩, ⟨l0, l1, l2⟩, _⟩ := two_kept G7; clear tokD)
      | (go_at_call 10; (with_reducible refine (NC.out _ (gg.out G7)).mono ?_); rintro e w8 ⟨rfl, g8⟩; have G8 := grown_tr G7 g8))
      go_ret
      exact ⟨rfl, grown_below (gg.out G8)⟩
    · rw [decide_eq_false (show ¬ n ≤ m by omega)] at NA
      rw [decide_eq_true (show m ≤ n by omega)] at NB
      have e2 : (n == m) = false := by simp; omega
      go_enter Try.func4, Try.ntmps4
      go_wp2_with (first
      | (go_at_call 5; (with_reducible refine (AW.out _).mono ?_); rintro e w1 ⟨rfl, g1⟩; obtain ⟨⟨q0, q1, q2⟩, ⟨z0, z1, z2⟩, _⟩ := two_kept g1)
      | (have _t := tokA; go_at_call 8; (with_reducible refine (CA.out _ (gg.out g1)).mono ?_); rintro e w2 ⟨rfl, g2⟩; have G2 := grown_tr g1 g2; obtain ⟨⟨r0, r1, r2⟩, ⟨y0, y1, y2⟩, _⟩ := two_kept G2; clear tokA)
      | (go_at_call 8; (with_reducible refine (CB.out _ (gg.out G2)).mono ?_); rintro e w3 ⟨rfl, g3⟩; have G3 := grown_tr G2 g3; obtain ⟨⟨s0, s1, s2⟩, ⟨x0, x1, x2⟩, _⟩ := two_kept G3)
      | (have _t := tokB; go_at_call 9; (with_reducible refine (LA.out _ (gg.out G3)).mono ?_); rintro e w4 ⟨rfl, g4⟩; have G4 := grown_tr G3 g4; obtain ⟨⟨u0, u1, u2⟩, ⟨v0, v1, v2⟩, _⟩ := two_kept G4; clear tokB)
      | (go_at_call 9; (with_reducible refine (LB.out _ (gg.out G4)).mono ?_); rintro e w5 ⟨rfl, g5⟩; have G5 := grown_tr G4 g5; obtain ⟨⟨a0, a1, a2⟩, ⟨c0, c1, c2⟩, _⟩ := two_kept G5)
      | (have _t := tokC; go_at_call 10; (with_reducible refine (NA.out _ (gg.out G5)).mono ?_); rintro e w6 ⟨rfl, g6⟩; have G6 := grown_tr G5 g6; obtain ⟨⟨d0, d1, d2⟩, ⟨i0, i1, i2⟩, _⟩ := two_kept G6; clear tokC)
      | (have _t := tokD; go_at_call 10; (with_reducible refine (NB.out _ (gg.out G6)).mono ?_); rintro e w7 ⟨rfl, g7⟩; have G7 := grown_tr G6 g7; obtain ⟨⟨j0, j1, j2⟩, ⟨l0, l1, l2⟩, _⟩ := two_kept G7; clear tokD)
      | (go_at_call 10; (with_reducible refine (NC.out _ (gg.out G7)).mono ?_); rintro e w8 ⟨rfl, g8⟩; have G8 := grown_tr G7 g8))
      go_ret
      exact ⟨rfl, grown_below (gg.out G8)⟩
  · rw [decide_eq_false (show ¬ x < y by omega), decide_eq_false (show ¬ y = x by omega), Bool.false_and, Bool.or_false] at NA
    rw [decide_eq_true hxy, Bool.true_or] at NB
    have e1 : (x == y) = false := by simp; omega
    cases e2 : (n == m)
    all_goals
      go_enter Try.func4, Try.ntmps4
      go_wp2_with (first
      | (go_at_call 5; (with_reducible refine (AW.out _).mono ?_); rintro e w1 ⟨rfl, g1⟩; obtain ⟨⟨q0, q1, q2⟩, ⟨z0, z1, z2⟩, _⟩ := two_kept g1)
      | (have _t := tokA; go_at_call 8; (with_reducible refine (CA.out _ (gg.out g1)).mono ?_); rintro e w2 ⟨rfl, g2⟩; have G2 := grown_tr g1 g2; obtain ⟨⟨r0, r1, r2⟩, ⟨y0, y1, y2⟩, _⟩ := two_kept G2; clear tokA)
      | (go_at_call 8; (with_reducible refine (CB.out _ (gg.out G2)).mono ?_); rintro e w3 ⟨rfl, g3⟩; have G3 := grown_tr G2 g3; obtain ⟨⟨s0, s1, s2⟩, ⟨x0, x1, x2⟩, _⟩ := two_kept G3)
      | (have _t := tokB; go_at_call 9; (with_reducible refine (LA.out _ (gg.out G3)).mono ?_); rintro e w4 ⟨rfl, g4⟩; have G4 := grown_tr G3 g4; obtain ⟨⟨u0, u1, u2⟩, ⟨v0, v1, v2⟩, _⟩ := two_kept G4; clear tokB)
      | (go_at_call 9; (with_reducible refine (LB.out _ (gg.out G4)).mono ?_); rintro e w5 ⟨rfl, g5⟩; have G5 := grown_tr G4 g5; obtain ⟨⟨a0, a1, a2⟩, ⟨c0, c1, c2⟩, _⟩ := two_kept G5)
      | (have _t := tokC; go_at_call 10; (with_reducible refine (NA.out _ (gg.out G5)).mono ?_); rintro e w6 ⟨rfl, g6⟩; have G6 := grown_tr G5 g6; obtain ⟨⟨d0, d1, d2⟩, ⟨i0, i1, i2⟩, _⟩ := two_kept G6; clear tokC)
      | (have _t := tokD; go_at_call 10; (with_reducible refine (NB.out _ (gg.out G6)).mono ?_); rintro e w7 ⟨rfl, g7⟩; have G7 := grown_tr G6 g7; obtain ⟨⟨j0, j1, j2⟩, ⟨l0, l1, l2⟩, _⟩ := two_kept G7; clear tokD)
      | (go_at_call 10; (with_reducible refine (NC.out _ (gg.out G7)).mono ?_); rintro e w8 ⟨rfl, g8⟩; have G8 := grown_tr G7 g8))
      go_ret
      exact ⟨rfl, grown_below (gg.out G8)⟩
end trailNewer
end Go.Proofs.Ytigmpinomfkefaa
