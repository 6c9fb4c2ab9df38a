/- What the document's own 'Fits' answers. -/
import Derived.Test.YthjfecniipifhaaDoorKRefCheck
import Derived.Test.YthjfecniipifhaaDoorKEither
namespace Go.Proofs.YthjfecniipifhaaDoor
open Go.RowKit
set_option linter.unusedVariables false

set_option maxRecDepth 100000 in
set_option maxHeartbeats 1600000 in
theorem rFits_no (m0 m1 m2 m3 m4 : Nat) (ad aw : Bool) (y m d h n k : Int) (r : Bool) (I E : Int) (hno : E ≠ 0 ∨ (E = 0 ∧ (r = false ∨ k < 0 ∨ 6 < k)))
    (TO : ∀ w, Calls Tryd.prog 33 #[civ y m d h n k] w fun e w' => e = .returned (.tuple #[.int .i64 I, .int .i64 E]) ∧ w.grownBy w' none)
    (CK : ∀ w, Calls Tryd.prog 15 #[.agg #[.int .u64 m0, .int .u64 m1, .int .u64 m2, .int .u64 m3, .int .u64 m4, .bool ad, .bool aw]] w fun e w' => e = .returned (.bool r) ∧ w.grownBy w' none) (w : World) :
    Calls Tryd.prog 17 #[.agg #[.int .u64 m0, .int .u64 m1, .int .u64 m2, .int .u64 m3, .int .u64 m4, .bool ad, .bool aw], civ y m d h n k] w fun e w' => e = .returned (.bool false) ∧ w.grownBy w' none := by
  obtain ⟨W0, hW0⟩ : ∃ W0, W0 = (w.alloc (.cells #[.int .u64 m0, .int .u64 m1, .int .u64 m2, .int .u64 m3, .int .u64 m4, .bool ad, .bool aw] 25)).alloc (.cells #[.int .i64 y, .int .i64 m, .int .i64 d, .int .i64 h, .int .i64 n, .int .i64 k] 36) := ⟨_, rfl⟩
  have TW : Hid (∀ w2, W0.grownBy w2 none → Two w w2 m0 m1 m2 m3 m4 ad aw y m d h n k) := fun w2 hg => by subst hW0; exact Two.of hg
  have WW : Hid (∀ w2, W0.grownBy w2 none → w.grownBy w2 none) := fun w2 hg => by subst hW0; exact grown_more (grown_alloc (World.grownBy_alloc w _ none) _) hg (by simp)
  by_cases hE : E = 0
  · subst hE
    have hq : r = false ∨ k < 0 ∨ 6 < k := by rcases hno with h' | h'; exact absurd rfl h'; exact h'.2
    clear hno
    cases r with
    | false =>
      clear hq
      go_enter Tryd.func17, Tryd.ntmps17
      go_wp2_with (first
        | (rw [← hW0]; go_at_call 33; go_must (refine (TO _).mono ?_); rintro e w1 ⟨rfl, hg1⟩; obtain ⟨⟨a0, a1, a2, a3, a4, a5, a6⟩, _⟩ := TW.out _ hg1)
        | (go_at_call 15; go_must (refine (CK _).mono ?_); rintro e w2 ⟨rfl, hg2⟩))
      go_ret
      exact ⟨rfl, WW.out _ (grown_more hg1 hg2 (by simp))⟩
    | true =>
      by_cases k1 : k < 0
      · have z1 : decide (k < 0) = true := decide_eq_true k1
        clear hq
        go_enter Tryd.func17, Tryd.ntmps17
        go_wp2_with (first
          | (rw [← hW0]; go_at_call 33; go_must (refine (TO _).mono ?_); rintro e w1 ⟨rfl, hg1⟩; obtain ⟨⟨a0, a1, a2, a3, a4, a5, a6⟩, _⟩ := TW.out _ hg1)
          | (go_at_call 15; go_must (refine (CK _).mono ?_); rintro e w2 ⟨rfl, hg2⟩; have hg3 := grown_more hg1 hg2 (by simp); obtain ⟨_, _, _, _, _, _, d5⟩ := TW.out _ hg3))
        go_ret
        exact ⟨rfl, WW.out _ hg3⟩
      · have z1 : decide (k < 0) = false := decide_eq_false k1
        have z2 : decide (6 < k) = true := decide_eq_true (by rcases hq with h' | h' | h'; cases h'; omega; exact h')
        clear hq
        go_enter Tryd.func17, Tryd.ntmps17
        go_wp2_with (first
          | (rw [← hW0]; go_at_call 33; go_must (refine (TO _).mono ?_); rintro e w1 ⟨rfl, hg1⟩; obtain ⟨⟨a0, a1, a2, a3, a4, a5, a6⟩, _⟩ := TW.out _ hg1)
          | (go_at_call 15; go_must (refine (CK _).mono ?_); rintro e w2 ⟨rfl, hg2⟩; have hg3 := grown_more hg1 hg2 (by simp); obtain ⟨_, _, _, _, _, _, d5⟩ := TW.out _ hg3))
        go_ret
        exact ⟨rfl, WW.out _ hg3⟩
  · have z : (E != 0) = true := by simpa using hE
    clear hno hE
    go_enter Tryd.func17, Tryd.ntmps17
    go_wp2_with (first
      | (rw [← hW0]; go_at_call 33; go_must (refine (TO _).mono ?_); rintro e w1 ⟨rfl, hg1⟩))
    go_ret
    exact ⟨rfl, WW.out _ hg1⟩

set_option maxRecDepth 100000 in
set_option maxHeartbeats 1600000 in
theorem rFits_by (m0 m1 m2 m3 m4 : Nat) (ad aw : Bool) (y : Int) (M D H N K : Nat) (hK : K ≤ 6) (I : Int) (b1 b2 b3 : Bool)
    (TO : ∀ w, Calls Tryd.prog 33 #[civ y M D H N K] w fun e w' => e = .returned (.tuple #[.int .i64 I, .int .i64 0]) ∧ w.grownBy w' none)
    (CK : ∀ w, Calls Tryd.prog 15 #[.agg #[.int .u64 m0, .int .u64 m1, .int .u64 m2, .int .u64 m3, .int .u64 m4, .bool ad, .bool aw]] w fun e w' => e = .returned (.bool true) ∧ w.grownBy w' none)
    (H1 : ∀ w, Calls Tryd.prog 34 #[.int .u64 m0, .int .i64 N] w fun e w' => e = .returned (.bool b1) ∧ w' = w)
    (H2 : ∀ w, Calls Tryd.prog 34 #[.int .u64 m1, .int .i64 H] w fun e w' => e = .returned (.bool b2) ∧ w' = w)
    (DY : ∀ w, Calls Tryd.prog 35 #[.agg #[.int .u64 m0, .int .u64 m1, .int .u64 m2, .int .u64 m3, .int .u64 m4, .bool ad, .bool aw], civ y M D H N K] w fun e w' => e = .returned (.bool b3) ∧ w.grownBy w' none) (w : World) :
    Calls Tryd.prog 17 #[.agg #[.int .u64 m0, .int .u64 m1, .int .u64 m2, .int .u64 m3, .int .u64 m4, .bool ad, .bool aw], civ y M D H N K] w fun e w' => e = .returned (.bool (b1 && (b2 && b3))) ∧ w.grownBy w' none := by
  obtain ⟨W0, hW0⟩ : ∃ W0, W0 = (w.alloc (.cells #[.int .u64 m0, .int .u64 m1, .int .u64 m2, .int .u64 m3, .int .u64 m4, .bool ad, .bool aw] 25)).alloc (.cells #[.int .i64 y, .int .i64 M, .int .i64 D, .int .i64 H, .int .i64 N, .int .i64 K] 36) := ⟨_, rfl⟩
  have TW : Hid (∀ w2, W0.grownBy w2 none → Two w w2 m0 m1 m2 m3 m4 ad aw y M D H N K) := fun w2 hg => by subst hW0; exact Two.of hg
  have WW : Hid (∀ w2, W0.grownBy w2 none → w.grownBy w2 none) := fun w2 hg => by subst hW0; exact grown_more (grown_alloc (World.grownBy_alloc w _ none) _) hg (by simp)
  have z1 : decide ((K : Int) < 0) = false := decide_eq_false (by omega)
  have z2 : decide (6 < (K : Int)) = false := decide_eq_false (by omega)
  cases b1 <;> cases b2
  all_goals
    go_enter Tryd.func17, Tryd.ntmps17
    go_wp2_with (first
      | (rw [← hW0]; go_at_call 33; go_must (refine (TO _).mono ?_); rintro e w1 ⟨rfl, hg1⟩; obtain ⟨⟨a0, a1, a2, a3, a4, a5, a6⟩, _⟩ := TW.out _ hg1)
      | (go_at_call 15; go_must (refine (CK _).mono ?_); rintro e w2 ⟨rfl, hg2⟩; clear a0 a1 a2 a3 a4 a5 a6; have hg3 := grown_more hg1 hg2 (by simp); obtain ⟨⟨a0, a1, a2, a3, a4, a5, a6⟩, d0, d1, d2, d3, d4, d5⟩ := TW.out _ hg3)
      | (go_at_call 34; (with_reducible refine (H1 _).mono ?_); rintro e w3 ⟨rfl, rfl⟩)
      | (go_at_call 34; (with_reducible refine (H2 _).mono ?_); rintro e w3 ⟨rfl, rfl⟩)
      | (go_at_call 35; go_must (refine (DY _).mono ?_); rintro e w4 ⟨rfl, hg4⟩; have hg5 := grown_more hg3 hg4 (by simp)))
    go_ret
    first
      | exact ⟨rfl, WW.out _ hg3⟩
      | exact ⟨rfl, WW.out _ hg5⟩
theorem rFits (c : Cro.C) (hc : c.ok) (y m d h n k : Int) (w : World) :
    Calls Tryd.prog 17 #[crv c, civ y m d h n k] w fun e w' => e = .returned (.bool (c.fits y m d h n k)) ∧ w.grownBy w' none := by
  have CK := rCheck c hc
  by_cases hT : Thr y m d h n
  · by_cases hr : c.right
    · by_cases hk : 0 ≤ k ∧ k ≤ 6
      · have hM : Mnt y m d h n k := ⟨hT, hk⟩
        have TO := rTo_ok y m d h n k hT
        obtain ⟨M, D, H, N, K, rfl, rfl, rfl, rfl, rfl, l1, l2, l3, l4, l5⟩ := mnt_nat hM
        rw [decide_eq_true hr] at CK
        have DY := rDay_by c y M D H N K _ _ _ (rHas c.mo M hc.mo (by omega)) (rHas c.da D hc.da (by omega)) (rHas c.we K hc.we (by omega))
        have := rFits_by c.mi c.ho c.da c.mo c.we c.ad c.aw y M D H N K l5 _ _ _ _ TO CK (rHas c.mi N hc.mi (by omega)) (rHas c.ho H hc.ho (by omega)) DY w
        have e : c.fits y M D H N K = (c.mi.testBit N && (c.ho.testBit H && (c.mo.testBit M && (if c.ad || c.aw then c.da.testBit D && c.we.testBit K else c.da.testBit D || c.we.testBit K)))) := by
          unfold Cro.C.fits Cro.C.day
          rw [decide_eq_true hr, decide_eq_true hM]
          simp only [Int.toNat_natCast, Bool.true_and, Bool.and_assoc]
        rw [e]
        exact this
      · have e : c.fits y m d h n k = false := by
          unfold Cro.C.fits
          rw [decide_eq_false (fun x : Mnt y m d h n k => hk x.2)]
          simp
        rw [e]
        exact rFits_no c.mi c.ho c.da c.mo c.we c.ad c.aw y m d h n k _ _ 0 (.inr ⟨rfl, .inr (by omega)⟩) (rTo_ok y m d h n k hT) CK w
    · rw [Cro.fits_no hr]
      rw [decide_eq_false hr] at CK
      exact rFits_no c.mi c.ho c.da c.mo c.we c.ad c.aw y m d h n k _ _ 0 (.inr ⟨rfl, .inl rfl⟩) (rTo_ok y m d h n k hT) CK w
  · have e : c.fits y m d h n k = false := by
      unfold Cro.C.fits
      rw [decide_eq_false (fun x : Mnt y m d h n k => hT x.1)]
      simp
    rw [e]
    exact rFits_no c.mi c.ho c.da c.mo c.we c.ad c.aw y m d h n k _ _ 30 (.inl (by decide)) (rTo_bad y m d h n k hT) CK w
end Go.Proofs.YthjfecniipifhaaDoor
