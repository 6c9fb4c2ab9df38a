/- The statement on a zone that is always so far ahead: its mathematics and its walk. -/
import Derived.Test.YteiiapnpdfgoaaaDoorTShift
import Derived.Test.YteiiapnpdfgoaaaDoorDNxV
namespace Go.Proofs.YteiiapnpdfgoaaaDoor
open Go.RowKit
set_option linter.unusedVariables false

theorem shift_ok {b : Int} (h1 : -720 ≤ b) (h2 : b ≤ 840) : (zB b).ok := ⟨h1, h2, by show (0 : Int) ≤ 0; omega, by show (0 : Int) ≤ 120; omega, .inl ⟨rfl, ⟨rfl, rfl, rfl, rfl⟩, ⟨rfl, rfl, rfl, rfl⟩⟩⟩
/-- Where the statement's walk may come. -/
def SC (b fr t e u f : Int) : Prop := (226157759 < fr ∧ t = 0 ∧ e = 60) ∨ (fr ≤ 226157759 ∧ f ≠ 0 ∧ t = 0 ∧ e = 60) ∨ (fr ≤ 226157759 ∧ f = 0 ∧ 0 ≤ u ∧ u ≤ 226157759 ∧ 226157759 < u - b ∧ t = 0 ∧ e = 60) ∨ (fr ≤ 226157759 ∧ f = 0 ∧ 0 ≤ u ∧ u ≤ 226157759 ∧ u - b ≤ 226157759 ∧ t = u - b ∧ e = 0)
theorem shift_cases (c : Cro.C) (hr : c.right) (b a fr : Int) (b1 : -720 ≤ b) (b2 : b ≤ 840) (a1 : -1 ≤ a) (a2 : a ≤ 226157759) (hfr : fr = if a + b < -1 then -1 else a + b) (P Q : Nat → Bool) (hP : Due.IsP c (zB b) P) (hQ : Due.IsP c (zB 0) Q) :
    SC b fr (Due.nxV P c (zB b) a).1 (Due.nxV P c (zB b) a).2 (Due.nxV Q c (zB 0) fr).1 (Due.nxV Q c (zB 0) fr).2 := by
  have hz := shift_ok b1 b2
  have hz0 := shift_ok (b := 0) (by omega) (by omega)
  have hfr1 : -1 ≤ fr ∧ a + b ≤ fr ∧ (fr = -1 ∨ fr = a + b) := by
    rw [hfr]
    split <;> omega
  have key : ∀ v : Nat, (a + 1).toNat ≤ v → P v = true → ∃ x : Nat, (x : Int) = v + b ∧ (fr + 1).toNat ≤ x ∧ x ≤ 226157759 ∧ Q x = true := fun v hv h => by
    have hf := (hP v).mp h
    rw [zB_at] at hf
    have hb := Due.fit_range hf
    refine ⟨((v : Int) + b).toNat, by omega, by omega, by omega, ?_⟩
    rw [hQ, zB_at]
    rw [show (((v : Int) + b).toNat : Int) + 0 = v + b by omega]
    exact hf
  by_cases hM : 226157759 < fr
  · refine .inl ⟨hM, ?_⟩
    rw [Due.nxV_no hr hz a1 a2 (Due.nx_no (fun v h1 h2 => by
      cases h : P v with
      | false => rfl
      | true => obtain ⟨x, x1, x2, x3, _⟩ := key v h1 h; omega))]
    exact ⟨rfl, rfl⟩
  · right
    cases hq : Due.nx Q 226157759 (fr + 1).toNat with
    | none =>
      left
      rw [Due.nxV_no hr hz0 hfr1.1 (by omega) hq, Due.nxV_no hr hz a1 a2 (Due.nx_no (fun v h1 h2 => by
        cases h : P v with
        | false => rfl
        | true =>
          obtain ⟨x, x1, x2, x3, x4⟩ := key v h1 h
          rw [Due.nx_none hq x x2 x3] at x4
          cases x4))]
      exact ⟨by omega, by show (60 : Int) ≠ 0; omega, rfl, rfl⟩
    | some u =>
      right
      obtain ⟨u1, u2, u3, u4⟩ := Due.nx_some hq
      rw [Due.nxV_at hr hz0 hfr1.1 (by omega) hq]
      by_cases hub : 226157759 < (u : Int) - b
      · left
        rw [Due.nxV_no hr hz a1 a2 (Due.nx_no (fun v h1 h2 => by
          cases h : P v with
          | false => rfl
          | true =>
            obtain ⟨x, x1, x2, x3, x4⟩ := key v h1 h
            rw [u4 x x2 (by omega)] at x4
            cases x4))]
        exact ⟨by omega, rfl, by show (0 : Int) ≤ u; omega, by show (u : Int) ≤ 226157759; omega, hub, rfl, rfl⟩
      · right
        obtain ⟨t, ht⟩ : ∃ t : Nat, (t : Int) = u - b := ⟨((u : Int) - b).toNat, by omega⟩
        have hx : Due.nx P 226157759 (a + 1).toNat = some t := Due.nx_is (by omega) (by omega) (by
          rw [hP, zB_at, show (t : Int) + b = u + 0 by omega]
          have := (hQ u).mp u3
          rwa [zB_at] at this) (fun v h1 h2 => by
          cases h : P v with
          | false => rfl
          | true =>
            obtain ⟨x, x1, x2, x3, x4⟩ := key v h1 h
            rw [u4 x x2 (by omega)] at x4
            cases x4)
        rw [Due.nxV_at hr hz a1 a2 hx]
        exact ⟨by omega, rfl, by show (0 : Int) ≤ u; omega, by show (u : Int) ≤ 226157759; omega, by show (u : Int) - b ≤ 226157759; omega, ht, rfl⟩


set_option maxRecDepth 100000 in
set_option maxHeartbeats 3200000 in
theorem shift_o0 (c : Cro.C) (b a : Int) (h : b < -720) (w : World) (hG : Gd w) :
    Calls Tryd.prog 3 #[crv c, .int .i64 b, .int .i64 a] w fun r w' => r = .returned (.bool true) ∧ w.grownBy w' none := by
  have hnot : ∀ (x : Bool) (w : World), (Op.unary .not (.bool x)).run Tryd.prog w = .ok (.bool (!x)) w := fun _ _ => rfl
  have AW := awake7_any
  have K1 := fun o1 => World.grownBy_alloc w o1 none
  have g1 : decide (b < -720) = true := decide_eq_true h
  go_enter Tryd.func3, Tryd.ntmps3
  go_wp2_with (go_at_call 6; go_must (refine (AW _ (hG.kept (K1 _))).mono ?_); rintro e w1 ⟨rfl, H1⟩; have G1 := (hG.kept (K1 _)).kept H1; have p0 := cell_kept H1 0 _ rfl; have p1 := cell_kept H1 1 _ rfl; have p2 := cell_kept H1 2 _ rfl; have p3 := cell_kept H1 3 _ rfl; have p4 := cell_kept H1 4 _ rfl; have p5 := cell_kept H1 5 _ rfl; have p6 := cell_kept H1 6 _ rfl)
  go_ret
  exact ⟨rfl, grown_more (K1 _) H1 (by simp)⟩

set_option maxRecDepth 100000 in
set_option maxHeartbeats 3200000 in
theorem shift_o1 (c : Cro.C) (b a : Int) (b1 : -720 ≤ b) (h : 840 < b) (w : World) (hG : Gd w) :
    Calls Tryd.prog 3 #[crv c, .int .i64 b, .int .i64 a] w fun r w' => r = .returned (.bool true) ∧ w.grownBy w' none := by
  have hnot : ∀ (x : Bool) (w : World), (Op.unary .not (.bool x)).run Tryd.prog w = .ok (.bool (!x)) w := fun _ _ => rfl
  have AW := awake7_any
  have K1 := fun o1 => World.grownBy_alloc w o1 none
  have g1 : decide (b < -720) = false := decide_eq_false (by omega)
  have g2 : decide (840 < b) = true := decide_eq_true h
  go_enter Tryd.func3, Tryd.ntmps3
  go_wp2_with (go_at_call 6; go_must (refine (AW _ (hG.kept (K1 _))).mono ?_); rintro e w1 ⟨rfl, H1⟩; have G1 := (hG.kept (K1 _)).kept H1; have p0 := cell_kept H1 0 _ rfl; have p1 := cell_kept H1 1 _ rfl; have p2 := cell_kept H1 2 _ rfl; have p3 := cell_kept H1 3 _ rfl; have p4 := cell_kept H1 4 _ rfl; have p5 := cell_kept H1 5 _ rfl; have p6 := cell_kept H1 6 _ rfl)
  go_ret
  exact ⟨rfl, grown_more (K1 _) H1 (by simp)⟩

set_option maxRecDepth 100000 in
set_option maxHeartbeats 3200000 in
theorem shift_o2 (c : Cro.C) (b a : Int) (b1 : -720 ≤ b) (b2 : b ≤ 840) (h : a < -1) (w : World) (hG : Gd w) :
    Calls Tryd.prog 3 #[crv c, .int .i64 b, .int .i64 a] w fun r w' => r = .returned (.bool true) ∧ w.grownBy w' none := by
  have hnot : ∀ (x : Bool) (w : World), (Op.unary .not (.bool x)).run Tryd.prog w = .ok (.bool (!x)) w := fun _ _ => rfl
  have AW := awake7_any
  have K1 := fun o1 => World.grownBy_alloc w o1 none
  have g1 : decide (b < -720) = false := decide_eq_false (by omega)
  have g2 : decide (840 < b) = false := decide_eq_false (by omega)
  have g3 : decide (a < -1) = true := decide_eq_true h
  go_enter Tryd.func3, Tryd.ntmps3
  go_wp2_with (go_at_call 6; go_must (refine (AW _ (hG.kept (K1 _))).mono ?_); rintro e w1 ⟨rfl, H1⟩; have G1 := (hG.kept (K1 _)).kept H1; have p0 := cell_kept H1 0 _ rfl; have p1 := cell_kept H1 1 _ rfl; have p2 := cell_kept H1 2 _ rfl; have p3 := cell_kept H1 3 _ rfl; have p4 := cell_kept H1 4 _ rfl; have p5 := cell_kept H1 5 _ rfl; have p6 := cell_kept H1 6 _ rfl)
  go_ret
  exact ⟨rfl, grown_more (K1 _) H1 (by simp)⟩

set_option maxRecDepth 100000 in
set_option maxHeartbeats 3200000 in
theorem shift_o3 (c : Cro.C) (b a : Int) (b1 : -720 ≤ b) (b2 : b ≤ 840) (a1 : -1 ≤ a) (h : 226157759 < a) (w : World) (hG : Gd w) :
    Calls Tryd.prog 3 #[crv c, .int .i64 b, .int .i64 a] w fun r w' => r = .returned (.bool true) ∧ w.grownBy w' none := by
  have hnot : ∀ (x : Bool) (w : World), (Op.unary .not (.bool x)).run Tryd.prog w = .ok (.bool (!x)) w := fun _ _ => rfl
  have AW := awake7_any
  have K1 := fun o1 => World.grownBy_alloc w o1 none
  have g1 : decide (b < -720) = false := decide_eq_false (by omega)
  have g2 : decide (840 < b) = false := decide_eq_false (by omega)
  have g3 : decide (a < -1) = false := decide_eq_false (by omega)
  have g4 : decide (226157759 < a) = true := decide_eq_true h
  go_enter Tryd.func3, Tryd.ntmps3
  go_wp2_with (go_at_call 6; go_must (refine (AW _ (hG.kept (K1 _))).mono ?_); rintro e w1 ⟨rfl, H1⟩; have G1 := (hG.kept (K1 _)).kept H1; have p0 := cell_kept H1 0 _ rfl; have p1 := cell_kept H1 1 _ rfl; have p2 := cell_kept H1 2 _ rfl; have p3 := cell_kept H1 3 _ rfl; have p4 := cell_kept H1 4 _ rfl; have p5 := cell_kept H1 5 _ rfl; have p6 := cell_kept H1 6 _ rfl)
  go_ret
  exact ⟨rfl, grown_more (K1 _) H1 (by simp)⟩

set_option maxRecDepth 100000 in
set_option maxHeartbeats 3200000 in
theorem shift_o4 (c : Cro.C) (b a : Int) (b1 : -720 ≤ b) (b2 : b ≤ 840) (a1 : -1 ≤ a) (a2 : a ≤ 226157759) (CK : ∀ w, Gl w → Calls Tryd.prog 7 #[crv c] w fun e w' => e = .returned (.bool false) ∧ w.grownBy w' none) (w : World) (hG : Gd w) :
    Calls Tryd.prog 3 #[crv c, .int .i64 b, .int .i64 a] w fun r w' => r = .returned (.bool true) ∧ w.grownBy w' none := by
  have hnot : ∀ (x : Bool) (w : World), (Op.unary .not (.bool x)).run Tryd.prog w = .ok (.bool (!x)) w := fun _ _ => rfl
  have AW := awake7_any
  have K1 := fun o1 => World.grownBy_alloc w o1 none
  have g1 : decide (b < -720) = false := decide_eq_false (by omega)
  have g2 : decide (840 < b) = false := decide_eq_false (by omega)
  have g3 : decide (a < -1) = false := decide_eq_false (by omega)
  have g4 : decide (226157759 < a) = false := decide_eq_false (by omega)
  go_enter Tryd.func3, Tryd.ntmps3
  go_wp2_with (first
    | (go_at_call 6; go_must (refine (AW _ (hG.kept (K1 _))).mono ?_); rintro e w1 ⟨rfl, H1⟩; have G1 := (hG.kept (K1 _)).kept H1; have p0 := cell_kept H1 0 _ rfl; have p1 := cell_kept H1 1 _ rfl; have p2 := cell_kept H1 2 _ rfl; have p3 := cell_kept H1 3 _ rfl; have p4 := cell_kept H1 4 _ rfl; have p5 := cell_kept H1 5 _ rfl; have p6 := cell_kept H1 6 _ rfl)
    | (go_at_call 7; go_must (refine (CK _ G1.gl).mono ?_); rintro e w2 ⟨rfl, hg2⟩; have H2 := grown_more H1 hg2 (by simp); have G2 := G1.kept hg2; have q0 := cell_kept H2 0 _ rfl; have q1 := cell_kept H2 1 _ rfl; have q2 := cell_kept H2 2 _ rfl; have q3 := cell_kept H2 3 _ rfl; have q4 := cell_kept H2 4 _ rfl; have q5 := cell_kept H2 5 _ rfl; have q6 := cell_kept H2 6 _ rfl))
  go_ret
  exact ⟨rfl, grown_more (K1 _) H2 (by simp)⟩

set_option maxRecDepth 100000 in
set_option maxHeartbeats 3200000 in
theorem shift_01 (c : Cro.C) (b a : Int) (b1 : -720 ≤ b) (b2 : b ≤ 840) (a1 : -1 ≤ a) (a2 : a ≤ 226157759) (hl : ¬ a + b < -1) (hM : 226157759 < (a + b)) (CK : ∀ w, Gl w → Calls Tryd.prog 7 #[crv c] w fun e w' => e = .returned (.bool true) ∧ w.grownBy w' none)
    (N1 : ∀ w, Gd w → Calls Tryd.prog 8 #[crv c, .agg #[.int .i64 b, .int .i64 0, .int .i64 0, .int .i64 0, .int .i64 0, .int .i64 0, .int .i64 0, .int .i64 0, .int .i64 0, .int .i64 0], .int .i64 a] w fun r w' => r = .returned (.tuple #[.int .i64 0, .int .i64 60]) ∧ w.grownBy w' none) (w : World) (hG : Gd w) :
    Calls Tryd.prog 3 #[crv c, .int .i64 b, .int .i64 a] w fun r w' => r = .returned (.bool true) ∧ w.grownBy w' none := by
  have hnot : ∀ (x : Bool) (w : World), (Op.unary .not (.bool x)).run Tryd.prog w = .ok (.bool (!x)) w := fun _ _ => rfl
  have AW := awake7_any
  have K1 := fun o1 => World.grownBy_alloc w o1 none
  have g1 : decide (b < -720) = false := decide_eq_false (by omega)
  have g2 : decide (840 < b) = false := decide_eq_false (by omega)
  have g3 : decide (a < -1) = false := decide_eq_false (by omega)
  have g4 : decide (226157759 < a) = false := decide_eq_false (by omega)
  have g5 : decide (a + b < -1) = false := decide_eq_false hl
  have g6 : decide (226157759 < (a + b)) = true := decide_eq_true hM
  go_enter Tryd.func3, Tryd.ntmps3
  go_wp2_with (first
    | (go_at_call 6; go_must (refine (AW _ (hG.kept (K1 _))).mono ?_); rintro e w1 ⟨rfl, H1⟩; have G1 := (hG.kept (K1 _)).kept H1; have p0 := cell_kept H1 0 _ rfl; have p1 := cell_kept H1 1 _ rfl; have p2 := cell_kept H1 2 _ rfl; have p3 := cell_kept H1 3 _ rfl; have p4 := cell_kept H1 4 _ rfl; have p5 := cell_kept H1 5 _ rfl; have p6 := cell_kept H1 6 _ rfl)
    | (go_at_call 7; go_must (refine (CK _ G1.gl).mono ?_); rintro e w2 ⟨rfl, hg2⟩; have H2 := grown_more H1 hg2 (by simp); have G2 := G1.kept hg2; have q0 := cell_kept H2 0 _ rfl; have q1 := cell_kept H2 1 _ rfl; have q2 := cell_kept H2 2 _ rfl; have q3 := cell_kept H2 3 _ rfl; have q4 := cell_kept H2 4 _ rfl; have q5 := cell_kept H2 5 _ rfl; have q6 := cell_kept H2 6 _ rfl)
    | (go_at_call 8; with_reducible refine (N1 _ G2).mono ?_; rintro e w3 ⟨rfl, hg3⟩; have H3 := grown_more H2 hg3 (by simp); have G3 := G2.kept hg3; have r0 := cell_kept H3 0 _ rfl; have r1 := cell_kept H3 1 _ rfl; have r2 := cell_kept H3 2 _ rfl; have r3 := cell_kept H3 3 _ rfl; have r4 := cell_kept H3 4 _ rfl; have r5 := cell_kept H3 5 _ rfl; have r6 := cell_kept H3 6 _ rfl))
  go_ret
  exact ⟨rfl, grown_more (K1 _) H3 (by simp)⟩

set_option maxRecDepth 100000 in
set_option maxHeartbeats 3200000 in
theorem shift_02 (c : Cro.C) (b a : Int) (u f : Int) (b1 : -720 ≤ b) (b2 : b ≤ 840) (a1 : -1 ≤ a) (a2 : a ≤ 226157759) (hl : ¬ a + b < -1) (hM : (a + b) ≤ 226157759) (hf : f ≠ 0) (CK : ∀ w, Gl w → Calls Tryd.prog 7 #[crv c] w fun e w' => e = .returned (.bool true) ∧ w.grownBy w' none)
    (N1 : ∀ w, Gd w → Calls Tryd.prog 8 #[crv c, .agg #[.int .i64 b, .int .i64 0, .int .i64 0, .int .i64 0, .int .i64 0, .int .i64 0, .int .i64 0, .int .i64 0, .int .i64 0, .int .i64 0], .int .i64 a] w fun r w' => r = .returned (.tuple #[.int .i64 0, .int .i64 60]) ∧ w.grownBy w' none)
    (N2 : ∀ w, Gd w → Calls Tryd.prog 8 #[crv c, .agg #[.int .i64 0, .int .i64 0, .int .i64 0, .int .i64 0, .int .i64 0, .int .i64 0, .int .i64 0, .int .i64 0, .int .i64 0, .int .i64 0], .int .i64 (a + b)] w fun r w' => r = .returned (.tuple #[.int .i64 u, .int .i64 f]) ∧ w.grownBy w' none) (w : World) (hG : Gd w) :
    Calls Tryd.prog 3 #[crv c, .int .i64 b, .int .i64 a] w fun r w' => r = .returned (.bool true) ∧ w.grownBy w' none := by
  have hnot : ∀ (x : Bool) (w : World), (Op.unary .not (.bool x)).run Tryd.prog w = .ok (.bool (!x)) w := fun _ _ => rfl
  have AW := awake7_any
  have K1 := fun o1 => World.grownBy_alloc w o1 none
  have g1 : decide (b < -720) = false := decide_eq_false (by omega)
  have g2 : decide (840 < b) = false := decide_eq_false (by omega)
  have g3 : decide (a < -1) = false := decide_eq_false (by omega)
  have g4 : decide (226157759 < a) = false := decide_eq_false (by omega)
  have g5 : decide (a + b < -1) = false := decide_eq_false hl
  have g6 : decide (226157759 < (a + b)) = false := decide_eq_false (by omega)
  have g7 : (f != 0) = true := by simpa using hf
  go_enter Tryd.func3, Tryd.ntmps3
  go_wp2_with (first
    | (go_at_call 6; go_must (refine (AW _ (hG.kept (K1 _))).mono ?_); rintro e w1 ⟨rfl, H1⟩; have G1 := (hG.kept (K1 _)).kept H1; have p0 := cell_kept H1 0 _ rfl; have p1 := cell_kept H1 1 _ rfl; have p2 := cell_kept H1 2 _ rfl; have p3 := cell_kept H1 3 _ rfl; have p4 := cell_kept H1 4 _ rfl; have p5 := cell_kept H1 5 _ rfl; have p6 := cell_kept H1 6 _ rfl)
    | (go_at_call 7; go_must (refine (CK _ G1.gl).mono ?_); rintro e w2 ⟨rfl, hg2⟩; have H2 := grown_more H1 hg2 (by simp); have G2 := G1.kept hg2; have q0 := cell_kept H2 0 _ rfl; have q1 := cell_kept H2 1 _ rfl; have q2 := cell_kept H2 2 _ rfl; have q3 := cell_kept H2 3 _ rfl; have q4 := cell_kept H2 4 _ rfl; have q5 := cell_kept H2 5 _ rfl; have q6 := cell_kept H2 6 _ rfl)
    | (go_at_call 8; with_reducible refine (N1 _ G2).mono ?_; rintro e w3 ⟨rfl, hg3⟩; have H3 := grown_more H2 hg3 (by simp); have G3 := G2.kept hg3; have r0 := cell_kept H3 0 _ rfl; have r1 := cell_kept H3 1 _ rfl; have r2 := cell_kept H3 2 _ rfl; have r3 := cell_kept H3 3 _ rfl; have r4 := cell_kept H3 4 _ rfl; have r5 := cell_kept H3 5 _ rfl; have r6 := cell_kept H3 6 _ rfl)
    | (go_at_call 8; with_reducible refine (N2 _ G3).mono ?_; rintro e w4 ⟨rfl, hg4⟩))
  go_ret
  exact ⟨rfl, grown_more (K1 _) (grown_more H3 hg4 (by simp)) (by simp)⟩

set_option maxRecDepth 100000 in
set_option maxHeartbeats 3200000 in
theorem shift_03 (c : Cro.C) (b a : Int) (u : Int) (b1 : -720 ≤ b) (b2 : b ≤ 840) (a1 : -1 ≤ a) (a2 : a ≤ 226157759) (hl : ¬ a + b < -1) (hM : (a + b) ≤ 226157759) (u1 : 0 ≤ u) (u2 : u ≤ 226157759) (hu : 226157759 < u - b) (CK : ∀ w, Gl w → Calls Tryd.prog 7 #[crv c] w fun e w' => e = .returned (.bool true) ∧ w.grownBy w' none)
    (N1 : ∀ w, Gd w → Calls Tryd.prog 8 #[crv c, .agg #[.int .i64 b, .int .i64 0, .int .i64 0, .int .i64 0, .int .i64 0, .int .i64 0, .int .i64 0, .int .i64 0, .int .i64 0, .int .i64 0], .int .i64 a] w fun r w' => r = .returned (.tuple #[.int .i64 0, .int .i64 60]) ∧ w.grownBy w' none)
    (N2 : ∀ w, Gd w → Calls Tryd.prog 8 #[crv c, .agg #[.int .i64 0, .int .i64 0, .int .i64 0, .int .i64 0, .int .i64 0, .int .i64 0, .int .i64 0, .int .i64 0, .int .i64 0, .int .i64 0], .int .i64 (a + b)] w fun r w' => r = .returned (.tuple #[.int .i64 u, .int .i64 0]) ∧ w.grownBy w' none) (w : World) (hG : Gd w) :
    Calls Tryd.prog 3 #[crv c, .int .i64 b, .int .i64 a] w fun r w' => r = .returned (.bool true) ∧ w.grownBy w' none := by
  have hnot : ∀ (x : Bool) (w : World), (Op.unary .not (.bool x)).run Tryd.prog w = .ok (.bool (!x)) w := fun _ _ => rfl
  have AW := awake7_any
  have K1 := fun o1 => World.grownBy_alloc w o1 none
  have g1 : decide (b < -720) = false := decide_eq_false (by omega)
  have g2 : decide (840 < b) = false := decide_eq_false (by omega)
  have g3 : decide (a < -1) = false := decide_eq_false (by omega)
  have g4 : decide (226157759 < a) = false := decide_eq_false (by omega)
  have g5 : decide (a + b < -1) = false := decide_eq_false hl
  have g6 : decide (226157759 < (a + b)) = false := decide_eq_false (by omega)
  have g7 : decide (226157759 < u - b) = true := decide_eq_true hu
  go_enter Tryd.func3, Tryd.ntmps3
  go_wp2_with (first
    | (go_at_call 6; go_must (refine (AW _ (hG.kept (K1 _))).mono ?_); rintro e w1 ⟨rfl, H1⟩; have G1 := (hG.kept (K1 _)).kept H1; have p0 := cell_kept H1 0 _ rfl; have p1 := cell_kept H1 1 _ rfl; have p2 := cell_kept H1 2 _ rfl; have p3 := cell_kept H1 3 _ rfl; have p4 := cell_kept H1 4 _ rfl; have p5 := cell_kept H1 5 _ rfl; have p6 := cell_kept H1 6 _ rfl)
    | (go_at_call 7; go_must (refine (CK _ G1.gl).mono ?_); rintro e w2 ⟨rfl, hg2⟩; have H2 := grown_more H1 hg2 (by simp); have G2 := G1.kept hg2; have q0 := cell_kept H2 0 _ rfl; have q1 := cell_kept H2 1 _ rfl; have q2 := cell_kept H2 2 _ rfl; have q3 := cell_kept H2 3 _ rfl; have q4 := cell_kept H2 4 _ rfl; have q5 := cell_kept H2 5 _ rfl; have q6 := cell_kept H2 6 _ rfl)
    | (go_at_call 8; with_reducible refine (N1 _ G2).mono ?_; rintro e w3 ⟨rfl, hg3⟩; have H3 := grown_more H2 hg3 (by simp); have G3 := G2.kept hg3; have r0 := cell_kept H3 0 _ rfl; have r1 := cell_kept H3 1 _ rfl; have r2 := cell_kept H3 2 _ rfl; have r3 := cell_kept H3 3 _ rfl; have r4 := cell_kept H3 4 _ rfl; have r5 := cell_kept H3 5 _ rfl; have r6 := cell_kept H3 6 _ rfl)
    | (go_at_call 8; with_reducible refine (N2 _ G3).mono ?_; rintro e w4 ⟨rfl, hg4⟩))
  go_ret
  exact ⟨rfl, grown_more (K1 _) (grown_more H3 hg4 (by simp)) (by simp)⟩

set_option maxRecDepth 100000 in
set_option maxHeartbeats 3200000 in
theorem shift_04 (c : Cro.C) (b a : Int) (u : Int) (b1 : -720 ≤ b) (b2 : b ≤ 840) (a1 : -1 ≤ a) (a2 : a ≤ 226157759) (hl : ¬ a + b < -1) (hM : (a + b) ≤ 226157759) (u1 : 0 ≤ u) (u2 : u ≤ 226157759) (hu : u - b ≤ 226157759) (CK : ∀ w, Gl w → Calls Tryd.prog 7 #[crv c] w fun e w' => e = .returned (.bool true) ∧ w.grownBy w' none)
    (N1 : ∀ w, Gd w → Calls Tryd.prog 8 #[crv c, .agg #[.int .i64 b, .int .i64 0, .int .i64 0, .int .i64 0, .int .i64 0, .int .i64 0, .int .i64 0, .int .i64 0, .int .i64 0, .int .i64 0], .int .i64 a] w fun r w' => r = .returned (.tuple #[.int .i64 (u - b), .int .i64 0]) ∧ w.grownBy w' none)
    (N2 : ∀ w, Gd w → Calls Tryd.prog 8 #[crv c, .agg #[.int .i64 0, .int .i64 0, .int .i64 0, .int .i64 0, .int .i64 0, .int .i64 0, .int .i64 0, .int .i64 0, .int .i64 0, .int .i64 0], .int .i64 (a + b)] w fun r w' => r = .returned (.tuple #[.int .i64 u, .int .i64 0]) ∧ w.grownBy w' none) (w : World) (hG : Gd w) :
    Calls Tryd.prog 3 #[crv c, .int .i64 b, .int .i64 a] w fun r w' => r = .returned (.bool true) ∧ w.grownBy w' none := by
  have hnot : ∀ (x : Bool) (w : World), (Op.unary .not (.bool x)).run Tryd.prog w = .ok (.bool (!x)) w := fun _ _ => rfl
  have AW := awake7_any
  have K1 := fun o1 => World.grownBy_alloc w o1 none
  have g1 : decide (b < -720) = false := decide_eq_false (by omega)
  have g2 : decide (840 < b) = false := decide_eq_false (by omega)
  have g3 : decide (a < -1) = false := decide_eq_false (by omega)
  have g4 : decide (226157759 < a) = false := decide_eq_false (by omega)
  have g5 : decide (a + b < -1) = false := decide_eq_false hl
  have g6 : decide (226157759 < (a + b)) = false := decide_eq_false (by omega)
  have g7 : decide (226157759 < u - b) = false := decide_eq_false (by omega)
  go_enter Tryd.func3, Tryd.ntmps3
  go_wp2_with (first
    | (go_at_call 6; go_must (refine (AW _ (hG.kept (K1 _))).mono ?_); rintro e w1 ⟨rfl, H1⟩; have G1 := (hG.kept (K1 _)).kept H1; have p0 := cell_kept H1 0 _ rfl; have p1 := cell_kept H1 1 _ rfl; have p2 := cell_kept H1 2 _ rfl; have p3 := cell_kept H1 3 _ rfl; have p4 := cell_kept H1 4 _ rfl; have p5 := cell_kept H1 5 _ rfl; have p6 := cell_kept H1 6 _ rfl)
    | (go_at_call 7; go_must (refine (CK _ G1.gl).mono ?_); rintro e w2 ⟨rfl, hg2⟩; have H2 := grown_more H1 hg2 (by simp); have G2 := G1.kept hg2; have q0 := cell_kept H2 0 _ rfl; have q1 := cell_kept H2 1 _ rfl; have q2 := cell_kept H2 2 _ rfl; have q3 := cell_kept H2 3 _ rfl; have q4 := cell_kept H2 4 _ rfl; have q5 := cell_kept H2 5 _ rfl; have q6 := cell_kept H2 6 _ rfl)
    | (go_at_call 8; with_reducible refine (N1 _ G2).mono ?_; rintro e w3 ⟨rfl, hg3⟩; have H3 := grown_more H2 hg3 (by simp); have G3 := G2.kept hg3; have r0 := cell_kept H3 0 _ rfl; have r1 := cell_kept H3 1 _ rfl; have r2 := cell_kept H3 2 _ rfl; have r3 := cell_kept H3 3 _ rfl; have r4 := cell_kept H3 4 _ rfl; have r5 := cell_kept H3 5 _ rfl; have r6 := cell_kept H3 6 _ rfl)
    | (go_at_call 8; with_reducible refine (N2 _ G3).mono ?_; rintro e w4 ⟨rfl, hg4⟩))
  go_ret
  exact ⟨rfl, grown_more (K1 _) (grown_more H3 hg4 (by simp)) (by simp)⟩

set_option maxRecDepth 100000 in
set_option maxHeartbeats 3200000 in
theorem shift_12 (c : Cro.C) (b a : Int) (u f : Int) (b1 : -720 ≤ b) (b2 : b ≤ 840) (a1 : -1 ≤ a) (a2 : a ≤ 226157759) (hl : a + b < -1) (hM : (-1) ≤ 226157759) (hf : f ≠ 0) (CK : ∀ w, Gl w → Calls Tryd.prog 7 #[crv c] w fun e w' => e = .returned (.bool true) ∧ w.grownBy w' none)
    (N1 : ∀ w, Gd w → Calls Tryd.prog 8 #[crv c, .agg #[.int .i64 b, .int .i64 0, .int .i64 0, .int .i64 0, .int .i64 0, .int .i64 0, .int .i64 0, .int .i64 0, .int .i64 0, .int .i64 0], .int .i64 a] w fun r w' => r = .returned (.tuple #[.int .i64 0, .int .i64 60]) ∧ w.grownBy w' none)
    (N2 : ∀ w, Gd w → Calls Tryd.prog 8 #[crv c, .agg #[.int .i64 0, .int .i64 0, .int .i64 0, .int .i64 0, .int .i64 0, .int .i64 0, .int .i64 0, .int .i64 0, .int .i64 0, .int .i64 0], .int .i64 (-1)] w fun r w' => r = .returned (.tuple #[.int .i64 u, .int .i64 f]) ∧ w.grownBy w' none) (w : World) (hG : Gd w) :
    Calls Tryd.prog 3 #[crv c, .int .i64 b, .int .i64 a] w fun r w' => r = .returned (.bool true) ∧ w.grownBy w' none := by
  have hnot : ∀ (x : Bool) (w : World), (Op.unary .not (.bool x)).run Tryd.prog w = .ok (.bool (!x)) w := fun _ _ => rfl
  have AW := awake7_any
  have K1 := fun o1 => World.grownBy_alloc w o1 none
  have g1 : decide (b < -720) = false := decide_eq_false (by omega)
  have g2 : decide (840 < b) = false := decide_eq_false (by omega)
  have g3 : decide (a < -1) = false := decide_eq_false (by omega)
  have g4 : decide (226157759 < a) = false := decide_eq_false (by omega)
  have g5 : decide (a + b < -1) = true := decide_eq_true hl
  have g7 : (f != 0) = true := by simpa using hf
  go_enter Tryd.func3, Tryd.ntmps3
  go_wp2_with (first
    | (go_at_call 6; go_must (refine (AW _ (hG.kept (K1 _))).mono ?_); rintro e w1 ⟨rfl, H1⟩; have G1 := (hG.kept (K1 _)).kept H1; have p0 := cell_kept H1 0 _ rfl; have p1 := cell_kept H1 1 _ rfl; have p2 := cell_kept H1 2 _ rfl; have p3 := cell_kept H1 3 _ rfl; have p4 := cell_kept H1 4 _ rfl; have p5 := cell_kept H1 5 _ rfl; have p6 := cell_kept H1 6 _ rfl)
    | (go_at_call 7; go_must (refine (CK _ G1.gl).mono ?_); rintro e w2 ⟨rfl, hg2⟩; have H2 := grown_more H1 hg2 (by simp); have G2 := G1.kept hg2; have q0 := cell_kept H2 0 _ rfl; have q1 := cell_kept H2 1 _ rfl; have q2 := cell_kept H2 2 _ rfl; have q3 := cell_kept H2 3 _ rfl; have q4 := cell_kept H2 4 _ rfl; have q5 := cell_kept H2 5 _ rfl; have q6 := cell_kept H2 6 _ rfl)
    | (go_at_call 8; with_reducible refine (N1 _ G2).mono ?_; rintro e w3 ⟨rfl, hg3⟩; have H3 := grown_more H2 hg3 (by simp); have G3 := G2.kept hg3; have r0 := cell_kept H3 0 _ rfl; have r1 := cell_kept H3 1 _ rfl; have r2 := cell_kept H3 2 _ rfl; have r3 := cell_kept H3 3 _ rfl; have r4 := cell_kept H3 4 _ rfl; have r5 := cell_kept H3 5 _ rfl; have r6 := cell_kept H3 6 _ rfl)
    | (go_at_call 8; with_reducible refine (N2 _ G3).mono ?_; rintro e w4 ⟨rfl, hg4⟩))
  go_ret
  exact ⟨rfl, grown_more (K1 _) (grown_more H3 hg4 (by simp)) (by simp)⟩

set_option maxRecDepth 100000 in
set_option maxHeartbeats 3200000 in
theorem shift_13 (c : Cro.C) (b a : Int) (u : Int) (b1 : -720 ≤ b) (b2 : b ≤ 840) (a1 : -1 ≤ a) (a2 : a ≤ 226157759) (hl : a + b < -1) (hM : (-1) ≤ 226157759) (u1 : 0 ≤ u) (u2 : u ≤ 226157759) (hu : 226157759 < u - b) (CK : ∀ w, Gl w → Calls Tryd.prog 7 #[crv c] w fun e w' => e = .returned (.bool true) ∧ w.grownBy w' none)
    (N1 : ∀ w, Gd w → Calls Tryd.prog 8 #[crv c, .agg #[.int .i64 b, .int .i64 0, .int .i64 0, .int .i64 0, .int .i64 0, .int .i64 0, .int .i64 0, .int .i64 0, .int .i64 0, .int .i64 0], .int .i64 a] w fun r w' => r = .returned (.tuple #[.int .i64 0, .int .i64 60]) ∧ w.grownBy w' none)
    (N2 : ∀ w, Gd w → Calls Tryd.prog 8 #[crv c, .agg #[.int .i64 0, .int .i64 0, .int .i64 0, .int .i64 0, .int .i64 0, .int .i64 0, .int .i64 0, .int .i64 0, .int .i64 0, .int .i64 0], .int .i64 (-1)] w fun r w' => r = .returned (.tuple #[.int .i64 u, .int .i64 0]) ∧ w.grownBy w' none) (w : World) (hG : Gd w) :
    Calls Tryd.prog 3 #[crv c, .int .i64 b, .int .i64 a] w fun r w' => r = .returned (.bool true) ∧ w.grownBy w' none := by
  have hnot : ∀ (x : Bool) (w : World), (Op.unary .not (.bool x)).run Tryd.prog w = .ok (.bool (!x)) w := fun _ _ => rfl
  have AW := awake7_any
  have K1 := fun o1 => World.grownBy_alloc w o1 none
  have g1 : decide (b < -720) = false := decide_eq_false (by omega)
  have g2 : decide (840 < b) = false := decide_eq_false (by omega)
  have g3 : decide (a < -1) = false := decide_eq_false (by omega)
  have g4 : decide (226157759 < a) = false := decide_eq_false (by omega)
  have g5 : decide (a + b < -1) = true := decide_eq_true hl
  have g7 : decide (226157759 < u - b) = true := decide_eq_true hu
  go_enter Tryd.func3, Tryd.ntmps3
  go_wp2_with (first
    | (go_at_call 6; go_must (refine (AW _ (hG.kept (K1 _))).mono ?_); rintro e w1 ⟨rfl, H1⟩; have G1 := (hG.kept (K1 _)).kept H1; have p0 := cell_kept H1 0 _ rfl; have p1 := cell_kept H1 1 _ rfl; have p2 := cell_kept H1 2 _ rfl; have p3 := cell_kept H1 3 _ rfl; have p4 := cell_kept H1 4 _ rfl; have p5 := cell_kept H1 5 _ rfl; have p6 := cell_kept H1 6 _ rfl)
    | (go_at_call 7; go_must (refine (CK _ G1.gl).mono ?_); rintro e w2 ⟨rfl, hg2⟩; have H2 := grown_more H1 hg2 (by simp); have G2 := G1.kept hg2; have q0 := cell_kept H2 0 _ rfl; have q1 := cell_kept H2 1 _ rfl; have q2 := cell_kept H2 2 _ rfl; have q3 := cell_kept H2 3 _ rfl; have q4 := cell_kept H2 4 _ rfl; have q5 := cell_kept H2 5 _ rfl; have q6 := cell_kept H2 6 _ rfl)
    | (go_at_call 8; with_reducible refine (N1 _ G2).mono ?_; rintro e w3 ⟨rfl, hg3⟩; have H3 := grown_more H2 hg3 (by simp); have G3 := G2.kept hg3; have r0 := cell_kept H3 0 _ rfl; have r1 := cell_kept H3 1 _ rfl; have r2 := cell_kept H3 2 _ rfl; have r3 := cell_kept H3 3 _ rfl; have r4 := cell_kept H3 4 _ rfl; have r5 := cell_kept H3 5 _ rfl; have r6 := cell_kept H3 6 _ rfl)
    | (go_at_call 8; with_reducible refine (N2 _ G3).mono ?_; rintro e w4 ⟨rfl, hg4⟩))
  go_ret
  exact ⟨rfl, grown_more (K1 _) (grown_more H3 hg4 (by simp)) (by simp)⟩

set_option maxRecDepth 100000 in
set_option maxHeartbeats 3200000 in
theorem shift_14 (c : Cro.C) (b a : Int) (u : Int) (b1 : -720 ≤ b) (b2 : b ≤ 840) (a1 : -1 ≤ a) (a2 : a ≤ 226157759) (hl : a + b < -1) (hM : (-1) ≤ 226157759) (u1 : 0 ≤ u) (u2 : u ≤ 226157759) (hu : u - b ≤ 226157759) (CK : ∀ w, Gl w → Calls Tryd.prog 7 #[crv c] w fun e w' => e = .returned (.bool true) ∧ w.grownBy w' none)
    (N1 : ∀ w, Gd w → Calls Tryd.prog 8 #[crv c, .agg #[.int .i64 b, .int .i64 0, .int .i64 0, .int .i64 0, .int .i64 0, .int .i64 0, .int .i64 0, .int .i64 0, .int .i64 0, .int .i64 0], .int .i64 a] w fun r w' => r = .returned (.tuple #[.int .i64 (u - b), .int .i64 0]) ∧ w.grownBy w' none)
    (N2 : ∀ w, Gd w → Calls Tryd.prog 8 #[crv c, .agg #[.int .i64 0, .int .i64 0, .int .i64 0, .int .i64 0, .int .i64 0, .int .i64 0, .int .i64 0, .int .i64 0, .int .i64 0, .int .i64 0], .int .i64 (-1)] w fun r w' => r = .returned (.tuple #[.int .i64 u, .int .i64 0]) ∧ w.grownBy w' none) (w : World) (hG : Gd w) :
    Calls Tryd.prog 3 #[crv c, .int .i64 b, .int .i64 a] w fun r w' => r = .returned (.bool true) ∧ w.grownBy w' none := by
  have hnot : ∀ (x : Bool) (w : World), (Op.unary .not (.bool x)).run Tryd.prog w = .ok (.bool (!x)) w := fun _ _ => rfl
  have AW := awake7_any
  have K1 := fun o1 => World.grownBy_alloc w o1 none
  have g1 : decide (b < -720) = false := decide_eq_false (by omega)
  have g2 : decide (840 < b) = false := decide_eq_false (by omega)
  have g3 : decide (a < -1) = false := decide_eq_false (by omega)
  have g4 : decide (226157759 < a) = false := decide_eq_false (by omega)
  have g5 : decide (a + b < -1) = true := decide_eq_true hl
  have g7 : decide (226157759 < u - b) = false := decide_eq_false (by omega)
  go_enter Tryd.func3, Tryd.ntmps3
  go_wp2_with (first
    | (go_at_call 6; go_must (refine (AW _ (hG.kept (K1 _))).mono ?_); rintro e w1 ⟨rfl, H1⟩; have G1 := (hG.kept (K1 _)).kept H1; have p0 := cell_kept H1 0 _ rfl; have p1 := cell_kept H1 1 _ rfl; have p2 := cell_kept H1 2 _ rfl; have p3 := cell_kept H1 3 _ rfl; have p4 := cell_kept H1 4 _ rfl; have p5 := cell_kept H1 5 _ rfl; have p6 := cell_kept H1 6 _ rfl)
    | (go_at_call 7; go_must (refine (CK _ G1.gl).mono ?_); rintro e w2 ⟨rfl, hg2⟩; have H2 := grown_more H1 hg2 (by simp); have G2 := G1.kept hg2; have q0 := cell_kept H2 0 _ rfl; have q1 := cell_kept H2 1 _ rfl; have q2 := cell_kept H2 2 _ rfl; have q3 := cell_kept H2 3 _ rfl; have q4 := cell_kept H2 4 _ rfl; have q5 := cell_kept H2 5 _ rfl; have q6 := cell_kept H2 6 _ rfl)
    | (go_at_call 8; with_reducible refine (N1 _ G2).mono ?_; rintro e w3 ⟨rfl, hg3⟩; have H3 := grown_more H2 hg3 (by simp); have G3 := G2.kept hg3; have r0 := cell_kept H3 0 _ rfl; have r1 := cell_kept H3 1 _ rfl; have r2 := cell_kept H3 2 _ rfl; have r3 := cell_kept H3 3 _ rfl; have r4 := cell_kept H3 4 _ rfl; have r5 := cell_kept H3 5 _ rfl; have r6 := cell_kept H3 6 _ rfl)
    | (go_at_call 8; with_reducible refine (N2 _ G3).mono ?_; rintro e w4 ⟨rfl, hg4⟩))
  go_ret
  exact ⟨rfl, grown_more (K1 _) (grown_more H3 hg4 (by simp)) (by simp)⟩

theorem topShift.walk (W : World) (hX : Gd W) (v0 : Value) (o0 : ∃ c : Cro.C, v0 = crv c ∧ c.ok) (b : Int) (hb : Lit.wf (.int .i64 b) = true) (a : Int) (ha : Lit.wf (.int .i64 a) = true) :
    Calls Tryd.prog 3 #[v0, .int .i64 b, .int .i64 a] W fun e W' => e = .returned (.bool true) ∧ Below W.heap.size W W' := by
  obtain ⟨c, rfl, hc⟩ := o0
  refine Calls.mono (?_ : Calls Tryd.prog 3 #[crv c, .int .i64 b, .int .i64 a] W fun r w' => r = .returned (.bool true) ∧ W.grownBy w' none) fun e W' ⟨h1, h2⟩ => ⟨h1, grown_below h2⟩
  by_cases b1 : b < -720
  · exact shift_o0 c b a b1 W hX
  by_cases b2 : 840 < b
  · exact shift_o1 c b a (by omega) b2 W hX
  by_cases a1 : a < -1
  · exact shift_o2 c b a (by omega) (by omega) a1 W hX
  by_cases a2 : 226157759 < a
  · exact shift_o3 c b a (by omega) (by omega) (by omega) a2 W hX
  have CK := Check_any c hc
  by_cases hr : c.right
  · rw [decide_eq_true hr] at CK
    obtain ⟨P, hP⟩ := Due.has_P c (zB b)
    obtain ⟨Q, hQ⟩ := Due.has_P c (zB 0)
    have N1 := fun w hG => Next_any c hc (zB b) P hP a w hG
    have N2 := fun fr w hG => Next_any c hc (zB 0) Q hQ fr w hG
    by_cases hl : a + b < -1
    · have HC := shift_cases c hr b a (-1) (by omega) (by omega) (by omega) (by omega) (by rw [if_pos hl]) P Q hP hQ
      have N2' := N2 (-1)
      generalize (Due.nxV P c (zB b) a).1 = t at *
      generalize (Due.nxV P c (zB b) a).2 = e at *
      generalize (Due.nxV Q c (zB 0) (-1)).1 = u at *
      generalize (Due.nxV Q c (zB 0) (-1)).2 = f at *
      rcases HC with ⟨h, _⟩ | ⟨hM, hf, rfl, rfl⟩ | ⟨hM, rfl, u1, u2, hu, rfl, rfl⟩ | ⟨hM, rfl, u1, u2, hu, rfl, rfl⟩
      · omega
      · exact shift_12 c b a u f (by omega) (by omega) (by omega) (by omega) hl hM hf CK N1 N2' W hX
      · exact shift_13 c b a u (by omega) (by omega) (by omega) (by omega) hl hM u1 u2 hu CK N1 N2' W hX
      · exact shift_14 c b a u (by omega) (by omega) (by omega) (by omega) hl hM u1 u2 hu CK N1 N2' W hX
    · have HC := shift_cases c hr b a (a + b) (by omega) (by omega) (by omega) (by omega) (by rw [if_neg hl]) P Q hP hQ
      have N2' := N2 (a + b)
      generalize (Due.nxV P c (zB b) a).1 = t at *
      generalize (Due.nxV P c (zB b) a).2 = e at *
      generalize (Due.nxV Q c (zB 0) (a + b)).1 = u at *
      generalize (Due.nxV Q c (zB 0) (a + b)).2 = f at *
      rcases HC with ⟨hM, rfl, rfl⟩ | ⟨hM, hf, rfl, rfl⟩ | ⟨hM, rfl, u1, u2, hu, rfl, rfl⟩ | ⟨hM, rfl, u1, u2, hu, rfl, rfl⟩
      · exact shift_01 c b a (by omega) (by omega) (by omega) (by omega) hl hM CK N1 W hX
      · exact shift_02 c b a u f (by omega) (by omega) (by omega) (by omega) hl hM hf CK N1 N2' W hX
      · exact shift_03 c b a u (by omega) (by omega) (by omega) (by omega) hl hM u1 u2 hu CK N1 N2' W hX
      · exact shift_04 c b a u (by omega) (by omega) (by omega) (by omega) hl hM u1 u2 hu CK N1 N2' W hX
  · rw [decide_eq_false hr] at CK
    exact shift_o4 c b a (by omega) (by omega) (by omega) (by omega) CK W hX
end Go.Proofs.YteiiapnpdfgoaaaDoor
