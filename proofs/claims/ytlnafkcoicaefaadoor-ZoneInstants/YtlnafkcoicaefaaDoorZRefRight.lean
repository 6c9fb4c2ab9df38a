/- What the document's own 'Right' answers of what the program refuses. -/
import Derived.Test.YtlnafkcoicaefaaDoorZRefAt
namespace Go.Proofs.YtlnafkcoicaefaaDoor
open Go.RowKit
set_option linter.unusedVariables false

set_option maxRecDepth 100000 in
set_option maxHeartbeats 1600000 in
theorem rRule_any (m k d a : Int) (w : World) :
    Calls Tryd.prog 21 #[.agg #[.int .i64 m, .int .i64 k, .int .i64 d, .int .i64 a]] w fun e w' => e = .returned (.bool (decide (1 ≤ m ∧ m ≤ 12 ∧ 1 ≤ k ∧ k ≤ 5 ∧ 0 ≤ d ∧ d ≤ 6 ∧ 0 ≤ a ∧ a ≤ 1439))) ∧ w.grownBy w' none := by
  have hdone : ∀ o, w.grownBy (w.alloc o) none := fun o => World.grownBy_alloc w o none
  by_cases h0 : 1 ≤ m
  case neg =>
    have g : decide (1 ≤ m) = false := decide_eq_false h0
    have e : decide (1 ≤ m ∧ m ≤ 12 ∧ 1 ≤ k ∧ k ≤ 5 ∧ 0 ≤ d ∧ d ≤ 6 ∧ 0 ≤ a ∧ a ≤ 1439) = false := decide_eq_false (by omega)
    rw [e]
    clear e h0
    go_enter Tryd.func21, Tryd.ntmps21
    go_wp2
    go_ret
    exact ⟨rfl, hdone _⟩
  by_cases h1 : m ≤ 12
  case neg =>
    have g : decide (m ≤ 12) = false := decide_eq_false h1
    have e : decide (1 ≤ m ∧ m ≤ 12 ∧ 1 ≤ k ∧ k ≤ 5 ∧ 0 ≤ d ∧ d ≤ 6 ∧ 0 ≤ a ∧ a ≤ 1439) = false := decide_eq_false (by omega)
    rw [e]
    clear e h1
    go_enter Tryd.func21, Tryd.ntmps21
    go_wp2
    go_ret
    exact ⟨rfl, hdone _⟩
  by_cases h2 : 1 ≤ k
  case neg =>
    have g : decide (1 ≤ k) = false := decide_eq_false h2
    have e : decide (1 ≤ m ∧ m ≤ 12 ∧ 1 ≤ k ∧ k ≤ 5 ∧ 0 ≤ d ∧ d ≤ 6 ∧ 0 ≤ a ∧ a ≤ 1439) = false := decide_eq_false (by omega)
    rw [e]
    clear e h2
    go_enter Tryd.func21, Tryd.ntmps21
    go_wp2
    go_ret
    exact ⟨rfl, hdone _⟩
  by_cases h3 : k ≤ 5
  case neg =>
    have g : decide (k ≤ 5) = false := decide_eq_false h3
    have e : decide (1 ≤ m ∧ m ≤ 12 ∧ 1 ≤ k ∧ k ≤ 5 ∧ 0 ≤ d ∧ d ≤ 6 ∧ 0 ≤ a ∧ a ≤ 1439) = false := decide_eq_false (by omega)
    rw [e]
    clear e h3
    go_enter Tryd.func21, Tryd.ntmps21
    go_wp2
    go_ret
    exact ⟨rfl, hdone _⟩
  by_cases h4 : 0 ≤ d
  case neg =>
    have g : decide (0 ≤ d) = false := decide_eq_false h4
    have e : decide (1 ≤ m ∧ m ≤ 12 ∧ 1 ≤ k ∧ k ≤ 5 ∧ 0 ≤ d ∧ d ≤ 6 ∧ 0 ≤ a ∧ a ≤ 1439) = false := decide_eq_false (by omega)
    rw [e]
    clear e h4
    go_enter Tryd.func21, Tryd.ntmps21
    go_wp2
    go_ret
    exact ⟨rfl, hdone _⟩
  by_cases h5 : d ≤ 6
  case neg =>
    have g : decide (d ≤ 6) = false := decide_eq_false h5
    have e : decide (1 ≤ m ∧ m ≤ 12 ∧ 1 ≤ k ∧ k ≤ 5 ∧ 0 ≤ d ∧ d ≤ 6 ∧ 0 ≤ a ∧ a ≤ 1439) = false := decide_eq_false (by omega)
    rw [e]
    clear e h5
    go_enter Tryd.func21, Tryd.ntmps21
    go_wp2
    go_ret
    exact ⟨rfl, hdone _⟩
  by_cases h6 : 0 ≤ a
  case neg =>
    have g : decide (0 ≤ a) = false := decide_eq_false h6
    have e : decide (1 ≤ m ∧ m ≤ 12 ∧ 1 ≤ k ∧ k ≤ 5 ∧ 0 ≤ d ∧ d ≤ 6 ∧ 0 ≤ a ∧ a ≤ 1439) = false := decide_eq_false (by omega)
    rw [e]
    clear e h6
    go_enter Tryd.func21, Tryd.ntmps21
    go_wp2
    go_ret
    exact ⟨rfl, hdone _⟩
  by_cases h7 : a ≤ 1439
  case neg =>
    have g : decide (a ≤ 1439) = false := decide_eq_false h7
    have e : decide (1 ≤ m ∧ m ≤ 12 ∧ 1 ≤ k ∧ k ≤ 5 ∧ 0 ≤ d ∧ d ≤ 6 ∧ 0 ≤ a ∧ a ≤ 1439) = false := decide_eq_false (by omega)
    rw [e]
    clear e h7
    go_enter Tryd.func21, Tryd.ntmps21
    go_wp2
    go_ret
    exact ⟨rfl, hdone _⟩
  have e : decide (1 ≤ m ∧ m ≤ 12 ∧ 1 ≤ k ∧ k ≤ 5 ∧ 0 ≤ d ∧ d ≤ 6 ∧ 0 ≤ a ∧ a ≤ 1439) = true := decide_eq_true (by omega)
  rw [e]
  clear e
  go_enter Tryd.func21, Tryd.ntmps21
  go_wp2
  go_ret
  exact ⟨ret_bool (by first | rfl | (simp <;> omega)), hdone _⟩

set_option maxRecDepth 100000 in
set_option maxHeartbeats 3200000 in
theorem rRight_bad0 (b s m1 k1 d1 a1 m2 k2 d2 a2 : Int) (h : ¬ Zon.Z.ok ⟨b, s, ⟨m1, k1, d1, a1⟩, ⟨m2, k2, d2, a2⟩⟩) (w : World) :
    Calls Tryd.prog 10 #[.agg #[.int .i64 b, .int .i64 s, .int .i64 m1, .int .i64 k1, .int .i64 d1, .int .i64 a1, .int .i64 m2, .int .i64 k2, .int .i64 d2, .int .i64 a2]] w fun e w' => e = .returned (.bool false) ∧ w.grownBy w' none := by
  have hdone : ∀ o, w.grownBy (w.alloc o) none := fun o => World.grownBy_alloc w o none
  have H : Hid (¬ Zon.Z.ok ⟨b, s, ⟨m1, k1, d1, a1⟩, ⟨m2, k2, d2, a2⟩⟩) := h
  clear h
  by_cases q0 : b < -720
  · have g : decide (b < -720) = true := decide_eq_true q0
    go_enter Tryd.func10, Tryd.ntmps10
    go_wp2
    all_goals (go_ret; exact ⟨rfl, hdone _⟩)
  have gq0 : decide (b < -720) = false := decide_eq_false q0
  by_cases q1 : 840 < b
  · have g : decide (840 < b) = true := decide_eq_true q1
    go_enter Tryd.func10, Tryd.ntmps10
    go_wp2
    all_goals (go_ret; exact ⟨rfl, hdone _⟩)
  have gq1 : decide (840 < b) = false := decide_eq_false q1
  by_cases q2 : s < 0
  · have g : decide (s < 0) = true := decide_eq_true q2
    go_enter Tryd.func10, Tryd.ntmps10
    go_wp2
    all_goals (go_ret; exact ⟨rfl, hdone _⟩)
  have gq2 : decide (s < 0) = false := decide_eq_false q2
  by_cases q3 : 120 < s
  · have g : decide (120 < s) = true := decide_eq_true q3
    go_enter Tryd.func10, Tryd.ntmps10
    go_wp2
    all_goals (go_ret; exact ⟨rfl, hdone _⟩)
  have gq3 : decide (120 < s) = false := decide_eq_false q3
  by_cases hs : s = 0
  · subst hs
    have E1 : ∀ w, (binOp .eql 23 (.agg #[.int .i64 m1, .int .i64 k1, .int .i64 d1, .int .i64 a1]) (.agg #[.int .i64 0, .int .i64 0, .int .i64 0, .int .i64 0])).run Tryd.prog w = .ok (.bool (decide (m1 = 0 ∧ k1 = 0 ∧ d1 = 0 ∧ a1 = 0))) w := eql_nil m1 k1 d1 a1
    have E2 : ∀ w, (binOp .eql 23 (.agg #[.int .i64 m2, .int .i64 k2, .int .i64 d2, .int .i64 a2]) (.agg #[.int .i64 0, .int .i64 0, .int .i64 0, .int .i64 0])).run Tryd.prog w = .ok (.bool (decide (m2 = 0 ∧ k2 = 0 ∧ d2 = 0 ∧ a2 = 0))) w := eql_nil m2 k2 d2 a2
    by_cases h4 : m1 = 0 ∧ k1 = 0 ∧ d1 = 0 ∧ a1 = 0
    · have h5 : ¬ (m2 = 0 ∧ k2 = 0 ∧ d2 = 0 ∧ a2 = 0) := fun h5 => H.out ⟨by simp only; omega, by simp only; omega, by simp, by simp, .inl ⟨rfl, h4, h5⟩⟩
      rw [decide_eq_true h4] at E1
      rw [decide_eq_false h5] at E2
      clear h4 h5
      go_enter Tryd.func10, Tryd.ntmps10
      go_wp2
      go_ret
      exact ⟨rfl, hdone _⟩
    · rw [decide_eq_false h4] at E1
      clear h4
      go_enter Tryd.func10, Tryd.ntmps10
      go_wp2
      go_ret
      exact ⟨rfl, hdone _⟩
  · have gs : (s == 0) = false := by simpa using hs
    have R1 := rRule_any m1 k1 d1 a1
    have R2 := rRule_any m2 k2 d2 a2
    obtain ⟨b1, hb1⟩ : ∃ b, b = decide (1 ≤ m1 ∧ m1 ≤ 12 ∧ 1 ≤ k1 ∧ k1 ≤ 5 ∧ 0 ≤ d1 ∧ d1 ≤ 6 ∧ 0 ≤ a1 ∧ a1 ≤ 1439) := ⟨_, rfl⟩
    obtain ⟨b2, hb2⟩ : ∃ b, b = decide (1 ≤ m2 ∧ m2 ≤ 12 ∧ 1 ≤ k2 ∧ k2 ≤ 5 ∧ 0 ≤ d2 ∧ d2 ≤ 6 ∧ 0 ≤ a2 ∧ a2 ≤ 1439) := ⟨_, rfl⟩
    rw [← hb1] at R1
    rw [← hb2] at R2
    have HB : Hid (b1 = true → b2 = true → (m1 != m2) = false) := fun e1 e2 => by
      rw [hb1] at e1
      rw [hb2] at e2
      have e1' := of_decide_eq_true e1
      have e2' := of_decide_eq_true e2
      by_cases c : m1 = m2
      · simp [c]
      · exact absurd ⟨by simp only; omega, by simp only; omega, by simp only; omega, by simp only; omega, .inr ⟨e1', e2', c⟩⟩ H.out
    clear hb1 hb2
    cases b1 <;> cases b2
    case true.true =>
      have gm := HB.out rfl rfl
      go_enter Tryd.func10, Tryd.ntmps10
      go_wp2_with (first
        | (go_at_call 21; have _t := R1; go_must (refine (R1 _).mono ?_); rintro e w1 ⟨rfl, hg1⟩; clear R1; have c2 := cell_kept hg1 2 _ rfl; have c6 := cell_kept hg1 6 _ rfl; have c7 := cell_kept hg1 7 _ rfl; have c8 := cell_kept hg1 8 _ rfl; have c9 := cell_kept hg1 9 _ rfl)
        | (go_at_call 21; have _t := R2; go_must (refine (R2 _).mono ?_); rintro e w2 ⟨rfl, hg2⟩; clear R2; have f2 := hg2.cell c2 (by simp); have f6 := hg2.cell c6 (by simp)))
      go_ret
      exact ⟨rfl, grown_more (grown_more (hdone _) hg1 (by simp)) hg2 (by simp)⟩
    all_goals
      go_enter Tryd.func10, Tryd.ntmps10
      go_wp2_with (first
        | (go_at_call 21; have _t := R1; go_must (refine (R1 _).mono ?_); rintro e w1 ⟨rfl, hg1⟩; clear R1; have c2 := cell_kept hg1 2 _ rfl; have c6 := cell_kept hg1 6 _ rfl; have c7 := cell_kept hg1 7 _ rfl; have c8 := cell_kept hg1 8 _ rfl; have c9 := cell_kept hg1 9 _ rfl)
        | (go_at_call 21; have _t := R2; go_must (refine (R2 _).mono ?_); rintro e w2 ⟨rfl, hg2⟩; clear R2; have f2 := hg2.cell c2 (by simp); have f6 := hg2.cell c6 (by simp)))
      go_ret
      first
        | exact ⟨rfl, grown_more (hdone _) hg1 (by simp)⟩
        | exact ⟨rfl, grown_more (grown_more (hdone _) hg1 (by simp)) hg2 (by simp)⟩
theorem rRight_bad (z : Zon.Z) (h : ¬ z.ok) (w : World) :
    Calls Tryd.prog 10 #[zon z] w fun e w' => e = .returned (.bool false) ∧ w.grownBy w' none :=
  rRight_bad0 z.b z.s z.on.m z.on.k z.on.d z.on.a z.off.m z.off.k z.off.d z.off.a h w
end Go.Proofs.YtlnafkcoicaefaaDoor
