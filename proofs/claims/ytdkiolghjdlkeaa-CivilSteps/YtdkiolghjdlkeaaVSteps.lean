/- 'CivilSteps', walked. -/
import Derived.Test.YtdkiolghjdlkeaaVAwake
import Derived.Test.YtdkiolghjdlkeaaVArgs
import Derived.Deep.Cut
namespace Go.Proofs.Ytdkiolghjdlkeaa
open Go.RowKit
set_option linter.unusedVariables false

/-- The date of the next minute. -/
theorem next_date {t y m d : Int} (h1 : 0 ≤ t) (h2 : t < 226157759) (hA : Civ.At (t / 1440) y m d) :
    ∃ y2 m2 d2, Civ.At ((t + 1) / 1440) y2 m2 d2 ∧
      ((t % 1440 < 1439 ∧ y2 = y ∧ m2 = m ∧ d2 = d) ∨
       (t % 1440 = 1439 ∧ d < Civ.dim y m ∧ y2 = y ∧ m2 = m ∧ d2 = d + 1) ∨
       (t % 1440 = 1439 ∧ d = Civ.dim y m ∧ m < 12 ∧ y2 = y ∧ m2 = m + 1 ∧ d2 = 1) ∨
       (t % 1440 = 1439 ∧ d = Civ.dim y m ∧ m = 12 ∧ y2 = y + 1 ∧ m2 = 1 ∧ d2 = 1)) := by
  by_cases c : t % 1440 < 1439
  · exact ⟨y, m, d, by rw [show (t + 1) / 1440 = t / 1440 by omega]; exact hA, .inl ⟨c, rfl, rfl, rfl⟩⟩
  · have c' : t % 1440 = 1439 := by omega
    have e : (t + 1) / 1440 = t / 1440 + 1 := by omega
    rw [e]
    by_cases hd : d < Civ.dim y m
    · exact ⟨y, m, d + 1, hA.next hd, .inr (.inl ⟨c', hd, rfl, rfl, rfl⟩)⟩
    · have hd' : d = Civ.dim y m := by have := hA.d2; omega
      by_cases hm : m < 12
      · exact ⟨y, m + 1, 1, hA.month hd' hm, .inr (.inr (.inl ⟨c', hd', hm, rfl, rfl, rfl⟩))⟩
      · have hm' : m = 12 := by have := hA.m2; omega
        exact ⟨y + 1, 1, 1, hA.newyear hd' hm' (by omega), .inr (.inr (.inr ⟨c', hd', hm', rfl, rfl, rfl⟩))⟩

set_option maxRecDepth 100000 in
set_option maxHeartbeats 800000 in
theorem steps_bad (w : World) (t : Int) (h : t < 0 ∨ 226157759 < t) :
    Calls Try.prog 5 #[.int .i64 t] w fun e w' => e = .returned (.bool true) ∧ Below w.heap.size w w' := by
  have hnot : ∀ (x : Bool) (w : World), (Op.unary .not (.bool x)).run Try.prog w = .ok (.bool (!x)) w := fun _ _ => rfl
  have F := from_bad t h
  have H : Hid (t < 0 ∨ 226157759 < t) := h
  clear h
  go_enter Try.func5, Try.ntmps5
  go_wp2_with (first
    | (go_at_call 8; go_must (refine (awake_any _).mono ?_); rintro e w1 ⟨rfl, hg1⟩)
    | (go_at_call 9; go_must (refine (F _).mono ?_); rintro e w2 ⟨rfl, hg2⟩))
  all_goals
    go_ret
    refine ⟨ret_bool ?_, grown_below (grown_alloc (grown_more hg1 hg2 (by simp)) _)⟩
    have := H.out
    go_light
    first | rfl | (simp; simp at *; omega)

/-- The last minute. -/
theorem last_date : Civ.At (226157759 / 1440) 2399 12 31 := ⟨by decide, by decide, by decide, by decide, by decide, by decide, by decide⟩
set_option maxRecDepth 100000 in
set_option maxHeartbeats 800000 in
theorem steps_last (w : World) :
    Calls Try.prog 5 #[.int .i64 226157759] w fun e w' => e = .returned (.bool true) ∧ Below w.heap.size w w' := by
  have hnot : ∀ (x : Bool) (w : World), (Op.unary .not (.bool x)).run Try.prog w = .ok (.bool (!x)) w := fun _ _ => rfl
  have F := from_at last_date
  have e1 : (226157759 : Int) % 1440 / 60 = 23 := by decide
  have e2 : (226157759 : Int) % 60 = 59 := by decide
  rw [e1, e2] at F
  have T := fun k => to_ok 2399 12 31 23 59 k (by decide)
  have e3 : inst 2399 12 31 23 59 = 226157759 := by decide
  rw [e3] at T
  obtain ⟨k, hk⟩ : ∃ k, k = Civ.wk (226157759 / 1440) := ⟨_, rfl⟩
  rw [← hk] at F
  clear hk e1 e2 e3
  go_enter Try.func5, Try.ntmps5
  go_wp2_with (first
    | (go_at_call 8; go_must (refine (awake_any _).mono ?_); rintro e w1 ⟨rfl, hg1⟩)
    | (go_at_call 9; go_must (refine (F _).mono ?_); rintro e w2 ⟨rfl, hg2⟩)
    | (go_at_call 11; go_must (refine (T _ _).mono ?_); rintro e w3 ⟨rfl, hg3⟩))
  go_ret
  exact ⟨rfl, grown_below (grown_more (grown_alloc (grown_more hg1 hg2 (by simp)) _) hg3 (by simp))⟩

set_option maxRecDepth 100000 in
set_option maxHeartbeats 800000 in
theorem steps_sameHour (w : World) (t y m d h n k y2 m2 d2 h2 n2 k2 D : Int) (t1 : 0 ≤ t) (t2 : t < 226157759) (a0 : 1970 ≤ y) (a1 : y ≤ 2399) (a2 : 1 ≤ m) (a3 : m ≤ 12) (a4 : 1 ≤ d) (a5 : d ≤ D) (a6 : D ≤ 31) (a7 : 0 ≤ h) (a8 : h < 24) (a9 : 0 ≤ n) (b0 : n < 60) (b1 : 0 ≤ k) (b2 : k < 7)
    (F1 : ∀ w, Calls Try.prog 9 #[.int .i64 t] w fun e w' => e = .returned (.tuple #[civ y m d h n k, .int .i64 0]) ∧ w.grownBy w' none)
    (T1 : ∀ w, Calls Try.prog 11 #[civ y m d h n k] w fun e w' => e = .returned (.tuple #[.int .i64 t, .int .i64 0]) ∧ w.grownBy w' none)
    (F2 : ∀ w, Calls Try.prog 9 #[.int .i64 (t + 1)] w fun e w' => e = .returned (.tuple #[civ y2 m2 d2 h2 n2 k2, .int .i64 0]) ∧ w.grownBy w' none)
    (HD : ∀ w, Calls Try.prog 13 #[.int .i64 y, .int .i64 m] w fun e w' => e = .returned (.int .i64 D) ∧ w' = w)
    (hc : n < 59 ∧ y2 = y ∧ m2 = m ∧ d2 = d ∧ h2 = h ∧ n2 = n + 1 ∧ k2 = k) :
    Calls Try.prog 5 #[.int .i64 t] w fun e w' => e = .returned (.bool true) ∧ Below w.heap.size w w' := by
  have hnot : ∀ (x : Bool) (w : World), (Op.unary .not (.bool x)).run Try.prog w = .ok (.bool (!x)) w := fun _ _ => rfl
  obtain ⟨q1, rfl, rfl, rfl, rfl, rfl, rfl⟩ := hc
  go_enter Try.func5, Try.ntmps5
  go_wp2_with (first
    | (go_at_call 8; go_must (refine (awake_any _).mono ?_); rintro e w1 ⟨rfl, hg1⟩; have tok1 : True := trivial)
    | (go_at_call 9; have _t := tok1; go_must (refine (F1 _).mono ?_); rintro e w2 ⟨rfl, hg2⟩; clear tok1)
    | (go_at_call 11; go_must (refine (T1 _).mono ?_); rintro e w3 ⟨rfl, hg3⟩)
    | (go_at_call 9; go_must (refine (F2 _).mono ?_); rintro e w4 ⟨rfl, hg4⟩
       have hg34 := grown_more hg3 hg4 (by simp)
       obtain ⟨c0, c1, c2, c3, c4, c5⟩ := six_kept hg34
       have s4 := size_kept hg34))
  go_quiet ((go_at_call 13; refine Calls.quiet_of_same (HD _)))
  go_wp2
  have g4 := grown_more (grown_alloc (grown_more hg1 hg2 (by simp)) _) hg34 (by simp)
  have g6 := fun o o' q => grown_drewN (grown_alloc (grown_alloc g4 o) o') q
  have s5 := g4.size
  go_ret
  exact ⟨rfl, grown_below (g6 _ _ _)⟩

set_option maxRecDepth 100000 in
set_option maxHeartbeats 800000 in
theorem steps_sameDay (w : World) (t y m d h n k y2 m2 d2 h2 n2 k2 D : Int) (t1 : 0 ≤ t) (t2 : t < 226157759) (a0 : 1970 ≤ y) (a1 : y ≤ 2399) (a2 : 1 ≤ m) (a3 : m ≤ 12) (a4 : 1 ≤ d) (a5 : d ≤ D) (a6 : D ≤ 31) (a7 : 0 ≤ h) (a8 : h < 24) (a9 : 0 ≤ n) (b0 : n < 60) (b1 : 0 ≤ k) (b2 : k < 7)
    (F1 : ∀ w, Calls Try.prog 9 #[.int .i64 t] w fun e w' => e = .returned (.tuple #[civ y m d h n k, .int .i64 0]) ∧ w.grownBy w' none)
    (T1 : ∀ w, Calls Try.prog 11 #[civ y m d h n k] w fun e w' => e = .returned (.tuple #[.int .i64 t, .int .i64 0]) ∧ w.grownBy w' none)
    (F2 : ∀ w, Calls Try.prog 9 #[.int .i64 (t + 1)] w fun e w' => e = .returned (.tuple #[civ y2 m2 d2 h2 n2 k2, .int .i64 0]) ∧ w.grownBy w' none)
    (HD : ∀ w, Calls Try.prog 13 #[.int .i64 y, .int .i64 m] w fun e w' => e = .returned (.int .i64 D) ∧ w' = w)
    (hc : n = 59 ∧ h < 23 ∧ y2 = y ∧ m2 = m ∧ d2 = d ∧ h2 = h + 1 ∧ n2 = 0 ∧ k2 = k) :
    Calls Try.prog 5 #[.int .i64 t] w fun e w' => e = .returned (.bool true) ∧ Below w.heap.size w w' := by
  have hnot : ∀ (x : Bool) (w : World), (Op.unary .not (.bool x)).run Try.prog w = .ok (.bool (!x)) w := fun _ _ => rfl
  obtain ⟨rfl, q2, rfl, rfl, rfl, rfl, rfl, rfl⟩ := hc
  go_enter Try.func5, Try.ntmps5
  go_wp2_with (first
    | (go_at_call 8; go_must (refine (awake_any _).mono ?_); rintro e w1 ⟨rfl, hg1⟩; have tok1 : True := trivial)
    | (go_at_call 9; have _t := tok1; go_must (refine (F1 _).mono ?_); rintro e w2 ⟨rfl, hg2⟩; clear tok1)
    | (go_at_call 11; go_must (refine (T1 _).mono ?_); rintro e w3 ⟨rfl, hg3⟩)
    | (go_at_call 9; go_must (refine (F2 _).mono ?_); rintro e w4 ⟨rfl, hg4⟩
       have hg34 := grown_more hg3 hg4 (by simp)
       obtain ⟨c0, c1, c2, c3, c4, c5⟩ := six_kept hg34
       have s4 := size_kept hg34))
  go_quiet ((go_at_call 13; refine Calls.quiet_of_same (HD _)))
  go_wp2
  have g4 := grown_more (grown_alloc (grown_more hg1 hg2 (by simp)) _) hg34 (by simp)
  have g6 := fun o o' q => grown_drewN (grown_alloc (grown_alloc g4 o) o') q
  have s5 := g4.size
  go_ret
  exact ⟨rfl, grown_below (g6 _ _ _)⟩

set_option maxRecDepth 100000 in
set_option maxHeartbeats 800000 in
theorem steps_sameMonth (w : World) (t y m d h n k y2 m2 d2 h2 n2 k2 D : Int) (t1 : 0 ≤ t) (t2 : t < 226157759) (a0 : 1970 ≤ y) (a1 : y ≤ 2399) (a2 : 1 ≤ m) (a3 : m ≤ 12) (a4 : 1 ≤ d) (a5 : d ≤ D) (a6 : D ≤ 31) (a7 : 0 ≤ h) (a8 : h < 24) (a9 : 0 ≤ n) (b0 : n < 60) (b1 : 0 ≤ k) (b2 : k < 7)
    (F1 : ∀ w, Calls Try.prog 9 #[.int .i64 t] w fun e w' => e = .returned (.tuple #[civ y m d h n k, .int .i64 0]) ∧ w.grownBy w' none)
    (T1 : ∀ w, Calls Try.prog 11 #[civ y m d h n k] w fun e w' => e = .returned (.tuple #[.int .i64 t, .int .i64 0]) ∧ w.grownBy w' none)
    (F2 : ∀ w, Calls Try.prog 9 #[.int .i64 (t + 1)] w fun e w' => e = .returned (.tuple #[civ y2 m2 d2 h2 n2 k2, .int .i64 0]) ∧ w.grownBy w' none)
    (HD : ∀ w, Calls Try.prog 13 #[.int .i64 y, .int .i64 m] w fun e w' => e = .returned (.int .i64 D) ∧ w' = w)
    (hc : n = 59 ∧ h = 23 ∧ d < D ∧ y2 = y ∧ m2 = m ∧ d2 = d + 1 ∧ h2 = 0 ∧ n2 = 0 ∧ k2 = (k + 1) % 7) :
    Calls Try.prog 5 #[.int .i64 t] w fun e w' => e = .returned (.bool true) ∧ Below w.heap.size w w' := by
  have hnot : ∀ (x : Bool) (w : World), (Op.unary .not (.bool x)).run Try.prog w = .ok (.bool (!x)) w := fun _ _ => rfl
  obtain ⟨rfl, rfl, q3, rfl, rfl, rfl, rfl, rfl, rfl⟩ := hc
  go_enter Try.func5, Try.ntmps5
  go_wp2_with (first
    | (go_at_call 8; go_must (refine (awake_any _).mono ?_); rintro e w1 ⟨rfl, hg1⟩; have tok1 : True := trivial)
    | (go_at_call 9; have _t := tok1; go_must (refine (F1 _).mono ?_); rintro e w2 ⟨rfl, hg2⟩; clear tok1)
    | (go_at_call 11; go_must (refine (T1 _).mono ?_); rintro e w3 ⟨rfl, hg3⟩)
    | (go_at_call 9; go_must (refine (F2 _).mono ?_); rintro e w4 ⟨rfl, hg4⟩
       have hg34 := grown_more hg3 hg4 (by simp)
       obtain ⟨c0, c1, c2, c3, c4, c5⟩ := six_kept hg34
       have s4 := size_kept hg34))
  go_quiet ((go_at_call 13; refine Calls.quiet_of_same (HD _)))
  go_wp2
  have g4 := grown_more (grown_alloc (grown_more hg1 hg2 (by simp)) _) hg34 (by simp)
  have g6 := fun o o' q => grown_drewN (grown_alloc (grown_alloc g4 o) o') q
  have s5 := g4.size
  go_ret
  exact ⟨rfl, grown_below (g6 _ _ _)⟩

set_option maxRecDepth 100000 in
set_option maxHeartbeats 800000 in
theorem steps_sameYear (w : World) (t y m d h n k y2 m2 d2 h2 n2 k2 D : Int) (t1 : 0 ≤ t) (t2 : t < 226157759) (a0 : 1970 ≤ y) (a1 : y ≤ 2399) (a2 : 1 ≤ m) (a3 : m ≤ 12) (a4 : 1 ≤ d) (a5 : d ≤ D) (a6 : D ≤ 31) (a7 : 0 ≤ h) (a8 : h < 24) (a9 : 0 ≤ n) (b0 : n < 60) (b1 : 0 ≤ k) (b2 : k < 7)
    (F1 : ∀ w, Calls Try.prog 9 #[.int .i64 t] w fun e w' => e = .returned (.tuple #[civ y m d h n k, .int .i64 0]) ∧ w.grownBy w' none)
    (T1 : ∀ w, Calls Try.prog 11 #[civ y m d h n k] w fun e w' => e = .returned (.tuple #[.int .i64 t, .int .i64 0]) ∧ w.grownBy w' none)
    (F2 : ∀ w, Calls Try.prog 9 #[.int .i64 (t + 1)] w fun e w' => e = .returned (.tuple #[civ y2 m2 d2 h2 n2 k2, .int .i64 0]) ∧ w.grownBy w' none)
    (HD : ∀ w, Calls Try.prog 13 #[.int .i64 y, .int .i64 m] w fun e w' => e = .returned (.int .i64 D) ∧ w' = w)
    (hc : n = 59 ∧ h = 23 ∧ d = D ∧ m < 12 ∧ y2 = y ∧ m2 = m + 1 ∧ d2 = 1 ∧ h2 = 0 ∧ n2 = 0 ∧ k2 = (k + 1) % 7) :
    Calls Try.prog 5 #[.int .i64 t] w fun e w' => e = .returned (.bool true) ∧ Below w.heap.size w w' := by
  have hnot : ∀ (x : Bool) (w : World), (Op.unary .not (.bool x)).run Try.prog w = .ok (.bool (!x)) w := fun _ _ => rfl
  obtain ⟨rfl, rfl, rfl, q4, rfl, rfl, rfl, rfl, rfl, rfl⟩ := hc
  go_enter Try.func5, Try.ntmps5
  go_wp2_with (first
    | (go_at_call 8; go_must (refine (awake_any _).mono ?_); rintro e w1 ⟨rfl, hg1⟩; have tok1 : True := trivial)
    | (go_at_call 9; have _t := tok1; go_must (refine (F1 _).mono ?_); rintro e w2 ⟨rfl, hg2⟩; clear tok1)
    | (go_at_call 11; go_must (refine (T1 _).mono ?_); rintro e w3 ⟨rfl, hg3⟩)
    | (go_at_call 9; go_must (refine (F2 _).mono ?_); rintro e w4 ⟨rfl, hg4⟩
       have hg34 := grown_more hg3 hg4 (by simp)
       obtain ⟨c0, c1, c2, c3, c4, c5⟩ := six_kept hg34
       have s4 := size_kept hg34))
  go_quiet ((go_at_call 13; refine Calls.quiet_of_same (HD _)))
  go_wp2
  have g4 := grown_more (grown_alloc (grown_more hg1 hg2 (by simp)) _) hg34 (by simp)
  have g6 := fun o o' q => grown_drewN (grown_alloc (grown_alloc g4 o) o') q
  have s5 := g4.size
  go_ret
  exact ⟨rfl, grown_below (grown_set_new (grown_set_new (g6 _ _ _) _ (by simp; omega) _) _ (by simp; omega) _)⟩

set_option maxRecDepth 100000 in
set_option maxHeartbeats 800000 in
theorem steps_newYear (w : World) (t y m d h n k y2 m2 d2 h2 n2 k2 D : Int) (t1 : 0 ≤ t) (t2 : t < 226157759) (a0 : 1970 ≤ y) (a1 : y ≤ 2399) (a2 : 1 ≤ m) (a3 : m ≤ 12) (a4 : 1 ≤ d) (a5 : d ≤ D) (a6 : D ≤ 31) (a7 : 0 ≤ h) (a8 : h < 24) (a9 : 0 ≤ n) (b0 : n < 60) (b1 : 0 ≤ k) (b2 : k < 7)
    (F1 : ∀ w, Calls Try.prog 9 #[.int .i64 t] w fun e w' => e = .returned (.tuple #[civ y m d h n k, .int .i64 0]) ∧ w.grownBy w' none)
    (T1 : ∀ w, Calls Try.prog 11 #[civ y m d h n k] w fun e w' => e = .returned (.tuple #[.int .i64 t, .int .i64 0]) ∧ w.grownBy w' none)
    (F2 : ∀ w, Calls Try.prog 9 #[.int .i64 (t + 1)] w fun e w' => e = .returned (.tuple #[civ y2 m2 d2 h2 n2 k2, .int .i64 0]) ∧ w.grownBy w' none)
    (HD : ∀ w, Calls Try.prog 13 #[.int .i64 y, .int .i64 m] w fun e w' => e = .returned (.int .i64 D) ∧ w' = w)
    (hc : n = 59 ∧ h = 23 ∧ d = D ∧ m = 12 ∧ y2 = y + 1 ∧ m2 = 1 ∧ d2 = 1 ∧ h2 = 0 ∧ n2 = 0 ∧ k2 = (k + 1) % 7) :
    Calls Try.prog 5 #[.int .i64 t] w fun e w' => e = .returned (.bool true) ∧ Below w.heap.size w w' := by
  have hnot : ∀ (x : Bool) (w : World), (Op.unary .not (.bool x)).run Try.prog w = .ok (.bool (!x)) w := fun _ _ => rfl
  obtain ⟨rfl, rfl, rfl, rfl, rfl, rfl, rfl, rfl, rfl, rfl⟩ := hc
  go_enter Try.func5, Try.ntmps5
  go_wp2_with (first
    | (go_at_call 8; go_must (refine (awake_any _).mono ?_); rintro e w1 ⟨rfl, hg1⟩; have tok1 : True := trivial)
    | (go_at_call 9; have _t := tok1; go_must (refine (F1 _).mono ?_); rintro e w2 ⟨rfl, hg2⟩; clear tok1)
    | (go_at_call 11; go_must (refine (T1 _).mono ?_); rintro e w3 ⟨rfl, hg3⟩)
    | (go_at_call 9; go_must (refine (F2 _).mono ?_); rintro e w4 ⟨rfl, hg4⟩
       have hg34 := grown_more hg3 hg4 (by simp)
       obtain ⟨c0, c1, c2, c3, c4, c5⟩ := six_kept hg34
       have s4 := size_kept hg34))
  go_quiet ((go_at_call 13; refine Calls.quiet_of_same (HD _)))
  have hlt : ¬ w4.heap.size + 1 = w4.heap.size := by omega
  generalize hW : World.drewN _ nq = W
  have k0 : W.cell? ⟨w4.heap.size + 1, 0, none⟩ = some (.int .i64 y) := by rw [← hW]; simp
  have k1 : W.cell? ⟨w4.heap.size + 1, 1, none⟩ = some (.int .i64 12) := by rw [← hW]; simp
  have k2 : W.cell? ⟨w4.heap.size + 1, 2, none⟩ = some (.int .i64 (d + 1)) := by rw [← hW]; simp
  have k3 : W.cell? ⟨w4.heap.size + 1, 3, none⟩ = some (.int .i64 0) := by rw [← hW]; simp
  have k4 : W.cell? ⟨w4.heap.size + 1, 4, none⟩ = some (.int .i64 0) := by rw [← hW]; simp
  have k5 : W.cell? ⟨w4.heap.size + 1, 5, none⟩ = some (.int .i64 ((k + 1) % 7)) := by rw [← hW]; simp
  have l0 : W.cell? ⟨w4.heap.size, 0, none⟩ = some (.int .i64 (y + 1)) := by rw [← hW]; simp
  have l1 : W.cell? ⟨w4.heap.size, 1, none⟩ = some (.int .i64 1) := by rw [← hW]; simp
  have l2 : W.cell? ⟨w4.heap.size, 2, none⟩ = some (.int .i64 1) := by rw [← hW]; simp
  have l3 : W.cell? ⟨w4.heap.size, 3, none⟩ = some (.int .i64 0) := by rw [← hW]; simp
  have l4 : W.cell? ⟨w4.heap.size, 4, none⟩ = some (.int .i64 0) := by rw [← hW]; simp
  have l5 : W.cell? ⟨w4.heap.size, 5, none⟩ = some (.int .i64 ((k + 1) % 7)) := by rw [← hW]; simp
  have z : ∀ i, W.frozen? ⟨w4.heap.size + 1, i, none⟩ = false := fun i => by rw [← hW]; simp
  have HG : w.grownBy W none := by
    rw [← hW]
    exact grown_drewN (grown_alloc (grown_alloc (grown_more (grown_alloc (grown_more hg1 hg2 (by simp)) _) hg34 (by simp)) _) _) _
  clear hW
  go_upto_region 27 with fail
  generalize hW2 : World.setCell _ _ _ = W2
  have k0' : W2.cell? ⟨w4.heap.size + 1, 0, none⟩ = some (.int .i64 (y + 1)) := by subst hW2; go_simp
  have m1 : ((W.setCell ⟨w4.heap.size + 1, 2, none⟩ (.int .i64 1)).setCell ⟨w4.heap.size + 1, 1, none⟩ (.int .i64 13)).cell? ⟨w4.heap.size + 1, 1, none⟩ = some (.int .i64 13) := World.cell?_setCell_same (u := .int .i64 12) _ _ _ (by go_simp)
  have k1' : W2.cell? ⟨w4.heap.size + 1, 1, none⟩ = some (.int .i64 1) := by subst hW2; go_simp
  have k2' : W2.cell? ⟨w4.heap.size + 1, 2, none⟩ = some (.int .i64 1) := by subst hW2; go_simp
  have k3' : W2.cell? ⟨w4.heap.size + 1, 3, none⟩ = some (.int .i64 0) := by subst hW2; go_simp
  have k4' : W2.cell? ⟨w4.heap.size + 1, 4, none⟩ = some (.int .i64 0) := by subst hW2; go_simp
  have k5' : W2.cell? ⟨w4.heap.size + 1, 5, none⟩ = some (.int .i64 ((k + 1) % 7)) := by subst hW2; go_simp
  have l0' : W2.cell? ⟨w4.heap.size, 0, none⟩ = some (.int .i64 (y + 1)) := by subst hW2; go_simp
  have l1' : W2.cell? ⟨w4.heap.size, 1, none⟩ = some (.int .i64 1) := by subst hW2; go_simp
  have l2' : W2.cell? ⟨w4.heap.size, 2, none⟩ = some (.int .i64 1) := by subst hW2; go_simp
  have l3' : W2.cell? ⟨w4.heap.size, 3, none⟩ = some (.int .i64 0) := by subst hW2; go_simp
  have l4' : W2.cell? ⟨w4.heap.size, 4, none⟩ = some (.int .i64 0) := by subst hW2; go_simp
  have l5' : W2.cell? ⟨w4.heap.size, 5, none⟩ = some (.int .i64 ((k + 1) % 7)) := by subst hW2; go_simp
  have s5 : w.heap.size ≤ w4.heap.size + 1 := by have := hg1.size; have := hg2.size; omega
  have HG2 : w.grownBy W2 none := by rw [← hW2]; exact grown_set_new (grown_set_new (grown_set_new (grown_set_new HG _ s5 _) _ s5 _) _ s5 _) _ s5 _
  clear hW2 m1 k0 k1 k2 k3 k4 k5 l0 l1 l2 l3 l4 l5 z HG
  go_wp2
  go_ret
  exact ⟨rfl, grown_below HG2⟩

theorem civilSteps.walk (w : World) (t : Int) (_ : (Lit.int .i64 t).wf = true) :
    Calls Try.prog 5 #[.int .i64 t] w fun e w' => e = .returned (.bool true) ∧ Below w.heap.size w w' := by
  by_cases hb : t < 0 ∨ 226157759 < t
  · exact steps_bad w t hb
  by_cases hl : t = 226157759
  · subst hl; exact steps_last w
  have t1 : 0 ≤ t := by omega
  have t2 : t < 226157759 := by omega
  obtain ⟨y, m, d, hA⟩ := Civ.At.is (n := t / 1440) (by omega) (by omega)
  obtain ⟨y2, m2, d2, hB, hc⟩ := next_date t1 t2 hA
  have F1 := from_at hA
  have F2 := from_at hB
  have hin : inst y m d (t % 1440 / 60) (t % 60) = t := by
    unfold inst
    rw [← hA.n]
    omega
  have T1 := to_ok y m d (t % 1440 / 60) (t % 60) (Civ.wk (t / 1440)) ⟨hA.d1, by rw [hA.dys]; exact hA.d2, by omega, by omega, by omega, by omega⟩
  rw [hin] at T1
  have HD := days_any y m
  rw [hA.dys] at HD
  have hdm := Civ.dim_bd y m
  have hwk : 0 ≤ Civ.wk (t / 1440) ∧ Civ.wk (t / 1440) < 7 := by unfold Civ.wk; omega
  have hw2 : (t % 1440 < 1439 → Civ.wk ((t + 1) / 1440) = Civ.wk (t / 1440)) ∧ (t % 1440 = 1439 → Civ.wk ((t + 1) / 1440) = (Civ.wk (t / 1440) + 1) % 7) := by
    unfold Civ.wk
    constructor <;> intro _ <;> omega
  rcases hc with ⟨c, rfl, rfl, rfl⟩ | ⟨c, e, rfl, rfl, rfl⟩ | ⟨c, e, f, rfl, rfl, rfl⟩ | ⟨c, e, f, rfl, rfl, rfl⟩
  · by_cases h59 : t % 60 < 59
    · exact steps_sameHour w t _ _ _ _ _ _ _ _ _ _ _ _ _ t1 t2 hA.y1 hA.y2 hA.m1 hA.m2 hA.d1 hA.d2 hdm.2 (by omega) (by omega) (by omega) (by omega) hwk.1 hwk.2 F1 T1 F2 HD ⟨h59, rfl, rfl, rfl, by omega, by omega, hw2.1 c⟩
    · exact steps_sameDay w t _ _ _ _ _ _ _ _ _ _ _ _ _ t1 t2 hA.y1 hA.y2 hA.m1 hA.m2 hA.d1 hA.d2 hdm.2 (by omega) (by omega) (by omega) (by omega) hwk.1 hwk.2 F1 T1 F2 HD ⟨by omega, by omega, rfl, rfl, rfl, by omega, by omega, hw2.1 c⟩
  · exact steps_sameMonth w t _ _ _ _ _ _ _ _ _ _ _ _ _ t1 t2 hA.y1 hA.y2 hA.m1 hA.m2 hA.d1 hA.d2 hdm.2 (by omega) (by omega) (by omega) (by omega) hwk.1 hwk.2 F1 T1 F2 HD ⟨by omega, by omega, e, rfl, rfl, rfl, by omega, by omega, hw2.2 c⟩
  · exact steps_sameYear w t _ _ _ _ _ _ _ _ _ _ _ _ _ t1 t2 hA.y1 hA.y2 hA.m1 hA.m2 hA.d1 hA.d2 hdm.2 (by omega) (by omega) (by omega) (by omega) hwk.1 hwk.2 F1 T1 F2 HD ⟨by omega, by omega, e, f, rfl, rfl, rfl, by omega, by omega, hw2.2 c⟩
  · exact steps_newYear w t _ _ _ _ _ _ _ _ _ _ _ _ _ t1 t2 hA.y1 hA.y2 hA.m1 hA.m2 hA.d1 hA.d2 hdm.2 (by omega) (by omega) (by omega) (by omega) hwk.1 hwk.2 F1 T1 F2 HD ⟨by omega, by omega, e, f, rfl, rfl, rfl, by omega, by omega, hw2.2 c⟩
end Go.Proofs.Ytdkiolghjdlkeaa
