/- What the calendar's inner functions answer; nothing is written. -/
import Derived.Test.YteiiapnpdfgoaaaDoorVBase
namespace Go.Proofs.YteiiapnpdfgoaaaDoor
open Go.RowKit

set_option maxRecDepth 100000 in
theorem long_any (y : Int) (h1 : 0 ≤ y) (h2 : y ≤ 3000) (w : World) :
    Calls Tryd.prog 35 #[.int .i64 y] w fun e w' => e = .returned (.bool (decide (Civ.lp y = 1))) ∧ w' = w := by
  go_enter Tryd.func35, Tryd.ntmps35
  go_wp2
  all_goals
    go_ret
    refine ⟨ret_bool ?_, rfl⟩
    unfold Civ.lp
    split <;> simp_all

theorem lp_true {y : Int} (h : decide (Civ.lp y = 1) = true) : (29 : Int) = 28 + Civ.lp y := by have := of_decide_eq_true h; omega
theorem lp_false {y : Int} (h : decide (Civ.lp y = 1) = false) : (28 : Int) = 28 + Civ.lp y := by have := of_decide_eq_false h; have := Civ.lp_two y; omega

set_option maxRecDepth 100000 in
set_option maxHeartbeats 400000 in
theorem days_any (y m : Int) (w : World) :
    Calls Tryd.prog 17 #[.int .i64 y, .int .i64 m] w fun e w' => e = .returned (.int .i64 (Civ.dys y m)) ∧ w' = w := by
  by_cases hy : 1970 ≤ y ∧ y ≤ 2399
  · obtain ⟨hy1, hy2⟩ := hy
    have HL := long_any y (by omega) (by omega)
    obtain ⟨b, hb⟩ : ∃ b, b = decide (Civ.lp y = 1) := ⟨_, rfl⟩
    rw [← hb] at HL
    have HB : Hid (b = decide (Civ.lp y = 1)) := hb
    clear hb
    go_enter Tryd.func17, Tryd.ntmps17
    go_wp2_with (go_at_call 35; go_must (refine (HL _).mono ?_); rintro e w1 ⟨rfl, rfl⟩)
    all_goals
      go_ret
      refine ⟨ret_int ?_, rfl⟩
      have hB := HB.out
      clear HL HB
      go_light
      have h2 := Civ.lp_two y
      unfold Civ.dys Civ.dim
      simp only [beq_iff_eq, beq_eq_false_iff_ne, ne_eq] at *
      repeat' split
      all_goals first
        | omega
        | (simp_all <;> omega)
  · have e : Civ.dys y m = 0 := by unfold Civ.dys; rw [if_neg (by omega)]
    rw [e]
    by_cases h1 : y < 1970
    · go_enter Tryd.func17, Tryd.ntmps17
      go_wp2
      go_ret
      exact ⟨rfl, rfl⟩
    · have h2 : 2399 < y := by omega
      clear hy
      go_enter Tryd.func17, Tryd.ntmps17
      go_wp2
      go_ret
      exact ⟨rfl, rfl⟩

set_option maxRecDepth 100000 in
theorem weekday_any (n : Int) (h1 : 0 ≤ n) (h2 : n ≤ 1000000) (w : World) :
    Calls Tryd.prog 27 #[.int .i64 n] w fun e w' => e = .returned (.int .i64 (Civ.wk n)) ∧ w' = w := by
  go_enter Tryd.func27, Tryd.ntmps27
  go_wp2
  go_ret
  exact ⟨ret_int (by unfold Civ.wk; omega), rfl⟩

set_option maxRecDepth 100000 in
theorem toYear_any (y : Int) (h1 : 1970 ≤ y) (h2 : y ≤ 2400) (w : World) :
    Calls Tryd.prog 26 #[.int .i64 y] w fun e w' => e = .returned (.int .i64 (Civ.d2y y)) ∧ w' = w := by
  go_enter Tryd.func26, Tryd.ntmps26
  go_wp2
  go_ret
  exact ⟨ret_int (by unfold Civ.d2y; omega), rfl⟩
end Go.Proofs.YteiiapnpdfgoaaaDoor
