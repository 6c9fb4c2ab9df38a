/- What the document's own reckoning of years and months answers. -/
import Derived.Test.YtlnafkcoicaefaaDoorVFrom
namespace Go.Proofs.YtlnafkcoicaefaaDoor
open Go.RowKit

set_option maxRecDepth 100000 in
theorem rLeap_any (y : Int) (h1 : 0 ≤ y) (h2 : y ≤ 3000) (w : World) :
    Calls Tryd.prog 45 #[.int .i64 y] w fun e w' => e = .returned (.bool (decide (Civ.lp y = 1))) ∧ w' = w := by
  go_enter Tryd.func45, Tryd.ntmps45
  go_wp2
  all_goals
    go_ret
    refine ⟨ret_bool ?_, rfl⟩
    unfold Civ.lp
    split <;> simp_all

set_option maxRecDepth 100000 in
theorem rYear_any (y : Int) (h1 : 0 ≤ y) (h2 : y ≤ 3000) (w : World) :
    Calls Tryd.prog 38 #[.int .i64 y] w fun e w' => e = .returned (.int .i64 (365 + Civ.lp y)) ∧ w' = w := by
  have HL := rLeap_any y h1 h2
  obtain ⟨l, hl⟩ : ∃ l, l = Civ.lp y := ⟨_, rfl⟩
  rw [← hl] at HL ⊢
  rcases (show l = 0 ∨ l = 1 by rw [hl]; exact Civ.lp_two y) with rfl | rfl
  · rw [decide_eq_false (by decide)] at HL
    go_enter Tryd.func38, Tryd.ntmps38
    go_wp2_with (go_at_call 45; go_must (refine (HL _).mono ?_); rintro e w1 ⟨rfl, rfl⟩)
    go_ret
    exact ⟨rfl, rfl⟩
  · rw [decide_eq_true rfl] at HL
    go_enter Tryd.func38, Tryd.ntmps38
    go_wp2_with (go_at_call 45; go_must (refine (HL _).mono ?_); rintro e w1 ⟨rfl, rfl⟩)
    go_ret
    exact ⟨rfl, rfl⟩

set_option maxRecDepth 100000 in
set_option maxHeartbeats 800000 in
theorem rDays_any (y m : Int) (w : World) :
    Calls Tryd.prog 37 #[.int .i64 y, .int .i64 m] w fun e w' => e = .returned (.int .i64 (Civ.dys y m)) ∧ w.grownBy w' none := by
  have hdone : ∀ o, w.grownBy (w.alloc o) none := fun o => World.grownBy_alloc w o none
  have h0 := grown_refl w none
  by_cases hy : 1970 ≤ y ∧ y ≤ 2399 ∧ 1 ≤ m ∧ m ≤ 12
  · obtain ⟨hy1, hy2, hm1, hm2⟩ := hy
    rw [Civ.dys_in hy1 hy2 hm1 hm2]
    by_cases h2 : m = 2
    · subst h2
      have HL := rLeap_any y (by omega) (by omega)
      have hd : Civ.dim y 2 = 28 + Civ.lp y := rfl
      rw [hd]
      obtain ⟨l, hl⟩ : ∃ l, l = Civ.lp y := ⟨_, rfl⟩
      rw [← hl] at HL ⊢
      rcases (show l = 0 ∨ l = 1 by rw [hl]; exact Civ.lp_two y) with rfl | rfl
      · rw [decide_eq_false (by decide)] at HL
        go_enter Tryd.func37, Tryd.ntmps37
        go_wp2_with (go_at_call 45; go_must (refine (HL _).mono ?_); rintro e w1 ⟨rfl, rfl⟩)
        go_ret
        exact ⟨rfl, hdone _⟩
      · rw [decide_eq_true rfl] at HL
        go_enter Tryd.func37, Tryd.ntmps37
        go_wp2_with (go_at_call 45; go_must (refine (HL _).mono ?_); rintro e w1 ⟨rfl, rfl⟩)
        go_ret
        exact ⟨rfl, hdone _⟩
    · have h : m = 1 ∨ m = 3 ∨ m = 4 ∨ m = 5 ∨ m = 6 ∨ m = 7 ∨ m = 8 ∨ m = 9 ∨ m = 10 ∨ m = 11 ∨ m = 12 := by omega
      clear h2
      rcases h with rfl | rfl | rfl | rfl | rfl | rfl | rfl | rfl | rfl | rfl | rfl
      all_goals
        go_enter Tryd.func37, Tryd.ntmps37
        go_wp2
        go_ret
        exact ⟨rfl, hdone _⟩
  · have e : Civ.dys y m = 0 := by unfold Civ.dys; rw [if_neg hy]
    rw [e]
    have H : Hid (¬ (1970 ≤ y ∧ y ≤ 2399 ∧ 1 ≤ m ∧ m ≤ 12)) := hy
    clear hy
    go_enter Tryd.func37, Tryd.ntmps37
    go_wp2_with (go_at_call 45; exfalso; have := H.out; omega)
    all_goals first
      | (go_ret; exact ⟨rfl, h0⟩)
      | (exfalso; have := H.out; go_light; simp at *; omega)
end Go.Proofs.YtlnafkcoicaefaaDoor
