/- What 'From' and 'Nth' answer. -/
import Derived.Test.YteiiapnpdfgoaaaDoorVLoops
import Derived.Handy
namespace Go.Proofs.YteiiapnpdfgoaaaDoor
open Go.RowKit

/-- A minute by the calendar as a value. -/
abbrev civ (y m d h n k : Int) : Value := .agg #[.int .i64 y, .int .i64 m, .int .i64 d, .int .i64 h, .int .i64 n, .int .i64 k]

set_option maxRecDepth 100000 in
theorem from_bad (t : Int) (h : t < 0 ∨ 226157759 < t) (w : World) :
    Calls Tryd.prog 12 #[.int .i64 t] w fun e w' => e = .returned (.tuple #[civ 0 0 0 0 0 0, .int .i64 30]) ∧ w.grownBy w' none := by
  have hdone : ∀ o, w.grownBy (w.alloc o) none := fun o => World.grownBy_alloc w o none
  by_cases h1 : t < 0
  · clear h
    go_enter Tryd.func12, Tryd.ntmps12
    go_wp2
    go_returns
    exact ⟨rfl, hdone _⟩
  · have h2 : 226157759 < t := by omega
    clear h
    go_enter Tryd.func12, Tryd.ntmps12
    go_wp2
    go_returns
    exact ⟨rfl, hdone _⟩

/-- Once the year is told: how far its day is, and which month and day that makes. -/
theorem from_parts {n y : Int} (hy1 : 1970 ≤ y) (hy2 : y ≤ 2399) (hy3 : Civ.d2y y ≤ n) (hy4 : n < Civ.d2y (y + 1)) :
    ∃ D, 0 ≤ D ∧ D ≤ n ∧ (∀ w, Calls Tryd.prog 26 #[.int .i64 y] w fun e w' => e = .returned (.int .i64 D) ∧ w' = w) ∧
      ∀ w, Calls Tryd.prog 25 #[.int .i64 y, .int .i64 (n - D)] w fun e w' => ∃ m d, e = .returned (.tuple #[.int .i64 m, .int .i64 d]) ∧ w' = w ∧ Hid (Civ.At n y m d) := by
  have hs := Civ.d2y_succ y
  have hd0 := Civ.d2y_mono hy1
  rw [Civ.d2y_first] at hd0
  refine ⟨Civ.d2y y, hd0, hy3, toYear_any y hy1 (by omega), fun w => (monthOf_any y (n - Civ.d2y y) hy1 hy2 (by omega) (by omega) w).mono fun e w' ⟨m, d, he, hw, a, b, c, f, g⟩ => ?_⟩
  exact ⟨m, d, he, hw, ⟨hy1, hy2, a, b, c, f, by omega⟩⟩

set_option maxRecDepth 100000 in
set_option maxHeartbeats 400000 in
theorem from_ok (t : Int) (h1 : 0 ≤ t) (h2 : t ≤ 226157759) (w : World) :
    Calls Tryd.prog 12 #[.int .i64 t] w fun e w' => ∃ y m d, Civ.At (t / 1440) y m d ∧
      e = .returned (.tuple #[civ y m d (t % 1440 / 60) (t % 60) (Civ.wk (t / 1440)), .int .i64 0]) ∧ w.grownBy w' none := by
  have hdone : ∀ o, w.grownBy (w.alloc o) none := fun o => World.grownBy_alloc w o none
  have HYO := yearOf_any (t / 1440) (by omega) (by omega)
  have HW := weekday_any (t / 1440) (by omega) (by omega)
  obtain ⟨k, hk⟩ : ∃ k, k = Civ.wk (t / 1440) := ⟨_, rfl⟩
  rw [← hk] at HW ⊢
  clear hk
  go_enter Tryd.func12, Tryd.ntmps12
  go_wp2_with (first
    | (go_at_call 24; go_must (refine (HYO _).mono ?_); rintro e w1 ⟨y, rfl, rfl, hy1, hy2, hy3, hy4⟩; obtain ⟨D, hD0, hD1, HT, HM⟩ := from_parts hy1 hy2 hy3 hy4; clear hy3 hy4)
    | (go_at_call 26; go_must (refine (HT _).mono ?_); rintro e w1 ⟨rfl, rfl⟩)
    | (go_at_call 25; go_must (refine (HM _).mono ?_); rintro e w1 ⟨m, d, rfl, rfl, HA⟩)
    | (go_at_call 27; go_must (refine (HW _).mono ?_); rintro e w1 ⟨rfl, rfl⟩))
  go_returns
  exact ⟨y, m, d, HA.out, rfl, hdone _⟩

/-- 'From', of an instant whose day's date is known. -/
theorem from_at {t y m d : Int} (hA : Civ.At (t / 1440) y m d) (w : World) :
    Calls Tryd.prog 12 #[.int .i64 t] w fun e w' => e = .returned (.tuple #[civ y m d (t % 1440 / 60) (t % 60) (Civ.wk (t / 1440)), .int .i64 0]) ∧ w.grownBy w' none := by
  have hr := hA.range
  refine (from_ok t (by omega) (by omega) w).mono fun e w' ⟨y', m', d', hA', he, hg⟩ => ?_
  obtain ⟨rfl, rfl, rfl⟩ := hA.one hA'
  exact ⟨he, hg⟩

set_option maxRecDepth 100000 in
set_option maxHeartbeats 400000 in
theorem nth_any (y m k d : Int) (hk : -9223372036854775808 ≤ k ∧ k ≤ 9223372036854775807) (hd : -9223372036854775808 ≤ d ∧ d ≤ 9223372036854775807) (w : World) :
    Calls Tryd.prog 78 #[.int .i64 y, .int .i64 m, .int .i64 k, .int .i64 d] w fun e w' => e = .returned (.int .i64 (Civ.nthOf y m k d)) ∧ w' = w := by
  have HY := days_any y m
  have hD := Civ.dys_bd y m
  by_cases h : Civ.dys y m = 0 ∨ k < 1 ∨ 5 < k ∨ d < 0 ∨ 6 < d
  · have e : Civ.nthOf y m k d = 0 := by unfold Civ.nthOf; rw [if_pos h]
    rw [e]
    obtain ⟨D, hD'⟩ : ∃ D, D = Civ.dys y m := ⟨_, rfl⟩
    rw [← hD'] at HY hD h
    clear hD'
    have H : Hid (D = 0 ∨ k < 1 ∨ 5 < k ∨ d < 0 ∨ 6 < d) := h
    clear h
    go_enter Tryd.func78, Tryd.ntmps78
    go_wp2_with (go_at_call 17; go_must (refine (HY _).mono ?_); rintro e w1 ⟨rfl, rfl⟩)
    all_goals first
      | (go_ret; exact ⟨rfl, rfl⟩)
      | (exfalso; have := H.out; go_light; simp only [beq_eq_false_iff_ne, ne_eq] at *; omega)
  · have e : Civ.nthOf y m k d = Civ.nth y m k d := by unfold Civ.nthOf; rw [if_neg h]
    rw [e]
    obtain ⟨hy1, hy2, hm1, hm2⟩ := Civ.of_dys (y := y) (m := m) (by omega)
    rw [Civ.dys_in hy1 hy2 hm1 hm2] at HY hD h
    have hdm := Civ.dim_bd y m
    have hk1 : 1 ≤ k := by omega
    have hk2 : k ≤ 5 := by omega
    have hd1 : 0 ≤ d := by omega
    have hd2 : d ≤ 6 := by omega
    clear hk hd h hD e
    have HM := toMonth_any y m hy1 hy2 hm1 hm2
    have hat := (Civ.At.range (⟨hy1, hy2, hm1, hm2, Int.le_refl 1, by omega, rfl⟩ : Civ.At _ y m 1))
    have HW := weekday_any (Civ.d2y y + Civ.cum y m) (by omega) (by omega)
    unfold Civ.nth
    simp only
    have hwk : 0 ≤ Civ.wk (Civ.d2y y + Civ.cum y m) ∧ Civ.wk (Civ.d2y y + Civ.cum y m) < 7 := by unfold Civ.wk; omega
    obtain ⟨D, hD⟩ : ∃ D, D = Civ.dim y m := ⟨_, rfl⟩
    obtain ⟨S, hS⟩ : ∃ S, S = Civ.d2y y + Civ.cum y m := ⟨_, rfl⟩
    rw [← hS] at HM HW hwk ⊢
    rw [← hD] at HY hdm ⊢
    obtain ⟨f, hf⟩ : ∃ f, f = Civ.wk S := ⟨_, rfl⟩
    rw [← hf] at HW hwk ⊢
    obtain ⟨hf1, hf2⟩ := hwk
    clear hat hD hS hf
    obtain ⟨R, hR⟩ : ∃ R, R = if D < 1 + (d - f + 7) % 7 + (k - 1) * 7 then 1 + (d - f + 7) % 7 + (k - 1) * 7 - 7 else 1 + (d - f + 7) % 7 + (k - 1) * 7 := ⟨_, rfl⟩
    have HR : Hid (R = if D < 1 + (d - f + 7) % 7 + (k - 1) * 7 then 1 + (d - f + 7) % 7 + (k - 1) * 7 - 7 else 1 + (d - f + 7) % 7 + (k - 1) * 7) := hR
    rw [← hR]
    clear hR
    go_enter Tryd.func78, Tryd.ntmps78
    go_wp2_with (first
      | (go_at_call 17; go_must (refine (HY _).mono ?_); rintro e w1 ⟨rfl, rfl⟩)
      | (go_at_call 31; go_must (refine (HM _).mono ?_); rintro e w1 ⟨rfl, rfl⟩)
      | (go_at_call 27; go_must (refine (HW _).mono ?_); rintro e w1 ⟨rfl, rfl⟩))
    all_goals first
      | (go_ret; refine ⟨ret_int ?_, rfl⟩; rw [HR.out]; first | (rw [if_pos (by omega)]; omega) | (rw [if_neg (by omega)]; omega))
      | (exfalso; go_light; simp only [beq_iff_eq] at *; omega)
end Go.Proofs.YteiiapnpdfgoaaaDoor
