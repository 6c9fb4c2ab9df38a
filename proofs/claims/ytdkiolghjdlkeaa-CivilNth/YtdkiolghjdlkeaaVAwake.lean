/- The statements' first look, 'awake', answers true and writes nothing that was there. -/
import Derived.Test.YtdkiolghjdlkeaaVTo
namespace Go.Proofs.Ytdkiolghjdlkeaa
open Go.RowKit

theorem from_zero (w : World) :
    Calls Try.prog 9 #[.int .i64 0] w fun e w' => e = .returned (.tuple #[civ 1970 1 1 0 0 4, .int .i64 0]) ∧ w.grownBy w' none := by
  refine (from_ok 0 (by decide) (by decide) w).mono fun e w' ⟨y, m, d, hA, he, hg⟩ => ?_
  have h0 : Civ.At (0 / 1440) 1970 1 1 := ⟨by decide, by decide, by decide, by decide, by decide, by decide, by decide⟩
  obtain ⟨rfl, rfl, rfl⟩ := h0.one hA
  exact ⟨he, hg⟩
theorem to_leap (w : World) :
    Calls Try.prog 11 #[civ 2000 2 29 12 30 0] w fun e w' => e = .returned (.tuple #[.int .i64 15863790, .int .i64 0]) ∧ w.grownBy w' none := by
  have h := to_ok 2000 2 29 12 30 0 (by decide) w
  have e : inst 2000 2 29 12 30 = 15863790 := by decide
  rw [e] at h
  exact h
theorem nth_march (w : World) :
    Calls Try.prog 15 #[.int .i64 2024, .int .i64 3, .int .i64 5, .int .i64 0] w fun e w' => e = .returned (.int .i64 31) ∧ w' = w := by
  have h := nth_any 2024 3 5 0 (by decide) (by decide) w
  have e : Civ.nthOf 2024 3 5 0 = 31 := by decide
  rw [e] at h
  exact h

set_option maxRecDepth 100000 in
set_option maxHeartbeats 400000 in
theorem awake_any (w : World) :
    Calls Try.prog 8 #[] w fun e w' => e = .returned (.bool true) ∧ w.grownBy w' none := by
  go_enter Try.func8, Try.ntmps8
  go_wp2_with (first
    | (go_at_call 9; go_must (refine (from_zero _).mono ?_); rintro e w1 ⟨rfl, hg1⟩)
    | (go_at_call 11; go_must (refine (to_leap _).mono ?_); rintro e w2 ⟨rfl, hg2⟩; have c0 := cell_kept hg2 0 _ rfl; have c1 := cell_kept hg2 1 _ rfl; have c2 := cell_kept hg2 2 _ rfl; have c3 := cell_kept hg2 3 _ rfl; have c4 := cell_kept hg2 4 _ rfl; have c5 := cell_kept hg2 5 _ rfl)
    | (go_at_call 15; go_must (refine (nth_march _).mono ?_); rintro e w3 ⟨rfl, rfl⟩))
  go_ret
  exact ⟨rfl, grown_more (grown_alloc hg1 _) hg2 (by simp)⟩
end Go.Proofs.Ytdkiolghjdlkeaa
