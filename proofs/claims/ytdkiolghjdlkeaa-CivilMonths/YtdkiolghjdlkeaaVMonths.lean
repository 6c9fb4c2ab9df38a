/- 'CivilMonths', walked. -/
import Derived.Test.YtdkiolghjdlkeaaVRefNth
namespace Go.Proofs.Ytdkiolghjdlkeaa
open Go.RowKit

set_option maxRecDepth 100000 in
set_option maxHeartbeats 800000 in
theorem civilMonths.walk0 (w : World) (y m k d : Int) (hk : -9223372036854775808 ≤ k ∧ k ≤ 9223372036854775807) (hd : -9223372036854775808 ≤ d ∧ d ≤ 9223372036854775807) :
    Calls Try.prog 4 #[.int .i64 y, .int .i64 m, .int .i64 k, .int .i64 d] w fun e w' => e = .returned (.bool true) ∧ Below w.heap.size w w' := by
  have hnot : ∀ (x : Bool) (w : World), (Op.unary .not (.bool x)).run Try.prog w = .ok (.bool (!x)) w := fun _ _ => rfl
  have D1 := days_any y m
  have D2 := rDays_any y m
  have N1 := nth_any y m k d hk hd
  have N2 := rNth_any y m k d hk hd
  obtain ⟨D, hD⟩ : ∃ D, D = Civ.dys y m := ⟨_, rfl⟩
  obtain ⟨N, hN⟩ : ∃ N, N = Civ.nthOf y m k d := ⟨_, rfl⟩
  rw [← hD] at D1 D2
  rw [← hN] at N1 N2
  clear hD hN hk hd
  go_enter Try.func4, Try.ntmps4
  go_wp2_with (first
    | (go_at_call 8; go_must (refine (awake_any _).mono ?_); rintro e w1 ⟨rfl, hg1⟩)
    | (go_at_call 13; go_must (refine (D1 _).mono ?_); rintro e w2 ⟨rfl, rfl⟩)
    | (go_at_call 14; go_must (refine (D2 _).mono ?_); rintro e w3 ⟨rfl, hg3⟩)
    | (go_at_call 15; go_must (refine (N1 _).mono ?_); rintro e w4 ⟨rfl, rfl⟩)
    | (go_at_call 16; go_must (refine (N2 _).mono ?_); rintro e w5 ⟨rfl, hg5⟩))
  go_ret
  exact ⟨rfl, grown_below (grown_more (grown_more hg1 hg3 (by simp)) hg5 (by simp))⟩

theorem civilMonths.walk (w : World) (y : Int) (_ : (Lit.int .i64 y).wf = true) (m : Int) (_ : (Lit.int .i64 m).wf = true) (k : Int) (hk : (Lit.int .i64 k).wf = true) (d : Int) (hd : (Lit.int .i64 d).wf = true) :
    Calls Try.prog 4 #[.int .i64 y, .int .i64 m, .int .i64 k, .int .i64 d] w fun e w' => e = .returned (.bool true) ∧ Below w.heap.size w w' := civilMonths.walk0 w y m k d (in64_of hk) (in64_of hd)
end Go.Proofs.Ytdkiolghjdlkeaa
