/- 'CivilNth', walked. -/
import Derived.Test.YtdkiolghjdlkeaaVAwake
import Derived.Test.YtdkiolghjdlkeaaVArgs
namespace Go.Proofs.Ytdkiolghjdlkeaa
open Go.RowKit

namespace Civ
/-- the first of a month's weekdays d -/
def fst (y m d : Int) : Int := 1 + (d - wk (d2y y + cum y m) + 7) % 7
theorem fst_bd (y m d : Int) : 1 ≤ fst y m d ∧ fst y m d ≤ 7 := by unfold fst; omega
theorem nth_four {y m k d : Int} (hm : dys y m ≠ 0) (k1 : 1 ≤ k) (k2 : k ≤ 4) (d1 : 0 ≤ d) (d2 : d ≤ 6) : nthOf y m k d = fst y m d + 7 * (k - 1) := by
  have h := dim_bd y m
  unfold nthOf nth
  rw [if_neg (by omega)]
  simp only
  unfold fst
  rw [if_neg (by omega)]
  omega
theorem nth_five {y m d : Int} (hm : dys y m ≠ 0) (d1 : 0 ≤ d) (d2 : d ≤ 6) : nthOf y m 5 d = if dys y m < fst y m d + 28 then fst y m d + 21 else fst y m d + 28 := by
  obtain ⟨a, b, c, e⟩ := of_dys (y := y) (m := m) (by have := dys_bd y m; omega)
  rw [dys_in a b c e] at hm ⊢
  have hm' : dys y m ≠ 0 := by rw [dys_in a b c e]; exact hm
  unfold nthOf nth
  rw [if_neg (by omega)]
  simp only
  unfold fst
  split
  · rw [if_pos (by omega)]; omega
  · rw [if_neg (by omega)]; omega
theorem wk_of {y m k d : Int} (d1 : 0 ≤ d) (d2 : d ≤ 6) : wk (d2y y + cum y m + (fst y m d + 7 * (k - 1)) - 1) = d := by
  unfold fst wk
  omega
end Civ

/-- The round's three calls, for the k-th of four. -/
theorem nth_calls {y m k d : Int} (hm : Civ.dys y m ≠ 0) (k1 : 1 ≤ k) (k2 : k ≤ 4) (d1 : 0 ≤ d) (d2 : d ≤ 6) :
    ∃ t, (∀ w, Calls Try.prog 15 #[.int .i64 y, .int .i64 m, .int .i64 k, .int .i64 d] w fun e w' => e = .returned (.int .i64 (Civ.fst y m d + 7 * (k - 1))) ∧ w' = w) ∧
      (∀ w, Calls Try.prog 11 #[civ y m (Civ.fst y m d + 7 * (k - 1)) 0 0 0] w fun e w' => e = .returned (.tuple #[.int .i64 t, .int .i64 0]) ∧ w.grownBy w' none) ∧
      ∀ w, Calls Try.prog 9 #[.int .i64 t] w fun e w' => e = .returned (.tuple #[civ y m (Civ.fst y m d + 7 * (k - 1)) 0 0 d, .int .i64 0]) ∧ w.grownBy w' none := by
  obtain ⟨a, b, c, e⟩ := Civ.of_dys (y := y) (m := m) (by have := Civ.dys_bd y m; omega)
  have hf := Civ.fst_bd y m d
  have hdm := Civ.dim_bd y m
  have hd := Civ.dys_in a b c e
  have hA : Civ.At (Civ.d2y y + Civ.cum y m + (Civ.fst y m d + 7 * (k - 1)) - 1) y m (Civ.fst y m d + 7 * (k - 1)) := ⟨a, b, c, e, by omega, by omega, rfl⟩
  refine ⟨inst y m (Civ.fst y m d + 7 * (k - 1)) 0 0, fun w => ?_, fun w => to_ok _ _ _ _ _ _ ⟨by omega, by omega, by omega, by omega, by omega, by omega⟩ w, fun w => ?_⟩
  · have h := nth_any y m k d (by omega) (by omega) w
    rw [Civ.nth_four hm k1 k2 d1 d2] at h
    exact h
  · have ht : inst y m (Civ.fst y m d + 7 * (k - 1)) 0 0 = (Civ.d2y y + Civ.cum y m + (Civ.fst y m d + 7 * (k - 1)) - 1) * 1440 := by unfold inst; omega
    have h1 : inst y m (Civ.fst y m d + 7 * (k - 1)) 0 0 / 1440 = Civ.d2y y + Civ.cum y m + (Civ.fst y m d + 7 * (k - 1)) - 1 := by omega
    have h := from_at (t := inst y m (Civ.fst y m d + 7 * (k - 1)) 0 0) (by rw [h1]; exact hA) w
    rw [h1, Civ.wk_of d1 d2, show inst y m (Civ.fst y m d + 7 * (k - 1)) 0 0 % 1440 / 60 = 0 by omega, show inst y m (Civ.fst y m d + 7 * (k - 1)) 0 0 % 60 = 0 by omega] at h
    exact h

set_option maxRecDepth 100000 in
set_option maxHeartbeats 800000 in
theorem civilNth.walk0 (w : World) (y m d : Int) (hd : -9223372036854775808 ≤ d ∧ d ≤ 9223372036854775807) :
    Calls Try.prog 7 #[.int .i64 y, .int .i64 m, .int .i64 d] w fun e w' => e = .returned (.bool true) ∧ Below w.heap.size w w' := by
  have hnot : ∀ (x : Bool) (w : World), (Op.unary .not (.bool x)).run Try.prog w = .ok (.bool (!x)) w := fun _ _ => rfl
  have HD := days_any y m
  have N1 := nth_any y m 1 d (by omega) hd
  have N5 := nth_any y m 5 d (by omega) hd
  by_cases h : Civ.dys y m = 0 ∨ d < 0 ∨ 6 < d
  · have e1 : Civ.nthOf y m 1 d = 0 := by unfold Civ.nthOf; rw [if_pos (by omega)]
    rw [e1] at N1
    obtain ⟨D, hD⟩ : ∃ D, D = Civ.dys y m := ⟨_, rfl⟩
    rw [← hD] at HD h
    clear N5 e1 hD
    have H : Hid (D = 0 ∨ d < 0 ∨ 6 < d) := h
    clear h
    go_enter Try.func7, Try.ntmps7
    go_wp2_with (first
      | (go_at_call 8; go_must (refine (awake_any _).mono ?_); rintro e w1 ⟨rfl, hg1⟩)
      | (go_at_call 15; go_must (refine (N1 _).mono ?_); rintro e w2 ⟨rfl, rfl⟩)
      | (go_at_call 13; go_must (refine (HD _).mono ?_); rintro e w3 ⟨rfl, rfl⟩))
    all_goals first
      | (go_ret; refine ⟨ret_bool ?_, grown_below hg1⟩; first | rfl | (have := H.out; go_light; simp; simp at *; omega))
  · have hm : Civ.dys y m ≠ 0 := by omega
    have d1 : 0 ≤ d := by omega
    have d2 : d ≤ 6 := by omega
    rw [Civ.nth_four hm (by omega) (by omega) d1 d2] at N1
    rw [Civ.nth_five hm d1 d2] at N5
    have hf := Civ.fst_bd y m d
    have NC := fun k k1 k2 => nth_calls (y := y) (m := m) (k := k) (d := d) hm k1 k2 d1 d2
    have hdb := Civ.dys_bd y m
    have hd28 : 28 ≤ Civ.dys y m := by
      obtain ⟨a, b, c, e⟩ := Civ.of_dys (y := y) (m := m) (by omega)
      rw [Civ.dys_in a b c e]
      exact (Civ.dim_bd y m).1
    obtain ⟨F, hF⟩ : ∃ F, F = Civ.fst y m d := ⟨_, rfl⟩
    obtain ⟨D, hD⟩ : ∃ D, D = Civ.dys y m := ⟨_, rfl⟩
    rw [← hF] at N1 N5 hf NC
    rw [← hD] at HD N5 hdb hd28
    rw [show F + 7 * (1 - 1) = F by omega] at N1
    obtain ⟨L, hL⟩ : ∃ L, L = if D < F + 28 then F + 21 else F + 28 := ⟨_, rfl⟩
    rw [← hL] at N5
    have HL : Hid (L = if D < F + 28 then F + 21 else F + 28) := hL
    have hLb : 22 ≤ L ∧ L ≤ 35 := by rw [hL]; split <;> omega
    clear hL hF hD h hm hd
    have hF0 : (F == 0) = false := by simp; omega
    go_enter Try.func7, Try.ntmps7
    go_wp2_with (first
      | (go_at_call 8; go_must (refine (awake_any _).mono ?_); rintro e w1 ⟨rfl, hg1⟩)
      | (go_at_call 15; go_must (refine (N1 _).mono ?_); rintro e w2 ⟨rfl, rfl⟩)
      | (go_at_call 13; go_must (refine (HD _).mono ?_); rintro e w3 ⟨rfl, rfl⟩))
    clear N1 HD
    go_loopw [9] (fun i wr => ∃ k : Int, 1 ≤ k ∧ k ≤ 5 ∧ i = .int .i64 k ∧ w.grownBy wr none) (fun i _ => (5 - intOf i).toNat)
    case atStart => exact ⟨1, by omega, by omega, rfl, hg1⟩
    case round =>
      obtain ⟨k, k1, k2, rfl, hg⟩ := hrel
      by_cases h4 : k ≤ 4
      · obtain ⟨t, C1, C2, C3⟩ := NC k k1 h4
        clear N5 NC hg1
        go_wp2_with (first
          | (go_at_call 15; go_must (refine (C1 _).mono ?_); rintro e w4 ⟨rfl, rfl⟩)
          | (go_at_call 11; go_must (refine (C2 _).mono ?_); rintro e w5 ⟨rfl, hg5⟩)
          | (go_at_call 9; go_must (refine (C3 _).mono ?_); rintro e w6 ⟨rfl, hg6⟩))
        go_roundw
        case rel => exact ⟨k + 1, by omega, by omega, by go_num, grown_alloc (grown_more (grown_more hg hg5 (by simp)) hg6 (by simp)) _⟩
        case measure => simp [intOf]; omega
      · obtain rfl : k = 5 := by omega
        clear NC hg1
        go_wp2_with (go_at_call 15; go_must (refine (N5 _).mono ?_); rintro e w4 ⟨rfl, rfl⟩)
        all_goals
          have hl := HL.out
          split at hl
        all_goals first
          | (go_ret; refine ⟨ret_bool ?_, grown_below hg⟩; subst hl; go_light; simp; omega)
          | (exfalso; go_light; simp at *; omega)

theorem civilNth.walk (w : World) (y : Int) (_ : (Lit.int .i64 y).wf = true) (m : Int) (_ : (Lit.int .i64 m).wf = true) (d : Int) (hd : (Lit.int .i64 d).wf = true) :
    Calls Try.prog 7 #[.int .i64 y, .int .i64 m, .int .i64 d] w fun e w' => e = .returned (.bool true) ∧ Below w.heap.size w w' := civilNth.walk0 w y m d (in64_of hd)
end Go.Proofs.Ytdkiolghjdlkeaa
