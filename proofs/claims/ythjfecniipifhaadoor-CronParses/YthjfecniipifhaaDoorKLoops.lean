/- What the calendar's loops answer: days ahead of a month. -/
import Derived.Test.YthjfecniipifhaaDoorKPure
namespace Go.Proofs.YthjfecniipifhaaDoor
open Go.RowKit

set_option maxRecDepth 100000 in
theorem toMonth_any (y m : Int) (h1 : 1970 ≤ y) (h2 : y ≤ 2399) (h3 : 1 ≤ m) (h4 : m ≤ 12) (w : World) :
    Calls Tryd.prog 61 #[.int .i64 y, .int .i64 m] w fun e w' => e = .returned (.int .i64 (Civ.d2y y + Civ.cum y m)) ∧ w' = w := by
  have hd0 := Civ.d2y_mono h1
  have hd1 := Civ.d2y_mono (show y ≤ 2400 by omega)
  rw [Civ.d2y_first] at hd0
  rw [Civ.d2y_last] at hd1
  obtain ⟨D, hD⟩ : ∃ D, D = Civ.d2y y := ⟨_, rfl⟩
  have HT := toYear_any y h1 (by omega)
  rw [← hD] at HT hd0 hd1 ⊢
  clear hD
  go_enter Tryd.func61, Tryd.ntmps61
  go_wp2_with (go_at_call 71; go_must (refine (HT _).mono ?_); rintro e w1 ⟨rfl, rfl⟩)
  go_loop [5, 6] (fun d i => ∃ k : Int, 1 ≤ k ∧ k ≤ m ∧ i = .int .i64 k ∧ d = .int .i64 (D + Civ.cum y k)) (fun _ i => (12 - intOf i).toNat)
  case atStart => exact ⟨1, by omega, h3, rfl, val_int (by rw [Civ.cum_one]; omega)⟩
  case round =>
    obtain ⟨k, hk1, hk2, rfl, rfl⟩ := hrel
    have hc0 := Civ.cum_mono (y := y) (m := 1) (n := k) (by omega) hk1 (by omega)
    have hc1 := Civ.cum_mono (y := y) (m := k) (n := 13) hk1 (by omega) (by omega)
    rw [Civ.cum_one] at hc0
    rw [Civ.cum_end] at hc1
    have hl := Civ.lp_two y
    have HS : Hid (Civ.cum y (k + 1) = Civ.cum y k + Civ.dim y k) := Civ.cum_succ hk1 (by omega)
    have HY := days_any y k
    rw [Civ.dys_in h1 h2 hk1 (by omega)] at HY
    have hdm := Civ.dim_bd y k
    obtain ⟨c, hc⟩ : ∃ c, c = Civ.cum y k := ⟨_, rfl⟩
    obtain ⟨d, hd⟩ : ∃ d, d = Civ.dim y k := ⟨_, rfl⟩
    have HC : Hid (c = Civ.cum y k) := hc
    rw [← hd] at HY hdm HS
    rw [← hc] at hc0 hc1 HS ⊢
    clear hc hd
    by_cases hlk : k < m
    · go_wp2_with (go_at_call 70; go_must (refine (HY _).mono ?_); rintro e w1 ⟨rfl, rfl⟩)
      go_round
      case rel => exact ⟨k + 1, by omega, by omega, by go_num, val_int (by rw [HS.out]; omega)⟩
      case measure => simp [intOf]; omega
    · obtain rfl : k = m := by omega
      go_wp2
      go_ret
      exact ⟨ret_int (by rw [HC.out]), rfl⟩

end Go.Proofs.YthjfecniipifhaaDoor
