/- What the calendar's loops answer: days ahead of a month, the year and the month of a day; n-th weekdays. -/
import Derived.Test.YteiiapnpdfgoaaaDoorVPure
namespace Go.Proofs.YteiiapnpdfgoaaaDoor
open Go.RowKit

set_option maxRecDepth 100000 in
theorem toMonth_any (y m : Int) (h1 : 1970 ≤ y) (h2 : y ≤ 2399) (h3 : 1 ≤ m) (h4 : m ≤ 12) (w : World) :
    Calls Tryd.prog 31 #[.int .i64 y, .int .i64 m] w fun e w' => e = .returned (.int .i64 (Civ.d2y y + Civ.cum y m)) ∧ w' = w := by
  have hd0 := Civ.d2y_mono h1
  have hd1 := Civ.d2y_mono (show y ≤ 2400 by omega)
  rw [Civ.d2y_first] at hd0
  rw [Civ.d2y_last] at hd1
  obtain ⟨D, hD⟩ : ∃ D, D = Civ.d2y y := ⟨_, rfl⟩
  have HT := toYear_any y h1 (by omega)
  rw [← hD] at HT hd0 hd1 ⊢
  clear hD
  go_enter Tryd.func31, Tryd.ntmps31
  go_wp2_with (go_at_call 26; go_must (refine (HT _).mono ?_); rintro e w1 ⟨rfl, rfl⟩)
  go_loop [5, 6] (fun d i => ∃ k : Int, 1 ≤ k ∧ k ≤ m ∧ i = .int .i64 k ∧ d = .int .i64 (D + Civ.cum y k)) (fun _ i => (12 - intOf i).toNat)
  case atStart => exact ⟨1, by omega, h3, rfl, val_int (by rw [Civ.cum_one]; omega)⟩
  case round =>
    obtain ⟨k, hk1, hk2, rfl, rfl⟩ := hrel
    have hc0 := Civ.cum_mono (y := y) (m := 1) (n := k) (by omega) hk1 (by omega)
    have hc1 := Civ.cum_mono (y := y) (m := k) (n := 13) hk1 (by omega) (by omega)
    rw [Civ.cum_one] at hc0
    rw [Civ.cum_end] at hc1
    have hl := Civ.lp_two y
    have HS : Hid (Civ.cum y (k + 1) = Civ.cum y k + Civ.dim y k) := Civ.cum_succ hk1 (by omega)
    have HY := days_any y k
    rw [Civ.dys_in h1 h2 hk1 (by omega)] at HY
    have hdm := Civ.dim_bd y k
    obtain ⟨c, hc⟩ : ∃ c, c = Civ.cum y k := ⟨_, rfl⟩
    obtain ⟨d, hd⟩ : ∃ d, d = Civ.dim y k := ⟨_, rfl⟩
    have HC : Hid (c = Civ.cum y k) := hc
    rw [← hd] at HY hdm HS
    rw [← hc] at hc0 hc1 HS ⊢
    clear hc hd
    by_cases hlk : k < m
    · go_wp2_with (go_at_call 17; go_must (refine (HY _).mono ?_); rintro e w1 ⟨rfl, rfl⟩)
      go_round
      case rel => exact ⟨k + 1, by omega, by omega, by go_num, val_int (by rw [HS.out]; omega)⟩
      case measure => simp [intOf]; omega
    · obtain rfl : k = m := by omega
      go_wp2
      go_ret
      exact ⟨ret_int (by rw [HC.out]), rfl⟩

set_option maxRecDepth 100000 in
theorem yearOf_any (n : Int) (h1 : 0 ≤ n) (h2 : n < 157054) (w : World) :
    Calls Tryd.prog 24 #[.int .i64 n] w fun e w' => ∃ y, e = .returned (.int .i64 y) ∧ w' = w ∧ 1970 ≤ y ∧ y ≤ 2399 ∧ Civ.d2y y ≤ n ∧ n < Civ.d2y (y + 1) := by
  have hst := Civ.d2y_start h1
  have HST : Hid (Civ.d2y (1970 + n / 366) ≤ n) := hst
  clear hst
  go_enter Tryd.func24, Tryd.ntmps24
  go_wp2
  go_loop [3] (fun i => ∃ y : Int, 1970 ≤ y ∧ i = .int .i64 y ∧ Hid (Civ.d2y y ≤ n)) (fun i => (2400 - intOf i).toNat)
  case atStart => exact ⟨_, by omega, rfl, HST⟩
  case round =>
    obtain ⟨y, hy, rfl, HD⟩ := hrel
    have hy2 := Civ.year_last HD.out h2
    have HT := toYear_any (y + 1) (by omega) (by omega)
    have hn0 := Civ.d2y_mono (show y + 1 ≤ 2400 by omega)
    have hn1 := Civ.d2y_mono (show 1970 ≤ y + 1 by omega)
    rw [Civ.d2y_last] at hn0
    rw [Civ.d2y_first] at hn1
    obtain ⟨D, hD⟩ : ∃ D, D = Civ.d2y (y + 1) := ⟨_, rfl⟩
    rw [← hD] at HT hn0 hn1
    have HD' : Hid (D = Civ.d2y (y + 1)) := hD
    clear hD
    by_cases hle : D ≤ n
    · go_wp2_with (go_at_call 26; go_must (refine (HT _).mono ?_); rintro e w1 ⟨rfl, rfl⟩)
      go_round
      case rel => exact ⟨y + 1, by omega, by go_num, by show _ ≤ _; rw [← HD'.out]; exact hle⟩
      case measure => simp [intOf]; omega
    · go_wp2_with (go_at_call 26; go_must (refine (HT _).mono ?_); rintro e w1 ⟨rfl, rfl⟩)
      go_ret
      exact ⟨y, rfl, rfl, hy, hy2, HD.out, by rw [← HD'.out]; omega⟩

set_option maxRecDepth 100000 in
theorem monthOf_any (y n : Int) (h1 : 1970 ≤ y) (h2 : y ≤ 2399) (h3 : 0 ≤ n) (h4 : n < 365 + Civ.lp y) (w : World) :
    Calls Tryd.prog 25 #[.int .i64 y, .int .i64 n] w fun e w' => ∃ m d, e = .returned (.tuple #[.int .i64 m, .int .i64 d]) ∧ w' = w ∧ 1 ≤ m ∧ m ≤ 12 ∧ 1 ≤ d ∧ d ≤ Civ.dim y m ∧ n = Civ.cum y m + d - 1 := by
  have hl := Civ.lp_two y
  have H4 : Hid (n < 365 + Civ.lp y) := h4
  have hn : n < 366 := by omega
  clear h4
  go_enter Tryd.func25, Tryd.ntmps25
  go_wp2
  go_loop [1, 6] (fun d i => ∃ m k : Int, 1 ≤ m ∧ m ≤ 12 ∧ 0 ≤ k ∧ k ≤ n ∧ i = .int .i64 m ∧ d = .int .i64 k ∧ Hid (n = Civ.cum y m + k)) (fun _ i => (13 - intOf i).toNat)
  case atStart => exact ⟨1, n, by omega, by omega, h3, by omega, rfl, rfl, by show _ = _; rw [Civ.cum_one]; omega⟩
  case round =>
    obtain ⟨m, k, hm1, hm2, hk0, hk1, rfl, rfl, HK⟩ := hrel
    have HS : Hid (Civ.cum y (m + 1) = Civ.cum y m + Civ.dim y m) := Civ.cum_succ hm1 hm2
    have HE : Hid (Civ.cum y 13 = 365 + Civ.lp y) := Civ.cum_end y
    have HY := days_any y m
    rw [Civ.dys_in h1 h2 hm1 hm2] at HY
    have hdm := Civ.dim_bd y m
    obtain ⟨d, hd⟩ : ∃ d, d = Civ.dim y m := ⟨_, rfl⟩
    have HD : Hid (d = Civ.dim y m) := hd
    rw [← hd] at HY hdm HS
    clear hd
    by_cases hle : d ≤ k
    · have HM : Hid (m ≤ 11) := by
        show m ≤ 11
        by_cases c : m ≤ 11
        · exact c
        · obtain rfl : m = 12 := by omega
          have a := HS.out
          have b := HE.out
          have e : (12 : Int) + 1 = 13 := by decide
          rw [e] at a
          have := HK.out
          have := H4.out
          omega
      go_wp2_with (go_at_call 17; go_must (refine (HY _).mono ?_); rintro e w1 ⟨rfl, rfl⟩)
      go_round
      case rel => exact ⟨m + 1, k - d, by omega, by have := HM.out; omega, by omega, by omega, by go_num, by go_num, by show _ = _; rw [HS.out, HK.out]; omega⟩
      case measure => simp [intOf]; have := HM.out; omega
    · go_wp2_with (go_at_call 17; go_must (refine (HY _).mono ?_); rintro e w1 ⟨rfl, rfl⟩)
      go_ret2
      exact ⟨m, k + 1, rfl, rfl, hm1, hm2, by omega, by rw [← HD.out]; omega, by have := HK.out; omega⟩
end Go.Proofs.YteiiapnpdfgoaaaDoor
