/- The 29th of February: when it is due: no program's run in this text. -/
import Derived.Test.YteiiapnpdfgoaaaDoorDNoon
import Derived.Test.YteiiapnpdfgoaaaDoorDNxV
namespace Go.Proofs.YteiiapnpdfgoaaaDoor
open Go.RowKit
set_option linter.unusedVariables false

/-- The 29th of February, at a minute of the day. -/
def cL (h n : Nat) : Cro.C := ⟨2 ^ n, 2 ^ h, 536870912, 4, 127, false, true⟩
theorem cL_right_fin : ∀ h : Fin 24, ∀ n : Fin 60, (cL h.val n.val).right := by decide +kernel
theorem cL_right_all (h : Nat) (hh : h < 24) (n : Nat) (hn : n < 60) : (cL h n).right := cL_right_fin ⟨h, hh⟩ ⟨n, hn⟩
theorem cL_ok_all : ∀ h, h < 24 → ∀ n, n < 60 → (cL h n).mi < 18446744073709551616 ∧ (cL h n).ho < 18446744073709551616 := by decide +kernel
theorem cL_ok {h n : Nat} (hh : h < 24) (hn : n < 60) : (cL h n).ok := ⟨(cL_ok_all h hh n hn).1, (cL_ok_all h hh n hn).2, (by decide : (536870912 : Nat) < 18446744073709551616), (by decide : (4 : Nat) < 18446744073709551616), (by decide : (127 : Nat) < 18446744073709551616)⟩
theorem feb_month : ∀ m, m < 13 → Nat.testBit 4 m = decide (m = 2) := by decide +kernel
theorem feb_day : ∀ d, d < 32 → Nat.testBit 536870912 d = decide (d = 29) := by decide +kernel
theorem feb_fit {h n : Nat} (hh : h < 24) (hn : n < 60) {L y m d : Int} (h0 : 0 ≤ L) (hA : Civ.At (L / 1440) y m d) : Due.Fit (cL h n) L ↔ L % 60 = n ∧ L % 1440 / 60 = h ∧ m = 2 ∧ d = 29 := by
  rw [Due.fit_iff (cL_right_all h hh n hn) hA]
  have m1 := hA.m1
  have m2 := hA.m2
  have d1 := hA.d1
  have d2 := hA.d2
  have d3 := Civ.dim_bd y m
  have hw : (Civ.wk (L / 1440)).toNat < 7 := by unfold Civ.wk; omega
  have hd : (cL h n).day m.toNat d.toNat (Civ.wk (L / 1440)).toNat = (decide (m.toNat = 2) && decide (d.toNat = 29)) := by
    unfold Cro.C.day cL
    simp only
    rw [feb_month _ (by omega), feb_day _ (by omega), noon_week _ hw]
    simp
  rw [hd, show (cL h n).mi = 2 ^ n from rfl, show (cL h n).ho = 2 ^ h from rfl, Nat.testBit_two_pow, Nat.testBit_two_pow]
  simp
  omega
theorem feb_P {h n : Nat} (hh : h < 24) (hn : n < 60) {P : Nat → Bool} (hP : Due.IsP (cL h n) (zB 0) P) (t : Nat) : P t = true ↔ (∃ y, Civ.At ((t : Int) / 1440) y 2 29) ∧ (t : Int) % 1440 = h * 60 + n := by
  rw [hP t, zB_at, Int.add_zero]
  constructor
  · intro hf
    obtain ⟨y, m, d, hA, _⟩ := id hf
    obtain ⟨e1, e2, rfl, rfl⟩ := (feb_fit hh hn (by omega) hA).1 hf
    exact ⟨⟨y, hA⟩, by omega⟩
  · rintro ⟨⟨y, hA⟩, e⟩
    exact (feb_fit hh hn (by omega) hA).2 ⟨by omega, by omega, rfl, rfl⟩
theorem zB0_ok : (zB 0).ok := ⟨by show (-720 : Int) ≤ 0; omega, by show (0 : Int) ≤ 840; omega, by show (0 : Int) ≤ 0; omega, by show (0 : Int) ≤ 120; omega, .inl ⟨rfl, ⟨rfl, rfl, rfl, rfl⟩, ⟨rfl, rfl, rfl, rfl⟩⟩⟩
theorem cum_two (y : Int) : Civ.cum y 2 = 31 := by
  have := Civ.cum_succ (y := y) (m := 1) (by omega) (by omega)
  rw [Civ.cum_one, show Civ.dim y 1 = 31 from rfl] at this
  simpa using this
theorem dim_two (y : Int) : Civ.dim y 2 = 28 + Civ.lp y := rfl
/-- Whichever 29th of February lies behind the beginning of a year lies in no earlier one. -/
theorem feb_year {y0 y' D : Int} (hA : Civ.At D y' 2 29) (h : Civ.d2y y0 ≤ D) : y0 ≤ y' ∧ Civ.dim y' 2 = 29 := by
  have h1 := hA.year
  have h2 := hA.d2
  have h3 := Civ.lp_two y'
  rw [dim_two] at h2 ⊢
  refine ⟨?_, by omega⟩
  rcases Int.lt_or_le y' y0 with c | c
  · have := Civ.d2y_mono (show y' + 1 ≤ y0 by omega); omega
  · exact c
/-- The day that is looked for. -/
def leapT (y : Int) (h n : Nat) : Int := (Civ.d2y y + 59) * 1440 + h * 60 + n
theorem feb_at {h n : Nat} (hh : h < 24) (hn : n < 60) {P : Nat → Bool} (hP : Due.IsP (cL h n) (zB 0) P) {y0 y : Int} (h0 : 1970 ≤ y0) (h1 : y0 ≤ y) (h2 : y ≤ 2399) (hd : Civ.dim y 2 = 29) (hno : ∀ x, y0 ≤ x → x < y → Civ.dim x 2 ≠ 29) :
    Due.nxV P (cL h n) (zB 0) (Civ.d2y y0 * 1440 - 1) = (leapT y h n, 0) := by
  have hA : Civ.At (Civ.d2y y + 59) y 2 29 := ⟨by omega, h2, by omega, by omega, by omega, by omega, by rw [cum_two]; omega⟩
  have r := hA.range
  have f0 := Civ.d2y_mono h0
  rw [Civ.d2y_first] at f0
  have f1 := Civ.d2y_mono h1
  obtain ⟨t, ht⟩ : ∃ t : Nat, (t : Int) = leapT y h n := ⟨(leapT y h n).toNat, by unfold leapT; omega⟩
  have ht' := ht
  unfold leapT at ht'
  rw [← ht]
  refine Due.nxV_at (cL_right_all h hh n hn) zB0_ok (by omega) (by omega) (Due.nx_is (by omega) (by omega) ?_ fun u u1 u2 => ?_)
  · rw [feb_P hh hn hP]
    exact ⟨⟨y, by rw [show (t : Int) / 1440 = Civ.d2y y + 59 by omega]; exact hA⟩, by omega⟩
  · cases hu : P u with
    | false => rfl
    | true =>
      obtain ⟨⟨y', hB⟩, e⟩ := (feb_P hh hn hP u).1 hu
      obtain ⟨g1, g2⟩ := feb_year (y0 := y0) hB (by omega)
      have n1 := hB.year
      have n2 := hA.year
      rcases Int.lt_trichotomy y' y with c | c | c
      · exact absurd g2 (hno y' g1 c)
      · subst c
        have := hB.n
        rw [cum_two] at this
        omega
      · have := Civ.d2y_mono (show y + 1 ≤ y' by omega)
        omega
theorem feb_no {h n : Nat} (hh : h < 24) (hn : n < 60) {P : Nat → Bool} (hP : Due.IsP (cL h n) (zB 0) P) {y0 : Int} (h0 : 1970 ≤ y0) (h1 : y0 ≤ 2399) (hno : ∀ x, y0 ≤ x → x ≤ 2399 → Civ.dim x 2 ≠ 29) :
    Due.nxV P (cL h n) (zB 0) (Civ.d2y y0 * 1440 - 1) = (0, 60) := by
  have f0 := Civ.d2y_mono h0
  rw [Civ.d2y_first] at f0
  have f1 := Civ.d2y_mono (show y0 ≤ 2400 by omega)
  rw [Civ.d2y_last] at f1
  refine Due.nxV_no (cL_right_all h hh n hn) zB0_ok (by omega) (by omega) (Due.nx_no fun u u1 u2 => ?_)
  cases hu : P u with
  | false => rfl
  | true =>
    obtain ⟨⟨y', hB⟩, e⟩ := (feb_P hh hn hP u).1 hu
    obtain ⟨g1, g2⟩ := feb_year (y0 := y0) hB (by omega)
    exact absurd g2 (hno y' g1 hB.y2)
theorem lp_yes {x : Int} (h : (x % 4 = 0 ∧ x % 100 ≠ 0) ∨ x % 400 = 0) : Civ.dim x 2 = 29 := by
  rw [dim_two]
  unfold Civ.lp
  rw [if_pos h]
  rfl
theorem feb_gap {y0 y : Int} (hno : ∀ x, y0 ≤ x → x < y → Civ.dim x 2 ≠ 29) : y - y0 < 8 := by
  rcases Int.lt_or_le (y - y0) 8 with c | c
  · exact c
  · by_cases h : (4 * ((y0 + 3) / 4)) % 100 = 0
    · exact absurd (lp_yes (.inl ⟨by omega, by omega⟩)) (hno (4 * ((y0 + 3) / 4) + 4) (by omega) (by omega))
    · exact absurd (lp_yes (.inl ⟨by omega, h⟩)) (hno (4 * ((y0 + 3) / 4)) (by omega) (by omega))
end Go.Proofs.YteiiapnpdfgoaaaDoor
