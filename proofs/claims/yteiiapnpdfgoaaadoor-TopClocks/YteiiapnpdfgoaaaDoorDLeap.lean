/- Which local minutes an expression fits, and how far one may leap: no program's run in this text. -/
import Derived.Test.YteiiapnpdfgoaaaDoorKFits
import Derived.Test.YteiiapnpdfgoaaaDoorZMath
import Derived.Test.YteiiapnpdfgoaaaDoorDMath
import Derived.Lib.TrailingZeros
namespace Go.Proofs.YteiiapnpdfgoaaaDoor.Due
open Cro

/-- The expression fits the local minute L. -/
def Fit (c : C) (L : Int) : Prop := ∃ y m d, Civ.At (L / 1440) y m d ∧ c.fits y m d (L % 1440 / 60) (L % 60) (Civ.wk (L / 1440)) = true
/-- P tells the occurrences of an expression in a zone. -/
def IsP (c : C) (z : Zon.Z) (P : Nat → Bool) : Prop := ∀ t : Nat, P t = true ↔ Fit c (t + z.at t)
theorem has_P (c : C) (z : Zon.Z) : ∃ P, IsP c z P := ⟨fun t => @decide (Fit c (t + z.at t)) (Classical.propDecidable _), fun t => by simp⟩

theorem mnt_at {D y m d h n : Int} (hA : Civ.At D y m d) (h1 : 0 ≤ h) (h2 : h ≤ 23) (n1 : 0 ≤ n) (n2 : n ≤ 59) : Mnt y m d h n (Civ.wk D) := by
  have e := hA.dys
  refine ⟨⟨hA.d1, by rw [e]; exact hA.d2, h1, by omega, n1, by omega⟩, ?_⟩
  unfold Civ.wk
  omega
theorem fits_at {c : C} {L y m d : Int} (hr : c.right) (hA : Civ.At (L / 1440) y m d) :
    c.fits y m d (L % 1440 / 60) (L % 60) (Civ.wk (L / 1440)) = (c.mi.testBit (L % 60).toNat && c.ho.testBit (L % 1440 / 60).toNat && c.day m.toNat d.toNat (Civ.wk (L / 1440)).toNat) := by
  unfold C.fits
  rw [decide_eq_true hr, decide_eq_true (mnt_at hA (by omega) (by omega) (by omega) (by omega))]
  simp
theorem fit_iff {c : C} {L y m d : Int} (hr : c.right) (hA : Civ.At (L / 1440) y m d) :
    Fit c L ↔ (c.mi.testBit (L % 60).toNat && c.ho.testBit (L % 1440 / 60).toNat && c.day m.toNat d.toNat (Civ.wk (L / 1440)).toNat) = true := by
  rw [← fits_at hr hA]
  constructor
  · rintro ⟨y', m', d', hB, h⟩
    obtain ⟨rfl, rfl, rfl⟩ := hA.one hB
    exact h
  · intro h
    exact ⟨y, m, d, hA, h⟩
theorem fit_range {c : C} {L : Int} (h : Fit c L) : 0 ≤ L ∧ L ≤ 226157759 := by
  obtain ⟨y, m, d, hA, _⟩ := h
  have := hA.range
  omega
theorem fit_right {c : C} {L : Int} (h : Fit c L) : c.right := by
  obtain ⟨y, m, d, hA, h⟩ := h
  unfold C.fits at h
  simp only [Bool.and_eq_true, decide_eq_true_eq] at h
  exact h.1.1.1.1
theorem no_min {c : C} {L : Int} (h : c.mi.testBit (L % 60).toNat = false) : ¬ Fit c L := by
  rintro ⟨y, m, d, hA, hf⟩
  unfold C.fits at hf
  simp [h] at hf
theorem no_hour {c : C} {L : Int} (h : c.ho.testBit (L % 1440 / 60).toNat = false) : ¬ Fit c L := by
  rintro ⟨y, m, d, hA, hf⟩
  unfold C.fits at hf
  simp [h] at hf
theorem no_day {c : C} {L L' y m d : Int} (hA : Civ.At (L / 1440) y m d) (h : c.day m.toNat d.toNat (Civ.wk (L / 1440)).toNat = false) (e : L' / 1440 = L / 1440) : ¬ Fit c L' := by
  rintro ⟨y', m', d', hB, hf⟩
  rw [e] at hB hf
  obtain ⟨rfl, rfl, rfl⟩ := hA.one hB
  unfold C.fits at hf
  simp [h] at hf
theorem no_month {c : C} {L L' y m d : Int} (hA : Civ.At (L / 1440) y m d) (h : c.mo.testBit m.toNat = false) (h1 : L / 1440 ≤ L' / 1440) (h2 : L' / 1440 ≤ L / 1440 + max (28 - d) 0) : ¬ Fit c L' := by
  rintro ⟨y', m', d', hB, hf⟩
  have hd := Civ.dim_bd y m
  have hB' : Civ.At (L' / 1440) y m (d + (L' / 1440 - L / 1440)) := ⟨hA.y1, hA.y2, hA.m1, hA.m2, by have := hA.d1; omega, by have := hA.d2; omega, by have := hA.n; omega⟩
  obtain ⟨rfl, rfl, rfl⟩ := hB'.one hB
  unfold C.fits C.day at hf
  simp [h] at hf

/-- How far the least number of a set that is n or more lies above n. -/
def gp (s n e : Nat) : Nat := min (n + Lib.ctz 64 (s / 2 ^ n)) e - n
theorem ctz_low {x i : Nat} (hx : x < 18446744073709551616) (h : i < Lib.ctz 64 x) : x.testBit i = false := by
  by_cases h0 : x = 0
  · rw [h0, Nat.zero_testBit]
  · obtain ⟨m, hm, hk⟩ := Lib.ctzFrom_spec 64 x (by omega) (by simpa using hx)
    have e : Lib.ctz 64 x = Lib.ctzFrom 64 x := by simp [Lib.ctz, h0]
    rw [e] at h
    rw [hm, Nat.mul_comm, Nat.testBit_mul_two_pow]
    simp
    omega
theorem ctz_le (x : Nat) (hx : x < 18446744073709551616) : Lib.ctz 64 x ≤ 64 := by
  by_cases h0 : x = 0
  · simp [Lib.ctz, h0]
  · have := (Lib.lowest_bit 64 x h0 (by simpa using hx)).2
    omega
theorem ctz_pos {x : Nat} (h : x.testBit 0 = false) : 0 < Lib.ctz 64 x := by
  unfold Lib.ctz
  split
  · omega
  · unfold Lib.ctzFrom
    rw [Nat.testBit_zero] at h
    rw [if_neg (by simpa using h)]
    omega
theorem gp_no {s n e i : Nat} (hs : s < 18446744073709551616) (h1 : n ≤ i) (h2 : i < n + gp s n e) : s.testBit i = false := by
  unfold gp at h2
  have := ctz_low (x := s / 2 ^ n) (i := i - n) (Nat.lt_of_le_of_lt (Nat.div_le_self _ _) hs) (by omega)
  rw [Nat.testBit_div_two_pow] at this
  rwa [show i - n + n = i by omega] at this
theorem gp_pos {s n e : Nat} (h : s.testBit n = false) (he : n < e) : 0 < gp s n e := by
  have := ctz_pos (x := s / 2 ^ n) (by rw [Nat.testBit_div_two_pow]; simpa using h)
  unfold gp
  omega
theorem gp_le (s n e : Nat) : gp s n e ≤ e - n := by
  unfold gp
  omega

/-- The expressions that are wider. -/
def every : C := ⟨(sp 0).full, (sp 1).full, (sp 2).full, (sp 3).full, (sp 4).full, true, true⟩
def wideH (c : C) : C := { c with mi := (sp 0).full }
def wideD (c : C) : C := { c with mi := (sp 0).full, ho := (sp 1).full }
def wideM (c : C) : C := { every with mo := c.mo }
theorem full0 : ∀ n, n < 60 → (sp 0).full.testBit n = true := by decide +kernel
theorem full1 : ∀ n, n < 24 → (sp 1).full.testBit n = true := by decide +kernel
theorem full2 : ∀ n, 1 ≤ n → n < 32 → (sp 2).full.testBit n = true := by
  intro n h1 h2
  have : ∀ n, n < 32 → 1 ≤ n → (sp 2).full.testBit n = true := by decide +kernel
  exact this n h2 h1
theorem full4 : ∀ n, n < 7 → (sp 4).full.testBit n = true := by decide +kernel
theorem okS_full (i : Nat) : okS (sp i) (sp i).full := by
  refine ⟨?_, Nat.or_self _⟩
  unfold sp
  split <;> decide
theorem wideH_right {c : C} (h : c.right) : (wideH c).right := ⟨⟨okS_full 0, h.1.2⟩, h.2⟩
theorem wideD_right {c : C} (h : c.right) : (wideD c).right := ⟨⟨okS_full 0, okS_full 1, h.1.2.2⟩, h.2⟩
theorem wideM_right {c : C} (h : c.right) : (wideM c).right := ⟨⟨okS_full 0, okS_full 1, okS_full 2, h.1.2.2.2.1, okS_full 4⟩, fun _ => rfl, fun _ => rfl⟩
theorem every_ok : every.ok := ⟨full_lt 0, full_lt 1, full_lt 2, full_lt 3, full_lt 4⟩
theorem wideH_ok {c : C} (h : c.ok) : (wideH c).ok := ⟨full_lt 0, h.ho, h.da, h.mo, h.we⟩
theorem wideD_ok {c : C} (h : c.ok) : (wideD c).ok := ⟨full_lt 0, full_lt 1, h.da, h.mo, h.we⟩
theorem wideM_ok {c : C} (h : c.ok) : (wideM c).ok := ⟨full_lt 0, full_lt 1, full_lt 2, h.mo, full_lt 4⟩
theorem fits_H {c : C} {L y m d : Int} (hr : c.right) (hA : Civ.At (L / 1440) y m d) :
    (wideH c).fits y m d (L % 1440 / 60) (L % 60) (Civ.wk (L / 1440)) = (c.ho.testBit (L % 1440 / 60).toNat && c.day m.toNat d.toNat (Civ.wk (L / 1440)).toNat) := by
  rw [fits_at (wideH_right hr) hA]
  show ((sp 0).full.testBit _ && _ && _) = _
  rw [full0 _ (by omega)]
  rfl
theorem fits_D {c : C} {L y m d : Int} (hr : c.right) (hA : Civ.At (L / 1440) y m d) :
    (wideD c).fits y m d (L % 1440 / 60) (L % 60) (Civ.wk (L / 1440)) = c.day m.toNat d.toNat (Civ.wk (L / 1440)).toNat := by
  rw [fits_at (wideD_right hr) hA]
  show ((sp 0).full.testBit _ && (sp 1).full.testBit _ && _) = _
  rw [full0 _ (by omega), full1 _ (by omega)]
  rfl
theorem fits_M {c : C} {L y m d : Int} (hr : c.right) (hA : Civ.At (L / 1440) y m d) :
    (wideM c).fits y m d (L % 1440 / 60) (L % 60) (Civ.wk (L / 1440)) = c.mo.testBit m.toNat := by
  rw [fits_at (wideM_right hr) hA]
  show ((sp 0).full.testBit _ && (sp 1).full.testBit _ && (c.mo.testBit _ && ((sp 2).full.testBit _ && (sp 4).full.testBit _))) = _
  have hd := Civ.dim_bd y m
  have := hA.d1
  have := hA.d2
  have hw : (Civ.wk (L / 1440)).toNat < 7 := by unfold Civ.wk; omega
  rw [full0 _ (by omega), full1 _ (by omega), full2 _ (by omega) (by omega), full4 _ hw]
  simp
theorem day_month {c : C} {m d k : Nat} (h : c.mo.testBit m = false) : c.day m d k = false := by unfold C.day; rw [h]; rfl

/-- How many minutes are surely no occurrences. -/
def Lp (c : C) (L : Int) (N : Int) : Prop := 0 < N ∧ N ≤ 44640 ∧ ∀ L', L ≤ L' → L' < L + N → ¬ Fit c L'
theorem lp_month {c : C} {L y m d : Int} (hA : Civ.At (L / 1440) y m d) (h : c.mo.testBit m.toNat = false) : Lp c L ((max (28 - d) 0 + 1) * 1440 - (L % 1440 / 60 * 60 + L % 60)) := by
  have := hA.d1
  refine ⟨by omega, by omega, fun L' h1 h2 => no_month hA h (by omega) (by omega)⟩
theorem lp_day {c : C} {L y m d : Int} (hA : Civ.At (L / 1440) y m d) (h : c.day m.toNat d.toNat (Civ.wk (L / 1440)).toNat = false) : Lp c L (1440 - (L % 1440 / 60 * 60 + L % 60)) :=
  ⟨by omega, by omega, fun L' h1 h2 => no_day hA h (by omega)⟩
theorem lp_hour {c : C} {L : Int} (hc : c.ok) (h : c.ho.testBit (L % 1440 / 60).toNat = false) : Lp c L (gp c.ho (L % 1440 / 60).toNat 24 * 60 - L % 60) := by
  have g1 := gp_pos (e := 24) h (by omega)
  have g2 := gp_le c.ho (L % 1440 / 60).toNat 24
  refine ⟨by omega, by omega, fun L' h1 h2 => no_hour (gp_no (n := (L % 1440 / 60).toNat) (e := 24) hc.ho ?_ ?_)⟩
  · omega
  · omega
theorem lp_min {c : C} {L : Int} (hc : c.ok) (h : c.mi.testBit (L % 60).toNat = false) : Lp c L (gp c.mi (L % 60).toNat 60) := by
  have g1 := gp_pos (e := 60) h (by omega)
  have g2 := gp_le c.mi (L % 60).toNat 60
  refine ⟨by omega, by omega, fun L' h1 h2 => no_min (gp_no (n := (L % 60).toNat) (e := 60) hc.mi ?_ ?_)⟩
  · omega
  · omega
theorem lp_out {c : C} {L : Int} (h : L < 0 ∨ 226157759 < L) : Lp c L 1 :=
  ⟨by omega, by omega, fun L' h1 h2 hf => by have := fit_range hf; omega⟩
/-- While no clock is turned none of these minutes is an occurrence. -/
theorem lp_P {c : C} {z : Zon.Z} {P : Nat → Bool} (hP : IsP c z P) (hz : z.ok) {t : Nat} {N : Int} (h : Lp c (t + z.at t) N) {u : Nat} (h1 : t ≤ u) (h2 : (u : Int) < t + N) (h3 : (u : Int) < z.turn t) : P u = false := by
  have e := Zon.at_stays hz (t := t) (x := u) (by omega) h3
  cases hu : P u with
  | false => rfl
  | true =>
    have := (hP u).mp hu
    rw [e] at this
    exact absurd this (h.2.2 _ (by omega) (by omega))
end Go.Proofs.YteiiapnpdfgoaaaDoor.Due
