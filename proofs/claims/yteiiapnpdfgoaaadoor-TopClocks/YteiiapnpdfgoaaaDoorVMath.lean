/- The calendar's mathematics: days ahead of a year and of a month, the day of an instant, one form. -/
namespace Go.Proofs.YteiiapnpdfgoaaaDoor.Civ

/-- 1 for a year of 366 days, else 0. -/
def lp (y : Int) : Int := if (y % 4 = 0 ∧ y % 100 ≠ 0) ∨ y % 400 = 0 then 1 else 0
/-- days ahead of a year, from 1970 on -/
def d2y (y : Int) : Int := (y - 1970) * 365 + (y - 1) / 4 - (y - 1) / 100 + (y - 1) / 400 - 477
/-- days of a month that there is -/
def dim (y m : Int) : Int := if m = 2 then 28 + lp y else if m = 4 ∨ m = 6 ∨ m = 9 ∨ m = 11 then 30 else 31
/-- days of a month; 0 of one that there isn't -/
def dys (y m : Int) : Int := if 1970 ≤ y ∧ y ≤ 2399 ∧ 1 ≤ m ∧ m ≤ 12 then dim y m else 0
/-- days of a year ahead of its month -/
def cum (y m : Int) : Int :=
  if m ≤ 1 then 0 else if m = 2 then 31 else if m = 3 then 59 + lp y else if m = 4 then 90 + lp y else if m = 5 then 120 + lp y else if m = 6 then 151 + lp y
  else if m = 7 then 181 + lp y else if m = 8 then 212 + lp y else if m = 9 then 243 + lp y else if m = 10 then 273 + lp y else if m = 11 then 304 + lp y
  else if m = 12 then 334 + lp y else 365 + lp y

theorem lp_two (y : Int) : lp y = 0 ∨ lp y = 1 := by unfold lp; split <;> simp

theorem d2y_succ (y : Int) : d2y (y + 1) = d2y y + 365 + lp y := by
  unfold d2y lp; split <;> omega
theorem d2y_mono {y z : Int} (h : y ≤ z) : d2y y ≤ d2y z := by unfold d2y; omega
theorem d2y_first : d2y 1970 = 0 := by decide
theorem d2y_last : d2y 2400 = 157054 := by decide

theorem cum_succ {y m : Int} (h1 : 1 ≤ m) (h2 : m ≤ 12) : cum y (m + 1) = cum y m + dim y m := by
  have h : m = 1 ∨ m = 2 ∨ m = 3 ∨ m = 4 ∨ m = 5 ∨ m = 6 ∨ m = 7 ∨ m = 8 ∨ m = 9 ∨ m = 10 ∨ m = 11 ∨ m = 12 := by omega
  rcases h with rfl | rfl | rfl | rfl | rfl | rfl | rfl | rfl | rfl | rfl | rfl | rfl <;> simp [cum, dim] <;> omega
theorem cum_one (y : Int) : cum y 1 = 0 := by simp [cum]
theorem cum_end (y : Int) : cum y 13 = 365 + lp y := by simp [cum]
theorem dim_bd (y m : Int) : 28 ≤ dim y m ∧ dim y m ≤ 31 := by
  have := lp_two y
  unfold dim
  split
  · omega
  · split <;> omega
theorem cum_mono {y m n : Int} (h1 : 1 ≤ m) (h : m ≤ n) (h2 : n ≤ 13) : cum y m ≤ cum y n := by
  obtain ⟨k, rfl⟩ : ∃ k : Nat, n = m + k := ⟨(n - m).toNat, by omega⟩
  clear h
  induction k with
  | zero => simp
  | succ k ih =>
    have h3 := ih (by omega)
    have h4 := cum_succ (y := y) (m := m + k) (by omega) (by omega)
    have h5 := dim_bd y (m + k)
    have e : m + ((k + 1 : Nat) : Int) = m + k + 1 := by omega
    rw [e]
    omega
theorem dys_in {y m : Int} (h1 : 1970 ≤ y) (h2 : y ≤ 2399) (h3 : 1 ≤ m) (h4 : m ≤ 12) : dys y m = dim y m := by unfold dys; rw [if_pos ⟨h1, h2, h3, h4⟩]
theorem dys_bd (y m : Int) : 0 ≤ dys y m ∧ dys y m ≤ 31 := by
  have := dim_bd y m
  unfold dys
  split <;> omega
theorem of_dys {y m : Int} (h : 0 < dys y m) : 1970 ≤ y ∧ y ≤ 2399 ∧ 1 ≤ m ∧ m ≤ 12 := by
  unfold dys at h
  split at h
  · assumption
  · omega

/-- The day that has n days ahead of it is the d-th of the month m of the year y. -/
structure At (n y m d : Int) : Prop where
  y1 : 1970 ≤ y
  y2 : y ≤ 2399
  m1 : 1 ≤ m
  m2 : m ≤ 12
  d1 : 1 ≤ d
  d2 : d ≤ dim y m
  n : n = d2y y + cum y m + d - 1

theorem At.dys {n y m d : Int} (h : At n y m d) : Civ.dys y m = dim y m := dys_in h.y1 h.y2 h.m1 h.m2
theorem At.year {n y m d : Int} (h : At n y m d) : d2y y ≤ n ∧ n < d2y (y + 1) := by
  have h1 := cum_succ (y := y) h.m1 h.m2
  have h2 := cum_mono (y := y) (m := m + 1) (n := 13) (by have := h.m1; omega) (by have := h.m2; omega) (by omega)
  have h3 := cum_mono (y := y) (m := 1) (n := m) (by omega) h.m1 (by have := h.m2; omega)
  rw [cum_end] at h2
  rw [cum_one] at h3
  have h4 := d2y_succ y
  have := h.n
  have := h.d1
  have := h.d2
  omega
theorem At.range {n y m d : Int} (h : At n y m d) : 0 ≤ n ∧ n < 157054 := by
  have h1 := h.year
  have h2 := d2y_mono h.y1
  have h3 := d2y_mono (show y + 1 ≤ 2400 by have := h.y2; omega)
  rw [d2y_first] at h2
  rw [d2y_last] at h3
  omega
theorem At.one {n y m d y' m' d' : Int} (h : At n y m d) (h' : At n y' m' d') : y' = y ∧ m' = m ∧ d' = d := by
  have a := h.year
  have b := h'.year
  have hy : y' = y := by
    by_cases c : y' < y
    · have := d2y_mono (show y' + 1 ≤ y by omega); omega
    · by_cases c' : y < y'
      · have := d2y_mono (show y + 1 ≤ y' by omega); omega
      · omega
  subst hy
  have e := h.n
  have e' := h'.n
  have k := h.d1
  have k' := h'.d1
  have l := h.d2
  have l' := h'.d2
  have hm : m' = m := by
    by_cases c : m' < m
    · have h1 := cum_mono (y := y') (m := m' + 1) (n := m) (by have := h'.m1; omega) (by omega) (by have := h.m2; omega)
      have h2 := cum_succ (y := y') h'.m1 h'.m2
      omega
    · by_cases c' : m < m'
      · have h1 := cum_mono (y := y') (m := m + 1) (n := m') (by have := h.m1; omega) (by omega) (by have := h'.m2; omega)
        have h2 := cum_succ (y := y') h.m1 h.m2
        omega
      · omega
  subst hm
  exact ⟨rfl, rfl, by omega⟩

theorem lp_400 (y : Int) : lp (y + 400) = lp y := by
  unfold lp
  have h1 : (y + 400) % 4 = y % 4 := by omega
  have h2 : (y + 400) % 100 = y % 100 := by omega
  have h3 : (y + 400) % 400 = y % 400 := by omega
  rw [h1, h2, h3]
theorem At.later {n y m d : Int} (h : At n y m d) (hy : n < 157054 - 146097) : At (n + 146097) (y + 400) m d := by
  have a := h.year
  have hd : d2y (y + 400) = d2y y + 146097 := by unfold d2y; omega
  have hy' : y + 400 ≤ 2399 := by
    by_cases c : y + 400 ≤ 2399
    · exact c
    · have h1 := d2y_mono (show (2000 : Int) ≤ y by omega)
      have h2 : d2y 2000 = 10957 := by decide
      omega
  have e1 : dim (y + 400) m = dim y m := by unfold dim; rw [lp_400]
  have e2 : cum (y + 400) m = cum y m := by unfold cum; rw [lp_400]
  have := h.y1
  have := h.n
  exact ⟨by omega, hy', h.m1, h.m2, h.d1, by rw [e1]; exact h.d2, by rw [e2, hd]; omega⟩
/-- the next day -/
theorem At.next {n y m d : Int} (h : At n y m d) (hd : d < dim y m) : At (n + 1) y m (d + 1) :=
  ⟨h.y1, h.y2, h.m1, h.m2, by have := h.d1; omega, by omega, by have := h.n; omega⟩
theorem At.month {n y m d : Int} (h : At n y m d) (hd : d = dim y m) (hm : m < 12) : At (n + 1) y (m + 1) 1 :=
  ⟨h.y1, h.y2, by have := h.m1; omega, by omega, by omega, by have := dim_bd y (m + 1); omega, by have := h.n; have := cum_succ (y := y) h.m1 h.m2; omega⟩
theorem At.newyear {n y m d : Int} (h : At n y m d) (hd : d = dim y m) (hm : m = 12) (hn : n < 157053) : At (n + 1) (y + 1) 1 1 := by
  subst hm
  have h1 := cum_succ (y := y) h.m1 h.m2
  have h2 := cum_end y
  have h3 := d2y_succ y
  have h4 := h.n
  have e : (12 : Int) + 1 = 13 := by decide
  rw [e] at h1
  have hy : y + 1 ≤ 2399 := by
    by_cases c : y + 1 ≤ 2399
    · exact c
    · have := h.y2
      obtain rfl : y = 2399 := by omega
      have h5 : d2y (2399 + 1) = 157054 := by decide
      omega
  have := h.y1
  exact ⟨by omega, hy, by omega, by omega, by omega, by have := dim_bd (y + 1) 1; omega, by rw [cum_one]; omega⟩

theorem d2y_long (q : Nat) : d2y (1970 + q) ≤ 366 * q := by
  induction q with
  | zero => decide
  | succ q ih =>
    have h := d2y_succ (1970 + q)
    have := lp_two (1970 + q)
    have e : (1970 : Int) + ((q + 1 : Nat) : Int) = 1970 + q + 1 := by omega
    rw [e]
    omega
theorem d2y_start {n : Int} (h : 0 ≤ n) : d2y (1970 + n / 366) ≤ n := by
  have := d2y_long (n / 366).toNat
  rw [Int.toNat_of_nonneg (by omega)] at this
  omega
theorem year_last {n y : Int} (h : d2y y ≤ n) (hn : n < 157054) : y ≤ 2399 := by
  by_cases c : y ≤ 2399
  · exact c
  · have := d2y_mono (show (2400 : Int) ≤ y by omega)
    rw [d2y_last] at this
    omega

theorem year_is (n : Int) (h : 0 ≤ n) (k : Nat) (hk : n < d2y (1970 + k)) : ∃ y, 1970 ≤ y ∧ d2y y ≤ n ∧ n < d2y (y + 1) := by
  induction k with
  | zero => exact absurd hk (by rw [show (1970 : Int) + ((0 : Nat) : Int) = 1970 by decide, d2y_first]; omega)
  | succ k ih =>
    by_cases c : n < d2y (1970 + k)
    · exact ih c
    · exact ⟨1970 + k, by omega, by omega, by rw [show (1970 : Int) + k + 1 = 1970 + ((k + 1 : Nat) : Int) by omega]; exact hk⟩
theorem month_is (y n : Int) (h : 0 ≤ n) (k : Nat) (h12 : k ≤ 12) (hk : n < cum y (1 + k)) : ∃ m, 1 ≤ m ∧ m ≤ 12 ∧ cum y m ≤ n ∧ n < cum y (m + 1) := by
  induction k with
  | zero => exact absurd hk (by rw [show (1 : Int) + ((0 : Nat) : Int) = 1 by decide, cum_one]; omega)
  | succ k ih =>
    by_cases c : n < cum y (1 + k)
    · exact ih (by omega) c
    · exact ⟨1 + k, by omega, by omega, by omega, by rw [show (1 : Int) + k + 1 = 1 + ((k + 1 : Nat) : Int) by omega]; exact hk⟩
/-- Each day has its date. -/
theorem At.is {n : Int} (h1 : 0 ≤ n) (h2 : n < 157054) : ∃ y m d, At n y m d := by
  obtain ⟨y, y1, y2, y3⟩ := year_is n h1 430 (by rw [show (1970 : Int) + ((430 : Nat) : Int) = 2400 by decide, d2y_last]; exact h2)
  have y4 := year_last y2 h2
  have e := d2y_succ y
  obtain ⟨m, m1, m2, m3, m4⟩ := month_is y (n - d2y y) (by omega) 12 (by omega) (by rw [show (1 : Int) + ((12 : Nat) : Int) = 13 by decide, cum_end]; omega)
  have e2 := cum_succ (y := y) m1 m2
  exact ⟨y, m, n - d2y y - cum y m + 1, y1, y4, m1, m2, by omega, by omega, by omega⟩

/-- the weekday of the day that has n days ahead of it -/
def wk (n : Int) : Int := (n + 4) % 7
/-- the day on which a month's w-th weekday d falls; w is 1 to 5, the fifth is the last one -/
def nth (y m w d : Int) : Int :=
  let k := 1 + (d - wk (d2y y + cum y m) + 7) % 7 + (w - 1) * 7
  if dim y m < k then k - 7 else k
def nthOf (y m w d : Int) : Int := if dys y m = 0 ∨ w < 1 ∨ 5 < w ∨ d < 0 ∨ 6 < d then 0 else nth y m w d
end Go.Proofs.YteiiapnpdfgoaaaDoor.Civ
