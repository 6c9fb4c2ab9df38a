/- The mathematics of zones: a rule's instants, how many of them lie ahead of an instant, the offset there. -/
import Derived.Test.YteiiapnpdfgoaaaDoorVMath
namespace Go.Proofs.YteiiapnpdfgoaaaDoor.Zon
open Go.Proofs.YteiiapnpdfgoaaaDoor

/-- A rule: month, week, weekday, minute. -/
structure R where
  m : Int
  k : Int
  d : Int
  a : Int
/-- A zone's rules. -/
structure Z where
  b : Int
  s : Int
  on : R
  off : R

abbrev R.ok (r : R) : Prop := 1 ≤ r.m ∧ r.m ≤ 12 ∧ 1 ≤ r.k ∧ r.k ≤ 5 ∧ 0 ≤ r.d ∧ r.d ≤ 6 ∧ 0 ≤ r.a ∧ r.a ≤ 1439
abbrev R.nil (r : R) : Prop := r.m = 0 ∧ r.k = 0 ∧ r.d = 0 ∧ r.a = 0
abbrev Z.two (z : Z) : Prop := z.on.ok ∧ z.off.ok ∧ z.on.m ≠ z.off.m
abbrev Z.ok (z : Z) : Prop := -720 ≤ z.b ∧ z.b ≤ 840 ∧ 0 ≤ z.s ∧ z.s ≤ 120 ∧ ((z.s = 0 ∧ z.on.nil ∧ z.off.nil) ∨ z.two)

theorem nth_bd {y m k d : Int} (k1 : 1 ≤ k) (k2 : k ≤ 5) : 1 ≤ Civ.nth y m k d ∧ Civ.nth y m k d ≤ Civ.dim y m := by
  have h := Civ.dim_bd y m
  unfold Civ.nth
  simp only
  generalize Civ.wk _ = v
  generalize Civ.dim y m = D at h ⊢
  split <;> omega
theorem nthOf_is {y m k d : Int} (y1 : 1970 ≤ y) (y2 : y ≤ 2399) (m1 : 1 ≤ m) (m2 : m ≤ 12) (k1 : 1 ≤ k) (k2 : k ≤ 5) (d1 : 0 ≤ d) (d2 : d ≤ 6) : Civ.nthOf y m k d = Civ.nth y m k d := by
  unfold Civ.nthOf
  rw [if_neg]
  rw [Civ.dys_in y1 y2 m1 m2]
  have := Civ.dim_bd y m
  omega

/-- A rule's instant in a year. -/
def mom (r : R) (y : Int) : Int := (Civ.d2y y + Civ.cum y r.m + Civ.nth y r.m r.k r.d - 1) * 1440 + r.a

theorem mom_month {r : R} (h : r.ok) (y : Int) : (Civ.d2y y + Civ.cum y r.m) * 1440 ≤ mom r y ∧ mom r y < (Civ.d2y y + Civ.cum y (r.m + 1)) * 1440 := by
  obtain ⟨m1, m2, k1, k2, d1, d2, a1, a2⟩ := h
  have h := nth_bd (y := y) (m := r.m) (d := r.d) k1 k2
  have hc := Civ.cum_succ (y := y) m1 m2
  unfold mom
  omega
theorem mom_year {r : R} (h : r.ok) (y : Int) : Civ.d2y y * 1440 ≤ mom r y ∧ mom r y < Civ.d2y (y + 1) * 1440 := by
  have h1 := mom_month h y
  have h2 := Civ.cum_mono (y := y) (m := 1) (n := r.m) (by omega) h.1 (by have := h.2.1; omega)
  have h3 := Civ.cum_mono (y := y) (m := r.m + 1) (n := 13) (by have := h.1; omega) (by have := h.2.1; omega) (by omega)
  rw [Civ.cum_one] at h2
  rw [Civ.cum_end] at h3
  have h4 := Civ.d2y_succ y
  omega
theorem mom_lt {r q : R} (h : r.ok) (k : q.ok) (hm : r.m < q.m) (y : Int) : mom r y < mom q y := by
  have h1 := mom_month h y
  have h2 := mom_month k y
  have h3 := Civ.cum_mono (y := y) (m := r.m + 1) (n := q.m) (by have := h.1; omega) (by omega) (by have := k.2.1; omega)
  omega

def Z.fst (z : Z) : R := if z.off.m < z.on.m then z.off else z.on
def Z.snd (z : Z) : R := if z.off.m < z.on.m then z.on else z.off
theorem fst_ok {z : Z} (h : z.two) : z.fst.ok := by unfold Z.fst; split; exact h.2.1; exact h.1
theorem snd_ok {z : Z} (h : z.two) : z.snd.ok := by unfold Z.snd; split; exact h.1; exact h.2.1
theorem fst_lt {z : Z} (h : z.two) : z.fst.m < z.snd.m := by
  have := h.2.2
  unfold Z.fst Z.snd
  split <;> omega

/-- The turns. -/
def T (z : Z) (i : Nat) : Int := if i % 2 = 0 then mom z.fst (1970 + (i / 2 : Nat)) else mom z.snd (1970 + (i / 2 : Nat))
/-- How many there are. -/
def Z.n (z : Z) : Nat := if z.s = 0 then 0 else 860

theorem T_even (z : Z) (j : Nat) : T z (2 * j) = mom z.fst (1970 + j) := by
  unfold T
  rw [if_pos (by omega), show 2 * j / 2 = j by omega]
theorem T_odd (z : Z) (j : Nat) : T z (2 * j + 1) = mom z.snd (1970 + j) := by
  unfold T
  rw [if_neg (by omega), show (2 * j + 1) / 2 = j by omega]
theorem even_odd (i : Nat) : (∃ j, i = 2 * j) ∨ ∃ j, i = 2 * j + 1 := by
  by_cases h : i % 2 = 0
  · exact .inl ⟨i / 2, by omega⟩
  · exact .inr ⟨i / 2, by omega⟩
theorem T_year {z : Z} (h : z.two) (i : Nat) : Civ.d2y (1970 + (i / 2 : Nat)) * 1440 ≤ T z i ∧ T z i < Civ.d2y (1970 + (i / 2 : Nat) + 1) * 1440 := by
  unfold T
  split
  · exact mom_year (fst_ok h) _
  · exact mom_year (snd_ok h) _
theorem T_succ {z : Z} (h : z.two) (i : Nat) : T z i < T z (i + 1) := by
  rcases even_odd i with ⟨j, rfl⟩ | ⟨j, rfl⟩
  · rw [T_even, T_odd]
    exact mom_lt (fst_ok h) (snd_ok h) (fst_lt h) _
  · rw [T_odd, show 2 * j + 1 + 1 = 2 * (j + 1) by omega, T_even]
    have h1 := mom_year (snd_ok h) (1970 + j)
    have h2 := mom_year (fst_ok h) (1970 + (j + 1 : Nat))
    rw [show (1970 : Int) + ((j + 1 : Nat) : Int) = 1970 + j + 1 by omega] at h2 ⊢
    omega
theorem T_mono {z : Z} (h : z.two) {i j : Nat} (hij : i ≤ j) : T z i ≤ T z j := by
  obtain ⟨k, rfl⟩ : ∃ k, j = i + k := ⟨j - i, by omega⟩
  clear hij
  induction k with
  | zero => exact Int.le_refl _
  | succ k ih =>
    have := T_succ h (i + k)
    rw [show i + (k + 1) = i + k + 1 by omega]
    omega
theorem T_range {z : Z} (h : z.two) {i : Nat} (hi : i < 860) : 0 ≤ T z i ∧ T z i ≤ 226157759 := by
  have h1 := T_year h i
  have h2 := Civ.d2y_mono (show (1970 : Int) ≤ 1970 + (i / 2 : Nat) by omega)
  have h3 := Civ.d2y_mono (show (1970 : Int) + (i / 2 : Nat) + 1 ≤ 2400 by omega)
  rw [Civ.d2y_first] at h2
  rw [Civ.d2y_last] at h3
  omega
theorem two_of {z : Z} (h : z.ok) {i : Nat} (hi : i < z.n) : z.two := by
  unfold Z.n at hi
  split at hi
  · omega
  · rcases h.2.2.2.2 with h | h
    · omega
    · exact h

/-- p turns lie up to (and with) t. -/
structure Past (z : Z) (t : Int) (p : Nat) : Prop where
  le : p ≤ z.n
  low : ∀ i, i < p → T z i ≤ t
  high : ∀ i, p ≤ i → i < z.n → t < T z i
theorem Past.one {z : Z} {t : Int} {p q : Nat} (h : Past z t p) (k : Past z t q) : p = q := by
  rcases Nat.lt_trichotomy p q with c | c | c
  · have h1 := h.high p (Nat.le_refl _) (by have := k.le; omega)
    have h2 := k.low p c
    omega
  · exact c
  · have h1 := k.high q (Nat.le_refl _) (by have := h.le; omega)
    have h2 := h.low q c
    omega

/-- The last turn up to t, and one. -/
def up (z : Z) (t : Int) : Nat → Nat
  | 0 => 0
  | n + 1 => if T z n ≤ t then n + 1 else up z t n
theorem up_le (z : Z) (t : Int) (n : Nat) : up z t n ≤ n := by
  induction n with
  | zero => exact Nat.le_refl _
  | succ n ih => unfold up; split; exact Nat.le_refl _; omega
theorem up_high (z : Z) (t : Int) (n : Nat) : ∀ i, up z t n ≤ i → i < n → t < T z i := by
  induction n with
  | zero => intro i _ h; omega
  | succ n ih =>
    intro i h1 h2
    unfold up at h1
    split at h1
    · omega
    · by_cases c : i = n
      · subst c; omega
      · exact ih i h1 (by omega)
theorem up_low (z : Z) (h : z.two) (t : Int) (n : Nat) : ∀ i, i < up z t n → T z i ≤ t := by
  induction n with
  | zero => intro i hi; unfold up at hi; omega
  | succ n ih =>
    intro i hi
    unfold up at hi
    split at hi
    · have := T_mono h (show i ≤ n by omega)
      omega
    · exact ih i hi
def Z.past (z : Z) (t : Int) : Nat := up z t z.n
theorem Past.is {z : Z} (h : z.ok) (t : Int) : Past z t (z.past t) := by
  refine ⟨up_le _ _ _, ?_, up_high _ _ _⟩
  intro i hi
  have h1 := up_le z t z.n
  exact up_low z (two_of h (show i < z.n by unfold Z.past at hi; omega)) t _ i hi

/-- Is Save added behind p turns? -/
def Z.sv (z : Z) (p : Nat) : Bool := if z.on.m < z.off.m then decide (p % 2 = 1) else decide (p % 2 = 0)
theorem sv_succ (z : Z) (p : Nat) : z.sv (p + 1) = !z.sv p := by
  unfold Z.sv
  rcases Nat.mod_two_eq_zero_or_one p with h | h <;> split <;> simp [h] <;> omega
/-- The offset. -/
def Z.at (z : Z) (t : Int) : Int := if z.sv (z.past t) then z.b + z.s else z.b
theorem at_two (z : Z) (t : Int) : z.at t = z.b + z.s ∨ z.at t = z.b := by unfold Z.at; split <;> simp
theorem at_bd {z : Z} (h : z.ok) (t : Int) : -720 ≤ z.at t ∧ z.at t ≤ 960 := by
  have := at_two z t
  have h' := h
  omega
theorem at_zero {z : Z} (h : z.s = 0) (t : Int) : z.at t = z.b := by have := at_two z t; omega

/-- The next turn. -/
def Z.turn (z : Z) (t : Int) : Int := if z.past t = z.n then 226157760 else T z (z.past t)
theorem turn_gt {z : Z} (h : z.ok) {t : Int} (ht : t ≤ 226157759) : t < z.turn t := by
  have k := Past.is h t
  unfold Z.turn
  split
  · omega
  · exact k.high _ (Nat.le_refl _) (by have := k.le; omega)
theorem n_le (z : Z) : z.n ≤ 860 := by unfold Z.n; split <;> omega
theorem turn_le {z : Z} (h : z.ok) (t : Int) : z.turn t ≤ 226157760 := by
  have k := Past.is h t
  unfold Z.turn
  split
  · omega
  · have h1 : z.past t < z.n := by have := k.le; omega
    have h2 := T_range (two_of h h1) (i := z.past t) (by have := n_le z; omega)
    omega
/-- Up to the next turn the offset stays. -/
theorem at_stays {z : Z} (h : z.ok) {t x : Int} (h1 : t ≤ x) (h2 : x < z.turn t) : z.at x = z.at t := by
  have k := Past.is h t
  have e : Past z x (z.past t) := by
    refine ⟨k.le, fun i hi => by have := k.low i hi; omega, fun i hi hn => ?_⟩
    unfold Z.turn at h2
    rw [if_neg (by omega)] at h2
    have := T_mono (two_of h hn) hi
    omega
  unfold Z.at
  rw [(Past.is h x).one e]
/-- There it is another one. -/
theorem at_turns {z : Z} (h : z.ok) {t : Int} (ht : z.turn t ≠ 226157760) : z.at (z.turn t) ≠ z.at t := by
  have k := Past.is h t
  unfold Z.turn at ht ⊢
  split
  · rename_i c; rw [if_pos c] at ht; exact absurd rfl ht
  · rename_i c
    have h1 : z.past t < z.n := by have := k.le; omega
    have e : Past z (T z (z.past t)) (z.past t + 1) := by
      refine ⟨h1, fun i hi => T_mono (two_of h h1) (by omega), fun i hi hn => ?_⟩
      have a := T_succ (two_of h h1) (z.past t)
      have b := T_mono (two_of h h1) hi
      omega
    have e2 := (Past.is h (T z (z.past t))).one e
    have hs : z.s ≠ 0 := by
      intro hs
      unfold Z.n at h1
      rw [if_pos hs] at h1
      omega
    unfold Z.at
    rw [e2, sv_succ]
    cases z.sv (z.past t) <;> simp <;> omega

/-- The offset by the year's two instants. -/
theorem at_year {z : Z} (h : z.two) (hs : z.s ≠ 0) {t y : Int} (y1 : 1970 ≤ y) (y2 : y ≤ 2399) (t1 : Civ.d2y y * 1440 ≤ t) (t2 : t < Civ.d2y (y + 1) * 1440) :
    z.at t = if mom z.on y < mom z.off y then (if mom z.on y ≤ t ∧ t < mom z.off y then z.b + z.s else z.b) else (if mom z.off y ≤ t ∧ t < mom z.on y then z.b else z.b + z.s) := by
  have hn : z.n = 860 := by unfold Z.n; rw [if_neg hs]
  obtain ⟨j, rfl⟩ : ∃ j : Nat, y = 1970 + j := ⟨(y - 1970).toNat, by omega⟩
  have hj : j ≤ 429 := by omega
  have e0 := T_even z j
  have e1 := T_odd z j
  have low : ∀ i, i < 2 * j → T z i ≤ t := fun i hi => by
    have a := (T_year h i).2
    have b := Civ.d2y_mono (show (1970 : Int) + (i / 2 : Nat) + 1 ≤ 1970 + j by omega)
    omega
  have high : ∀ i, 2 * j + 2 ≤ i → i < z.n → t < T z i := fun i hi _ => by
    have a := (T_year h i).1
    have b := Civ.d2y_mono (show (1970 : Int) + j + 1 ≤ 1970 + (i / 2 : Nat) by omega)
    omega
  have hlt := T_succ h (2 * j)
  rw [e0, e1] at hlt
  have P0 : t < mom z.fst (1970 + j) → Past z t (2 * j) := fun c => ⟨by omega, low, fun i hi hn => by
    have := T_mono h hi
    rw [e0] at this
    omega⟩
  have P1 : mom z.fst (1970 + j) ≤ t → t < mom z.snd (1970 + j) → Past z t (2 * j + 1) := fun c d => ⟨by omega, fun i hi => by
    have := T_mono h (show i ≤ 2 * j by omega)
    rw [e0] at this
    omega, fun i hi hn => by
    have := T_mono h hi
    rw [e1] at this
    omega⟩
  have P2 : mom z.snd (1970 + j) ≤ t → Past z t (2 * j + 2) := fun d => ⟨by omega, fun i hi => by
    have := T_mono h (show i ≤ 2 * j + 1 by omega)
    rw [e1] at this
    omega, high⟩
  have K : ∀ p, Past z t p → z.past t = p := fun p hp => by
    refine Past.one ⟨up_le _ _ _, up_low z h t _, up_high _ _ _⟩ hp
  have hne := h.2.2
  clear low high e0 e1
  unfold Z.at Z.sv
  unfold Z.fst Z.snd at *
  by_cases c : z.off.m < z.on.m
  · simp only [if_pos c] at *
    rw [if_neg (show ¬ z.on.m < z.off.m by omega), if_neg (show ¬ mom z.on (1970 + j) < mom z.off (1970 + j) by omega)]
    by_cases c1 : t < mom z.off (1970 + j)
    · rw [K _ (P0 c1), if_pos (by simp), if_neg (by omega)]
    · by_cases c2 : t < mom z.on (1970 + j)
      · rw [K _ (P1 (by omega) c2), if_neg (by simp), if_pos (by omega)]
      · rw [K _ (P2 (by omega)), if_pos (by simp), if_neg (by omega)]
  · simp only [if_neg c] at *
    rw [if_pos (show z.on.m < z.off.m by omega), if_pos (show mom z.on (1970 + j) < mom z.off (1970 + j) by omega)]
    by_cases c1 : t < mom z.on (1970 + j)
    · rw [K _ (P0 c1), if_neg (by simp), if_neg (by omega)]
    · by_cases c2 : t < mom z.off (1970 + j)
      · rw [K _ (P1 (by omega) c2), if_pos (by simp), if_pos (by omega)]
      · rw [K _ (P2 (by omega)), if_neg (by simp), if_neg (by omega)]
end Go.Proofs.YteiiapnpdfgoaaaDoor.Zon
