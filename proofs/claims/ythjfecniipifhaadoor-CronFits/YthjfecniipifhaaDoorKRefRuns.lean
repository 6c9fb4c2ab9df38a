/- What the document's own 'runs' and 'text' answer. -/
import Derived.Test.YthjfecniipifhaaDoorKRef
import Derived.Test.YthjfecniipifhaaDoorKBackMath
namespace Go.Proofs.YthjfecniipifhaaDoor.Cro
/-- Does a run start at n? -/
def st (x n : Nat) : Bool := x.testBit n && !(decide (0 < n) && x.testBit (n - 1))
/-- The runs that start below n. -/
def rr (x : Nat) : Nat → List (List UInt8)
  | 0 => []
  | n + 1 => if st x n = true then rr x n ++ [pie n (rend x 64 n)] else rr x n
theorem rend_next {x n : Nat} (hx : x < 2 ^ 60) (hn : n ≤ 58) (hb : x.testBit (n + 1) = true) : rend x 64 n = rend x 64 (n + 1) := by
  have fuel : ∀ (f g n : Nat), n ≤ 59 → 60 ≤ n + f → 60 ≤ n + g → rend x f n = rend x g n := by
    intro f
    induction f with
    | zero => intro g n h1 h2; omega
    | succ f ih =>
      intro g n h1 h2 h3
      obtain ⟨g, rfl⟩ : ∃ g', g = g' + 1 := ⟨g - 1, by omega⟩
      rw [rend, rend]
      split
      · rename_i hb
        have := testBit_lt hx hb
        exact ih g (n + 1) (by omega) (by omega) (by omega)
      · rfl
  rw [show (64 : Nat) = 63 + 1 from rfl, rend, if_pos hb]
  exact fuel 63 (63 + 1) (n + 1) (by omega) (by omega) (by omega)
theorem rend_here {x n : Nat} (hb : x.testBit (n + 1) = false) : rend x 64 n = n := by
  rw [show (64 : Nat) = 63 + 1 from rfl, rend, if_neg (by simp [hb])]
theorem runs_hit {x last n : Nat} (hl : last ≤ 59) (hn : n ≤ last) (hb : x.testBit n = true) : runs x last 64 n = pie n (rend x 64 n) :: runs x last 64 (rend x 64 n + 1) := by
  have h := rend_ge x 64 n
  rw [runs_fuel x last 64 63 (rend x 64 n + 1) (by omega) (by omega)]
  show runs x last (63 + 1) n = _
  rw [runs, if_pos hn, if_pos hb]
theorem runs_skip {x last n : Nat} (hl : last ≤ 59) (hn : n ≤ last) (hb : x.testBit n = false) : runs x last 64 n = runs x last 64 (n + 1) := by
  rw [runs_fuel x last 64 63 (n + 1) (by omega) (by omega)]
  show runs x last (63 + 1) n = _
  rw [runs, if_pos hn, if_neg (by simp [hb])]
/-- What is left of the runs at n. -/
def rest (x n : Nat) : List (List UInt8) := if (decide (0 < n) && x.testBit (n - 1) && x.testBit n) = true then runs x 59 64 (rend x 64 n + 1) else runs x 59 64 n
theorem rest_step {x n : Nat} (hx : x < 2 ^ 60) (hn : n < 60) : rr x (n + 1) ++ rest x (n + 1) = rr x n ++ rest x n := by
  have after : x.testBit n = true → rest x (n + 1) = runs x 59 64 (rend x 64 n + 1) := fun hb => by
    unfold rest
    cases hb1 : x.testBit (n + 1)
    · simp [hb, rend_here hb1]
    · have := testBit_lt hx hb1
      simp [hb, rend_next hx (by omega) hb1]
  rw [rr]
  cases hb : x.testBit n
  · have hs : st x n = false := by simp [st, hb]
    rw [if_neg (by simp [hs])]
    have e1 : rest x n = runs x 59 64 n := by unfold rest; rw [if_neg (by simp [hb])]
    have e2 : rest x (n + 1) = runs x 59 64 (n + 1) := by unfold rest; rw [if_neg (by simp [hb])]
    rw [e1, e2]
    rw [runs_skip (by omega) (by omega) hb]
  · rw [after hb]
    cases hs : st x n
    · rw [if_neg (by simp)]
      have hin : (decide (0 < n) && x.testBit (n - 1)) = true := by
        unfold st at hs
        rw [hb] at hs
        simpa using hs
      congr 1
      unfold rest
      rw [if_pos (by rw [hin, hb]; rfl)]
    · rw [if_pos rfl]
      have hin : (decide (0 < n) && x.testBit (n - 1)) = false := by
        unfold st at hs
        rw [hb, Bool.true_and] at hs
        cases hh : (decide (0 < n) && x.testBit (n - 1))
        · rfl
        · rw [hh] at hs; cases hs
      have e1 : rest x n = runs x 59 64 n := by unfold rest; rw [if_neg (by rw [hin]; simp)]
      rw [e1, runs_hit (by omega) (by omega) hb, List.append_assoc]
      rfl
theorem rr_all {x : Nat} (hx : x < 2 ^ 60) : rr x 60 = runs x 59 64 0 := by
  have key : ∀ n, n ≤ 60 → rr x n ++ rest x n = runs x 59 64 0 := by
    intro n
    induction n with
    | zero => intro _; simp [rr, rest]
    | succ n ih => intro h; rw [rest_step hx (by omega)]; exact ih (by omega)
  have := key 60 (by omega)
  have e : rest x 60 = [] := by
    unfold rest
    have hb : x.testBit 60 = false := Nat.testBit_lt_two_pow hx
    rw [if_neg (by simp [hb])]
    rfl
  rw [e, List.append_nil] at this
  exact this
/-- The runs by the field's own ends are the runs by all sixty. -/
theorem runs_same {j x : Nat} (hj : j < 5) (hx : x ||| (sp j).full = (sp j).full) (hx60 : x < 2 ^ 60) : runs x 59 64 0 = runs x (sp j).last 64 (sp j).lo := by
  have hl := sp_lo j hj
  have lo1 : (sp j).lo ≤ 1 := by unfold sp; split <;> decide
  have up : ∀ (k n : Nat), n ≤ 60 → 60 ≤ n + k → runs x 59 k n = runs x (sp j).last k n := by
    intro k
    induction k with
    | zero => intro n _ _; rfl
    | succ k ih =>
      intro n h1 h2
      rw [runs, runs]
      by_cases c1 : n ≤ 59
      · rw [if_pos c1]
        have hr := rend_le hx60 64 n c1
        have hg := rend_ge x 64 n
        by_cases c2 : n ≤ (sp j).last
        · rw [if_pos c2]
          split
          · rw [ih _ (by omega) (by omega)]
          · exact ih (n + 1) (by omega) (by omega)
        · rw [if_neg c2]
          have hb : x.testBit n = false := by
            cases hb : x.testBit n
            · rfl
            · exact absurd (bit_in hj hx hb).2 c2
          rw [if_neg (by simp [hb]), ih (n + 1) (by omega) (by omega)]
          exact runs_end _ _ _ _ (by omega)
      · rw [if_neg c1, if_neg (by omega)]
  rw [up 64 0 (by omega) (by omega)]
  by_cases h0 : (sp j).lo = 0
  · rw [h0]
  · have e : (sp j).lo = 1 := by omega
    rw [e]
    have hb : x.testBit 0 = false := by
      cases hb : x.testBit 0
      · rfl
      · have := (bit_in hj hx hb).1
        omega
    exact runs_skip (by omega) (by omega) hb
end Go.Proofs.YthjfecniipifhaaDoor.Cro
