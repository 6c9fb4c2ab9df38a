/- A month's weekdays. -/
import Derived.Test.YtlnafkcoicaefaaDoorVMath
namespace Go.Proofs.YtlnafkcoicaefaaDoor
namespace Civ
/-- the first of a month's weekdays d -/
def fst (y m d : Int) : Int := 1 + (d - wk (d2y y + cum y m) + 7) % 7
theorem fst_bd (y m d : Int) : 1 ≤ fst y m d ∧ fst y m d ≤ 7 := by unfold fst; omega
theorem nth_four {y m k d : Int} (hm : dys y m ≠ 0) (k1 : 1 ≤ k) (k2 : k ≤ 4) (d1 : 0 ≤ d) (d2 : d ≤ 6) : nthOf y m k d = fst y m d + 7 * (k - 1) := by
  have h := dim_bd y m
  unfold nthOf nth
  rw [if_neg (by omega)]
  simp only
  unfold fst
  rw [if_neg (by omega)]
  omega
theorem nth_five {y m d : Int} (hm : dys y m ≠ 0) (d1 : 0 ≤ d) (d2 : d ≤ 6) : nthOf y m 5 d = if dys y m < fst y m d + 28 then fst y m d + 21 else fst y m d + 28 := by
  obtain ⟨a, b, c, e⟩ := of_dys (y := y) (m := m) (by have := dys_bd y m; omega)
  rw [dys_in a b c e] at hm ⊢
  have hm' : dys y m ≠ 0 := by rw [dys_in a b c e]; exact hm
  unfold nthOf nth
  rw [if_neg (by omega)]
  simp only
  unfold fst
  split
  · rw [if_pos (by omega)]; omega
  · rw [if_neg (by omega)]; omega
theorem wk_of {y m k d : Int} (d1 : 0 ≤ d) (d2 : d ≤ 6) : wk (d2y y + cum y m + (fst y m d + 7 * (k - 1)) - 1) = d := by
  unfold fst wk
  omega
end Civ
end Go.Proofs.YtlnafkcoicaefaaDoor
