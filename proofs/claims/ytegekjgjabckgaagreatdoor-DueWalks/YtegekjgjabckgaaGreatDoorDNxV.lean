/- What 'Next' answers, taken apart: no program's run in this text. -/
import Derived.Test.YtegekjgjabckgaaGreatDoorDNext
namespace Go.Proofs.YtegekjgjabckgaaGreatDoor
open Go.RowKit
set_option linter.unusedVariables false

theorem Due.nxV_bad {P : Nat → Bool} {c : Cro.C} {z : Zon.Z} {a : Int} (h : (Due.nxV P c z a).2 ≠ 0) : (Due.nxV P c z a).1 = 0 := by
  unfold Due.nxV at h ⊢
  split
  · rfl
  · split
    · rfl
    · split
      · rfl
      · cases hx : Due.nx P 226157759 (a + 1).toNat with
        | none => rfl
        | some t => rename_i h1 h2 h3; rw [if_neg h1, if_neg h2, if_neg h3, hx] at h; exact absurd rfl h
theorem Due.nxV_ok {P : Nat → Bool} {c : Cro.C} {z : Zon.Z} {a : Int} (h : (Due.nxV P c z a).2 = 0) : c.right ∧ z.ok ∧ -1 ≤ a ∧ a ≤ 226157759 ∧ ∃ n : Nat, (Due.nxV P c z a).1 = n ∧ Due.nx P 226157759 (a + 1).toNat = some n := by
  unfold Due.nxV at h ⊢
  split at h
  · exact absurd h (by decide)
  · split at h
    · exact absurd h (by decide)
    · split at h
      · exact absurd h (by decide)
      · rename_i h1 h2 h3
        rw [if_neg h1, if_neg h2, if_neg h3]
        cases hx : Due.nx P 226157759 (a + 1).toNat with
        | none => rw [hx] at h; exact absurd h (by decide)
        | some t => exact ⟨Decidable.not_not.mp h1, Decidable.not_not.mp h2, by omega, by omega, t, rfl, rfl⟩
theorem Due.nxV_none {P : Nat → Bool} {c : Cro.C} {z : Zon.Z} {a : Int} (h : (Due.nxV P c z a).2 = 60) : c.right ∧ z.ok ∧ -1 ≤ a ∧ a ≤ 226157759 ∧ Due.nx P 226157759 (a + 1).toNat = none := by
  unfold Due.nxV at h
  split at h
  · exact absurd h (by decide)
  · split at h
    · exact absurd h (by decide)
    · split at h
      · exact absurd h (by decide)
      · rename_i h1 h2 h3
        cases hx : Due.nx P 226157759 (a + 1).toNat with
        | none => exact ⟨Decidable.not_not.mp h1, Decidable.not_not.mp h2, by omega, by omega, rfl⟩
        | some t => rw [hx] at h; simp at h
theorem Due.nxV_at {P : Nat → Bool} {c : Cro.C} {z : Zon.Z} {a : Int} {n : Nat} (hr : c.right) (hz : z.ok) (h1 : -1 ≤ a) (h2 : a ≤ 226157759) (h : Due.nx P 226157759 (a + 1).toNat = some n) : Due.nxV P c z a = ((n : Int), 0) := by
  unfold Due.nxV
  rw [if_neg (fun x => x hr), if_neg (fun x => x hz), if_neg (by omega), h]
theorem Due.nxV_no {P : Nat → Bool} {c : Cro.C} {z : Zon.Z} {a : Int} (hr : c.right) (hz : z.ok) (h1 : -1 ≤ a) (h2 : a ≤ 226157759) (h : Due.nx P 226157759 (a + 1).toNat = none) : Due.nxV P c z a = (0, 60) := by
  unfold Due.nxV
  rw [if_neg (fun x => x hr), if_neg (fun x => x hz), if_neg (by omega), h]
end Go.Proofs.YtegekjgjabckgaaGreatDoor
