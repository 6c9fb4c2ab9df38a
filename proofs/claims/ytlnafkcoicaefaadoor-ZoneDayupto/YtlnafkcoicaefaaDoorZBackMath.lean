/- A local minute's instants. -/
import Derived.Test.YtlnafkcoicaefaaDoorZInst
namespace Go.Proofs.YtlnafkcoicaefaaDoor.Zon
theorem ins_mem {z : Z} {L e : Int} (h : e ∈ z.ins L) : 0 ≤ e ∧ e ≤ 226157759 ∧ e + z.at e = L := by
  unfold Z.ins at h
  obtain ⟨o, _, ho⟩ := List.mem_filterMap.mp h
  unfold Z.by at ho
  split at ho
  · rename_i c
    injection ho with ho
    subst ho
    exact ⟨c.1, c.2.1, by rw [c.2.2]; omega⟩
  · cases ho
theorem at_offs (z : Z) (t : Int) : z.at t ∈ z.offs := by
  unfold Z.offs
  split
  · rename_i h; rw [at_zero h]; simp
  · rcases at_two z t with h | h <;> rw [h] <;> simp
theorem mem_ins {z : Z} {t : Int} (h1 : 0 ≤ t) (h2 : t ≤ 226157759) : t ∈ z.ins (t + z.at t) := by
  unfold Z.ins
  refine List.mem_filterMap.mpr ⟨z.at t, at_offs z t, ?_⟩
  unfold Z.by
  have e : t + z.at t - z.at t = t := by omega
  rw [e, if_pos ⟨h1, h2, rfl⟩]
theorem ins_rise {z : Z} (h : z.ok) {L a c : Int} {r : List Int} (e : z.ins L = a :: c :: r) : a < c ∧ r = [] := by
  unfold Z.ins Z.offs at e
  split at e
  · simp only [List.filterMap_cons, List.filterMap_nil] at e
    split at e <;> cases e
  · rename_i hs
    have h' := h.2.2.1
    simp only [List.filterMap_cons, List.filterMap_nil] at e
    cases h1 : z.by L (z.b + z.s) with
    | none => rw [h1] at e; simp only at e; cases h2 : z.by L z.b <;> rw [h2] at e <;> cases e
    | some x =>
      cases h2 : z.by L z.b with
      | none => rw [h1, h2] at e; cases e
      | some y =>
        rw [h1, h2] at e
        injection e with e1 e
        injection e with e2 e
        subst e1 e2
        unfold Z.by at h1 h2
        split at h1
        · split at h2
          · injection h1 with h1
            injection h2 with h2
            exact ⟨by omega, e.symm⟩
          · cases h2
        · cases h1
/-- Is t among the first j? -/
def fnd (l : List Int) (t : Int) : Nat → Bool
  | 0 => false
  | j + 1 => fnd l t j || (l.getD j 0 == t)
theorem fnd_mem (l : List Int) (t : Int) (n : Nat) (i : Nat) (hi : i < n) (h : l.getD i 0 = t) : fnd l t n = true := by
  induction n with
  | zero => omega
  | succ n ih =>
    unfold fnd
    by_cases c : i = n
    · subst c; simp at h ⊢; simp [h]
    · rw [ih (by omega)]; rfl
theorem fnd_all {l : List Int} {t : Int} (h : t ∈ l) : fnd l t l.length = true := by
  obtain ⟨i, hi, e⟩ := List.getElem_of_mem h
  exact fnd_mem l t _ i hi (by rw [List.getD_eq_getElem?_getD, List.getElem?_eq_getElem hi]; exact e)
end Go.Proofs.YtlnafkcoicaefaaDoor.Zon
