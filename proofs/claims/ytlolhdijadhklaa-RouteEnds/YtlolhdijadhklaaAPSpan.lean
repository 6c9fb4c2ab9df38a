/- What a plan tells of its span. -/
import Derived.Test.YtlolhdijadhklaaAPlanB
import Derived.Test.YtlolhdijadhklaaAMath2
namespace Go.Proofs.Ytlolhdijadhklaa
open Go.RowKit Atl
set_option linter.unusedVariables false
set_option maxRecDepth 10000

/-- What a plan in its first phase tells of its span. -/
theorem plan_span {a : Am} (h : Rgt a) (hp : peq a.p zP = false) : ∃ s, a.l[idx a.l a.p.sh]? = some s ∧ 1 ≤ a.p.ep ∧ a.p.ep ≤ 1099511627774 ∧ stB a.p s = true ∧ kindB a s = true ∧ 1 ≤ s.ep ∧ s.ep ≤ 1099511627776 := by
  have h1 := h.pl
  cases hs : a.l[idx a.l a.p.sh]? with
  | none => rw [planB_none hs, hp] at h1; cases h1
  | some s =>
    rw [planB_some hs, hp, Bool.false_or] at h1
    simp only [Bool.and_eq_true, decide_eq_true_eq] at h1
    have h2 := h.sp s (List.mem_of_getElem? hs)
    unfold SpR at h2
    unfold mR at h1
    exact ⟨s, rfl, h1.1, of_decide_eq_true h1.2.1, h1.2.2.1, h1.2.2.2, h2.2.2.1, h2.2.2.2.1⟩
theorem kind_123 {a : Am} {s : Sp} (h : kindB a s = true) : a.p.k = 1 ∨ a.p.k = 2 ∨ a.p.k = 3 := by
  unfold kindB at h
  by_cases h1 : a.p.k = 1
  · exact .inl h1
  · by_cases h2 : a.p.k = 2
    · exact .inr (.inl h2)
    · by_cases h3 : a.p.k = 3
      · exact .inr (.inr h3)
      · rw [if_neg h1, if_neg h2, if_neg h3] at h; cases h
theorem kind_next {a : Am} {s : Sp} (hr : Rgt a) (h : kindB a s = true) (h3 : a.p.k = 3) : ∃ t, a.l[idx a.l a.p.sh + 1]? = some t ∧ a.p.ot = t.sh ∧ a.p.gp = t.gr ∧ t.ep ≤ 1099511627774 ∧ 1 ≤ t.ep ∧ t.ep ≤ 1099511627776 := by
  unfold kindB at h
  rw [if_neg (by rw [h3]; decide), if_neg (by rw [h3]; decide), if_pos h3] at h
  unfold mergeB at h
  cases ht : a.l[idx a.l a.p.sh + 1]? with
  | none => rw [ht] at h; cases h
  | some t =>
    rw [ht] at h
    simp only [Bool.and_eq_true, decide_eq_true_eq, mR] at h
    have h2 := hr.sp t (List.mem_of_getElem? ht)
    unfold SpR at h2
    exact ⟨t, rfl, h.1.1.1.1, h.1.1.1.2, h.1.1.2, h2.2.2.1, h2.2.2.2.1⟩
end Go.Proofs.Ytlolhdijadhklaa
