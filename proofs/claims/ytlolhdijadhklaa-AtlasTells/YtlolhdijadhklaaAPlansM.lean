/- How many phases a plan has left. -/
import Derived.Test.YtlolhdijadhklaaAMath4
namespace Go.Proofs.Ytlolhdijadhklaa
open Atl
set_option linter.unusedVariables false

def left (M : Am) : Nat := if peq M.p zP = true then 0 else if M.p.ph = 1 then (if M.p.k = 1 then 3 else 1) else if M.p.ph = 2 then 2 else 1
theorem left_le (M : Am) : left M ≤ 3 := by
  unfold left
  split
  · omega
  · split
    · split <;> omega
    · split <;> omega
theorem left_zP {M : Am} (h : M.p = zP) : left M = 0 := by
  unfold left
  rw [h, peq_self, if_pos rfl]
theorem left_step {M : Am} (h : Rgt M) (hp : peq M.p zP = false) : left (Atl.step M) + 1 ≤ left M := by
  have e : left M = if M.p.ph = 1 then (if M.p.k = 1 then 3 else 1) else if M.p.ph = 2 then 2 else 1 := by
    unfold left
    rw [hp, if_neg (by simp)]
  rw [e]
  unfold Atl.step
  by_cases p1 : M.p.ph = 1
  · rw [if_pos p1, if_pos p1]
    unfold one1
    by_cases k1 : M.p.k = 1
    · rw [if_pos k1, if_pos k1]
      unfold left
      split
      · omega
      · rw [if_neg (by show ¬ (2 : Int) = 1; decide), if_pos (by show (2 : Int) = 2; rfl)]
        omega
    · rw [if_neg k1, if_neg k1]
      split
      · rw [left_zP rfl]; omega
      · rw [left_zP rfl]; omega
  · rw [if_neg p1, if_neg p1]
    by_cases p2 : M.p.ph = 2
    · rw [if_pos p2, if_pos p2]
      unfold left
      split
      · omega
      · rw [if_neg (by show ¬ (3 : Int) = 1; decide), if_neg (by show ¬ (3 : Int) = 2; decide)]
        omega
    · rw [if_neg p2, if_neg p2, left_zP rfl]
      omega
theorem left_zero {M : Am} (h : left M = 0) : peq M.p zP = true := by
  unfold left at h
  cases hp : peq M.p zP with
  | true => rfl
  | false =>
    rw [hp, if_neg (by simp)] at h
    split at h
    · split at h <;> omega
    · split at h <;> omega
theorem kind_zero {M : Am} (h : Rgt M) : (M.p.k == 0) = peq M.p zP := by
  cases hp : peq M.p zP with
  | true => rw [peq_iff.1 hp]; rfl
  | false =>
    obtain ⟨s, _, _, _, _, hk, _, _⟩ := plan_span h hp
    rcases kind_123 hk with k | k | k <;> (rw [k]; rfl)
/-- A plan that goes on. -/
theorem adv_on {M : Am} (h : Rgt M) (hp : peq M.p zP = false) : advM M M.p.ph = Atl.step M ∧ advE M M.p.ph = 0 := by
  unfold advM advE
  rw [chk_is.2 h, hp]
  simp
/-- A plan that began. -/
theorem beg_on {a : Am} (h : Rgt a) {q : Pl} (he : begE a q = 0) : Rgt (begM a q) ∧ (begM a q).l = a.l ∧ peq (begM a q).p zP = false := by
  have hc := chk_is.2 h
  unfold begE at he
  rw [hc, if_neg (by simp)] at he
  obtain ⟨h1, h2, h3⟩ := rgt_begin h he
  have e : begM a q = ⟨a.g, if q.k = 2 then a.la + 1 else a.la, a.l, pln a q⟩ := by
    unfold begM
    rw [hc, if_neg (by simp), if_neg (by simpa using he)]
  rw [e]
  refine ⟨h1, rfl, ?_⟩
  cases hp : peq (pln a q) zP with
  | false => rfl
  | true =>
    have := congrArg Pl.k (peq_iff.1 hp)
    have z : zP.k = 0 := rfl
    omega
theorem beg_busy {M : Am} (h : Rgt M) (hp : peq M.p zP = false) (q : Pl) : begE M q = 180 ∧ begM M q = M := by
  unfold begE begM flt
  rw [chk_is.2 h, hp]
  simp
theorem beg_right {a : Am} {q : Pl} (he : begE a q = 0) : Rgt a := by
  apply chk_is.1
  unfold begE at he
  cases hc : chk a with
  | true => rfl
  | false => rw [hc, if_pos rfl] at he; cases he
end Go.Proofs.Ytlolhdijadhklaa
