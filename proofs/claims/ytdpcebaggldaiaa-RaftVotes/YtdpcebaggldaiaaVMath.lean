/- One voice a term; the answers that the document fixes. -/
import Derived.Test.YtdpcebaggldaiaaRMath
namespace Go.Proofs.Ytdpcebaggldaiaa
open Trl
open Rft (Nd Mg)
set_option linter.unusedVariables false
set_option maxRecDepth 10000

/-- What is granted speaks for the node that grants it. -/
theorem vote_fine (r : Nd) (m : Mg) (h1 : m.kind = 1) : ∀ x ∈ Rft.handL r m, x.yes = true → (Rft.handN r m).vote = x.tt ∧ x.term = (Rft.handN r m).term ∧ (r.term = (Rft.handN r m).term → r.vote = 0 ∨ r.vote = (Rft.handN r m).vote) := by
  intro x hx hy
  unfold Rft.handL at hx
  unfold Rft.handN
  by_cases h0 : (Rft.ok r && Rft.takes r m) = false
  · rw [if_pos h0] at hx
    cases hx
  rw [if_neg h0] at hx ⊢
  by_cases h2 : m.term < (Rft.later r m).term
  · rw [if_pos h2, if_pos h1] at hx
    unfold Rft.say at hx
    rw [List.nil_append, List.mem_singleton] at hx
    subst hx
    cases hy
  rw [if_neg h2] at hx ⊢
  unfold Rft.armL at hx
  unfold Rft.armN
  rw [if_pos h1] at hx ⊢
  unfold Rft.askL Rft.say at hx
  rw [List.nil_append, List.mem_singleton] at hx
  subst hx
  have ha : Rft.asks (Rft.later r m) m = true := hy
  unfold Rft.askN
  rw [if_pos ha]
  refine ⟨rfl, rfl, fun e => ?_⟩
  have e' : r.term = (Rft.later r m).term := e
  have hl : Rft.later r m = r := by
    unfold Rft.later at e' ⊢
    split at e'
    · rename_i hlt
      have : r.term = m.term := e'
      omega
    · rename_i hlt
      rw [if_neg hlt]
  rw [hl] at ha
  unfold Rft.asks at ha
  simp only [Bool.and_eq_true, Bool.or_eq_true, decide_eq_true_eq] at ha
  rcases ha.1.1 with e0 | e0
  · exact .inl e0
  · exact .inr e0
theorem hand_one (r : Nd) (m : Mg) (h1 : m.kind = 1) : (Rft.handL r m).length ≤ 1 := by
  unfold Rft.handL
  split
  · simp
  · split
    · simp [Rft.say]
    · unfold Rft.armL
      rw [if_pos h1]
      simp [Rft.askL, Rft.say]
namespace Rft
/-- The node of the example, k ticks on (k up to 9). -/
def awk (k : Nat) : Nd := ⟨2, [1, 2, 3], 0, 0, 0, 0, 0, 0, [], ⟨#[]⟩, 0, 10 - (k : Int), 10, [], [], []⟩
def awkC : Nd := ⟨2, [1, 2, 3], 1, 2, 1, 0, 0, 0, [], ⟨#[]⟩, 0, 14, 14, [2], [], []⟩
def awkN (k : Nat) : Nd := if k = 10 then awkC else awk k
def awkM (k : Nat) : List Mg := if k = 10 then [⟨1, 2, 1, 1, 0, 0, 0, false, [], ⟨#[]⟩⟩, ⟨1, 2, 3, 1, 0, 0, 0, false, [], ⟨#[]⟩⟩] else []
theorem awk_tick : ∀ k, k < 10 → tickN (awkN k) 4 = awkN (k + 1) ∧ tickL (awkN k) 4 = awkM (k + 1)
  | 0, _ => ⟨rfl, rfl⟩
  | 1, _ => ⟨rfl, rfl⟩
  | 2, _ => ⟨rfl, rfl⟩
  | 3, _ => ⟨rfl, rfl⟩
  | 4, _ => ⟨rfl, rfl⟩
  | 5, _ => ⟨rfl, rfl⟩
  | 6, _ => ⟨rfl, rfl⟩
  | 7, _ => ⟨rfl, rfl⟩
  | 8, _ => ⟨rfl, rfl⟩
  | 9, _ => ⟨rfl, rfl⟩
  | k + 10, h => by omega
def awkG : Mg := ⟨2, 3, 2, 1, 0, 0, 0, true, [], ⟨#[]⟩⟩
theorem agree_com (r : Nd) : ∃ c, agree r = { r with com := c } := by
  unfold agree
  split
  · exact ⟨r.com, rfl⟩
  · split
    · exact ⟨_, rfl⟩
    · exact ⟨r.com, rfl⟩
theorem awk_hand : (handN awkC awkG).role = 2 ∧ (handN awkC awkG).l.length = 1 ∧ (handL awkC awkG).length = 2 ∧ ((handL awkC awkG).head?.map (·.es.length)) = some 1 := by
  have hN : handN awkC awkG = leadN (voted awkC awkG) := rfl
  have hL : handL awkC awkG = pushAll (leadN (voted awkC awkG)) [] := rfl
  rw [hN, hL]
  unfold leadN
  obtain ⟨c, e⟩ := agree_com (own (lead1 (voted awkC awkG)))
  rw [e]
  exact ⟨rfl, rfl, rfl, rfl⟩
end Rft
end Go.Proofs.Ytdpcebaggldaiaa
