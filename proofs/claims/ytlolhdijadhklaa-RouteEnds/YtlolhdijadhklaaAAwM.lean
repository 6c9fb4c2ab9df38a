/- The example's maps. -/
import Derived.Test.YtlolhdijadhklaaAMath4
import Derived.Test.YtlolhdijadhklaaANew
namespace Go.Proofs.Ytlolhdijadhklaa
open Atl
set_option linter.unusedVariables false

def qx : Pl := ⟨1, 0, 1, 0, 2, 0, 0, ⟨#[]⟩⟩
def kx : ByteArray := ⟨#[120]⟩
def mA : Am := ⟨2, 1, [s11], zP⟩
def pB : Pl := ⟨1, 1, 1, 0, 2, 1, 1, ⟨#[]⟩⟩
def mB : Am := ⟨2, 1, [s11], pB⟩
def pC : Pl := ⟨1, 2, 1, 0, 2, 1, 1, ⟨#[]⟩⟩
def s22 : Sp := ⟨⟨#[]⟩, ⟨#[]⟩, 1, 2, 2⟩
def mC : Am := ⟨2, 1, [s22], pC⟩
theorem new_A : newM 2 = mA ∧ newE 2 = 0 := by
  unfold newM newE
  rw [if_pos (by decide), if_pos (by decide)]
  exact ⟨rfl, rfl⟩
theorem rgt_A : Rgt mA := by
  refine ⟨by decide, by decide, by decide, by decide, by decide, fun s hs => ?_, fun i j s t hs ht _ => ?_, ?_, plan_zP _ _ _⟩
  · simp [mA] at hs
    subst hs
    exact ⟨by decide, by decide, by decide, by decide, by decide, by decide⟩
  · have h1 := (List.getElem?_eq_some_iff.1 hs).1
    have h2 := (List.getElem?_eq_some_iff.1 ht).1
    simp [mA] at h1 h2
    omega
  · exact jn_cons.2 ⟨rfl, .inl rfl, by simp only [jnF]; exact em_nil⟩
theorem idx_A (x : Sp) (h : x.sh = 1) : idx [x] 1 = 0 := by simp [idx, h]
theorem flt_A : flt mA qx = 0 := by
  unfold flt
  rw [show mA.p = zP from rfl, peq_self, if_neg (by simp)]
  unfold flt1
  rw [if_neg (by decide), show mA.l = [s11] from rfl, show qx.sh = 1 from rfl, idx_A s11 rfl]
  show (if mR s11.ep = false then (1 : Int) else flt2 mA qx 0 s11) = 0
  rw [if_neg (by decide)]
  unfold flt2
  rw [if_pos (by decide), if_neg (by decide)]
theorem pln_A : pln mA qx = pB := by
  unfold pln
  rw [show mA.l = [s11] from rfl, show qx.sh = 1 from rfl, idx_A s11 rfl]
  rfl
theorem beg_A : begM mA qx = mB ∧ begE mA qx = 0 := by
  have hc := chk_is.2 rgt_A
  unfold begM begE
  rw [hc, flt_A, pln_A]
  exact ⟨rfl, rfl⟩
theorem rgt_B : Rgt mB := by
  have := (rgt_begin rgt_A flt_A).1
  rwa [pln_A] at this
theorem peq_B : peq mB.p zP = false := by
  cases h : peq mB.p zP with
  | false => rfl
  | true =>
    have := congrArg Pl.k (peq_iff.1 h)
    simp [mB, pB, zP] at this
theorem peq_C : peq mC.p zP = false := by
  cases h : peq mC.p zP with
  | false => rfl
  | true =>
    have := congrArg Pl.k (peq_iff.1 h)
    simp [mC, pC, zP] at this
theorem step_B : Atl.step mB = mC := by
  unfold Atl.step
  rw [if_pos (by decide), show mB.l = [s11] from rfl, show mB.p.sh = 1 from rfl, idx_A s11 rfl]
  unfold one1
  rw [if_pos (by decide)]
  rfl
theorem adv_B : advM mB 1 = mC ∧ advE mB 1 = 0 := by
  have hc := chk_is.2 rgt_B
  unfold advM advE
  rw [hc, peq_B, step_B]
  exact ⟨rfl, rfl⟩
theorem rgt_C : Rgt mC := by
  have := rgt_step rgt_B peq_B
  rwa [step_B] at this
theorem adv_C : advE mC 1 = 4 := by
  have hc := chk_is.2 rgt_C
  unfold advE
  rw [hc, peq_C]
  rfl
theorem find_C : findB mC kx = true ∧ findS mC kx = s22 := by
  have hc := chk_is.2 rgt_C
  have h1 : findB mC kx = true := by
    unfold findB
    rw [hc, Bool.and_true]
    decide
  refine ⟨h1, ?_⟩
  unfold findS
  rw [h1, if_pos rfl]
  have : fnd mC.l kx = 0 := by
    have h2 := fnd_lt rgt_C kx
    change fnd [s22] kx < 1 at h2
    show fnd [s22] kx = 0
    omega
  rw [this]
  rfl
end Go.Proofs.Ytlolhdijadhklaa
