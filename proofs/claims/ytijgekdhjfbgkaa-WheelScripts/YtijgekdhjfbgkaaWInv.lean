/- A region that draws its order, by an invariant: each operation is met once. -/
import Derived.Test.YtijgekdhjfbgkaaWDr
namespace Go.Proofs.Ytijgekdhjfbgkaa
open Go.RowKit
set_option linter.unusedVariables false

/-- How many are not yet listed. -/
def left (l : Array Bool) : Nat := (l.toList.filter fun b => !b).length
theorem left_set : ∀ (l : List Bool) (i : Nat), l[i]? = some false → ((l.set i true).filter fun b => !b).length + 1 = (l.filter fun b => !b).length
  | [], _, h => by simp at h
  | b :: l, 0, h => by simp at h; subst h; simp
  | b :: l, i + 1, h => by
    have := left_set l i (by simpa using h)
    cases b <;> simp <;> omega
theorem wpOp_more {P : Program} {ops : Array Oper} {Q : Exit → Act → World → Prop} {i : Nat} {K K' : Act → World → Prop} {a : Act} {w : World} (h : wpOp P ops Q i K a w) (hK : ∀ a w, K a w → K' a w) : wpOp P ops Q i K' a w := by
  unfold wpOp at h ⊢
  split
  · next e => rw [e] at h; exact hK _ _ h
  · next o e =>
    rw [e] at h
    simp only at h ⊢
    split
    · next c =>
      rw [if_pos c] at h
      exact h.imp (fun h => Oper.wp_mono hK h) id
    · next c =>
      rw [if_neg c] at h
      exact hK _ _ h
theorem wpAny_inv {P : Program} {md : Region.Mode} {ops : Array Oper} {Q : Exit → Act → World → Prop} (Inv : Array Bool → Act → World → Prop)
    (step : ∀ listed a w, listed.size = ops.size → Inv listed a w → ∀ i ∈ Region.ready md ops listed, wpOp P ops Q i (Inv (listed.setIfInBounds i true)) a w)
    (fin : ∀ listed a w, listed.size = ops.size → Inv listed a w → Region.ready md ops listed = [] → Q .normal a w) :
    ∀ (fuel : Nat) (listed : Array Bool) (a : Act) (w : World), listed.size = ops.size → left listed ≤ fuel → Inv listed a w → wpAny P md ops Q fuel listed a w
  | 0, listed, a, w, hs, hl, h => by
    have hr : Region.ready md ops listed = [] := by
      unfold Region.ready
      rw [List.filter_eq_nil_iff]
      intro i hi c
      simp only [Bool.and_eq_true, Bool.not_eq_true'] at c
      have hi' : i < listed.size := by rw [hs]; simpa using hi
      have c1 := c.1
      have hf : false ∈ listed.toList.filter fun b => !b := by
        rw [List.mem_filter]
        refine ⟨?_, rfl⟩
        have : listed[i] = false := by simpa [Array.getD, hi'] using c1
        rw [← this]
        simp
      unfold left at hl
      have := List.length_pos_of_mem hf
      omega
    exact ⟨hr, fin _ _ _ hs h hr⟩
  | fuel + 1, listed, a, w, hs, hl, h => by
    refine ⟨fun hr => fin _ _ _ hs h hr, fun i hi => wpOp_more (step _ _ _ hs h i hi) fun a' w' h' => ?_⟩
    refine wpAny_inv Inv step fin fuel _ a' w' (by simpa using hs) ?_ h'
    unfold Region.ready at hi
    rw [List.mem_filter] at hi
    simp only [Bool.and_eq_true, Bool.not_eq_true'] at hi
    have hi' : i < listed.size := by rw [hs]; simpa using hi.1
    have : listed[i] = false := by simpa [Array.getD, hi'] using hi.2.1
    have e := left_set listed.toList i (by simp [hi', this])
    unfold left at hl ⊢
    rw [Array.toList_setIfInBounds]
    omega
theorem left_all (n : Nat) : left (Array.replicate n false) = n := by unfold left; simp
/-- .. the region. -/
theorem wp_region_inv {P : Program} {id : Nat} {ops : Array Oper} {Q : Exit → Act → World → Prop} {a : Act} {w : World} (hm : P.follows .mixedOrders = true) (Inv : Array Bool → Act → World → Prop)
    (start : Inv (Array.replicate ops.size false) a w.drew)
    (step : ∀ listed a w, listed.size = ops.size → Inv listed a w → ∀ i ∈ Region.ready .any ops listed, wpOp P ops Q i (Inv (listed.setIfInBounds i true)) a w)
    (fin : ∀ listed a w, listed.size = ops.size → Inv listed a w → Region.ready .any ops listed = [] → Q .normal a w) : (Code.region id ops true).wp P Q a w :=
  wp_region_any hm (wpAny_inv Inv step fin _ _ _ _ (by simp) (by rw [left_all]; exact Nat.le_refl _) start)
end Go.Proofs.Ytijgekdhjfbgkaa
