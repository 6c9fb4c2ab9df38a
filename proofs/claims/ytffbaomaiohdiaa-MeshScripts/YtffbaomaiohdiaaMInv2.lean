/- More of single operations; an act by its slots. -/
import Derived.Test.YtffbaomaiohdiaaMRefD
namespace Go.Proofs.Ytffbaomaiohdiaa
open Go.RowKit
set_option linter.unusedVariables false
section
variable {P : Program} {o : Oper} {a : Act} {w : World} {K : Act → World → Prop} {Q : Exit → Act → World → Prop}
theorem wp_bin {op : BinOp} {t u : TypeId} {x y : Operand} {v : Value} (ho : o.op = .binOp op t x y u) (hg : (eqGuard op t x y (a.eval x) (a.eval y)).run P w = .ok () w) (hr : (binOp op t (a.eval x) (a.eval y)).run P w = .ok v w) (hK : K (a.put o.dst v) w) : o.wp P a w K Q := by
  refine wp_val _ _ ?_ hK
  unfold execOp
  simp only [ho]
  simp [hg, hr]
theorem wp_pick {c x y : Operand} (b : Bool) (ho : o.op = .pick c x y) (hc : a.eval c = .bool b) (hK : K (a.put o.dst (if b = true then a.eval x else a.eval y)) w) : o.wp P a w K Q := by
  refine wp_val _ _ ?_ hK
  unfold execOp
  simp only [ho, hc]
  go_simp
end
section
variable {P : Program} {ops : Array Oper} {o : Oper} {a : Act} {w : World} {K : Act → World → Prop} {Q : Exit → Act → World → Prop}
theorem yielded_of {j d : Nat} {b : Bool} {t : Array Value} (hd : (ops[j]?).bind (·.dst) = some d) (ht : t[d]? = some (.bool b)) : yielded ops t j = some b := by
  unfold yielded
  rw [hd]
  simp [ht]
theorem wpOp_off {i : Nat} (ho : ops[i]? = some o) (hw : Region.wanted o (yielded ops a.tmps) = false) (h : K (a.put o.dst undef) w) : wpOp P ops Q i K a w := by
  unfold wpOp
  rw [ho]
  simp only
  rw [if_neg (by rw [hw]; simp)]
  exact h
theorem wanted_off {y : Nat → Option Bool} {j : Nat} (hg : o.guard = some (j, true)) (hy : y j = some false) : Region.wanted o y = false := by
  unfold Region.wanted
  rw [hg]
  simp [hy]
end
def setMany : Array Value → Nat → List Value → Array Value
  | t, _, [] => t
  | t, m, v :: vs => setMany (t.setIfInBounds m v) (m + 1) vs
theorem setMany_size : ∀ (vs : List Value) (t : Array Value) (m : Nat), (setMany t m vs).size = t.size
  | [], _, _ => rfl
  | v :: vs, t, m => by rw [setMany, setMany_size vs]; simp
theorem setMany_out : ∀ (vs : List Value) (t : Array Value) (m k : Nat), (k < m ∨ m + vs.length ≤ k) → (setMany t m vs)[k]? = t[k]?
  | [], _, _, _, _ => rfl
  | v :: vs, t, m, k, h => by
    rw [setMany, setMany_out vs _ (m + 1) k (by simp at h; omega), Array.getElem?_setIfInBounds, if_neg (by simp at h; omega)]
theorem setMany_in : ∀ (vs : List Value) (t : Array Value) (m i : Nat), i < vs.length → m + vs.length ≤ t.size → (setMany t m vs)[m + i]? = vs[i]?
  | [], _, _, _, h, _ => by simp at h
  | v :: vs, t, m, 0, h, hz => by
    rw [setMany, setMany_out vs _ (m + 1) (m + 0) (by omega), Array.getElem?_setIfInBounds, if_pos (by omega), if_pos (by simp at hz; omega)]
    rfl
  | v :: vs, t, m, i + 1, h, hz => by
    rw [setMany, show m + (i + 1) = m + 1 + i by omega, setMany_in vs _ (m + 1) i (by simpa using h) (by simp at hz ⊢; omega)]
    rfl
theorem act_eq {a : Act} {t0 : Array Value} {m n : Nat} (vs : List Value) (hn : vs.length = n) (hz : m + n ≤ t0.size) (hd : a.defers = []) (hs : a.tmps.size = t0.size) (hout : ∀ k, (k < m ∨ m + n ≤ k) → a.tmps[k]? = t0[k]?) (hv : ∀ i, i < n → a.tmps[m + i]? = vs[i]?) : a = ⟨setMany t0 m vs, []⟩ := by
  obtain ⟨t, d⟩ := a
  simp only at hd hs hout hv
  subst hd
  congr 1
  apply Array.ext_getElem?
  intro k
  by_cases h : k < m ∨ m + n ≤ k
  · rw [hout k h, setMany_out vs t0 m k (by omega)]
  · obtain ⟨i, rfl⟩ : ∃ i, k = m + i := ⟨k - m, by omega⟩
    rw [hv i (by omega), setMany_in vs t0 m i (by omega) (by omega)]
end Go.Proofs.Ytffbaomaiohdiaa
