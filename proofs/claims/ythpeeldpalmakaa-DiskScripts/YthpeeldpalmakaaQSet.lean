/- An element of a row stored anew. -/
import Derived.Test.YthpeeldpalmakaaQDuo
import Derived.Laws.CopyRow
namespace Go.Proofs.Ythpeeldpalmakaa
open Go.RowKit Dsk
set_option linter.unusedVariables false

theorem Elm.Own.set {α : Type} {E : Elm α} (h1 : E.size = 1) {w : World} {base : Nat} {v : Value} {l : List α} (h : E.Own w base v l) (hl : l.length ≤ 9223372036854775807) {i : Nat} (hi : i < l.length) (x : α) (u : Value) (hu : E.enc x = [u]) :
    ∃ g u0, (∀ W, (Instr.indexAt E.sl v (.int .i64 (i : Int))).run Try.prog W = .ok (.pointer (some ⟨g, i, none⟩)) W) ∧ w.cell? ⟨g, i, none⟩ = some u0 ∧ w.frozen? ⟨g, i, none⟩ = false ∧ v.ownBlock = some g ∧ E.Own (w.setCell ⟨g, i, none⟩ u) base v (l.set i x) := by
  obtain ⟨y, hy⟩ : ∃ y, l[i]? = some y := ⟨_, List.getElem?_eq_getElem hi⟩
  obtain ⟨g, c, rfl, h2, h3⟩ := h.at_ hy
  have hy1 := E.len y
  obtain ⟨u0, hu0⟩ : ∃ u0, (E.enc y)[0]? = some u0 := ⟨_, List.getElem?_eq_getElem (by omega)⟩
  have hc := h2 0 u0 hu0
  rw [h1, Nat.mul_one, Nat.add_zero] at hc
  refine ⟨g, u0, fun W => ?_, hc, h3 i, rfl, ?_⟩
  · have := Elm.run_at (E := E) (W := W) (g := g) (o := 0) (c := c) hi hl
    rw [h1, Nat.mul_one, Nat.zero_add] at this
    exact this
  · rcases h.2 with ⟨e, h0⟩ | ⟨g', cap, cur, e, hg, hh, k1, k2, k3, k4⟩
    · cases e
    · injection e with e1 _ e2
      injection e1 with e1
      injection e1 with e1
      subst e1 e2
      have hset := setCell_eq_setRow w g i cur E.el (0, 0) u hh
      rw [hset]
      refine ⟨by rw [cells_len], .inr ⟨g, c, cur.setIfInBounds i u, by rw [List.length_set], hg, setRow_heap w g cur _ E.el (0, 0) hh, by rw [List.length_set]; exact k1, k2, by simpa using k3, ?_⟩⟩
      rw [List.length_set]
      rw [h1, Nat.mul_one] at k4 ⊢
      have hcs : E.cells (l.set i x) = (E.cells l).set i u := by
        apply List.ext_getElem?
        intro t
        have cell1 : ∀ (m : List α) (t : Nat), (E.cells m)[t]? = (m[t]?).bind fun z => (E.enc z)[0]? := fun m t => by
          cases hm : m[t]? with
          | none =>
            rw [List.getElem?_eq_none (by rw [cells_len, h1, Nat.mul_one]; exact List.getElem?_eq_none_iff.1 hm)]
            rfl
          | some z =>
            have := cells_at E hm 0 (by omega)
            rw [h1, Nat.mul_one, Nat.add_zero] at this
            rw [this]
            rfl
        rw [cell1, List.getElem?_set, List.getElem?_set]
        by_cases e : i = t
        · subst e
          rw [if_pos rfl, if_pos hi, if_pos rfl, if_pos (by rw [cells_len, h1, Nat.mul_one]; exact hi)]
          simp [hu]
        · rw [if_neg e, if_neg e, cell1]
      rw [hcs, ← k4]
      simp only [Array.toList_setIfInBounds]
      rw [List.take_set]
end Go.Proofs.Ythpeeldpalmakaa
