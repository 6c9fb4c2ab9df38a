/- The library's sort, over numbers. -/
import Derived.Test.YtdpcebaggldaiaaMc
import Derived.Test.YtdpcebaggldaiaaQShelf
namespace Go.Proofs.Ytdpcebaggldaiaa
open Go.RowKit Go.Sort Go.Shelf Quo
set_option linter.unusedVariables false

section
variable {α : Type} [Inhabited α] (enc : α → Value)
theorem heap_put {w : World} {g n : Nat} {os : Array Obj} {cur : Array Value} {e : TypeId} {fr : Nat × Nat} (d : Array α) (hb : w.heap[g]? = some (.cells cur e fr)) :
    (grow (putRow enc (Sort.ahead w n) g 0 d) os).heap[g]? = some (.cells (putCells enc 0 d cur) e fr) := by
  have hg : g < w.heap.size := (Array.getElem?_eq_some_iff.1 hb).1
  rw [heap_grow_old _ _ (by simpa using hg)]
  simp [putRow, mapBlock, Sort.ahead, Array.getElem?_modify, hb, onCells]
theorem grown_put {w : World} {g n : Nat} {os : Array Obj} (d : Array α) : w.grownBy (grow (putRow enc (Sort.ahead w n) g 0 d) os) (some g) := by
  refine ⟨rfl, rfl, rfl, by simp, fun k hk hne => ?_⟩
  rw [heap_grow_old _ _ (by simpa using hk)]
  have : g ≠ k := fun e => hne (by rw [e])
  simp [putRow, mapBlock, Sort.ahead, Array.getElem?_modify, this]
theorem take_put (cur : Array Value) (ts : List α) (h : ts.length ≤ cur.size) : (putCells enc 0 ts.toArray cur).toList.take ts.length = ts.map enc := by
  apply List.ext_getElem?
  intro j
  by_cases hj : j < ts.length
  · rw [List.getElem?_take_of_lt hj, Array.getElem?_toList]
    simp [putCells, hj, show j < cur.size by omega]
  · rw [List.getElem?_take_eq_none (by omega), List.getElem?_eq_none (by simp; omega)]
theorem holds_block {w : World} {g : Nat} {cur : Array Value} {e : TypeId} {ss : List α} (hb : w.heap[g]? = some (.cells cur e (0, 0))) (ht : cur.toList.take ss.length = ss.map enc) : Holds enc w g 0 ss.toArray := by
  intro j hj
  have hj' : j < ss.length := by simpa using hj
  refine ⟨?_, by simp [World.frozen?, hb]⟩
  have h1 : (cur.toList.take ss.length)[j]? = (ss.map enc)[j]? := by rw [ht]
  rw [List.getElem?_take_of_lt hj'] at h1
  simp only [World.cell?, hb, Nat.zero_add]
  simp only [Option.isSome_none, Bool.false_eq_true, if_false]
  rw [← Array.getElem?_toList, h1]
  simp [hj']
end
theorem eN_cells (l : List Int) : eN.cells l = l.map (Value.int .i64) := by
  unfold Elm.cells
  induction l with
  | nil => rfl
  | cons a l ih => rw [List.flatMap_cons, ih]; rfl
theorem sortN_any (base : Nat) (v : Value) (l : List Int) (w : World) (hl : l.length < 4611686018427387904) (hown : eN.Own w base v l) :
    Calls Try.prog 80 #[v] w fun e w' => e = .returned (.tuple #[]) ∧ eN.Own w' base v (srt l) ∧ w.grownBy w' v.ownBlock := by
  rcases hown.2 with ⟨hv, h0⟩ | ⟨g, cap, cur, hv, hbase, hb, h1, h2, h3, h4⟩
  · have hL : l = [] := List.eq_nil_of_length_eq_zero h0
    subst hL hv
    refine Calls.mono (AnyM.slices_Sort_int_none (P := Try.prog) Try.sortN none 0 w) ?_
    rintro e w' ⟨rfl, rfl⟩
    exact ⟨rfl, by rw [show srt [] = [] by simp [srt]]; exact hown, grown_refl _ _⟩
  · subst hv
    have h4' : cur.toList.take l.length = l.map (Value.int .i64) := by
      rw [eN_cells] at h4
      have : eN.size = 1 := rfl
      rw [this, Nat.mul_one] at h4
      exact h4
    refine Calls.mono (AnyM.slices_Sort_int (P := Try.prog) Try.sortN g 0 cap l w (holds_block (Value.int .i64) hb h4') (Array.getElem?_eq_some_iff.1 hb).1 hl) ?_
    rintro e w' ⟨rfl, n, os, rfl⟩
    refine ⟨rfl, ?_, grown_put (Value.int .i64) _⟩
    show World.ownsRow _ base eN.el eN.size _ (srt l).length (eN.cells (srt l))
    refine ⟨by rw [eN.cells_len], .inr ⟨g, cap, _, by rw [srt_len], hbase, heap_put (Value.int .i64) _ hb, by rw [srt_len]; exact h1, h2, by simp [putCells, h3], ?_⟩⟩
    have : eN.size = 1 := rfl
    rw [this, Nat.mul_one, eN_cells]
    rw [this, Nat.mul_one] at h3
    exact take_put (Value.int .i64) cur (srt l) (by rw [srt_len, h3]; exact h1)
end Go.Proofs.Ytdpcebaggldaiaa
