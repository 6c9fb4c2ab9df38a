/- How arguments that came in are read. -/
import Derived.Test.YtijgekdhjfbgkaaWDuo
import Derived.Test.YtijgekdhjfbgkaaRows
import Derived.ProofKit
import Derived.OpenShut
import Derived.SizedLaws
import Derived.ChangeOld
import Derived.Deep.SlicePairs
namespace Go.Proofs.Ytijgekdhjfbgkaa
open Go.ChangeShapes Go.WideShapes Go.ChangeAt Go.RowKit Whl
set_option linter.unusedVariables false
set_option maxRecDepth 100000

theorem i64_of {n : Int} (h : (Lit.int .i64 n).wf = true) : I64 n := by
  have := Go.bounds_i64 h
  exact ⟨by omega, by omega⟩
theorem list_of {α : Type} {Q : Nat → α → Prop} : ∀ n, (∀ i, i < n → ∃ a, Q i a) → ∃ l : List α, l.length = n ∧ ∀ i a, l[i]? = some a → Q i a
  | 0, _ => ⟨[], rfl, fun i a h => by simp at h⟩
  | n + 1, h => by
    obtain ⟨l, h1, h2⟩ := list_of n fun i hi => h i (by omega)
    obtain ⟨a, ha⟩ := h n (by omega)
    refine ⟨l ++ [a], by simp [h1], fun i b hb => ?_⟩
    by_cases hi : i < n
    · rw [List.getElem?_append_left (by omega)] at hb
      exact h2 i b hb
    · rw [List.getElem?_append_right (by omega)] at hb
      by_cases e : i = n
      · subst e; simp [h1] at hb; subst hb; exact ha
      · rw [List.getElem?_eq_none (by simp; omega)] at hb; cases hb
/-- Items that came in. -/
def Ra (w : World) (v : Value) (l : List It) : Prop := Ri w v l ∧ (∀ a ∈ l, I64 a.1 ∧ I64 a.2) ∧ l.length ≤ 9223372036854775807
theorem open_items {H : Type} {enc : TypeId × Value → H} {W : World} {r : Reach} {base : Nat} {v : Value} {d : DataW H} {p : List MemPlace}
    (hv : Value.okWide Try.prog W r base 29 v) (h : DataW.Trod enc Try.prog W 0 (fun _ => true) true 29 v d p) : ∃ l, Ra W v l := by
  obtain ⟨ad, len, cap, rfl⟩ := okWide_slice Try.underlying29 hv
  obtain ⟨fuel, hf⟩ := h
  rcases Go.Deep.open_slice_pairs Try.underlying29 Try.underlying33 (by kernel_rfl) rfl rfl (by kernel_rfl) (by kernel_rfl) hf with ⟨hcs, hx⟩ | ⟨x, l, c, m, n, V0, V1, D0, D1, P0, P1, hcs, _, hl, hm, hmm, hx, hc⟩
  · simp [Value.cells] at hcs
    obtain ⟨rfl, rfl, rfl⟩ := hcs
    exact ⟨[], Ri.nil _ _ _, by simp, by simp⟩
  · simp [Value.cells] at hcs
    obtain ⟨rfl, rfl, rfl⟩ := hcs
    have hmc : m = cap := by simpa using hmm
    have hm' : cap ≤ 9223372036854775807 := hm
    obtain ⟨L, hL, hQ⟩ := list_of (Q := fun i (a : It) => V0 i = .int .i64 a.1 ∧ V1 i = .int .i64 a.2 ∧ I64 a.1 ∧ I64 a.2) len fun i hi => by
      obtain ⟨_, _, t0, t1⟩ := hc i (by omega)
      obtain ⟨y0, e0, _, w0⟩ := DataW.trod_int Try.underlying3 t0
      obtain ⟨y1, e1, _, w1⟩ := DataW.trod_int Try.underlying2 t1
      simp at e0 e1
      exact ⟨(y0, y1), e0, e1, i64_of w0, i64_of w1⟩
    refine ⟨L, ⟨some x, cap, by rw [hL], ?_⟩, fun a ha => ?_, by omega⟩
    · by_cases h0 : len = 0
      · exact .inl (List.eq_nil_of_length_eq_zero (by omega))
      · have hc0 := (hc 0 (by omega)).1
        obtain ⟨b, off, sp⟩ := x
        have hsp : sp = none := by
          cases sp with
          | none => rfl
          | some s =>
            simp [World.cell?, Addr.add] at hc0
            split at hc0 <;> cases hc0
        subst hsp
        refine .inr ⟨b, off, rfl, fun j a hj => ?_⟩
        obtain ⟨q0, q1, _, _⟩ := hQ j a hj
        obtain ⟨hlt, _⟩ := List.getElem?_eq_some_iff.1 hj
        obtain ⟨k0, k1, _, _⟩ := hc j (by omega)
        rw [Addr.add_lit] at k0 k1
        rw [← Nat.add_assoc] at k1
        rw [k0, k1, q0, q1]
        exact ⟨rfl, rfl⟩
    · obtain ⟨i, hi, e⟩ := List.mem_iff_getElem.1 ha
      have := hQ i a (by rw [List.getElem?_eq_getElem hi, e])
      exact this.2.2
/-- An item that came in. -/
theorem open_item {H : Type} {enc : TypeId × Value → H} {W : World} {r : Reach} {base : Nat} {v : Value} {d : DataW H} {p : List MemPlace}
    (hv : Value.okWide Try.prog W r base 33 v) (h : DataW.Trod enc Try.prog W 0 (fun _ => true) true 33 v d p) : ∃ a : It, v = .agg #[.int .i64 a.1, .int .i64 a.2] ∧ I64 a.1 ∧ I64 a.2 := by
  obtain ⟨cs, rfl, _⟩ := okWide_struct Try.underlying33 hv
  obtain ⟨fuel, hf⟩ := h
  obtain ⟨xs, n, _, hx, hl, hxs, hff⟩ := DataW.trod_struct Try.underlying33 hf
  have hl' : xs.length = 2 := hxs
  have hcl : cs.size = 2 := by
    have : (Value.agg cs).cells.toList.length = Try.prog.cellsOf 33 := hl
    rw [show Try.prog.cellsOf 33 = 2 by kernel_rfl] at this
    simpa [Value.cells] using this
  match cs, hcl, xs, hl', hff with
  | ⟨[c0, c1]⟩, _, [x0, x1], _, hff =>
    have f0 := hff 0 _ rfl
    have f1 := hff 1 _ rfl
    obtain ⟨y0, e0, _, w0⟩ := DataW.trod_int (fuel := n) Try.underlying3 (by simpa [Value.cells, show Try.prog.cellsOf 3 = 1 by kernel_rfl] using f0)
    obtain ⟨y1, e1, _, w1⟩ := DataW.trod_int (fuel := n) Try.underlying2 (by simpa [Value.cells, show Try.prog.cellsOf 2 = 1 by kernel_rfl] using f1)
    simp at e0 e1
    subst e0 e1
    exact ⟨(y0, y1), rfl, i64_of w0, i64_of w1⟩
/-- Numbers that came in. -/
def Rn (w : World) (v : Value) (T : TypeId) (l : List Int) : Prop := (∃ ad c, v = .slice ad l.length c ∧ (l = [] ∨ ∃ g off, ad = some ⟨g, off, none⟩ ∧ ∀ j x, l[j]? = some x → w.cell? ⟨g, off + j, none⟩ = some (.int .i64 x))) ∧ (∀ x ∈ l, I64 x) ∧ l.length ≤ 9223372036854775807
theorem open_nums {H : Type} {enc : TypeId × Value → H} {W : World} {r : Reach} {base : Nat} {v : Value} {d : DataW H} {p : List MemPlace} {T E : TypeId} (hT : Try.prog.underlying T = some (.slice E)) (hE : Try.prog.underlying E = some (.int .i64)) (hc : Try.prog.cellsOf E = 1)
    (hv : Value.okWide Try.prog W r base T v) (h : DataW.Trod enc Try.prog W 0 (fun _ => true) true T v d p) : ∃ l, Rn W v T l := by
  obtain ⟨a, len, cap, rfl⟩ := okWide_slice hT hv
  obtain ⟨fuel, hf⟩ := h
  rcases open_ints hT hE hc hf with ⟨hcs, hx⟩ | ⟨x, l, c, zs, hcs, _, hl, hm, hz, hx, hcell, hwz⟩
  · simp [Value.cells] at hcs
    obtain ⟨rfl, rfl, rfl⟩ := hcs
    exact ⟨[], ⟨none, 0, rfl, .inl rfl⟩, by simp, by simp⟩
  · simp [Value.cells] at hcs
    obtain ⟨rfl, rfl, rfl⟩ := hcs
    have hm' : cap ≤ 9223372036854775807 := hm
    have hz' : zs.length = cap := by simpa using hz
    refine ⟨zs.take len, ⟨some x, cap, by rw [List.length_take, Nat.min_eq_left (by omega)], ?_⟩, fun y hy => i64_of (hwz y (List.mem_of_mem_take hy)), by rw [List.length_take]; omega⟩
    by_cases h0 : len = 0
    · exact .inl (by rw [h0, List.take_zero])
    · obtain ⟨b, off, rfl, hcc⟩ := ints_at hcell (by omega)
      refine .inr ⟨b, off, rfl, fun j y hj => ?_⟩
      obtain ⟨hlt, hy⟩ := List.getElem?_eq_some_iff.1 hj
      have hlt' : j < len := by simp at hlt; omega
      have := hcc j (by omega)
      rw [this]
      rw [List.getElem_take] at hy
      rw [List.getD_eq_getElem?_getD, List.getElem?_eq_getElem (by omega), hy]
      rfl
theorem open_ints64 {H : Type} {enc : TypeId × Value → H} {W : World} {r : Reach} {base : Nat} {v : Value} {d : DataW H} {p : List MemPlace}
    (hv : Value.okWide Try.prog W r base 45 v) (h : DataW.Trod enc Try.prog W 0 (fun _ => true) true 45 v d p) : ∃ l, Rn W v 45 l := open_nums Try.underlying45 Try.underlying2 (by kernel_rfl) hv h
theorem open_intsn {H : Type} {enc : TypeId × Value → H} {W : World} {r : Reach} {base : Nat} {v : Value} {d : DataW H} {p : List MemPlace}
    (hv : Value.okWide Try.prog W r base 44 v) (h : DataW.Trod enc Try.prog W 0 (fun _ => true) true 44 v d p) : ∃ l, Rn W v 44 l := open_nums Try.underlying44 Try.underlying3 (by kernel_rfl) hv h
end Go.Proofs.Ytijgekdhjfbgkaa
