/- Logs and entries that came in. -/
import Derived.Test.YtigmpinomfkefaaTBase
import Derived.Test.YtigmpinomfkefaaRows
import Derived.ProofKit
import Derived.OpenShut
import Derived.ChangeOld
import Derived.Deep.Slices
import Derived.SizedLaws
import Derived.Deep.SlicePairs
namespace Go.Proofs.Ytigmpinomfkefaa
open Go.ChangeShapes Go.WideShapes Go.ChangeAt Go.RowKit Trl
set_option linter.unusedVariables false
set_option maxRecDepth 100000

def rch : Nat := 140737488351232
theorem rch_is : reachBytes = rch := by decide
theorem bytesE : Try.prog.bytesOf 30 = 24 := by kernel_rfl
theorem cellsI : Try.prog.cellsOf 2 = 1 := by kernel_rfl
theorem cellsL : Try.prog.cellsOf 22 = 1 := by kernel_rfl
theorem cellsT : Try.prog.cellsOf 24 = 3 := by kernel_rfl
theorem list_of {α : Type} {Q : Nat → α → Prop} : ∀ n, (∀ i, i < n → ∃ a, Q i a) → ∃ l : List α, l.length = n ∧ ∀ i a, l[i]? = some a → Q i a
  | 0, _ => ⟨[], rfl, fun i a h => by simp at h⟩
  | n + 1, h => by
    obtain ⟨l, h1, h2⟩ := list_of n fun i hi => h i (by omega)
    obtain ⟨a, ha⟩ := h n (by omega)
    refine ⟨l ++ [a], by simp [h1], fun i b hb => ?_⟩
    by_cases hi : i < n
    · rw [List.getElem?_append_left (by omega)] at hb
      exact h2 i b hb
    · rw [List.getElem?_append_right (by omega)] at hb
      by_cases e : i = n
      · subst e; simp [h1] at hb; subst hb; exact ha
      · rw [List.getElem?_eq_none (by simp; omega)] at hb; cases hb
/-- Entries that came in. -/
def Te (W : World) (v : Value) (l : List En) : Prop := Sl W v l ∧ l.length * 24 ≤ 140737488351232
theorem es_cells {H : Type} {enc : TypeId × Value → H} {W : World} {base : Nat} {held : Bool} {fuel : Nat} {v : Value} {x : DataW H × List MemPlace}
    (h : DataW.trod enc Try.prog W base (fun _ => true) held fuel 22 [v] = some x) (hz : ∀ n ∈ x.1.weights Try.prog 22, n ≤ reachBytes) : ∃ l, Te W v l := by
  rcases Go.Deep.open_slice_pairs Try.underlying22 Try.underlying30 (by kernel_rfl) rfl rfl (by kernel_rfl) (by kernel_rfl) h with ⟨hcs, hx⟩ | ⟨a, len, cap, m, n, V0, V1, D0, D1, P0, P1, hcs, _, hl, hm, hmm, hx, hc⟩
  · injection hcs with hcs _
    subst hcs
    exact ⟨[], Sl.nil W, by simp⟩
  · injection hcs with hcs _
    subst hcs
    have hmc : m = cap := by simpa using hmm
    have hm' : cap ≤ 9223372036854775807 := hm
    obtain ⟨L, hL, hQ⟩ := list_of (Q := fun i (a : En) => V0 i = .int .i64 a.1 ∧ V1 i = .string a.2) len fun i hi => by
      obtain ⟨_, _, t0, t1⟩ := hc i (by omega)
      obtain ⟨y0, e0, _, w0⟩ := DataW.trod_int Try.underlying2 t0
      obtain ⟨y1, e1, _, w1⟩ := DataW.trod_string Try.underlying9 t1
      simp at e0 e1
      exact ⟨(y0, y1), e0, e1⟩
    have hwt : len * 24 ≤ 140737488351232 := by
      have hd : x.1 = .slice ((List.range len).map fun i => .agg [D0 i, D1 i]) ((List.range (m - len)).map fun j => .agg [D0 (len + j), D1 (len + j)]) := congrArg Prod.fst hx
      have h1 := hz ((((List.range len).map fun i => (.agg [D0 i, D1 i] : DataW H)).length + ((List.range (m - len)).map fun j => (.agg [D0 (len + j), D1 (len + j)] : DataW H)).length) * Try.prog.bytesOf 30) (by rw [hd]; simp [DataW.weights, Try.underlying22])
      rw [rch_is, bytesE] at h1
      have h3 : rch = 140737488351232 := rfl
      rw [h3] at h1
      simp at h1
      omega
    refine ⟨L, ⟨some a, cap, by rw [hL], by omega, hm', .inr ⟨a, cap, by rw [hL], ?_, fun t u hu => ?_⟩⟩, by rw [hL]; exact hwt⟩
    · by_cases h0 : len = 0
      · exact .inl (List.eq_nil_of_length_eq_zero (by omega))
      · have hc0 := (hc 0 (by omega)).1
        obtain ⟨b, off, sp⟩ := a
        have hsp : sp = none := by
          cases sp with
          | none => rfl
          | some s =>
            simp [World.cell?, Addr.add] at hc0
            split at hc0 <;> cases hc0
        exact .inr hsp
    · have ht : t < len * 2 := by
        have := (List.getElem?_eq_some_iff.1 hu).1
        rw [Elm.cells_len, hL] at this
        exact this
      obtain ⟨y, hy⟩ : ∃ a, L[t / 2]? = some a := ⟨_, List.getElem?_eq_getElem (by omega)⟩
      have h1 := Elm.cells_at eE hy (t % 2) (Nat.mod_lt _ (by decide))
      have e : t / 2 * eE.size + t % 2 = t := by show t / 2 * 2 + t % 2 = t; omega
      rw [e, hu] at h1
      obtain ⟨q0, q1⟩ := hQ _ y hy
      obtain ⟨k0, k1, _, _⟩ := hc (t / 2) (by omega)
      rcases Nat.mod_two_eq_zero_or_one t with h0 | h0
      · rw [h0] at h1
        have : u = .int .i64 y.1 := by injection h1
        rw [this, ← q0, ← k0]
        congr 2
        omega
      · rw [h0] at h1
        have : u = .string y.2 := by injection h1
        rw [this, ← q1, ← k1]
        congr 2
        omega
theorem open_es {H : Type} {enc : TypeId × Value → H} {W : World} {r : Reach} {base : Nat} {v : Value} {d : DataW H} {p : List MemPlace}
    (hv : Value.okWide Try.prog W r base 22 v) (h : DataW.Trod enc Try.prog W 0 (fun _ => true) true 22 v d p) (hz : ∀ n ∈ d.weights Try.prog 22, n ≤ reachBytes) : ∃ l, Te W v l := by
  obtain ⟨a, len, cap, rfl⟩ := okWide_slice Try.underlying22 hv
  obtain ⟨fuel, hf⟩ := h
  exact es_cells hf hz
/-- A log that came in. -/
def Tr (W : World) (v : Value) (b k : Int) (l : List En) : Prop := ∃ s, v = tv b k s ∧ Te W s l
theorem open_tr {H : Type} {enc : TypeId × Value → H} {W : World} {r : Reach} {base : Nat} {v : Value} {d : DataW H} {p : List MemPlace}
    (hv : Value.okWide Try.prog W r base 24 v) (h : DataW.Trod enc Try.prog W 0 (fun _ => true) true 24 v d p) (hz : ∀ n ∈ d.weights Try.prog 24, n ≤ reachBytes) : ∃ b k l, Tr W v b k l := by
  obtain ⟨cs, rfl, _⟩ := okWide_struct Try.underlying24 hv
  obtain ⟨fuel, hf⟩ := h
  obtain ⟨xs, n, _, hx, hl, hlen, hf⟩ := DataW.trod_struct Try.underlying24 hf
  have hl3 : cs.toList.length = 3 := by
    have : (Value.agg cs).cells.toList.length = Try.prog.cellsOf 24 := hl
    rw [cellsT] at this
    exact this
  have len3 : xs.length = 3 := hlen
  obtain ⟨cs⟩ := cs
  match cs, hl3, xs, len3 with
  | [c0, c1, c2], _, [x0, x1, x2], _ =>
    have h0 : DataW.trod enc Try.prog W 0 (fun _ => true) true n 2 (([c0, c1, c2].drop 0).take (Try.prog.cellsOf 2)) = some x0 := hf 0 _ rfl
    have h1 : DataW.trod enc Try.prog W 0 (fun _ => true) true n 2 (([c0, c1, c2].drop 1).take (Try.prog.cellsOf 2)) = some x1 := hf 1 _ rfl
    have h2 : DataW.trod enc Try.prog W 0 (fun _ => true) true n 22 (([c0, c1, c2].drop 2).take (Try.prog.cellsOf 22)) = some x2 := hf 2 _ rfl
    simp only [cellsI, cellsL, List.drop_zero, List.drop_succ_cons, List.take_succ_cons, List.take_zero] at h0 h1 h2
    obtain ⟨b, e0, _, w0⟩ := DataW.trod_int Try.underlying2 h0
    obtain ⟨k, e1, _, w1⟩ := DataW.trod_int Try.underlying2 h1
    simp at e0 e1
    obtain ⟨l, hl⟩ := es_cells h2 (fun n hn => hz n (by
      have hd : d = .agg [x0.1, x1.1, x2.1] := congrArg Prod.fst hx
      rw [hd]
      unfold DataW.weights
      rw [Try.underlying24]
      exact DataW.weights_mem_each (j := 2) (t := 22) rfl rfl n hn))
    exact ⟨b, k, l, c2, by rw [e0, e1], hl⟩
end Go.Proofs.Ytigmpinomfkefaa
