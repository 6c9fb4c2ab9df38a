/- Lists that came in. -/
import Derived.Test.YtakfobllkoghdaaUAwake
import Derived.Test.YtakfobllkoghdaaRows
import Derived.ProofKit
import Derived.OpenShut
import Derived.ChangeOld
import Derived.Deep.Slices
import Derived.SizedLaws
import Derived.Deep.SlicePairs
namespace Go.Proofs.Ytakfobllkoghdaa
open Go.ChangeShapes Go.WideShapes Go.ChangeAt Go.RowKit Quo
set_option linter.unusedVariables false
set_option maxRecDepth 100000

def rch : Nat := 140737488351232
theorem rch_is : reachBytes = rch := by decide
theorem bytesI : Try.prog.bytesOf 3 = 8 := by kernel_rfl
/-- Numbers that came in. -/
def Tk (W : World) (v : Value) (l : List Int) : Prop := eK.Rx W v l ∧ l.length ≤ 9223372036854775807 ∧ l.length * 8 ≤ 140737488351232
theorem open_tk {H : Type} {enc : TypeId × Value → H} {W : World} {r : Reach} {base : Nat} {v : Value} {d : DataW H} {p : List MemPlace}
    (hv : Value.okWide Try.prog W r base 22 v) (h : DataW.Trod enc Try.prog W 0 (fun _ => true) true 22 v d p) (hz : ∀ n ∈ d.weights Try.prog 22, n ≤ reachBytes) : ∃ l, Tk W v l := by
  obtain ⟨a, len, cap, rfl⟩ := okWide_slice Try.underlying22 hv
  obtain ⟨fuel, hf⟩ := h
  rcases open_ints Try.underlying22 Try.underlying3 (by kernel_rfl) hf with ⟨hcs, hx⟩ | ⟨x, l, c, zs, hcs, _, hl, hm, hzl, hx, hcell, hwz⟩
  · simp [Value.cells] at hcs
    obtain ⟨rfl, rfl, rfl⟩ := hcs
    exact ⟨[], .inl ⟨rfl, rfl⟩, by simp, by simp⟩
  · simp [Value.cells] at hcs
    obtain ⟨rfl, rfl, rfl⟩ := hcs
    have hm' : cap ≤ 9223372036854775807 := hm
    have hlen : len ≤ zs.length := by rw [hzl]; split <;> omega
    have hbl : (zs.take len).length = len := by rw [List.length_take]; omega
    have hwt : len * 8 ≤ 140737488351232 := by
      have hd : d = .slice (lits .i64 (zs.take len)) (lits .i64 (zs.drop len)) := congrArg Prod.fst hx
      have h1 := hz (((lits (H := H) .i64 (zs.take len)).length + (lits (H := H) .i64 (zs.drop len)).length) * Try.prog.bytesOf 3) (by rw [hd]; simp [DataW.weights, Try.underlying22])
      rw [rch_is, bytesI] at h1
      have h2 : (lits (H := H) .i64 (zs.take len)).length = len := by simp [lits]; omega
      have h3 : rch = 140737488351232 := rfl
      rw [h2, h3] at h1
      omega
    refine ⟨zs.take len, .inr ⟨x, cap, by rw [hbl], ?_, fun t u hu => ?_⟩, by omega, by rw [hbl]; exact hwt⟩
    · by_cases h0 : len = 0
      · exact .inl (by subst h0; simp)
      · obtain ⟨b, off, rfl, _⟩ := Go.ints_at hcell (by omega)
        exact .inr rfl
    · have ht : t < len := by
        have := (List.getElem?_eq_some_iff.1 hu).1
        rw [Elm.cells_len, hbl] at this
        have e : eK.size = 1 := rfl
        rw [e] at this
        omega
      have hgt : (zs.take len)[t]? = some (zs.getD t 0) := by
        rw [List.getElem?_take_of_lt ht, List.getElem?_eq_getElem (by omega)]
        simp [List.getD, show t < zs.length by omega]
      have h1 := Elm.cells_at eK hgt 0 (by decide)
      have e : eK.size = 1 := rfl
      rw [e, Nat.mul_one, Nat.add_zero, hu] at h1
      injection h1 with h1
      rw [h1, hcell t (by omega)]
/-- Items that came in. -/
def Ti (W : World) (v : Value) (l : List (Int × Int)) : Prop := eI.Rx W v l ∧ l.length ≤ 9223372036854775807 ∧ ∀ p ∈ l, -9223372036854775808 ≤ p.2 ∧ p.2 ≤ 9223372036854775807
theorem list_of {α : Type} {Q : Nat → α → Prop} : ∀ n, (∀ i, i < n → ∃ a, Q i a) → ∃ l : List α, l.length = n ∧ ∀ i a, l[i]? = some a → Q i a
  | 0, _ => ⟨[], rfl, fun i a h => by simp at h⟩
  | n + 1, h => by
    obtain ⟨l, h1, h2⟩ := list_of n fun i hi => h i (by omega)
    obtain ⟨a, ha⟩ := h n (by omega)
    refine ⟨l ++ [a], by simp [h1], fun i b hb => ?_⟩
    by_cases hi : i < n
    · rw [List.getElem?_append_left (by omega)] at hb
      exact h2 i b hb
    · rw [List.getElem?_append_right (by omega)] at hb
      by_cases e : i = n
      · subst e; simp [h1] at hb; subst hb; exact ha
      · rw [List.getElem?_eq_none (by simp; omega)] at hb; cases hb
theorem open_ti {H : Type} {enc : TypeId × Value → H} {W : World} {r : Reach} {base : Nat} {v : Value} {d : DataW H} {p : List MemPlace}
    (hv : Value.okWide Try.prog W r base 27 v) (h : DataW.Trod enc Try.prog W 0 (fun _ => true) true 27 v d p) : ∃ l, Ti W v l := by
  obtain ⟨ad, len, cap, rfl⟩ := okWide_slice Try.underlying27 hv
  obtain ⟨fuel, hf⟩ := h
  rcases Go.Deep.open_slice_pairs Try.underlying27 Try.underlying38 (by kernel_rfl) rfl rfl (by kernel_rfl) (by kernel_rfl) hf with ⟨hcs, hx⟩ | ⟨x, l, c, m, n, V0, V1, D0, D1, P0, P1, hcs, _, hl, hm, hmm, hx, hc⟩
  · simp [Value.cells] at hcs
    obtain ⟨rfl, rfl, rfl⟩ := hcs
    exact ⟨[], .inl ⟨rfl, rfl⟩, by simp, by simp⟩
  · simp [Value.cells] at hcs
    obtain ⟨rfl, rfl, rfl⟩ := hcs
    have hmc : m = cap := by simpa using hmm
    have hm' : cap ≤ 9223372036854775807 := hm
    obtain ⟨L, hL, hQ⟩ := list_of (Q := fun i (a : Int × Int) => V0 i = .int .i64 a.1 ∧ V1 i = .int .i64 a.2 ∧ -9223372036854775808 ≤ a.2 ∧ a.2 ≤ 9223372036854775807) len fun i hi => by
      obtain ⟨_, _, t0, t1⟩ := hc i (by omega)
      obtain ⟨y0, e0, _, w0⟩ := DataW.trod_int Try.underlying3 t0
      obtain ⟨y1, e1, _, w1⟩ := DataW.trod_int Try.underlying2 t1
      simp at e0 e1
      have := Go.bounds_i64 w1
      exact ⟨(y0, y1), e0, e1, by omega, by omega⟩
    refine ⟨L, .inr ⟨x, cap, by rw [hL], ?_, fun t u hu => ?_⟩, by omega, fun a ha => ?_⟩
    · by_cases h0 : len = 0
      · exact .inl (List.eq_nil_of_length_eq_zero (by omega))
      · have hc0 := (hc 0 (by omega)).1
        obtain ⟨b, off, sp⟩ := x
        have hsp : sp = none := by
          cases sp with
          | none => rfl
          | some s =>
            simp [World.cell?, Addr.add] at hc0
            split at hc0 <;> cases hc0
        exact .inr hsp
    · have ht : t < len * 2 := by
        have := (List.getElem?_eq_some_iff.1 hu).1
        rw [Elm.cells_len, hL] at this
        exact this
      obtain ⟨a, ha⟩ : ∃ a, L[t / 2]? = some a := ⟨_, List.getElem?_eq_getElem (by omega)⟩
      have h1 := Elm.cells_at eI ha (t % 2) (Nat.mod_lt _ (by decide))
      have e : t / 2 * eI.size + t % 2 = t := by show t / 2 * 2 + t % 2 = t; omega
      rw [e, hu] at h1
      obtain ⟨q0, q1, _, _⟩ := hQ _ a ha
      obtain ⟨k0, k1, _, _⟩ := hc (t / 2) (by omega)
      rcases Nat.mod_two_eq_zero_or_one t with h0 | h0
      · rw [h0] at h1
        have : u = .int .i64 a.1 := by injection h1
        rw [this, ← q0, ← k0]
        congr 2
        omega
      · rw [h0] at h1
        have : u = .int .i64 a.2 := by injection h1
        rw [this, ← q1, ← k1]
        congr 2
        omega
    · obtain ⟨i, hi, e⟩ := List.mem_iff_getElem.1 ha
      have := hQ i a (by rw [List.getElem?_eq_getElem hi, e])
      exact this.2.2
end Go.Proofs.Ytakfobllkoghdaa
