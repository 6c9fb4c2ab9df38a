/- Lists of names that came in. -/
import Derived.Test.YtlolhdijadhklaaAArgs
namespace Go.Proofs.Ytlolhdijadhklaa
open Go.ChangeShapes Go.WideShapes Go.ChangeAt Go.RowKit Atl
set_option linter.unusedVariables false
set_option maxRecDepth 100000

/-- A slice reads as texts, none of them too long. -/
def Rnm (W : World) (u : S3) (l : List ByteArray) : Prop := u.n = l.length ∧ (∀ i k, l[i]? = some k → k.size ≤ 140737488351232 ∧ ∃ g o, u.a = some ⟨g, o, none⟩ ∧ W.cell? ⟨g, o + i, none⟩ = some (.string k)) ∧ l.length ≤ 140737488355328
theorem Rnm.grown {w w' : World} {u : S3} {l : List ByteArray} (h : Rnm w u l) (g : w.grownBy w' none) : Rnm w' u l := by
  refine ⟨h.1, fun i k hk => ?_, h.2.2⟩
  obtain ⟨h1, b, o, h2, h3⟩ := h.2.1 i k hk
  exact ⟨h1, b, o, h2, (Chg.of (F := fun _ => False) g (by simp)).cell h3 id⟩
theorem open_names {H : Type} {enc : TypeId × Value → H} {W : World} {r : Reach} {base : Nat} {v : Value} {d : DataW H} {p : List MemPlace}
    (hv : Value.okWide Try.prog W r base 75 v) (h : DataW.Trod enc Try.prog W 0 (fun _ => true) true 75 v d p) (hz : ∀ n ∈ d.weights Try.prog 75, n ≤ reachBytes) : ∃ (u : S3) (l : List ByteArray), v = .slice u.a u.n u.c ∧ Rnm W u l := by
  obtain ⟨a, len, cap, rfl⟩ := okWide_slice Try.underlying75 hv
  obtain ⟨fuel, hf⟩ := h
  rcases Go.Deep.open_slice Try.underlying75 hf with ⟨hcs, hx⟩ | ⟨a, len, cap, m, n, D, Pl, hcs, hb, hl, hm, hmm, hx, hall⟩
  · simp [Value.cells] at hcs
    obtain ⟨e1, e2, e3⟩ := hcs
    subst e1 e2 e3
    exact ⟨nil3, [], rfl, rfl, fun i k hk => by simp at hk, by simp⟩
  · simp [Value.cells] at hcs
    obtain ⟨e1, e2, e3⟩ := hcs
    subst e1 e2 e3
    have hlm : len ≤ m := by rw [hmm]; split <;> omega
    have hd : d = .slice ((List.range len).map D) ((List.range (m - len)).map fun j => D (len + j)) := congrArg Prod.fst hx
    obtain ⟨X, hX, hQ⟩ := list_of (Q := fun i (k : ByteArray) => W.cell? (a.add i) = some (.string k) ∧ k.size ≤ 140737488351232) len fun i hi => by
      obtain ⟨cs', h1, h2⟩ := hall i (by omega)
      rw [cs_str] at h1
      obtain ⟨y, e, z, _⟩ := DataW.trod_string Try.underlying9 h2
      obtain ⟨_, hlen, hcell⟩ := World.cells?_some h1
      have hc := hcell 0 (by omega)
      rw [e] at hc
      rw [Nat.mul_one, Go.Deep.add_add, Nat.add_zero] at hc
      refine ⟨y, hc, ?_⟩
      have s0 := hz y.data.toList.length (by
        rw [hd]
        unfold DataW.weights
        rw [Try.underlying75]
        refine List.mem_cons_of_mem _ (List.mem_append.2 (.inl (weights_all (List.mem_map.2 ⟨i, List.mem_range.2 hi, rfl⟩) _ ?_)))
        have z1 : D i = .lit (.string y.data.toList) := congrArg Prod.fst z
        rw [z1]
        unfold DataW.weights
        simp)
      rw [rch_is] at s0
      exact sz_of s0
    have hwt : len * 16 ≤ 140737488351232 := by
      have h1 := hz ((((List.range len).map D).length + ((List.range (m - len)).map fun j => D (len + j)).length) * Try.prog.bytesOf 9) (by rw [hd]; simp [DataW.weights, Try.underlying75])
      rw [rch_is, show Try.prog.bytesOf 9 = 16 from by kernel_rfl] at h1
      have h3 : rch = 140737488351232 := rfl
      rw [h3] at h1
      simp at h1
      omega
    refine ⟨⟨some a, len, cap⟩, X, rfl, hX.symm, fun i k hk => ?_, by rw [hX]; omega⟩
    obtain ⟨h1, h2⟩ := hQ i k hk
    have hs : a.spot = none := by
      have hl : i < X.length := (List.getElem?_eq_some_iff.1 hk).1
      obtain ⟨k0, h0⟩ : ∃ k0, X[0]? = some k0 := ⟨_, List.getElem?_eq_getElem (by omega)⟩
      have := World.cell?_spot (hQ 0 k0 h0).1
      simpa [Addr.add] using this
    obtain ⟨g, o, sp⟩ := a
    simp only at hs
    subst hs
    unfold Addr.add at h1
    by_cases hi : i = 0
    · rw [if_pos hi] at h1
      subst hi
      exact ⟨h2, g, o, rfl, h1⟩
    · rw [if_neg hi] at h1
      exact ⟨h2, g, o, rfl, h1⟩
end Go.Proofs.Ytlolhdijadhklaa
