/- A node at work: it leads. -/
import Derived.Test.YtdpcebaggldaiaaGOwn
namespace Go.Proofs.Ytdpcebaggldaiaa
open Go.RowKit Trl
open Rft (Nd Mg)
set_option linter.unusedVariables false
set_option maxRecDepth 10000

theorem eN_rep (N : Nat) : eN.cells (List.replicate N 0) = List.replicate N (.int .i64 0) := by
  unfold Elm.cells
  rw [List.flatMap_replicate]
  show (List.replicate N [Value.int .i64 0]).flatten = _
  induction N with
  | zero => rfl
  | succ n ih => rw [List.replicate_succ, List.flatten_cons, ih]; rfl
theorem make_n (N : Nat) (hN : N ≤ 7) : ∃ M : Array Value, (∀ W : World, (Instr.makeSlice 26 (.int .i64 (N : Int)) (.int .i64 (N : Int))).run Try.prog W = .ok (.slice (some ⟨W.heap.size, 0, none⟩) N N) (W.alloc (.cells M 2))) ∧ ∀ W : World, eN.Own (W.alloc (.cells M 2)) W.heap.size (.slice (some ⟨W.heap.size, 0, none⟩) N N) (List.replicate N 0) := by
  obtain ⟨i, hi, hz0, hz1, hz2⟩ := info_parts eN.hi
  have z1 : i.size = 1 := hz1
  have z2 : i.bytes = 8 := hz2
  have e1 : N * i.size = N := by rw [z1, Nat.mul_one]
  refine ⟨madeCells (Value.int .i64 0).cells N, fun W => ?_, fun W => ?_⟩
  · have := run_makeSlice (P := Try.prog) W 26 2 i (.int .i64 0) Try.underlying26 hi hz0 .i64 .i64 (N : Int) (N : Int) (by omega) (by omega) (by rw [Int.toNat_natCast, e1]; omega) (by rw [z2]; omega) (by omega)
    rw [Int.toNat_natCast, e1] at this
    exact this
  · have hl : (madeCells (Value.int .i64 0).cells N).toList = List.replicate N (.int .i64 0) := by
      apply List.ext_getElem?
      intro k
      simp [madeCells, List.getElem?_replicate, Value.cells, Nat.mod_one]
      split <;> simp_all
    have h := World.ownsRow_lit (e := 2) (size := 1) W (madeCells (Value.int .i64 0).cells N) N (Nat.le_refl _) (by unfold maxLen; omega) (by rw [size_madeCells, Nat.mul_one])
    unfold Elm.Own
    rw [eN_rep, List.length_replicate, ← hl]
    exact h
/-- Both rows of numbers are new. -/
theorem Oc.nums {w w1 w2 : World} {base b : Nat} {r r' : Nd} {X : List (Mg × S3)} {V V' : Sv} {s : S3} {T : Nat → Nat} {gn gm n1 c1 n2 c2 : Nat} (h : Oc w base b r X V s T) (g : w.grownBy w1 none)
    (hN : eN.Own w1 w.heap.size (.slice (some ⟨gn, 0, none⟩) n1 c1) r'.next) (hM : eN.Own w1 w.heap.size (.slice (some ⟨gm, 0, none⟩) n2 c2) r'.mat) (hne : gn ≠ gm) (C : Chg (fun k => k = b) w1 w2) (hc : Cs w2 b (oc r' V' s))
    (h1 : r'.conf = r.conf ∧ V'.c = V.c) (h2 : r'.l = r.l ∧ V'.e = V.e) (h3 : (r'.votes = r.votes ∧ V'.v = V.v) ∨ (r'.votes = [] ∧ V'.v = nil3)) (h4 : V'.n = ⟨some ⟨gn, 0, none⟩, n1, c1⟩) (h5 : V'.m = ⟨some ⟨gm, 0, none⟩, n2, c2⟩) : ∃ T', Oc w2 base b r' X V' s T' := by
  have hbl := h.cs.2.2
  have hbb := h.hb
  obtain ⟨T', hT'⟩ : ∃ T' : Nat → Nat, T' = fun k => if k < w.heap.size then T k else if k = gn then 3 else 4 := ⟨_, rfl⟩
  have O1 := (h.retag (T' := T') (fun k hk => by rw [hT']; exact if_pos hk)).grown g
  have ne : ∀ i, i ≠ 0 → ∀ k, T' k = i → base ≤ k → k < w1.heap.size → ¬ k = b := fun i hi k ht _ _ e => by subst e; exact hi (O1.tb.symm.trans ht).symm
  have ln := (hN.lt gn rfl).1
  have lm := (hM.lt gm rfl).1
  have rn : Row eN w1 base T' 3 (.slice (some ⟨gn, 0, none⟩) n1 c1) r'.next := .inl ⟨hN.low (by omega), fun k hk => by
    injection hk with hk
    have hk : gn = k := hk
    subst hk
    rw [hT']
    show (if gn < _ then _ else _) = 3
    rw [if_neg (by omega), if_pos rfl]⟩
  have rm : Row eN w1 base T' 4 (.slice (some ⟨gm, 0, none⟩) n2 c2) r'.mat := .inl ⟨hM.low (by omega), fun k hk => by
    injection hk with hk
    have hk : gm = k := hk
    subst hk
    rw [hT']
    show (if gm < _ then _ else _) = 4
    rw [if_neg (by omega), if_neg (fun e => hne e.symm)]⟩
  have hcK := O1.c.kept C (ne 1 (by decide))
  have heK := O1.e.kept C (ne 1 (by decide))
  have hvK := O1.v.kept C (ne 2 (by decide))
  refine ⟨T', O1.hb, O1.tb, hc, by rw [h1.1, h1.2]; exact hcK, by rw [h2.1, h2.2]; exact heK, ?_, by rw [h4]; exact rn.kept C (ne 3 (by decide)), by rw [h5]; exact rm.kept C (ne 4 (by decide)), ⟨O1.l.1.kept C (fun k hk e => ne 5 (by decide) k (O1.l.2 k hk) (O1.l.1.lt k hk).1 (O1.l.1.lt k hk).2 e), O1.l.2⟩, fun x hx => (O1.ms x hx).kept C (ne 1 (by decide))⟩
  rcases h3 with ⟨e1, e2⟩ | ⟨e1, e2⟩ <;> rw [e1, e2]
  · exact hvK
  · exact Row.nil
/-- So far the numbers are laid. -/
def filled (N j : Nat) (x : Int) : List Int := List.replicate j x ++ List.replicate (N - j) 0
theorem filled_set {N j : Nat} {x : Int} (h : j < N) : (filled N j x).set j x = filled N (j + 1) x := by
  unfold filled
  rw [List.set_append_right _ _ (by simp), List.length_replicate, Nat.sub_self, show N - j = N - (j + 1) + 1 by omega, List.replicate_succ, List.set_cons_zero, List.replicate_succ' (n := j), List.append_assoc]
  rfl
theorem filled_len {N j : Nat} {x : Int} (h : j ≤ N) : (filled N j x).length = N := by
  unfold filled
  rw [List.length_append, List.length_replicate, List.length_replicate]
  omega
end Go.Proofs.Ytdpcebaggldaiaa
