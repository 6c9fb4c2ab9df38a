/- An advance in steps, on lists; slices of items put one behind the other. -/
import Derived.Test.YtijgekdhjfbgkaaWLow
namespace Go.Proofs.Ytijgekdhjfbgkaa
open Go.RowKit Go.Sort Whl
set_option linter.unusedVariables false
namespace Whl
theorem due_steps {n s : Int} {L : List It} (h : Srt L) (hn : n ≤ s) : dueL n L ++ dueL s (restL n L) = dueL s L := by
  unfold dueL restL
  refine srt_ext (List.pairwise_append.2 ⟨srt_filter h _, srt_filter (srt_filter h _) _, fun a ha b hb => ?_⟩) (srt_filter h _) fun a => ?_
  · have h1 := (List.mem_filter.1 ha).2
    have h2 := (List.mem_filter.1 (List.mem_filter.1 hb).1).2
    simp at h1 h2
    rw [bef_iff]
    omega
  · simp only [List.mem_append, List.mem_filter, decide_eq_true_eq]
    constructor
    · rintro (⟨h1, h2⟩ | ⟨⟨h1, h2⟩, h3⟩)
      · exact ⟨h1, by omega⟩
      · exact ⟨h1, h3⟩
    · rintro ⟨h1, h2⟩
      by_cases c : a.2 ≤ n
      · exact .inl ⟨h1, c⟩
      · exact .inr ⟨⟨h1, by omega⟩, h2⟩
theorem rest_steps {n s : Int} {L : List It} (hn : n ≤ s) : restL s (restL n L) = restL s L := by
  unfold restL
  rw [List.filter_filter]
  refine List.filter_congr fun a _ => ?_
  rw [Bool.eq_iff_iff]
  simp
  omega
theorem due_now {n : Int} {L : List It} (h : Ok n L) : dueL n L = [] := by
  unfold dueL
  rw [List.filter_eq_nil_iff]
  intro a ha
  have := h.lo a ha
  simp
  omega
theorem rest_now {n : Int} {L : List It} (h : Ok n L) : restL n L = L := by
  unfold restL
  rw [List.filter_eq_self]
  intro a ha
  simpa using h.lo a ha
end Whl
theorem Duo.lt {S : Nat → Prop} {w : World} {b1 b2 : Nat} {n1 n2 : Int} {L1 L2 : List It} (h : Duo S w b1 n1 L1 b2 n2 L2) : ∀ k, S k → k < w.heap.size := by
  obtain ⟨F, G, _, _, _, _, _, h6⟩ := h
  exact h6
/-- 'append(v, x...)', v a slice of items of its own, x another. -/
theorem wpList_append_items {w : World} {ops : Array Oper} {rest : List Oper} {o : Oper} {a : Act} {Q : Exit → Act → World → Prop} (hgd : o.guard = none) (s x : Operand)
    (ho : o.op = .call { callee := .builtin .append, args := #[s, x], argTypes := #[29, 29] })
    (base : Nat) (ad0 : Option Addr) (m0 c0 : Nat) (l0 : List It) (hs : a.eval s = .slice ad0 m0 c0) (hown : w.ownsRow base 33 2 (.slice ad0 m0 c0) l0.length (cells l0)) (base' : Nat) (X : Value) (l : List It) (hx : a.eval x = X) (hX : w.ownsRow base' 33 2 X l.length (cells l))
    (hb : l0.length + l.length ≤ 100000) (hbase : base ≤ w.heap.size)
    (h : ∀ ad m c w', w'.ownsRow base 33 2 (.slice ad m c) (l0 ++ l).length (cells (l0 ++ l)) → w.grownBy w' (Value.slice ad0 m0 c0).ownBlock → ((Value.slice ad m c).ownBlock = (Value.slice ad0 m0 c0).ownBlock ∨ (Value.slice ad m c).ownBlock = some w.heap.size) → wpList Try.prog ops Q rest (a.put o.dst (.slice ad m c)) w') : wpList Try.prog ops Q (o :: rest) a w := by
  obtain ⟨ii, hi, hz0, hz1, hz2⟩ := info_parts info_item
  rcases hX.2 with ⟨e, h0⟩ | ⟨g, cap, cur, e, hg, hh, h1, h2, h3, h4⟩
  · have hl : l = [] := List.eq_nil_of_length_eq_zero h0
    subst hl
    refine wpList_append_own_none hgd s x 29 ho base 33 ii 2 Try.underlying29 hi _ l0.length (cells l0) hs hown (hx.trans e) ?_
    exact h ad0 m0 c0 w (by simpa using hown) (grown_refl _ _) (.inl rfl)
  · refine wpList_append_own_at w hgd s x 29 ho base 33 ii (.agg #[.int .i64 0, .int .i64 0]) 2 16 Try.underlying29 hi hz0 hz1 hz2 rfl (by decide) _ l0.length (cells l0) hs hown ⟨g, 0, none⟩ l.length cap (cells l) (hx.trans e) (cells_len l) ?_ (cells_one l) (by unfold maxLen; omega) (by omega) hbase ?_
    · intro j u hu
      exact hX.cells (g := g) (by rw [e]; rfl) j u hu
    · intro v' w' hO hgr _ hl
      obtain ⟨ad, m, c, rfl⟩ : ∃ ad m c, v' = .slice ad m c := by
        rcases hO.2 with ⟨e, _⟩ | ⟨g, cap, cur, e, _⟩
        · exact ⟨_, _, _, e⟩
        · exact ⟨_, _, _, e⟩
      exact h ad m c w' (by rw [cells_append, List.length_append]; exact hO) hgr hl
end Go.Proofs.Ytijgekdhjfbgkaa
