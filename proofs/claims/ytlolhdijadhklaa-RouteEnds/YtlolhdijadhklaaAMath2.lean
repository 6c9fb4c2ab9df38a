/- What a right map is like. -/
import Derived.Test.YtlolhdijadhklaaAMath
namespace Go.Proofs.Ytlolhdijadhklaa.Atl
set_option linter.unusedVariables false

theorem okF_at {g la : Int} {l : List Sp} : ∀ {r : List Sp} {i : Nat}, okF g la l i r = true → ∀ {j : Nat} {s : Sp}, r[j]? = some s → okS g la l (i + j) s = true
  | [], _, _, j, s, h => by simp at h
  | x :: r, i, h, 0, s, hs => by
    simp only [okF, Bool.and_eq_true] at h
    simp at hs
    subst hs
    exact h.1
  | x :: r, i, h, j + 1, s, hs => by
    simp only [okF, Bool.and_eq_true] at h
    simp at hs
    have := okF_at h.2 hs
    rwa [show i + 1 + j = i + (j + 1) by omega] at this
theorem okF_of {g la : Int} {l : List Sp} : ∀ {r : List Sp} {i : Nat}, (∀ {j : Nat} {s : Sp}, r[j]? = some s → okS g la l (i + j) s = true) → okF g la l i r = true
  | [], _, _ => rfl
  | x :: r, i, h => by
    simp only [okF, Bool.and_eq_true]
    refine ⟨h (j := 0) rfl, okF_of fun {j s} hs => ?_⟩
    have := h (j := j + 1) (s := s) (by simpa using hs)
    rwa [show i + (j + 1) = i + 1 + j by omega] at this
/-- A span right by itself, but for its place. -/
def SpR (g la : Int) (s : Sp) : Prop := 1 ≤ s.sh ∧ s.sh ≤ la ∧ 1 ≤ s.ep ∧ s.ep ≤ 1099511627776 ∧ 1 ≤ s.gr ∧ s.gr ≤ g
theorem okS_is {g la : Int} {l : List Sp} {i : Nat} {s : Sp} : okS g la l i s = true ↔ SpR g la s ∧ idx l s.sh = i := by
  unfold okS SpR isE isG
  simp only [Bool.and_eq_true, decide_eq_true_eq]
  constructor
  · rintro ⟨⟨⟨⟨h1, h2⟩, h3⟩, h4⟩, h5⟩; exact ⟨⟨h1, h2, h4.1, h4.2, h5.1, h5.2⟩, h3⟩
  · rintro ⟨⟨h1, h2, h4, h4', h5, h5'⟩, h3⟩; exact ⟨⟨⟨⟨h1, h2⟩, h3⟩, ⟨h4, h4'⟩⟩, ⟨h5, h5'⟩⟩
/-- No two spans have one shard. -/
def Uni (l : List Sp) : Prop := ∀ (i j : Nat) (s t : Sp), l[i]? = some s → l[j]? = some t → s.sh = t.sh → i = j
theorem idx_self {l : List Sp} (h : Uni l) {i : Nat} {s : Sp} (hs : l[i]? = some s) : idx l s.sh = i := by
  have h1 := idx_le hs
  have hl := (List.getElem?_eq_some_iff.1 hs).1
  have h2 : idx l s.sh < l.length := by omega
  have h3 : (l[idx l s.sh]'h2).sh = s.sh := by
    unfold idx at h2 ⊢
    have := List.findIdx_getElem (p := fun t : Sp => decide (t.sh = s.sh)) (xs := l) (w := h2)
    simpa using this
  exact h _ i _ s (List.getElem?_eq_getElem h2) hs h3
theorem uni_of {l : List Sp} (h : ∀ i s, l[i]? = some s → idx l s.sh = i) : Uni l := fun i j s t hs ht e => by
  rw [← h i s hs, ← h j t ht, e]
/-- A right map. -/
structure Rgt (a : Am) : Prop where
  g1 : 1 ≤ a.g
  g8 : a.g ≤ 8
  la : a.la ≤ 1099511627776
  n1 : 1 ≤ a.l.length
  n16 : a.l.length ≤ 16
  sp : ∀ s ∈ a.l, SpR a.g a.la s
  un : Uni a.l
  jn : jnF em a.l = true
  pl : planB a = true
theorem chk_is {a : Am} : chk a = true ↔ Rgt a := by
  unfold chk spansB
  simp only [Bool.and_eq_true, decide_eq_true_eq]
  constructor
  · rintro ⟨⟨⟨⟨⟨⟨⟨h1, h2⟩, h3⟩, h4⟩, h5⟩, h6⟩, h7⟩, h8⟩
    have key : ∀ i s, a.l[i]? = some s → SpR a.g a.la s ∧ idx a.l s.sh = i := fun i s hs => by
      have := okF_at h6 (j := i) hs
      rw [Nat.zero_add] at this
      exact okS_is.1 this
    refine ⟨h1, h2, h3, h4, h5, fun s hs => ?_, uni_of fun i s hs => (key i s hs).2, h7, h8⟩
    obtain ⟨i, hi, e⟩ := List.getElem_of_mem hs
    exact (key i s (by rw [List.getElem?_eq_getElem hi, e])).1
  · intro h
    refine ⟨⟨⟨⟨⟨⟨⟨h.g1, h.g8⟩, h.la⟩, h.n1⟩, h.n16⟩, okF_of fun {j s} hs => ?_⟩, h.jn⟩, h.pl⟩
    rw [Nat.zero_add]
    exact okS_is.2 ⟨h.sp s (List.mem_of_getElem? hs), idx_self h.un hs⟩
theorem Rgt.la1 {a : Am} (h : Rgt a) : 1 ≤ a.la := by
  obtain ⟨s, hs⟩ : ∃ s, a.l[0]? = some s := ⟨_, List.getElem?_eq_getElem (by have := h.n1; omega)⟩
  have := h.sp s (List.mem_of_getElem? hs)
  unfold SpR at this
  omega
/-- A chain of spans that each end at a name. -/
def Ch : ByteArray → List Sp → ByteArray → Prop
  | f, [], t => f = t
  | f, s :: r, t => s.fr = f ∧ named s.up = true ∧ lt f s.up = true ∧ Ch s.up r t
theorem jn_cons {f : ByteArray} {s : Sp} {r : List Sp} : jnF f (s :: r) = true ↔ s.fr = f ∧ (r = [] ∨ named s.up = true ∧ lt f s.up = true) ∧ jnF s.up r = true := by
  simp only [jnF, Bool.and_eq_true, Bool.or_eq_true, beq_iff_eq, List.isEmpty_iff, toList_inj]
  constructor
  · rintro ⟨⟨h1, h2⟩, h3⟩; exact ⟨h1, h2, h3⟩
  · rintro ⟨h1, h2, h3⟩; exact ⟨⟨h1, h2⟩, h3⟩
theorem jn_append : ∀ {A : List Sp} {f : ByteArray} {r : List Sp}, r ≠ [] → (jnF f (A ++ r) = true ↔ ∃ t, Ch f A t ∧ jnF t r = true)
  | [], f, r, h => by simp [Ch]
  | s :: A, f, r, h => by
    rw [List.cons_append, jn_cons, jn_append h]
    have : A ++ r ≠ [] := by simp [h]
    simp only [this, false_or, Ch]
    constructor
    · rintro ⟨h1, ⟨h2, h3⟩, t, h4, h5⟩; exact ⟨t, ⟨h1, h2, h3, h4⟩, h5⟩
    · rintro ⟨t, ⟨h1, h2, h3, h4⟩, h5⟩; exact ⟨h1, ⟨h2, h3⟩, t, h4, h5⟩
theorem split_at {l : List Sp} {i : Nat} {s : Sp} (h : l[i]? = some s) : l = l.take i ++ s :: l.drop (i + 1) := by
  have hl := (List.getElem?_eq_some_iff.1 h).1
  conv => lhs; rw [← List.take_append_drop i l, List.drop_eq_getElem_cons hl, (List.getElem?_eq_some_iff.1 h).2]
/-- The spans ahead of i, and what stands from there on. -/
theorem jn_at {l : List Sp} {i : Nat} {s : Sp} (hj : jnF em l = true) (h : l[i]? = some s) : ∃ t, Ch em (l.take i) t ∧ jnF t (s :: l.drop (i + 1)) = true := by
  rw [split_at h] at hj
  exact (jn_append (by simp)).1 hj
theorem jn_last : ∀ {l : List Sp} {f : ByteArray}, l ≠ [] → jnF f l = true → ∃ s ∈ l, s.up = em
  | [s], f, _, h => by
    obtain ⟨_, _, h3⟩ := jn_cons.1 h
    simp only [jnF, beq_iff_eq] at h3
    exact ⟨s, by simp, list_em.1 h3⟩
  | s :: t :: r, f, _, h => by
    obtain ⟨_, _, h3⟩ := jn_cons.1 h
    obtain ⟨x, hx, e⟩ := jn_last (by simp) h3
    exact ⟨x, List.mem_cons_of_mem _ hx, e⟩
theorem fnd_lt {a : Am} (h : Rgt a) (k : ByteArray) : fnd a.l k < a.l.length := by
  unfold fnd
  rw [List.findIdx_lt_length]
  obtain ⟨s, hs, e⟩ := jn_last (by intro e; have := h.n1; rw [e] at this; simp at this) h.jn
  exact ⟨s, hs, by unfold ends; rw [e, em_list]; rfl⟩
/-- Each end is a name, or empty. -/
theorem jn_ends : ∀ {l : List Sp} {f : ByteArray}, jnF f l = true → ∀ s ∈ l, (s.fr = f ∨ named s.fr = true) ∧ (s.up = em ∨ named s.up = true)
  | [], _, _, s, hs => by simp at hs
  | x :: r, f, h, s, hs => by
    obtain ⟨h1, h2, h3⟩ := jn_cons.1 h
    have hup : x.up = em ∨ named x.up = true := by
      rcases h2 with rfl | h2
      · simp only [jnF, beq_iff_eq] at h3
        exact .inl (list_em.1 h3)
      · exact .inr h2.1
    rcases List.mem_cons.1 hs with rfl | hs
    · exact ⟨.inl h1, hup⟩
    · have k := jn_ends h3 s hs
      refine ⟨?_, k.2⟩
      rcases k.1 with e | e
      · rcases h2 with rfl | h2
        · simp at hs
        · rw [e]; exact .inr h2.1
      · exact .inr e
theorem named_size {s : ByteArray} (h : named s = true) : s.size ≤ 16 := by
  unfold named at h
  simp only [Bool.and_eq_true, decide_eq_true_eq] at h
  exact h.1.2
end Go.Proofs.Ytlolhdijadhklaa.Atl
