/- The first of a set's numbers from a place on, and the first so many of them: no program's run in this text. -/
namespace Go.Proofs.YteiiapnpdfgoaaaDoor.Due
/-- The first number from n on, k looked at. -/
def nxt (P : Nat → Bool) : Nat → Nat → Option Nat
  | 0, _ => none
  | k + 1, n => if P n = true then some n else nxt P k (n + 1)
theorem nxt_some (P : Nat → Bool) : ∀ (k n t : Nat), nxt P k n = some t → n ≤ t ∧ t < n + k ∧ P t = true ∧ ∀ u, n ≤ u → u < t → P u = false
  | 0, n, t, h => by cases h
  | k + 1, n, t, h => by
    rw [nxt] at h
    split at h
    · rename_i c
      injection h with h
      subst h
      exact ⟨by omega, by omega, c, fun u h1 h2 => by omega⟩
    · rename_i c
      obtain ⟨h1, h2, h3, h4⟩ := nxt_some P k (n + 1) t h
      refine ⟨by omega, by omega, h3, fun u g1 g2 => ?_⟩
      by_cases e : u = n
      · subst e; simpa using c
      · exact h4 u (by omega) g2
theorem nxt_none (P : Nat → Bool) : ∀ (k n : Nat), nxt P k n = none → ∀ u, n ≤ u → u < n + k → P u = false
  | 0, n, _, u, h1, h2 => by omega
  | k + 1, n, h, u, h1, h2 => by
    rw [nxt] at h
    split at h
    · cases h
    · rename_i c
      by_cases e : u = n
      · subst e; simpa using c
      · exact nxt_none P k (n + 1) h u (by omega) (by omega)
theorem nxt_is {P : Nat → Bool} {k n t : Nat} (h1 : n ≤ t) (h2 : t < n + k) (h3 : P t = true) (h4 : ∀ u, n ≤ u → u < t → P u = false) : nxt P k n = some t := by
  cases h : nxt P k n with
  | none => have := nxt_none P k n h t h1 h2; rw [h3] at this; cases this
  | some x =>
    obtain ⟨g1, g2, g3, g4⟩ := nxt_some P k n x h
    rcases Nat.lt_trichotomy x t with c | c | c
    · have := h4 x g1 c; rw [g3] at this; cases this
    · rw [c]
    · have := g4 t h1 c; rw [h3] at this; cases this
theorem nxt_no {P : Nat → Bool} {k n : Nat} (h : ∀ u, n ≤ u → u < n + k → P u = false) : nxt P k n = none := by
  cases e : nxt P k n with
  | none => rfl
  | some x =>
    obtain ⟨g1, g2, g3, g4⟩ := nxt_some P k n x e
    have := h x g1 g2
    rw [g3] at this
    cases this
/-- The first number from s on, up to M. -/
def nx (P : Nat → Bool) (M s : Nat) : Option Nat := nxt P (M + 1 - s) s
theorem nx_some {P : Nat → Bool} {M s t : Nat} (h : nx P M s = some t) : s ≤ t ∧ t ≤ M ∧ P t = true ∧ ∀ u, s ≤ u → u < t → P u = false := by
  obtain ⟨h1, h2, h3, h4⟩ := nxt_some P _ _ _ h
  exact ⟨h1, by omega, h3, h4⟩
theorem nx_none {P : Nat → Bool} {M s : Nat} (h : nx P M s = none) : ∀ u, s ≤ u → u ≤ M → P u = false := fun u h1 h2 => nxt_none P _ _ h u h1 (by omega)
theorem nx_is {P : Nat → Bool} {M s t : Nat} (h1 : s ≤ t) (h2 : t ≤ M) (h3 : P t = true) (h4 : ∀ u, s ≤ u → u < t → P u = false) : nx P M s = some t := nxt_is h1 (by omega) h3 h4
theorem nx_no {P : Nat → Bool} {M s : Nat} (h : ∀ u, s ≤ u → u ≤ M → P u = false) : nx P M s = none := nxt_no (fun u h1 h2 => h u h1 (by omega))
theorem nx_same {P : Nat → Bool} {M s s' t : Nat} (h : nx P M s = some t) (h1 : s ≤ s') (h2 : s' ≤ t) : nx P M s' = some t := by
  obtain ⟨g1, g2, g3, g4⟩ := nx_some h
  exact nx_is h2 g2 g3 (fun u k1 k2 => g4 u (by omega) k2)
theorem nx_gone {P : Nat → Bool} {M s s' : Nat} (h : nx P M s = none) (h1 : s ≤ s') : nx P M s' = none := nx_no (fun u k1 k2 => nx_none h u (by omega) k2)
theorem nx_rise {P : Nat → Bool} {M s s' t u : Nat} (h : nx P M s = some t) (h1 : s ≤ s') (h2 : nx P M s' = some u) : t ≤ u := by
  obtain ⟨g1, g2, g3, g4⟩ := nx_some h
  obtain ⟨k1, k2, k3, k4⟩ := nx_some h2
  rcases Nat.lt_or_ge u t with c | c
  · have := g4 u (by omega) c; rw [k3] at this; cases this
  · exact c
/-- Of two sets together: the lesser one. -/
theorem nx_or {P Q : Nat → Bool} {M s : Nat} : nx (fun t => P t || Q t) M s = (match nx P M s, nx Q M s with
    | some t, some u => some (min t u)
    | some t, none => some t
    | none, o => o) := by
  cases h1 : nx P M s with
  | none =>
    have p := nx_none h1
    cases h2 : nx Q M s with
    | none =>
      have q := nx_none h2
      exact nx_no (fun u k1 k2 => by simp [p u k1 k2, q u k1 k2])
    | some u =>
      obtain ⟨g1, g2, g3, g4⟩ := nx_some h2
      exact nx_is g1 g2 (by simp [g3]) (fun x k1 k2 => by simp [p x k1 (by omega), g4 x k1 k2])
  | some t =>
    obtain ⟨f1, f2, f3, f4⟩ := nx_some h1
    cases h2 : nx Q M s with
    | none =>
      have q := nx_none h2
      exact nx_is f1 f2 (by simp [f3]) (fun x k1 k2 => by simp [f4 x k1 k2, q x k1 (by omega)])
    | some u =>
      obtain ⟨g1, g2, g3, g4⟩ := nx_some h2
      refine nx_is (by omega) (by omega) ?_ (fun x k1 k2 => by simp [f4 x k1 (by omega), g4 x k1 (by omega)])
      rcases Nat.le_total t u with c | c
      · rw [Nat.min_eq_left c]; simp [f3]
      · rw [Nat.min_eq_right c]; simp [g3]
/-- The first k numbers from s on, below e. -/
def btw (P : Nat → Bool) (M e : Nat) : Nat → Nat → List Nat
  | 0, _ => []
  | k + 1, s => match nx P M s with
    | some t => if t < e then t :: btw P M e k (t + 1) else []
    | none => []
theorem btw_more (P : Nat → Bool) (M e : Nat) : ∀ (k s : Nat), btw P M e k s <+: btw P M e (k + 1) s
  | 0, s => by rw [btw]; exact List.nil_prefix
  | k + 1, s => by
    rw [btw, btw]
    cases nx P M s with
    | none => exact List.prefix_rfl
    | some t =>
      simp only
      split
      · exact (List.cons_prefix_cons).mpr ⟨rfl, btw_more P M e k (t + 1)⟩
      · exact List.prefix_rfl
/-- Up to a place between and from it on they are the same. -/
theorem btw_split (P : Nat → Bool) (M e m : Nat) (hm : m ≤ e) : ∀ (k s : Nat), s ≤ m → btw P M e k s <+: btw P M m k s ++ btw P M e k m
  | 0, s, _ => by rw [btw]; exact List.nil_prefix
  | k + 1, s, h => by
    rw [btw, btw]
    cases hn : nx P M s with
    | none => exact List.nil_prefix
    | some t =>
      simp only
      by_cases c : t < e
      · rw [if_pos c]
        by_cases d : t < m
        · rw [if_pos d, List.cons_append]
          refine (List.cons_prefix_cons).mpr ⟨rfl, ?_⟩
          exact (btw_split P M e m hm k (t + 1) (by omega)).trans ((List.prefix_append_right_inj _).mpr (btw_more P M e k m))
        · rw [if_neg d, List.nil_append, btw, nx_same hn h (by omega)]
          simp only
          rw [if_pos c]
          exact List.prefix_rfl
      · rw [if_neg c]
        exact List.nil_prefix
theorem btw_len (P : Nat → Bool) (M e : Nat) : ∀ (k s : Nat), (btw P M e k s).length ≤ k
  | 0, s => by rw [btw]; simp
  | k + 1, s => by
    rw [btw]
    cases nx P M s with
    | none => simp
    | some t =>
      simp only
      split
      · have := btw_len P M e k (t + 1); simp; omega
      · simp
/-- The place from which the i-th is asked for. -/
def frm (s : Nat) (l : List Nat) : Nat → Nat
  | 0 => s
  | i + 1 => l.getD i 0 + 1
theorem btw_at (P : Nat → Bool) (M e : Nat) : ∀ (k s i t : Nat), (btw P M e k s)[i]? = some t → nx P M (frm s (btw P M e k s) i) = some t ∧ t < e
  | 0, s, i, t, h => by rw [btw] at h; simp at h
  | k + 1, s, i, t, h => by
    rw [btw] at h ⊢
    cases hn : nx P M s with
    | none => rw [hn] at h; simp at h
    | some x =>
      rw [hn] at h
      simp only at h ⊢
      split at h
      · rename_i c
        rw [if_pos c]
        cases i with
        | zero => simp at h; subst h; exact ⟨hn, c⟩
        | succ i =>
          simp at h
          have := btw_at P M e k (x + 1) i t h
          cases i with
          | zero => exact this
          | succ i => simpa [frm] using this
      · simp at h
theorem btw_end (P : Nat → Bool) (M e : Nat) : ∀ (k s : Nat), (btw P M e k s).length < k → ∀ t, nx P M (frm s (btw P M e k s) (btw P M e k s).length) = some t → e ≤ t
  | 0, s, h, t, _ => by omega
  | k + 1, s, h, t, ht => by
    rw [btw] at h ht
    cases hn : nx P M s with
    | none => rw [hn] at ht; simp only [List.length_nil, frm] at ht; rw [hn] at ht; cases ht
    | some x =>
      rw [hn] at h ht
      simp only at h ht
      by_cases c : x < e
      · rw [if_pos c] at h ht
        simp at h
        refine btw_end P M e k (x + 1) h t ?_
        rw [List.length_cons] at ht
        cases hl : (btw P M e k (x + 1)).length with
        | zero => rw [hl] at ht; simpa [frm] using ht
        | succ i => rw [hl] at ht; simpa [frm] using ht
      · rw [if_neg c] at ht
        simp only [List.length_nil, frm] at ht
        rw [hn] at ht
        injection ht with ht
        omega
end Go.Proofs.YteiiapnpdfgoaaaDoor.Due
