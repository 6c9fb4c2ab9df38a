/- The document's item, of a text's rest: it is the item of the first of the pieces that commas part. No program's run in this text. -/
import Derived.Test.YthjfecniipifhaaDoorKRefDigits
namespace Go.Proofs.YthjfecniipifhaaDoor.Cro
theorem nm_some {l : List UInt8} {n k : Nat} (h : nm l = some (n, k)) : k ≤ l.length ∧ 1 ≤ k ∧ num (l.take k) = some n ∧ ∀ b, l[k]? = some b → dig b = false := by
  unfold nm at h
  split at h
  · rename_i c
    obtain ⟨h1, h2, h3, h4⟩ := lead_fact 5 l
    simp only [Option.some.injEq, Prod.mk.injEq] at h
    obtain ⟨rfl, rfl⟩ := h
    refine ⟨h2, c.1, ?_, ?_⟩
    · unfold num
      rw [if_pos ⟨by rw [List.length_take]; omega, by rw [List.length_take]; omega, h3⟩]
    · rcases h4 with h | h
      · omega
      · exact h
  · cases h
theorem num_dig {d : List UInt8} {n : Nat} (h : num d = some n) : 1 ≤ d.length ∧ d.length ≤ 4 ∧ d.all dig = true ∧ n = val d := by
  unfold num at h
  split at h
  · rename_i c
    injection h with h
    exact ⟨c.1, c.2.1, c.2.2, h.symm⟩
  · cases h
theorem nm_of {d t : List UInt8} {n : Nat} (h : num d = some n) (ht : ∀ b, t[0]? = some b → dig b = false) : nm (d ++ t) = some (n, d.length) := by
  obtain ⟨c1, c2, c3, rfl⟩ := num_dig h
  have e := lead_is 5 d.length (d ++ t) (by omega) (by simp) (by simp [c3]) (.inr (fun b hb => ht b (by rw [List.getElem?_append_right (by omega)] at hb; simpa using hb)))
  unfold nm
  rw [e, if_pos ⟨c1, c2⟩]
  simp
theorem not_num {c : UInt8} (hc : dig c = false) {d : List UInt8} {n : Nat} (h : num d = some n) : c ∉ d := fun hm => by
  have := List.all_eq_true.mp (num_dig h).2.2.1 c hm
  rw [hc] at this
  cases this
theorem num_not {c : UInt8} (hc : dig c = false) {d : List UInt8} (hm : c ∈ d) : num d = none := by
  cases h : num d with
  | none => rfl
  | some n => exact absurd hm (not_num hc h)
theorem d44 : dig 44 = false := by decide
theorem d45 : dig 45 = false := by decide
theorem d47 : dig 47 = false := by decide
theorem d42 : dig 42 = false := by decide
/-- What may take a step, as a text. -/
def Hd (f : Sp) (h : List UInt8) (a b : Nat) : Prop := (h = [42] ∧ a = f.lo ∧ b = f.hi) ∨ ∃ d e, h = d ++ 45 :: e ∧ num d = some a ∧ num e = some b
/-- An item, as a text. -/
def Gi (f : Sp) (p : List UInt8) (t : It) : Prop := (∃ n, num p = some n ∧ t = ⟨n, n, 1⟩) ∨ ∃ h a b, Hd f h a b ∧ ((p = h ∧ t = ⟨a, b, 1⟩) ∨ ∃ s n, p = h ++ 47 :: s ∧ num s = some n ∧ t = ⟨a, b, n⟩)
theorem Hd.not {f : Sp} {h : List UInt8} {a b : Nat} (H : Hd f h a b) {c : UInt8} (hc : dig c = false) (h1 : c ≠ 42) (h2 : c ≠ 45) : c ∉ h := by
  rcases H with ⟨rfl, _, _⟩ | ⟨d, e, rfl, hd, he⟩
  · simpa using h1
  · intro hm
    rcases List.mem_append.mp hm with hm | hm
    · exact not_num hc hd hm
    · rcases List.mem_cons.mp hm with hm | hm
      · exact h2 hm
      · exact not_num hc he hm
theorem Hd.bnds {f : Sp} {h : List UInt8} {a b : Nat} (H : Hd f h a b) : bnds f h = some (a, b) ∧ num h = none := by
  unfold Cro.bnds
  rcases H with ⟨rfl, rfl, rfl⟩ | ⟨d, e, rfl, hd, he⟩
  · exact ⟨by rw [if_pos rfl], num_not d42 (by simp)⟩
  · refine ⟨?_, num_not d45 (by simp)⟩
    have hne : ¬ d ++ 45 :: e = [42] := fun hh => by
      have : (45 : UInt8) ∈ [(42 : UInt8)] := by rw [← hh]; simp
      simp at this
    rw [if_neg hne, cut_yes (not_num d45 hd)]
    simp only [hd, he]
theorem bnds_hd {f : Sp} {h : List UInt8} {a b : Nat} (H : bnds f h = some (a, b)) : Hd f h a b := by
  unfold Cro.bnds at H
  by_cases c : h = [42]
  · rw [if_pos c] at H
    simp only [Option.some.injEq, Prod.mk.injEq] at H
    exact .inl ⟨c, H.1.symm, H.2.symm⟩
  · rw [if_neg c] at H
    rcases first 45 h with ⟨h1, _⟩ | ⟨d, e, h1, h2, _⟩
    · rw [cut_no h1] at H
      have hn : num [] = none := rfl
      simp only [hn] at H
      split at H
      · rename_i e1 e2
        cases e2
      · cases H
    · subst h1
      rw [cut_yes h2] at H
      simp only at H
      cases hd : num d with
      | none => rw [hd] at H; cases H
      | some x =>
        cases he : num e with
        | none => rw [hd, he] at H; cases H
        | some y =>
          rw [hd, he] at H
          simp only [Option.some.injEq, Prod.mk.injEq] at H
          obtain ⟨rfl, rfl⟩ := H
          exact .inr ⟨d, e, rfl, hd, he⟩
theorem Gi.itm {f : Sp} {p : List UInt8} {t : It} (H : Gi f p t) : itm f p = some t := by
  unfold Cro.itm
  rcases H with ⟨n, hn, rfl⟩ | ⟨h, a, b, hh, ⟨rfl, rfl⟩ | ⟨s, n, rfl, hn, rfl⟩⟩
  · rw [cut_no (not_num d47 hn)]
    simp [hn]
  · rw [cut_no (hh.not d47 (by decide) (by decide))]
    simp [hh.bnds.1, hh.bnds.2]
  · rw [cut_yes (hh.not d47 (by decide) (by decide))]
    simp [hh.bnds.1, hn]
theorem itm_gi {f : Sp} {p : List UInt8} {t : It} (H : itm f p = some t) : Gi f p t := by
  unfold Cro.itm at H
  rcases first 47 p with ⟨h1, _⟩ | ⟨h, s, h1, h2, _⟩
  · rw [cut_no h1] at H
    simp only [Bool.false_eq_true, if_false] at H
    cases hn : num p with
    | some n => rw [hn] at H; injection H with H; exact .inl ⟨n, hn, H.symm⟩
    | none =>
      rw [hn] at H
      simp only at H
      cases hb : bnds f p with
      | none => rw [hb] at H; cases H
      | some x =>
        rw [hb] at H
        obtain ⟨a, b⟩ := x
        injection H with H
        exact .inr ⟨p, a, b, bnds_hd hb, .inl ⟨rfl, H.symm⟩⟩
  · subst h1
    rw [cut_yes h2] at H
    simp only [if_true] at H
    cases hb : bnds f h with
    | none => rw [hb] at H; cases H
    | some x =>
      obtain ⟨a, b⟩ := x
      cases hn : num s with
      | none => rw [hb, hn] at H; cases H
      | some n =>
        rw [hb, hn] at H
        injection H with H
        exact .inr ⟨h, a, b, bnds_hd hb, .inr ⟨s, n, rfl, hn, H.symm⟩⟩
theorem Gi.not {f : Sp} {p : List UInt8} {t : It} (H : Gi f p t) : 44 ∉ p := by
  rcases H with ⟨n, hn, rfl⟩ | ⟨h, a, b, hh, ⟨rfl, rfl⟩ | ⟨s, n, rfl, hn, rfl⟩⟩
  · exact not_num d44 hn
  · exact hh.not d44 (by decide) (by decide)
  · intro hm
    rcases List.mem_append.mp hm with hm | hm
    · exact hh.not d44 (by decide) (by decide) hm
    · rcases List.mem_cons.mp hm with hm | hm
      · cases hm
      · exact not_num d44 hn hm
/-- The head of the document's item: from, to, whether a step may follow, how many bytes. -/
def hdR (f : Sp) (l : List UInt8) : Option (Nat × Nat × Bool × Nat) :=
  if l[0]? = some 42 then some (f.lo, f.hi, true, 1) else
  match nm l with
  | none => none
  | some (a, k) => if l[k]? = some 45 then (match nm (l.drop (k + 1)) with
    | none => none
    | some (b, m) => some (a, b, true, k + 1 + m)) else some (a, a, false, k)
def itR (f : Sp) (l : List UInt8) : Option (It × Nat) :=
  match hdR f l with
  | none => none
  | some (a, b, r, k) => if r = true ∧ l[k]? = some 47 then (match nm (l.drop (k + 1)) with
    | none => none
    | some (n, m) => some (⟨a, b, n⟩, k + 1 + m)) else some (⟨a, b, 1⟩, k)
/-- The document's item. -/
def itO (f : Sp) (l : List UInt8) : Option (It × Nat) :=
  match itR f l with
  | none => none
  | some (t, k) => if l[k]? = none ∨ l[k]? = some 44 then some (t, k) else none
theorem take_cut {l : List UInt8} {k : Nat} {c : UInt8} (h : l[k]? = some c) (m : Nat) : l.take (k + 1 + m) = l.take k ++ c :: (l.drop (k + 1)).take m := by
  have hk : k < l.length := by
    rcases Nat.lt_or_ge k l.length with h' | h'
    · exact h'
    · rw [List.getElem?_eq_none h'] at h; cases h
  rw [List.take_add, List.take_add_one, h]
  simp
theorem hd_some {f : Sp} {l : List UInt8} {a b k : Nat} {r : Bool} (h : hdR f l = some (a, b, r, k)) : k ≤ l.length ∧ ((r = true ∧ Hd f (l.take k) a b) ∨ (r = false ∧ num (l.take k) = some a ∧ b = a)) := by
  unfold hdR at h
  split at h
  · rename_i c
    simp only [Option.some.injEq, Prod.mk.injEq] at h
    obtain ⟨rfl, rfl, rfl, rfl⟩ := h
    cases l with
    | nil => simp at c
    | cons x t =>
      simp at c
      subst c
      exact ⟨by simp, .inl ⟨rfl, .inl ⟨by simp, rfl, rfl⟩⟩⟩
  · split at h
    · cases h
    · rename_i x q hn
      obtain ⟨n1, n2, n3, n4⟩ := nm_some hn
      split at h
      · rename_i c
        split at h
        · cases h
        · rename_i y m hm
          obtain ⟨m1, m2, m3, m4⟩ := nm_some hm
          simp only [Option.some.injEq, Prod.mk.injEq] at h
          obtain ⟨rfl, rfl, rfl, rfl⟩ := h
          rw [List.length_drop] at m1
          have hk : q < l.length := by
            rcases Nat.lt_or_ge q l.length with h' | h'
            · exact h'
            · rw [List.getElem?_eq_none h'] at c; cases c
          exact ⟨by omega, .inl ⟨rfl, .inr ⟨_, _, take_cut c m, n3, m3⟩⟩⟩
      · simp only [Option.some.injEq, Prod.mk.injEq] at h
        obtain ⟨rfl, rfl, rfl, rfl⟩ := h
        exact ⟨n1, .inr ⟨rfl, n3, rfl⟩⟩
theorem itO_some {f : Sp} {l : List UInt8} {t : It} {k : Nat} (h : itO f l = some (t, k)) : k ≤ l.length ∧ Gi f (l.take k) t ∧ (l[k]? = none ∨ l[k]? = some 44) := by
  unfold itO at h
  split at h
  · cases h
  · rename_i t' k' hR
    split at h
    · rename_i c
      simp only [Option.some.injEq, Prod.mk.injEq] at h
      obtain ⟨rfl, rfl⟩ := h
      unfold itR at hR
      split at hR
      · cases hR
      · rename_i a b r q hh
        obtain ⟨g1, g2⟩ := hd_some hh
        split at hR
        · rename_i c2
          split at hR
          · cases hR
          · rename_i n m hm
            obtain ⟨m1, m2, m3, m4⟩ := nm_some hm
            simp only [Option.some.injEq, Prod.mk.injEq] at hR
            obtain ⟨rfl, rfl⟩ := hR
            rw [List.length_drop] at m1
            rcases g2 with ⟨_, g⟩ | ⟨g, _⟩
            · have hk : q < l.length := by
                rcases Nat.lt_or_ge q l.length with h' | h'
                · exact h'
                · have := c2.2
                  rw [List.getElem?_eq_none h'] at this; cases this
              exact ⟨by omega, .inr ⟨_, _, _, g, .inr ⟨_, _, take_cut c2.2 m, m3, rfl⟩⟩, c⟩
            · rw [g] at c2
              cases c2.1
        · simp only [Option.some.injEq, Prod.mk.injEq] at hR
          obtain ⟨rfl, rfl⟩ := hR
          rcases g2 with ⟨_, g⟩ | ⟨_, g, rfl⟩
          · exact ⟨g1, .inr ⟨_, _, _, g, .inl ⟨rfl, rfl⟩⟩, c⟩
          · exact ⟨g1, .inl ⟨_, g, rfl⟩, c⟩
    · cases h
theorem at_end (d t : List UInt8) : (d ++ t)[d.length]? = t[0]? := by rw [List.getElem?_append_right (by omega)]; simp
theorem num_head {d : List UInt8} {n : Nat} (h : num d = some n) (t : List UInt8) {c : UInt8} (hc : dig c = false) : ¬ (d ++ t)[0]? = some c := by
  have h1 := (num_dig h).1
  cases d with
  | nil => simp at h1
  | cons x r =>
    intro e
    simp at e
    subst e
    exact not_num hc h (by simp)
theorem hd_of {f : Sp} {h : List UInt8} {a b : Nat} (H : Hd f h a b) (t : List UInt8) (ht : ∀ b, t[0]? = some b → dig b = false) : hdR f (h ++ t) = some (a, b, true, h.length) := by
  unfold hdR
  rcases H with ⟨rfl, rfl, rfl⟩ | ⟨d, e, rfl, hd, he⟩
  · simp
  · rw [List.append_assoc, if_neg (num_head hd _ d42), nm_of hd (fun b hb => by simp at hb; rw [← hb]; exact d45)]
    simp only [at_end]
    rw [if_pos (by simp)]
    have e1 : (d ++ (45 :: e ++ t)).drop (d.length + 1) = e ++ t := by simp
    rw [e1, nm_of he ht]
    simp
    omega
theorem itO_of {f : Sp} {p : List UInt8} {t : It} (H : Gi f p t) (r : List UInt8) (hr : r[0]? = none ∨ r[0]? = some 44) : itO f (p ++ r) = some (t, p.length) := by
  have hrd : ∀ b, r[0]? = some b → dig b = false := fun b hb => by
    rcases hr with h | h
    · rw [h] at hb; cases hb
    · rw [h] at hb; injection hb with hb; rw [← hb]; exact d44
  have hr2 : ∀ c : UInt8, c ≠ 44 → ¬ r[0]? = some c := fun c hc e => by
    rcases hr with h | h
    · rw [h] at e; cases e
    · rw [h] at e; injection e with e; exact hc e.symm
  have key : itR f (p ++ r) = some (t, p.length) := by
    unfold itR
    rcases H with ⟨n, hn, rfl⟩ | ⟨h, a, b, hh, ⟨rfl, rfl⟩ | ⟨s, n, rfl, hn, rfl⟩⟩
    · have e : hdR f (p ++ r) = some (n, n, false, p.length) := by
        unfold hdR
        rw [if_neg (num_head hn _ d42), nm_of hn hrd]
        simp only [at_end]
        rw [if_neg (hr2 45 (by decide))]
      rw [e]
      simp
    · rw [hd_of hh r hrd]
      simp only [at_end]
      rw [if_neg (fun e => hr2 47 (by decide) e.2)]
    · rw [List.append_assoc, hd_of hh _ (fun b hb => by simp at hb; rw [← hb]; exact d47)]
      simp only [at_end]
      rw [if_pos ⟨trivial, by simp⟩]
      have e1 : (h ++ (47 :: s ++ r)).drop (h.length + 1) = s ++ r := by simp
      rw [e1, nm_of hn hrd]
      simp
      omega
  unfold itO
  rw [key]
  simp only [at_end]
  rw [if_pos hr]
/-- The document's item of a text's rest is the item of the piece ahead of the next comma. -/
theorem item_is (f : Sp) {p r : List UInt8} (hp : 44 ∉ p) (hr : r = [] ∨ ∃ r', r = 44 :: r') : itO f (p ++ r) = (itm f p).map (fun t => (t, p.length)) := by
  have hr0 : r[0]? = none ∨ r[0]? = some 44 := by
    rcases hr with rfl | ⟨r', rfl⟩
    · exact .inl rfl
    · exact .inr rfl
  cases h : itm f p with
  | some t => rw [itO_of (itm_gi h) r hr0]; rfl
  | none =>
    cases ho : itO f (p ++ r) with
    | none => rfl
    | some x =>
      obtain ⟨t, k⟩ := x
      obtain ⟨h1, h2, h3⟩ := itO_some ho
      have hk : k = p.length := by
        rcases Nat.lt_trichotomy k p.length with hlt | he | hgt
        · rw [List.getElem?_append_left hlt, List.getElem?_eq_getElem hlt] at h3
          rcases h3 with h3 | h3
          · cases h3
          · injection h3 with h3
            exact absurd (h3 ▸ List.getElem_mem hlt) hp
        · exact he
        · rcases hr with rfl | ⟨r', rfl⟩
          · simp at h1; omega
          · refine absurd ?_ h2.not
            have : (p ++ 44 :: r').take k = p ++ (44 :: r').take (k - p.length) := by rw [List.take_append, List.take_of_length_le (by omega)]
            rw [this]
            obtain ⟨q, hq⟩ : ∃ q, k - p.length = q + 1 := ⟨k - p.length - 1, by omega⟩
            rw [hq]
            simp
      subst hk
      rw [List.take_left'  rfl] at h2
      rw [h2.itm] at h
      cases h
theorem spl_cut (c : UInt8) (l : List UInt8) : ∃ p r, l = p ++ r ∧ c ∉ p ∧ ((r = [] ∧ spl c l = [p]) ∨ ∃ r', r = c :: r' ∧ spl c l = p :: spl c r') := by
  rcases first c l with ⟨h, _⟩ | ⟨a, r, rfl, h, _⟩
  · exact ⟨l, [], by simp, h, .inl ⟨rfl, spl_no h⟩⟩
  · exact ⟨a, c :: r, rfl, h, .inr ⟨r, rfl, spl_yes h⟩⟩
end Go.Proofs.YthjfecniipifhaaDoor.Cro
