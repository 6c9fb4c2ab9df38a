/- What is read is right: no program's run in this text. -/
import Derived.Test.YthjfecniipifhaaDoorKCheck
namespace Go.Proofs.YthjfecniipifhaaDoor.Cro

theorem pow_in : ∀ j, j < 5 → ∀ i, i < 60 → (sp j).lo ≤ i → i ≤ (sp j).last → 2 ^ i ||| (sp j).full = (sp j).full := by decide +kernel
theorem sp_lo : ∀ j, j < 5 → (sp j).lo ≤ (sp j).last ∧ (sp j).last < 60 := by decide
theorem or_full {f : Sp} {x y : Nat} (hx : x ||| f.full = f.full) (hy : y ||| f.full = f.full) : (x ||| y) ||| f.full = f.full := by rw [Nat.or_assoc, hy, hx]
theorem bts_in {j : Nat} (hj : j < 5) (b s : Nat) : ∀ (k n x : Nat), (sp j).lo ≤ n → x ||| (sp j).full = (sp j).full → bts (sp j) b s k n x ||| (sp j).full = (sp j).full
  | 0, _, _, _, h => h
  | k + 1, n, x, hn, h => by
    have hl := sp_lo j hj
    rw [bts]
    split
    · refine bts_in hj b s k (n + s) _ (by omega) (or_full h ?_)
      split
      · exact pow_in j hj _ (by omega) (Nat.le_refl _) hl.1
      · exact pow_in j hj _ (by omega) hn (by omega)
    · exact h
theorem pow_ne (k : Nat) : 2 ^ k ≠ 0 := by have := Nat.two_pow_pos k; omega
theorem set_ok {j : Nat} (hj : j < 5) {i : It} (h : (sp j).holdsB i = true) : okS (sp j) ((sp j).set i) := by
  have h' := of_decide_eq_true h
  refine ⟨?_, bts_in hj _ _ _ _ _ h'.1 (by simp)⟩
  unfold Sp.set
  rw [bts, if_pos h'.2.1, bts_or]
  intro e
  have := (Nat.or_eq_zero_iff.mp e).1
  rw [Nat.zero_or] at this
  exact pow_ne _ this
theorem sets_or (f : Sp) : ∀ (l : List It) (x : Nat), sets f x l = x ||| sets f 0 l
  | [], x => by simp [sets]
  | i :: t, x => by
    rw [sets, sets, sets_or f t (x ||| f.set i), sets_or f t (0 ||| f.set i), Nat.zero_or, Nat.or_assoc]
theorem sets_append (f : Sp) : ∀ (l r : List It) (x : Nat), sets f x (l ++ r) = sets f (sets f x l) r
  | [], _, _ => rfl
  | i :: t, r, x => by rw [List.cons_append, sets, sets, sets_append f t r]
theorem sets_in {j : Nat} (hj : j < 5) : ∀ (l : List It) (x : Nat), l.all (sp j).holdsB = true → x ||| (sp j).full = (sp j).full → sets (sp j) x l ||| (sp j).full = (sp j).full
  | [], _, _, h => h
  | i :: t, x, ha, h => by
    simp only [List.all_cons, Bool.and_eq_true] at ha
    exact sets_in hj t _ ha.2 (or_full h (set_ok hj ha.1).2)
theorem itms_nil {f : Sp} {l : List (List UInt8)} {r : List It} (h : itms f l = some r) (hl : l ≠ []) : r ≠ [] := by
  cases l with
  | nil => exact absurd rfl hl
  | cons y t =>
    rw [itms] at h
    cases e1 : itm f y with
    | none => rw [e1] at h; cases h
    | some a =>
      cases e2 : itms f t with
      | none => rw [e1, e2] at h; cases h
      | some b =>
        rw [e1, e2] at h
        injection h with h
        rw [← h]
        simp
/-- What a word's items say, taken apart. -/
theorem fld_parts {f : Sp} {l : List (List UInt8)} (h : (fld f l).2 = 0) : ∃ r, itms f l = some r ∧ r.all f.holdsB = true ∧ fld f l = (sets f 0 r, 0) := by
  unfold fld at h ⊢
  cases e : itms f l with
  | none => rw [e] at h; simp at h
  | some r =>
    rw [e] at h
    simp only at h ⊢
    by_cases ha : r.all f.holdsB = true
    · rw [if_pos ha]
      exact ⟨r, rfl, ha, rfl⟩
    · rw [if_neg ha] at h
      simp at h
theorem fld_right {j : Nat} (hj : j < 5) {l : List (List UInt8)} (hl : l ≠ []) (h : (fld (sp j) l).2 = 0) : okS (sp j) (fld (sp j) l).1 := by
  obtain ⟨r, h1, h2, h3⟩ := fld_parts h
  rw [h3]
  have hr := itms_nil h1 hl
  refine ⟨?_, sets_in hj r 0 h2 (by simp)⟩
  cases r with
  | nil => exact absurd rfl hr
  | cons i t =>
    simp only [List.all_cons, Bool.and_eq_true] at h2
    rw [sets, sets_or]
    intro e
    have := (Nat.or_eq_zero_iff.mp e).1
    rw [Nat.zero_or] at this
    exact (set_ok hj h2.1).1 this
theorem star (j : Nat) : j < 5 → fld (sp j) (spl 44 [42]) = ((sp j).full, 0) := by
  intro hj
  match j, hj with
  | 0, _ => rfl
  | 1, _ => rfl
  | 2, _ => rfl
  | 3, _ => rfl
  | 4, _ => rfl
theorem scan_none {ws : List (List UInt8)} : ∀ {n i : Nat}, scan ws n i = none → ∀ j, i ≤ j → j < i + n → (F ws j).2 = 0
  | 0, i, _, j, h1, h2 => by omega
  | n + 1, i, h, j, h1, h2 => by
    rw [scan] at h
    by_cases e : (F ws i).2 = 0
    · rw [if_pos e] at h
      by_cases e2 : j = i
      · rw [e2]; exact e
      · exact scan_none h j (by omega) (by omega)
    · rw [if_neg e] at h
      cases h
theorem scan_some {ws : List (List UInt8)} : ∀ {n i : Nat} {x : Nat × Int}, scan ws n i = some x → x.2 ≠ 0
  | 0, i, x, h => by cases h
  | n + 1, i, x, h => by
    rw [scan] at h
    by_cases e : (F ws i).2 = 0
    · rw [if_pos e] at h
      exact scan_some h
    · rw [if_neg e] at h
      injection h with h
      subst h
      exact e
/-- What 'parse' gives, taken apart. -/
theorem parse_parts {l : List UInt8} (h : (parse l).2.2 = 0) : l.length ≤ 256 ∧ (wds [] l).length = 5 ∧ (∀ j, j < 5 → (F (wds [] l) j).2 = 0) ∧
    parse l = (⟨(F (wds [] l) 0).1, (F (wds [] l) 1).1, (F (wds [] l) 2).1, (F (wds [] l) 3).1, (F (wds [] l) 4).1, (wds [] l).getD 2 [] == [42], (wds [] l).getD 4 [] == [42]⟩, 0, 0) := by
  unfold parse at h ⊢
  by_cases h1 : 256 < l.length
  · rw [if_pos h1] at h
    simp at h
  · rw [if_neg h1] at h ⊢
    by_cases h2 : (wds [] l).length ≠ 5
    · rw [if_pos h2] at h
      simp at h
    · rw [if_neg h2] at h ⊢
      cases e : scan (wds [] l) 5 0 with
      | none => exact ⟨by omega, by omega, fun j hj => scan_none e j (by omega) (by omega), rfl⟩
      | some x =>
        rw [e] at h
        exact absurd h (scan_some e)
theorem parse_bad {l : List UInt8} (h : (parse l).2.2 ≠ 0) : (parse l).1 = zero := by
  unfold parse at h ⊢
  split
  · rfl
  · split
    · rfl
    · rename_i h1 h2
      rw [if_neg h1, if_neg h2] at h
      split
      · rfl
      · rename_i e
        rw [e] at h
        exact absurd rfl h
theorem parse_right {l : List UInt8} (h : (parse l).2.2 = 0) : (parse l).1.right := by
  obtain ⟨_, h5, hF, e⟩ := parse_parts h
  have hw : ∀ j, spl 44 ((wds [] l).getD j []) ≠ [] := fun j => spl_ne 44 _
  have ok : ∀ j, j < 5 → okS (sp j) (F (wds [] l) j).1 := fun j hj => fld_right hj (hw j) (hF j hj)
  rw [e]
  refine ⟨⟨ok 0 (by omega), ok 1 (by omega), ok 2 (by omega), ok 3 (by omega), ok 4 (by omega)⟩, fun ha => ?_, fun ha => ?_⟩
  · show (F (wds [] l) 2).1 = _
    have : (wds [] l).getD 2 [] = [42] := by simpa using ha
    unfold F
    rw [this, star 2 (by omega)]
  · show (F (wds [] l) 4).1 = _
    have : (wds [] l).getD 4 [] = [42] := by simpa using ha
    unfold F
    rw [this, star 4 (by omega)]
theorem parse_ok64 (l : List UInt8) : (parse l).1.ok := by
  by_cases h : (parse l).2.2 = 0
  · obtain ⟨_, _, _, e⟩ := parse_parts h
    rw [e]
    have F60 : ∀ j, (F (wds [] l) j).1 < 18446744073709551616 := fun j => Nat.lt_of_lt_of_le (F_lt (wds [] l) j) (by decide)
    exact ⟨F60 0, F60 1, F60 2, F60 3, F60 4⟩
  · rw [parse_bad h]
    exact ⟨by decide, by decide, by decide, by decide, by decide⟩
end Go.Proofs.YthjfecniipifhaaDoor.Cro
