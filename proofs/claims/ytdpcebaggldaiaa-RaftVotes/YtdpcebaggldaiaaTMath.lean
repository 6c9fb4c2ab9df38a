/- Logs as lists: which are right, how far two agree, what is put where. -/
import Derived.Test.YtdpcebaggldaiaaProg
namespace Go.Proofs.Ytdpcebaggldaiaa
namespace Trl
set_option linter.unusedVariables false

/-- An entry: its term and its data. -/
abbrev En := Int × ByteArray
def top : Int := 1099511627776
def one (k : Int) (e : En) : Bool := decide (1 ≤ e.1) && decide (k ≤ e.1) && decide (e.1 ≤ 1099511627776) && decide (e.2.size ≤ 4096)
/-- Entries that may stand behind one of the term k. -/
def foll : Int → List En → Bool
  | _, [] => true
  | k, e :: l => one k e && foll e.1 l
/-- The term of the last one, or k. -/
def lastT (k : Int) (l : List En) : Int := (l.getLast?.map (·.1)).getD k
theorem lastT_nil (k : Int) : lastT k [] = k := rfl
theorem lastT_cons (k : Int) (e : En) (l : List En) : lastT k (e :: l) = lastT e.1 l := by
  unfold lastT
  cases l with
  | nil => rfl
  | cons a l => rw [List.getLast?_cons_cons]; cases h : (a :: l).getLast? with
    | none => simp at h
    | some x => rfl
theorem lastT_snoc (k : Int) (l : List En) (e : En) : lastT k (l ++ [e]) = e.1 := by simp [lastT]
theorem lastT_append : ∀ (k : Int) (l m : List En), lastT k (l ++ m) = lastT (lastT k l) m
  | k, [], m => rfl
  | k, e :: l, m => by rw [List.cons_append, lastT_cons, lastT_cons, lastT_append]
theorem lastT_at {k : Int} {l : List En} {i : Nat} {x : En} (h : l[i]? = some x) : lastT k (l.take (i + 1)) = x.1 := by
  rw [List.take_add_one, h]
  exact lastT_snoc _ _ _
theorem foll_append : ∀ (k : Int) (l m : List En), foll k (l ++ m) = (foll k l && foll (lastT k l) m)
  | k, [], m => by simp [foll, lastT]
  | k, e :: l, m => by rw [List.cons_append, foll, foll, lastT_cons, foll_append, Bool.and_assoc]
theorem foll_take {k : Int} {l : List En} {i : Nat} {x : En} (h : l[i]? = some x) : foll k (l.take (i + 1)) = (foll k (l.take i) && one (lastT k (l.take i)) x) := by
  rw [List.take_add_one, h, foll_append]
  show (_ && foll _ [x]) = _
  simp [foll]
theorem foll_cut {k : Int} {l : List En} (j : Nat) (h : foll k (l.take j) = false) : foll k l = false := by
  have := foll_append k (l.take j) (l.drop j)
  rw [List.take_append_drop, h] at this
  exact this
theorem foll_pre {k : Int} {l : List En} (h : foll k l = true) (j : Nat) : foll k (l.take j) = true := by
  have := foll_append k (l.take j) (l.drop j)
  rw [List.take_append_drop, h] at this
  exact (Bool.and_eq_true_iff.1 this.symm).1
theorem foll_suf {k : Int} {l : List En} (h : foll k l = true) (j : Nat) : foll (lastT k (l.take j)) (l.drop j) = true := by
  have := foll_append k (l.take j) (l.drop j)
  rw [List.take_append_drop, h] at this
  exact (Bool.and_eq_true_iff.1 this.symm).2
/-- A right log. -/
def chk (b k : Int) (l : List En) : Bool :=
  !(decide (b < 0) || decide (1099511627776 < b) || decide (k < 0) || decide (1099511627776 < k)) && !(decide (b = 0) && !decide (k = 0)) && decide (l.length ≤ 4096) && decide (b + (l.length : Int) ≤ 1099511627776) && foll k l
theorem chk_iff (b k : Int) (l : List En) : chk b k l = true ↔ (0 ≤ b ∧ b ≤ 1099511627776 ∧ 0 ≤ k ∧ k ≤ 1099511627776) ∧ (b = 0 → k = 0) ∧ l.length ≤ 4096 ∧ b + (l.length : Int) ≤ 1099511627776 ∧ foll k l = true := by
  unfold chk
  simp only [Bool.and_eq_true, Bool.not_eq_true', Bool.or_eq_false_iff, decide_eq_false_iff_not, decide_eq_true_eq, Bool.and_eq_false_iff, Bool.not_eq_false']
  constructor
  · rintro ⟨⟨⟨⟨⟨⟨⟨h1, h2⟩, h3⟩, h4⟩, h5⟩, h6⟩, h7⟩, h8⟩
    refine ⟨⟨by omega, by omega, by omega, by omega⟩, fun e => ?_, h6, h7, h8⟩
    rcases h5 with h5 | h5
    · exact absurd e h5
    · exact h5
  · rintro ⟨⟨h1, h2, h3, h4⟩, h5, h6, h7, h8⟩
    refine ⟨⟨⟨⟨⟨⟨⟨by omega, by omega⟩, by omega⟩, by omega⟩, ?_⟩, h6⟩, h7⟩, h8⟩
    by_cases e : b = 0
    · exact .inr (h5 e)
    · exact .inl e
theorem chk_pre {b k : Int} {l : List En} (h : chk b k l = true) (j : Nat) : chk b k (l.take j) = true := by
  obtain ⟨h1, h2, h3, h4, h5⟩ := (chk_iff b k l).1 h
  have hl : (l.take j).length ≤ l.length := by rw [List.length_take]; omega
  exact (chk_iff _ _ _).2 ⟨h1, h2, by omega, by omega, foll_pre h5 j⟩
/-- How many, from the first on, have the same terms. -/
def agr : List En → List En → Nat
  | x :: l, y :: m => if x.1 = y.1 then agr l m + 1 else 0
  | _, _ => 0
theorem agr_le : ∀ l m : List En, agr l m ≤ l.length ∧ agr l m ≤ m.length
  | [], m => by simp [agr]
  | x :: l, [] => by simp [agr]
  | x :: l, y :: m => by
    have := agr_le l m
    unfold agr
    split <;> simp <;> omega
/-- So far they agree, and there they don't. -/
theorem agr_is : ∀ {l m : List En} (n : Nat), (∀ i, i < n → ∃ x y, l[i]? = some x ∧ m[i]? = some y ∧ x.1 = y.1) → (l.length ≤ n ∨ m.length ≤ n ∨ ∃ x y, l[n]? = some x ∧ m[n]? = some y ∧ x.1 ≠ y.1) → agr l m = n
  | [], m, n, h, _ => by
    cases n with
    | zero => simp [agr]
    | succ n => obtain ⟨x, y, h1, _⟩ := h 0 (by omega); simp at h1
  | x :: l, [], n, h, _ => by
    cases n with
    | zero => simp [agr]
    | succ n => obtain ⟨x, y, _, h1, _⟩ := h 0 (by omega); simp at h1
  | x :: l, y :: m, 0, _, h => by
    unfold agr
    rcases h with h | h | ⟨x', y', h1, h2, h3⟩
    · simp at h
    · simp at h
    · simp at h1 h2; subst h1 h2; rw [if_neg h3]
  | x :: l, y :: m, n + 1, h, h' => by
    obtain ⟨x', y', h1, h2, h3⟩ := h 0 (by omega)
    simp at h1 h2
    subst h1 h2
    unfold agr
    rw [if_pos h3, agr_is n (fun i hi => by simpa using h (i + 1) (by omega)) (by simpa using h')]
theorem agr_at {l m : List En} {i : Nat} (h : i < agr l m) : ∃ x y, l[i]? = some x ∧ m[i]? = some y ∧ x.1 = y.1 := by
  induction l generalizing m i with
  | nil => simp [agr] at h
  | cons x l ih =>
    cases m with
    | nil => simp [agr] at h
    | cons y m =>
      unfold agr at h
      split at h
      · rename_i e
        cases i with
        | zero => exact ⟨x, y, rfl, rfl, e⟩
        | succ i => simpa using ih (m := m) (i := i) (by omega)
      · omega
theorem agr_not {l m : List En} : l.length ≤ agr l m ∨ m.length ≤ agr l m ∨ ∃ x y, l[agr l m]? = some x ∧ m[agr l m]? = some y ∧ x.1 ≠ y.1 := by
  induction l generalizing m with
  | nil => exact .inl (by simp)
  | cons x l ih =>
    cases m with
    | nil => exact .inr (.inl (by simp))
    | cons y m =>
      unfold agr
      split
      · rename_i e
        rcases ih (m := m) with h | h | ⟨x', y', h1, h2, h3⟩
        · exact .inl (by simp; omega)
        · exact .inr (.inl (by simp; omega))
        · exact .inr (.inr ⟨x', y', by simpa using h1, by simpa using h2, h3⟩)
      · rename_i e
        exact .inr (.inr ⟨x, y, rfl, rfl, e⟩)
/-- The term of the number n. -/
def tm (b k : Int) (l : List En) (n : Int) : Int := lastT k (l.take (n - b).toNat)
/-- What entries make of a log, behind a number that it has. -/
def put (b k : Int) (l : List En) (p : Int) (es : List En) (fx : Int) : Option (List En) :=
  if agr (l.drop (p - b).toNat) es = es.length then some l
  else if p + (agr (l.drop (p - b).toNat) es : Nat) + 1 ≤ fx then none
  else if chk b k (l.take ((p - b).toNat + agr (l.drop (p - b).toNat) es) ++ es.drop (agr (l.drop (p - b).toNat) es)) = true then some (l.take ((p - b).toNat + agr (l.drop (p - b).toNat) es) ++ es.drop (agr (l.drop (p - b).toNat) es)) else none
/-- Put, behind a number from the base on. -/
def putB (b k : Int) (l : List En) (p q : Int) (es : List En) (fx : Int) : Option (List En) :=
  if b ≤ p ∧ p ≤ b + (l.length : Int) ∧ tm b k l p = q then put b k l p es fx else none
/-- Put. -/
def Put (b k : Int) (l : List En) (p q : Int) (es : List En) (fx : Int) : Option (List En) :=
  if !chk b k l || decide (p < 0) || decide (q < 0) || !foll q es then none
  else if p < b then
    if (es.length : Int) < b - p then some l
    else if ((es[(b - p).toNat - 1]?).map (·.1)).getD 0 = k then putB b k l b k (es.drop (b - p).toNat) fx else none
  else putB b k l p q es fx
end Trl
end Go.Proofs.Ytdpcebaggldaiaa
