/- Logs as lists: which are right, how far two agree, what is put where. Configurations and the sets that win over them: the mathematics. Nodes and messages as plain values: what a node is, does and sends. One voice a term; the answers that the document fixes. What a push makes of a node: the program's words and the document's are one. -/
import Derived.Test.YtdpcebaggldaiaaProg
namespace Go.Proofs.Ytdpcebaggldaiaa
namespace Trl
set_option linter.unusedVariables false

/-- An entry: its term and its data. -/
abbrev En := Int × ByteArray
def top : Int := 1099511627776
def one (k : Int) (e : En) : Bool := decide (1 ≤ e.1) && decide (k ≤ e.1) && decide (e.1 ≤ 1099511627776) && decide (e.2.size ≤ 4096)
/-- Entries that may stand behind one of the term k. -/
def foll : Int → List En → Bool
  | _, [] => true
  | k, e :: l => one k e && foll e.1 l
/-- The term of the last one, or k. -/
def lastT (k : Int) (l : List En) : Int := (l.getLast?.map (·.1)).getD k
theorem lastT_nil (k : Int) : lastT k [] = k := rfl
theorem lastT_cons (k : Int) (e : En) (l : List En) : lastT k (e :: l) = lastT e.1 l := by
  unfold lastT
  cases l with
  | nil => rfl
  | cons a l => rw [List.getLast?_cons_cons]; cases h : (a :: l).getLast? with
    | none => simp at h
    | some x => rfl
theorem lastT_snoc (k : Int) (l : List En) (e : En) : lastT k (l ++ [e]) = e.1 := by simp [lastT]
theorem lastT_append : ∀ (k : Int) (l m : List En), lastT k (l ++ m) = lastT (lastT k l) m
  | k, [], m => rfl
  | k, e :: l, m => by rw [List.cons_append, lastT_cons, lastT_cons, lastT_append]
theorem lastT_at {k : Int} {l : List En} {i : Nat} {x : En} (h : l[i]? = some x) : lastT k (l.take (i + 1)) = x.1 := by
  rw [List.take_add_one, h]
  exact lastT_snoc _ _ _
theorem foll_append : ∀ (k : Int) (l m : List En), foll k (l ++ m) = (foll k l && foll (lastT k l) m)
  | k, [], m => by simp [foll, lastT]
  | k, e :: l, m => by rw [List.cons_append, foll, foll, lastT_cons, foll_append, Bool.and_assoc]
theorem foll_take {k : Int} {l : List En} {i : Nat} {x : En} (h : l[i]? = some x) : foll k (l.take (i + 1)) = (foll k (l.take i) && one (lastT k (l.take i)) x) := by
  rw [List.take_add_one, h, foll_append]
  show (_ && foll _ [x]) = _
  simp [foll]
theorem foll_cut {k : Int} {l : List En} (j : Nat) (h : foll k (l.take j) = false) : foll k l = false := by
  have := foll_append k (l.take j) (l.drop j)
  rw [List.take_append_drop, h] at this
  exact this
theorem foll_pre {k : Int} {l : List En} (h : foll k l = true) (j : Nat) : foll k (l.take j) = true := by
  have := foll_append k (l.take j) (l.drop j)
  rw [List.take_append_drop, h] at this
  exact (Bool.and_eq_true_iff.1 this.symm).1
theorem foll_suf {k : Int} {l : List En} (h : foll k l = true) (j : Nat) : foll (lastT k (l.take j)) (l.drop j) = true := by
  have := foll_append k (l.take j) (l.drop j)
  rw [List.take_append_drop, h] at this
  exact (Bool.and_eq_true_iff.1 this.symm).2
/-- A right log. -/
def chk (b k : Int) (l : List En) : Bool :=
  !(decide (b < 0) || decide (1099511627776 < b) || decide (k < 0) || decide (1099511627776 < k)) && !(decide (b = 0) && !decide (k = 0)) && decide (l.length ≤ 4096) && decide (b + (l.length : Int) ≤ 1099511627776) && foll k l
theorem chk_iff (b k : Int) (l : List En) : chk b k l = true ↔ (0 ≤ b ∧ b ≤ 1099511627776 ∧ 0 ≤ k ∧ k ≤ 1099511627776) ∧ (b = 0 → k = 0) ∧ l.length ≤ 4096 ∧ b + (l.length : Int) ≤ 1099511627776 ∧ foll k l = true := by
  unfold chk
  simp only [Bool.and_eq_true, Bool.not_eq_true', Bool.or_eq_false_iff, decide_eq_false_iff_not, decide_eq_true_eq, Bool.and_eq_false_iff, Bool.not_eq_false']
  constructor
  · rintro ⟨⟨⟨⟨⟨⟨⟨h1, h2⟩, h3⟩, h4⟩, h5⟩, h6⟩, h7⟩, h8⟩
    refine ⟨⟨by omega, by omega, by omega, by omega⟩, fun e => ?_, h6, h7, h8⟩
    rcases h5 with h5 | h5
    · exact absurd e h5
    · exact h5
  · rintro ⟨⟨h1, h2, h3, h4⟩, h5, h6, h7, h8⟩
    refine ⟨⟨⟨⟨⟨⟨⟨by omega, by omega⟩, by omega⟩, by omega⟩, ?_⟩, h6⟩, h7⟩, h8⟩
    by_cases e : b = 0
    · exact .inr (h5 e)
    · exact .inl e
theorem chk_pre {b k : Int} {l : List En} (h : chk b k l = true) (j : Nat) : chk b k (l.take j) = true := by
  obtain ⟨h1, h2, h3, h4, h5⟩ := (chk_iff b k l).1 h
  have hl : (l.take j).length ≤ l.length := by rw [List.length_take]; omega
  exact (chk_iff _ _ _).2 ⟨h1, h2, by omega, by omega, foll_pre h5 j⟩
/-- How many, from the first on, have the same terms. -/
def agr : List En → List En → Nat
  | x :: l, y :: m => if x.1 = y.1 then agr l m + 1 else 0
  | _, _ => 0
theorem agr_le : ∀ l m : List En, agr l m ≤ l.length ∧ agr l m ≤ m.length
  | [], m => by simp [agr]
  | x :: l, [] => by simp [agr]
  | x :: l, y :: m => by
    have := agr_le l m
    unfold agr
    split <;> simp <;> omega
/-- So far they agree, and there they don't. -/
theorem agr_is : ∀ {l m : List En} (n : Nat), (∀ i, i < n → ∃ x y, l[i]? = some x ∧ m[i]? = some y ∧ x.1 = y.1) → (l.length ≤ n ∨ m.length ≤ n ∨ ∃ x y, l[n]? = some x ∧ m[n]? = some y ∧ x.1 ≠ y.1) → agr l m = n
  | [], m, n, h, _ => by
    cases n with
    | zero => simp [agr]
    | succ n => obtain ⟨x, y, h1, _⟩ := h 0 (by omega); simp at h1
  | x :: l, [], n, h, _ => by
    cases n with
    | zero => simp [agr]
    | succ n => obtain ⟨x, y, _, h1, _⟩ := h 0 (by omega); simp at h1
  | x :: l, y :: m, 0, _, h => by
    unfold agr
    rcases h with h | h | ⟨x', y', h1, h2, h3⟩
    · simp at h
    · simp at h
    · simp at h1 h2; subst h1 h2; rw [if_neg h3]
  | x :: l, y :: m, n + 1, h, h' => by
    obtain ⟨x', y', h1, h2, h3⟩ := h 0 (by omega)
    simp at h1 h2
    subst h1 h2
    unfold agr
    rw [if_pos h3, agr_is n (fun i hi => by simpa using h (i + 1) (by omega)) (by simpa using h')]
theorem agr_at {l m : List En} {i : Nat} (h : i < agr l m) : ∃ x y, l[i]? = some x ∧ m[i]? = some y ∧ x.1 = y.1 := by
  induction l generalizing m i with
  | nil => simp [agr] at h
  | cons x l ih =>
    cases m with
    | nil => simp [agr] at h
    | cons y m =>
      unfold agr at h
      split at h
      · rename_i e
        cases i with
        | zero => exact ⟨x, y, rfl, rfl, e⟩
        | succ i => simpa using ih (m := m) (i := i) (by omega)
      · omega
theorem agr_not {l m : List En} : l.length ≤ agr l m ∨ m.length ≤ agr l m ∨ ∃ x y, l[agr l m]? = some x ∧ m[agr l m]? = some y ∧ x.1 ≠ y.1 := by
  induction l generalizing m with
  | nil => exact .inl (by simp)
  | cons x l ih =>
    cases m with
    | nil => exact .inr (.inl (by simp))
    | cons y m =>
      unfold agr
      split
      · rename_i e
        rcases ih (m := m) with h | h | ⟨x', y', h1, h2, h3⟩
        · exact .inl (by simp; omega)
        · exact .inr (.inl (by simp; omega))
        · exact .inr (.inr ⟨x', y', by simpa using h1, by simpa using h2, h3⟩)
      · rename_i e
        exact .inr (.inr ⟨x, y, rfl, rfl, e⟩)
/-- The term of the number n. -/
def tm (b k : Int) (l : List En) (n : Int) : Int := lastT k (l.take (n - b).toNat)
/-- What entries make of a log, behind a number that it has. -/
def put (b k : Int) (l : List En) (p : Int) (es : List En) (fx : Int) : Option (List En) :=
  if agr (l.drop (p - b).toNat) es = es.length then some l
  else if p + (agr (l.drop (p - b).toNat) es : Nat) + 1 ≤ fx then none
  else if chk b k (l.take ((p - b).toNat + agr (l.drop (p - b).toNat) es) ++ es.drop (agr (l.drop (p - b).toNat) es)) = true then some (l.take ((p - b).toNat + agr (l.drop (p - b).toNat) es) ++ es.drop (agr (l.drop (p - b).toNat) es)) else none
/-- Put, behind a number from the base on. -/
def putB (b k : Int) (l : List En) (p q : Int) (es : List En) (fx : Int) : Option (List En) :=
  if b ≤ p ∧ p ≤ b + (l.length : Int) ∧ tm b k l p = q then put b k l p es fx else none
/-- Put. -/
def Put (b k : Int) (l : List En) (p q : Int) (es : List En) (fx : Int) : Option (List En) :=
  if !chk b k l || decide (p < 0) || decide (q < 0) || !foll q es then none
  else if p < b then
    if (es.length : Int) < b - p then some l
    else if ((es[(b - p).toNat - 1]?).map (·.1)).getD 0 = k then putB b k l b k (es.drop (b - p).toNat) fx else none
  else putB b k l p q es fx
end Trl
end Go.Proofs.Ytdpcebaggldaiaa
namespace Go.Proofs.Ytdpcebaggldaiaa.Quo
set_option linter.unusedVariables false

/-- From p on, each number above the one ahead of it. -/
def rise (p : Int) : List Int → Bool
  | [] => true
  | x :: l => decide (p < x) && rise x l
def chk (c : List Int) : Bool := !(decide (c.length < 1)) && !(decide (7 < c.length)) && rise 0 c
def has (s : List Int) (x : Int) : Bool := s.any fun y => y == x
def ins (c s : List Int) : Nat := c.countP fun x => has s x
def wins (c s : List Int) : Bool := chk c && decide (c.length < 2 * ins c s)
/-- What a node has reached: the last item tells. -/
def lat (m : List (Int × Int)) (id : Int) : Int := m.foldl (fun a it => if it.1 = id then it.2 else a) 0
def srt (l : List Int) : List Int := l.mergeSort fun x y => decide (x ≤ y)
def med (v : List Int) : Int := (srt v).getD ((v.length - 1) / 2) 0
def rea (c : List Int) (m : List (Int × Int)) : Int := if chk c = true then med (c.map (lat m)) else 0
def mayA (c : List Int) (a : Int) : Bool := decide (0 ≤ a) && !has c a
def mayR (c : List Int) (r : Int) : Bool := r == 0 || has c r
def wo (c : List Int) (r : Int) : List Int := c.filter fun x => x != r
def out (c : List Int) (a r : Int) : List Int := if a = 0 then wo c r else srt (wo c r ++ [a])
/-- Whether there is a next one. -/
def nxB (c : List Int) (a r : Int) : Bool := chk c && mayA c a && mayR c r && chk (out c a r)

theorem rise_iff (l : List Int) : ∀ p, rise p l = true ↔ (∀ x ∈ l, p < x) ∧ l.Pairwise (· < ·) := by
  induction l with
  | nil => intro p; simp [rise]
  | cons x l ih =>
    intro p
    unfold rise
    rw [Bool.and_eq_true, decide_eq_true_eq, ih x, List.pairwise_cons]
    constructor
    · rintro ⟨h1, h2, h3⟩
      refine ⟨fun y hy => ?_, h2, h3⟩
      rcases List.mem_cons.1 hy with rfl | hy
      · exact h1
      · have := h2 y hy; omega
    · rintro ⟨h1, h2, h3⟩
      exact ⟨h1 x (by simp), h2, h3⟩
theorem chk_iff (c : List Int) : chk c = true ↔ 1 ≤ c.length ∧ c.length ≤ 7 ∧ (∀ x ∈ c, 0 < x) ∧ c.Pairwise (· < ·) := by
  unfold chk
  rw [Bool.and_eq_true, Bool.and_eq_true, rise_iff, Bool.not_eq_true', Bool.not_eq_true', decide_eq_false_iff_not, decide_eq_false_iff_not]
  constructor
  · rintro ⟨⟨h1, h2⟩, h3⟩; exact ⟨by omega, by omega, h3⟩
  · rintro ⟨h1, h2, h3⟩; exact ⟨⟨by omega, by omega⟩, h3⟩
theorem rise_take {l : List Int} {j : Nat} {x : Int} : ∀ {p : Int}, l[j]? = some x → rise p (l.take (j + 1)) = (rise p (l.take j) && decide (((l.take j).getLast?.getD p) < x)) := by
  induction l generalizing j with
  | nil => intro p h; simp at h
  | cons y l ih =>
    intro p h
    cases j with
    | zero => simp at h; subst h; simp [rise]; rfl
    | succ j =>
      simp at h
      rw [List.take_succ_cons, List.take_succ_cons]
      unfold rise
      rw [ih h, Bool.and_assoc]
      congr 3
      cases hl : l.take j with
      | nil => simp
      | cons z t => simp [List.getLast?_cons]
theorem has_iff (s : List Int) (x : Int) : has s x = true ↔ x ∈ s := by simp [has]
theorem has_take {s : List Int} {k : Nat} {y x : Int} (h : s[k]? = some y) : has (s.take (k + 1)) x = (has (s.take k) x || (y == x)) := by
  unfold has
  rw [List.take_add_one, h, List.any_append]
  simp
theorem has_all {s : List Int} {k : Nat} {y x : Int} (h : s[k]? = some y) (e : (y == x) = true) : has s x = true := by
  unfold has
  exact List.any_eq_true.2 ⟨y, List.mem_of_getElem? h, e⟩
theorem ins_take {c s : List Int} {k : Nat} {x : Int} (h : c[k]? = some x) : ins (c.take (k + 1)) s = ins (c.take k) s + (if has s x = true then 1 else 0) := by
  unfold ins
  rw [List.take_add_one, h, List.countP_append]
  simp [List.countP_cons]
theorem ins_le (c s : List Int) : ins c s ≤ c.length := List.countP_le_length
theorem ins_mono {c s t : List Int} (h : ∀ x ∈ c, x ∈ s → x ∈ t) : ins c s ≤ ins c t := by
  unfold ins
  refine List.countP_mono_left fun x hx h1 => ?_
  rw [has_iff] at *
  exact h x hx h1
theorem wins_chk {c s : List Int} (h : wins c s = true) : chk c = true := by
  unfold wins at h
  rw [Bool.and_eq_true] at h
  exact h.1
theorem wins_ins {c s : List Int} (h : wins c s = true) : c.length < 2 * ins c s := by
  unfold wins at h
  rw [Bool.and_eq_true, decide_eq_true_eq] at h
  exact h.2
theorem wins_mk {c s : List Int} (h : chk c = true) (k : c.length < 2 * ins c s) : wins c s = true := by
  unfold wins
  rw [Bool.and_eq_true, decide_eq_true_eq]
  exact ⟨h, k⟩
/-- How many of c are in both, in one, in neither. -/
theorem both_in (c a b : List Int) : ins c a + ins c b ≤ c.length + c.countP fun x => has a x && has b x := by
  unfold ins
  induction c with
  | nil => simp
  | cons x c ih =>
    simp only [List.countP_cons, List.length_cons]
    cases has a x <;> cases has b x <;> simp <;> omega
def meet (c a b : List Int) : Bool := c.any fun x => has a x && has b x
theorem meet_of {c a b : List Int} (h : c.length < ins c a + ins c b) : meet c a b = true := by
  have := both_in c a b
  unfold meet
  rw [List.any_eq_true]
  have h1 : 0 < c.countP fun x => has a x && has b x := by omega
  obtain ⟨x, hx, h2⟩ := List.countP_pos_iff.1 h1
  exact ⟨x, hx, h2⟩
theorem meet_take {c a b : List Int} {k : Nat} {x : Int} (h : c[k]? = some x) : meet (c.take (k + 1)) a b = (meet (c.take k) a b || (has a x && has b x)) := by
  unfold meet
  rw [List.take_add_one, h, List.any_append]
  simp
/-- Two that win over one meet. -/
theorem meet_one {c a b : List Int} (ha : wins c a = true) (hb : wins c b = true) : meet c a b = true := by
  have h1 := wins_ins ha
  have h2 := wins_ins hb
  exact meet_of (by omega)
theorem srt_perm (l : List Int) : (srt l).Perm l := List.mergeSort_perm _ _
theorem srt_len (l : List Int) : (srt l).length = l.length := (srt_perm l).length_eq
theorem srt_le (l : List Int) : (srt l).Pairwise (· ≤ ·) := by
  have h := List.pairwise_mergeSort (le := fun x y : Int => decide (x ≤ y)) (fun a b c h1 h2 => by simp only [decide_eq_true_eq] at *; omega) (fun a b => by simp only [Bool.or_eq_true, decide_eq_true_eq]; omega) l
  exact h.imp fun h => by simpa using h
theorem srt_is {l m : List Int} (hm : m.Pairwise (· ≤ ·)) (h : m.Perm l) : srt l = m :=
  List.Perm.eq_of_pairwise (le := fun a b : Int => a ≤ b) (fun a b _ _ h1 h2 => by omega) (srt_le l) hm ((srt_perm l).trans h.symm)
theorem wo_len (c : List Int) (r : Int) : (wo c r).length ≤ c.length := List.length_filter_le _ _
theorem wo_take {c : List Int} {k : Nat} {x r : Int} (h : c[k]? = some x) : wo (c.take (k + 1)) r = wo (c.take k) r ++ (if (x != r) = true then [x] else []) := by
  unfold wo
  rw [List.take_add_one, h, List.filter_append]
  simp [List.filter_cons]
theorem wo_same {c : List Int} {r : Int} (h : has c r = false) : wo c r = c := by
  unfold wo
  rw [List.filter_eq_self]
  intro x hx
  have : ¬ r ∈ c := fun e => by rw [(has_iff c r).2 e] at h; cases h
  simp
  rintro rfl
  exact this hx
theorem has_no {c : List Int} {r : Int} (h : has c r = false) : ¬ r ∈ c := fun e => by rw [(has_iff c r).2 e] at h; cases h
theorem has0 {c : List Int} (h : chk c = true) : has c 0 = false := by
  cases h0 : has c 0 with
  | false => rfl
  | true =>
    have := ((chk_iff c).1 h).2.2.1 0 ((has_iff c 0).1 h0)
    omega
/-- A set over the list with another order. -/
theorem ins_perm {c c' : List Int} (h : c.Perm c') (s : List Int) : ins c s = ins c' s := h.countP_eq _
theorem wo_more (r : Int) {c : List Int} (hp : c.Pairwise (· < ·)) : c.length ≤ (wo c r).length + 1 := by
  unfold wo
  induction c with
  | nil => simp
  | cons y c ih =>
    rw [List.pairwise_cons] at hp
    by_cases hy : y = r
    · subst hy
      have : (c.filter fun x => x != y) = c := by
        rw [List.filter_eq_self]
        intro z hz
        have := hp.1 z hz
        simp
        omega
      simp [this]
    · have := ih hp.2
      simp [hy]
      omega
/-- Over neighbours: with one more, or with one less. -/
theorem meet_next {c a b : List Int} {x r : Int} (h0 : x = 0 ∨ r = 0) (hn : nxB c x r = true) (ha : wins c a = true) (hb : wins (out c x r) b = true) : meet c a b = true := by
  unfold nxB at hn
  simp only [Bool.and_eq_true] at hn
  obtain ⟨⟨⟨h1, h2⟩, h3⟩, h4⟩ := hn
  have k1 := wins_ins ha
  have k2 := wins_ins hb
  refine meet_of ?_
  unfold out at k2
  by_cases hx : x = 0
  · rw [if_pos hx] at k2
    have e1 : ins (wo c r) b ≤ ins c b := by
      unfold ins wo
      rw [List.countP_filter]
      exact List.countP_mono_left fun y _ hy => by simp at hy; exact hy.1
    have e2 : c.length ≤ (wo c r).length + 1 := by
      exact wo_more r ((chk_iff c).1 h1).2.2.2
    omega
  · rw [if_neg hx] at k2
    have hr : r = 0 := h0.resolve_left hx
    subst hr
    rw [wo_same (has0 h1)] at k2
    rw [srt_len, ins_perm (srt_perm _)] at k2
    have e : ins (c ++ [x]) b ≤ ins c b + 1 := by
      unfold ins
      rw [List.countP_append]
      have := List.countP_le_length (p := fun x => has b x) (l := [x])
      simp at this ⊢
      omega
    rw [List.length_append] at k2
    simp at k2
    omega
/-- The median: more than half have reached it. -/
theorem count_ge {S : List Int} (h : S.Pairwise (· ≤ ·)) {k : Nat} (hk : k < S.length) : S.length - k ≤ S.countP fun x => decide (S[k] ≤ x) := by
  have e : S.countP (fun x => decide (S[k] ≤ x)) = (S.take k).countP (fun x => decide (S[k] ≤ x)) + (S.drop k).countP (fun x => decide (S[k] ≤ x)) := by rw [← List.countP_append, List.take_append_drop]
  have : (S.drop k).countP (fun x => decide (S[k] ≤ x)) = (S.drop k).length := by
    rw [List.countP_eq_length]
    intro x hx
    obtain ⟨i, hi, rfl⟩ := List.mem_iff_getElem.1 hx
    simp only [List.getElem_drop, decide_eq_true_eq]
    rcases Nat.eq_zero_or_pos i with rfl | hi0
    · simp
    · exact List.pairwise_iff_getElem.1 h k (k + i) hk (by simp at hi; omega) (by omega)
  rw [e, this, List.length_drop]
  omega
theorem count_gt {S : List Int} (h : S.Pairwise (· ≤ ·)) {k : Nat} (hk : k < S.length) : (S.countP fun x => decide (S[k] < x)) ≤ S.length - k - 1 := by
  have e : S.countP (fun x => decide (S[k] < x)) = (S.take (k + 1)).countP (fun x => decide (S[k] < x)) + (S.drop (k + 1)).countP (fun x => decide (S[k] < x)) := by rw [← List.countP_append, List.take_append_drop]
  have : (S.take (k + 1)).countP (fun x => decide (S[k] < x)) = 0 := by
    rw [List.countP_eq_zero]
    intro x hx
    obtain ⟨i, hi, rfl⟩ := List.mem_iff_getElem.1 hx
    simp only [List.getElem_take, decide_eq_true_eq]
    simp at hi
    rcases Nat.eq_or_lt_of_le (show i ≤ k by omega) with rfl | hi0
    · omega
    · have := List.pairwise_iff_getElem.1 h i k (by omega) hk hi0
      omega
  have h2 := List.countP_le_length (p := fun x => decide (S[k] < x)) (l := S.drop (k + 1))
  rw [List.length_drop] at h2
  omega
theorem med_ge {v : List Int} (h : v ≠ []) : v.length < 2 * v.countP fun x => decide (med v ≤ x) := by
  have hl : 0 < v.length := List.length_pos_iff.2 h
  have hk : (v.length - 1) / 2 < (srt v).length := by rw [srt_len]; omega
  have h1 := count_ge (srt_le v) hk
  have e : med v = (srt v)[(v.length - 1) / 2] := by unfold med; rw [List.getD_eq_getElem?_getD, List.getElem?_eq_getElem hk]; rfl
  rw [← e, (srt_perm v).countP_eq, srt_len] at h1
  omega
theorem med_gt {v : List Int} (h : v ≠ []) : 2 * (v.countP fun x => decide (med v < x)) ≤ v.length := by
  have hl : 0 < v.length := List.length_pos_iff.2 h
  have hk : (v.length - 1) / 2 < (srt v).length := by rw [srt_len]; omega
  have h1 := count_gt (srt_le v) hk
  have e : med v = (srt v)[(v.length - 1) / 2] := by unfold med; rw [List.getD_eq_getElem?_getD, List.getElem?_eq_getElem hk]; rfl
  rw [← e, (srt_perm v).countP_eq, srt_len] at h1
  omega
theorem med_mem {v : List Int} (h : v ≠ []) : med v ∈ v := by
  have hl : 0 < v.length := List.length_pos_iff.2 h
  have hk : (v.length - 1) / 2 < (srt v).length := by rw [srt_len]; omega
  have e : med v = (srt v)[(v.length - 1) / 2] := by unfold med; rw [List.getD_eq_getElem?_getD, List.getElem?_eq_getElem hk]; rfl
  rw [e]
  exact (srt_perm v).mem_iff.1 (List.getElem_mem hk)
/-- A number that more than half have reached. -/
def good (v : List Int) (n : Int) : Bool := decide (v.length < 2 * v.countP fun x => decide (n ≤ x))
theorem good_le {v : List Int} (h : v ≠ []) {n : Int} (hg : good v n = true) : n ≤ med v := by
  unfold good at hg
  rw [decide_eq_true_eq] at hg
  refine Int.not_lt.1 fun hn => ?_
  have h1 := med_gt h
  have h2 : (v.countP fun x => decide (n ≤ x)) ≤ v.countP fun x => decide (med v < x) := List.countP_mono_left fun x _ hx => by
    simp only [decide_eq_true_eq] at *
    omega
  omega
theorem good_med {v : List Int} (h : v ≠ []) : good v (med v) = true := decide_eq_true (med_ge h)
/-- What the reference's look ends with. -/
theorem best_med {v : List Int} (h : v ≠ []) {f : Bool} {b : Int} (h0 : f = false → ∀ x ∈ v, good v x = false) (h1 : f = true → good v b = true ∧ ∀ x ∈ v, good v x = true → x ≤ b) : b = med v := by
  cases f with
  | false => have := h0 rfl _ (med_mem h); rw [good_med h] at this; cases this
  | true =>
    obtain ⟨k1, k2⟩ := h1 rfl
    have := k2 _ (med_mem h) (good_med h)
    have := good_le h k1
    omega
theorem has_filter (c : List Int) (p : Int → Bool) (x : Int) (hx : x ∈ c) : has (c.filter p) x = p x := by
  cases hp : p x with
  | true => exact (has_iff _ _).2 (List.mem_filter.2 ⟨hx, hp⟩)
  | false =>
    cases h : has (c.filter p) x with
    | false => rfl
    | true => have := (List.mem_filter.1 ((has_iff _ _).1 h)).2; rw [hp] at this; cases this
theorem ins_filter (c : List Int) (p : Int → Bool) : ins c (c.filter p) = c.countP p := by
  unfold ins
  refine List.countP_congr fun x hx => ?_
  rw [has_filter c p x hx]
theorem chk_ne {c : List Int} (h : chk c = true) : c ≠ [] := by
  have := ((chk_iff c).1 h).1
  intro e
  subst e
  simp at this
/-- Those that have reached the median win; those that have reached more don't. -/
theorem median_wins {c : List Int} (m : List (Int × Int)) (h : chk c = true) : wins c (c.filter fun x => decide (rea c m ≤ lat m x)) = true := by
  refine wins_mk h ?_
  rw [ins_filter]
  have hv : c.map (lat m) ≠ [] := by have := chk_ne h; simpa using this
  have h1 := med_ge hv
  rw [List.countP_map, List.length_map] at h1
  unfold rea
  rw [if_pos h]
  exact h1
theorem median_more {c : List Int} (m : List (Int × Int)) (h : chk c = true) : wins c (c.filter fun x => decide (rea c m + 1 ≤ lat m x)) = false := by
  have hv : c.map (lat m) ≠ [] := by have := chk_ne h; simpa using this
  have h1 := med_gt hv
  rw [List.countP_map, List.length_map] at h1
  cases hw : wins c (c.filter fun x => decide (rea c m + 1 ≤ lat m x)) with
  | false => rfl
  | true =>
    have h2 := wins_ins hw
    rw [ins_filter] at h2
    unfold rea at h2
    rw [if_pos h] at h2
    have : (c.countP fun x => decide (med (c.map (lat m)) + 1 ≤ lat m x)) = c.countP ((fun x => decide (med (c.map (lat m)) < x)) ∘ lat m) := List.countP_congr fun x _ => by simp; omega
    omega
/-- More nodes still win. -/
theorem more_wins {c s t : List Int} (h : wins c s = true) : wins c (s ++ t) = true := by
  refine wins_mk (wins_chk h) ?_
  have h1 := wins_ins h
  have h2 : ins c s ≤ ins c (s ++ t) := ins_mono fun x _ hx => List.mem_append.2 (.inl hx)
  omega
theorem in_out (c s : List Int) : c.countP (fun x => has s x) + c.countP (fun x => !has s x) = c.length := by
  induction c with
  | nil => rfl
  | cons y c ih => simp only [List.countP_cons, List.length_cons]; cases has s y <;> simp <;> omega
theorem rest_not {c s : List Int} (h : wins c s = true) : wins c (c.filter fun x => !has s x) = false := by
  cases hw : wins c (c.filter fun x => !has s x) with
  | false => rfl
  | true =>
    have h1 := wins_ins h
    have h2 := wins_ins hw
    rw [ins_filter] at h2
    have := in_out c s
    unfold ins at h1
    omega
theorem self_wins (c : List Int) : wins c c = chk c := by
  cases h : chk c with
  | false => unfold wins; rw [h]; rfl
  | true =>
    refine wins_mk h ?_
    have : ins c c = c.length := by
      unfold ins
      rw [List.countP_eq_length]
      intro x hx
      exact (has_iff _ _).2 hx
    have := ((chk_iff c).1 h).1
    omega
/-- The reference's way to the next one. -/
def rn (a r : Int) : Bool → List Int → List Int
  | put, [] => if put = true then [] else [a]
  | put, x :: c => (if put = false ∧ a < x then [a] else []) ++ (if (x != r) = true then [x] else []) ++ rn a r (put || decide (a < x)) c
theorem rn_put (a r : Int) : ∀ c, rn a r true c = wo c r
  | [] => rfl
  | x :: c => by
    unfold rn
    rw [Bool.true_or, rn_put a r c]
    unfold wo
    cases h : (x != r) <;> simp [h]
theorem rn_perm (a r : Int) : ∀ c, (rn a r false c).Perm (wo c r ++ [a])
  | [] => by simp [rn, wo]
  | x :: c => by
    unfold rn
    by_cases hx : a < x
    · rw [decide_eq_true hx, Bool.or_true, rn_put, if_pos ⟨rfl, hx⟩]
      have : wo (x :: c) r = (if (x != r) = true then [x] else []) ++ wo c r := by unfold wo; cases h : (x != r) <;> simp [h]
      rw [this, List.append_assoc]
      exact (List.perm_append_comm (l₁ := [a]))
    · rw [decide_eq_false hx, Bool.or_false, if_neg (fun e => hx e.2)]
      have : wo (x :: c) r = (if (x != r) = true then [x] else []) ++ wo c r := by unfold wo; cases h : (x != r) <;> simp [h]
      rw [this, List.nil_append, List.append_assoc]
      exact (rn_perm a r c).append_left _
theorem rn_mem (a r : Int) (c : List Int) : ∀ y ∈ rn a r false c, y ∈ c ∨ y = a := by
  intro y hy
  have := (rn_perm a r c).mem_iff.1 hy
  rw [List.mem_append] at this
  rcases this with h | h
  · exact .inl (List.mem_filter.1 h).1
  · exact .inr (by simpa using h)
theorem rn_le (a r : Int) : ∀ {c : List Int}, c.Pairwise (· < ·) → (rn a r false c).Pairwise (· ≤ ·)
  | [], _ => by simp [rn]
  | x :: c, h => by
    rw [List.pairwise_cons] at h
    have hw : (wo c r).Pairwise (· ≤ ·) := (h.2.sublist (List.filter_sublist)).imp fun h => by omega
    have hxw : ∀ y ∈ wo c r, x < y := fun y hy => h.1 y (List.mem_filter.1 hy).1
    unfold rn
    by_cases hx : a < x
    · rw [decide_eq_true hx, Bool.or_true, rn_put, if_pos ⟨rfl, hx⟩]
      cases hr : (x != r)
      · simp only [Bool.false_eq_true, if_false, List.append_nil]
        rw [List.singleton_append, List.pairwise_cons]
        exact ⟨fun y hy => by have := hxw y hy; omega, hw⟩
      · simp only [if_true]
        rw [List.append_assoc, List.singleton_append, List.pairwise_cons, List.singleton_append, List.pairwise_cons]
        refine ⟨fun y hy => ?_, fun y hy => by have := hxw y hy; omega, hw⟩
        rcases List.mem_cons.1 hy with rfl | hy
        · omega
        · have := hxw y hy; omega
    · rw [decide_eq_false hx, Bool.or_false, if_neg (fun e => hx e.2), List.nil_append]
      cases hr : (x != r)
      · simp only [Bool.false_eq_true, if_false, List.nil_append]
        exact rn_le a r h.2
      · simp only [if_true]
        rw [List.singleton_append, List.pairwise_cons]
        refine ⟨fun y hy => ?_, rn_le a r h.2⟩
        rcases rn_mem a r c y hy with h1 | rfl
        · have := h.1 y h1; omega
        · omega
/-- The reference's list is the program's. -/
theorem rn_out {c : List Int} (a r : Int) (h : c.Pairwise (· < ·)) : rn a r (a == 0) c = out c a r := by
  unfold out
  by_cases ha : a = 0
  · rw [if_pos ha]
    subst ha
    exact rn_put 0 r c
  · rw [if_neg ha, show (a == 0) = false by simpa using ha]
    exact (srt_is (rn_le a r h) (rn_perm a r c)).symm
end Go.Proofs.Ytdpcebaggldaiaa.Quo
namespace Go.Proofs.Ytdpcebaggldaiaa
namespace Rft
open Trl
set_option linter.unusedVariables false

structure Nd where
  id : Int
  conf : List Int
  term : Int
  vote : Int
  role : Int
  lead : Int
  b : Int
  k : Int
  l : List En
  snap : ByteArray
  com : Int
  left : Int
  wait : Int
  votes : List Int
  next : List Int
  mat : List Int
structure Mg where
  kind : Int
  fm : Int
  tt : Int
  term : Int
  index : Int
  logt : Int
  com : Int
  yes : Bool
  es : List En
  data : ByteArray
def mg0 : Mg := ⟨0, 0, 0, 0, 0, 0, 0, false, [], ⟨#[]⟩⟩
namespace Nd
def last (r : Nd) : Int := r.b + (r.l.length : Int)
def lastt (r : Nd) : Int := lastT r.k r.l
end Nd
/-- No number comes twice, and each is in the group. -/
def onceIn (conf : List Int) : List Int → List Int → Bool
  | _, [] => true
  | seen, x :: l => Quo.has conf x && !Quo.has seen x && onceIn conf (seen ++ [x]) l
def cand (r : Nd) : Bool :=
  decide (r.vote = r.id) && !decide (r.votes.length = 0) && decide (r.votes.head? = some r.id) && !Quo.wins r.conf r.votes && onceIn r.conf [] r.votes && decide (r.next.length = 0) && decide (r.mat.length = 0)
def numsOk (last : Int) : List Int → List Int → Bool
  | n :: ns, m :: ms => decide (0 ≤ m) && decide (m ≤ last) && decide (m < n) && decide (n ≤ last + 1) && numsOk last ns ms
  | _, _ => true
def leads (r : Nd) : Bool :=
  decide (r.vote = r.id) && decide (r.lead = r.id) && decide (r.votes.length = 0) && decide (r.next.length = r.conf.length) && decide (r.mat.length = r.conf.length) && numsOk r.last r.next r.mat
/-- A right node. -/
def ok (r : Nd) : Bool :=
  (Quo.chk r.conf && Quo.has r.conf r.id && decide (0 ≤ r.term) && decide (r.term ≤ 1099511627776) && chk r.b r.k r.l) &&
  ((decide (r.vote = 0) || Quo.has r.conf r.vote) && (decide (r.lead = 0) || Quo.has r.conf r.lead)) &&
  (decide (r.lastt ≤ r.term) && decide (r.snap.size ≤ 60000) && decide (r.b ≤ r.com) && decide (r.com ≤ r.last)) &&
  (decide (0 ≤ r.left) && decide (r.left ≤ 100) && decide (10 ≤ r.wait) && decide (r.wait ≤ 19)) &&
  (if r.role = 0 then decide (r.votes.length = 0) && decide (r.next.length = 0) && decide (r.mat.length = 0) else if r.role = 1 then cand r else if r.role = 2 then leads r else false)
/-- A message more. -/
def say (r : Nd) (L : List Mg) (m : Mg) : List Mg := L ++ [{ m with fm := r.id, term := r.term }]
def at0 (l : List Int) (i : Nat) : Int := l.getD i 0
/-- What is pushed to the node at a place. -/
def pushM (r : Nd) (i : Nat) : Mg :=
  if at0 r.next i ≤ r.b then { mg0 with kind := 5, tt := at0 r.conf i, index := r.b, logt := r.k, data := r.snap }
  else { mg0 with kind := 3, tt := at0 r.conf i, index := at0 r.next i - 1, logt := tm r.b r.k r.l (at0 r.next i - 1), com := r.com, es := (r.l.drop (at0 r.next i - 1 - r.b).toNat).take 8 }
def push (r : Nd) (L : List Mg) (i : Nat) : List Mg := say r L (pushM r i)
/-- To all others, up to a place. -/
def pushTo (r : Nd) (L : List Mg) : Nat → List Mg
  | 0 => L
  | i + 1 => if at0 r.conf i = r.id then pushTo r L i else push r (pushTo r L i) i
def pushAll (r : Nd) (L : List Mg) : List Mg := pushTo r L r.conf.length
/-- Each node with a number. -/
def items : List Int → List Int → List (Int × Int)
  | a :: l, b :: m => (a, b) :: items l m
  | _, _ => []
def agree (r : Nd) : Nd :=
  if Quo.rea r.conf (items r.conf r.mat) ≤ r.com then r
  else if Quo.rea r.conf (items r.conf r.mat) ≤ r.last ∧ r.b ≤ Quo.rea r.conf (items r.conf r.mat) ∧ tm r.b r.k r.l (Quo.rea r.conf (items r.conf r.mat)) = r.term then { r with com := Quo.rea r.conf (items r.conf r.mat) } else r
/-- The place of a node. -/
def place (conf : List Int) (id : Int) : Nat := conf.findIdx (· == id)
def own (r : Nd) : Nd := { r with mat := r.mat.set (place r.conf r.id) r.last, next := r.next.set (place r.conf r.id) (r.last + 1) }
def clear (r : Nd) : Nd := { r with votes := [], next := [], mat := [] }
/-- An entry more. -/
def more (b k : Int) (l : List En) (e : En) : Option (List En) := if chk b k (l ++ [e]) = true then some (l ++ [e]) else none
def lead0 (r : Nd) : Nd := { r with role := 2, lead := r.id, left := 2, votes := [], next := r.conf.map fun _ => r.last + 1, mat := r.conf.map fun _ => 0 }
def lead1 (r : Nd) : Nd := match more r.b r.k r.l (r.term, ⟨#[]⟩) with
  | some l => { lead0 r with l := l }
  | none => lead0 r
def leadN (r : Nd) : Nd := agree (own (lead1 r))
def leadL (r : Nd) (L : List Mg) : List Mg := pushAll (leadN r) L
def drawn (d : Int) : Int := 10 + (if d < 0 then 0 - (d + 1) else d).tmod 10
def stand0 (r : Nd) (d : Int) : Nd := { clear r with term := r.term + 1, vote := r.id, role := 1, lead := 0, votes := [r.id], wait := drawn d, left := drawn d }
/-- Asks to all others, up to a place. -/
def askTo (r : Nd) (L : List Mg) : Nat → List Mg
  | 0 => L
  | i + 1 => if at0 r.conf i = r.id then askTo r L i else say r (askTo r L i) { mg0 with kind := 1, tt := at0 r.conf i, index := r.last, logt := r.lastt }
def standN (r : Nd) (d : Int) : Nd := if r.term = 1099511627776 then r else if r.conf.length = 1 then leadN (stand0 r d) else stand0 r d
def standL (r : Nd) (L : List Mg) (d : Int) : List Mg := if r.term = 1099511627776 then L else if r.conf.length = 1 then leadL (stand0 r d) L else askTo (stand0 r d) L r.conf.length
def less (r : Nd) : Nd := if 0 < r.left then { r with left := r.left - 1 } else r
/-- A tick. -/
def tickN (r : Nd) (d : Int) : Nd :=
  if ok r = false then r
  else if 0 < (less r).left then less r
  else if r.role = 2 then { less r with left := 2 }
  else standN (less r) d
def tickL (r : Nd) (d : Int) : List Mg :=
  if ok r = false then []
  else if 0 < (less r).left then []
  else if r.role = 2 then pushAll { less r with left := 2 } []
  else standL (less r) [] d
def restart (r : Nd) : Nd := ⟨r.id, r.conf, r.term, r.vote, 0, 0, r.b, r.k, r.l, r.snap, r.b, 10, 10, [], [], []⟩
/-- Is a message taken? -/
def takes (r : Nd) (m : Mg) : Bool :=
  (decide (1 ≤ m.kind) && decide (m.kind ≤ 5) && decide (m.tt = r.id) && !decide (m.fm = r.id) && Quo.has r.conf m.fm) &&
  (decide (1 ≤ m.term) && decide (m.term ≤ 1099511627776) && decide (0 ≤ m.index) && decide (m.index ≤ 1099511627776) && decide (0 ≤ m.logt) && decide (m.logt ≤ m.term) && decide (0 ≤ m.com) && decide (m.com ≤ 1099511627776)) &&
  (decide (m.es.length ≤ 8) && decide (m.data.size ≤ 60000) && foll m.logt m.es) && (decide (m.es.length = 0) || decide (lastT 0 m.es ≤ m.term))
def heard (r : Nd) (m : Mg) : Nd := { clear r with role := 0, lead := m.fm, left := r.wait }
/-- The lesser of two. -/
def mn (a b : Int) : Int := if a < b then a else b
def hint (r : Nd) (m : Mg) : Int := mn r.last (if m.index - 1 < 0 then 0 else m.index - 1)
def pushedN (r : Nd) (m : Mg) : Nd := match Put r.b r.k r.l m.index m.logt m.es r.com with
  | none => heard r m
  | some l =>
    let c := mn (r.b + (l.length : Int)) (mn (m.index + (m.es.length : Int)) m.com)
    { heard r m with l := l, com := if r.com < c then c else r.com }
def pushedL (r : Nd) (m : Mg) (L : List Mg) : List Mg := match Put r.b r.k r.l m.index m.logt m.es r.com with
  | none => say r L { mg0 with kind := 4, tt := m.fm, index := hint r m }
  | some l => say r L { mg0 with kind := 4, tt := m.fm, yes := true, index := if m.index + (m.es.length : Int) < r.b then r.b else m.index + (m.es.length : Int) }
def bundledN (r : Nd) (m : Mg) : Nd :=
  if r.com < m.index then
    (if r.b ≤ m.index ∧ m.index ≤ r.last ∧ tm r.b r.k r.l m.index = m.logt then { heard r m with b := m.index, k := m.logt, l := r.l.drop (m.index - r.b).toNat, snap := m.data, com := m.index }
     else { heard r m with b := m.index, k := m.logt, l := [], snap := m.data, com := m.index })
  else heard r m
def bundledL (r : Nd) (m : Mg) (L : List Mg) : List Mg := say r L { mg0 with kind := 4, tt := m.fm, yes := true, index := (bundledN r m).com }
def ackY (r : Nd) (m : Mg) : Nd :=
  let i := place r.conf m.fm
  let x := if at0 r.mat i < m.index then m.index else at0 r.mat i
  agree { r with mat := r.mat.set i x, next := r.next.set i (x + 1) }
def ackNext (r : Nd) (m : Mg) : Int :=
  let i := place r.conf m.fm
  let n := if m.index + 1 < at0 r.next i - 1 then m.index + 1 else at0 r.next i - 1
  if n < at0 r.mat i + 1 then at0 r.mat i + 1 else n
def ackF (r : Nd) (m : Mg) : Nd := { r with next := r.next.set (place r.conf m.fm) (ackNext r m) }
def ackedN (r : Nd) (m : Mg) : Nd := if r.last < m.index then r else if m.yes then ackY r m else ackF r m
def ackedL (r : Nd) (m : Mg) (L : List Mg) : List Mg :=
  if r.last < m.index then L
  else if m.yes then (if at0 (ackY r m).next (place r.conf m.fm) ≤ r.last then push (ackY r m) L (place r.conf m.fm) else L)
  else push (ackF r m) L (place r.conf m.fm)
def newer (r : Nd) (n q : Int) : Bool := decide (r.lastt < q) || (decide (q = r.lastt) && decide (r.last ≤ n))
def asks (r : Nd) (m : Mg) : Bool := (decide (r.vote = 0) || decide (r.vote = m.fm)) && decide (r.role = 0) && newer r m.index m.logt
def askN (r : Nd) (m : Mg) : Nd := if asks r m then { r with vote := m.fm, left := r.wait } else r
def askL (r : Nd) (m : Mg) (L : List Mg) : List Mg := say r L { mg0 with kind := 2, tt := m.fm, yes := asks r m }
def grants (r : Nd) (m : Mg) : Bool := decide (r.role = 1) && m.yes && !Quo.has r.votes m.fm
def voted (r : Nd) (m : Mg) : Nd := { r with votes := r.votes ++ [m.fm] }
def grantN (r : Nd) (m : Mg) : Nd := if grants r m then (if Quo.wins r.conf (r.votes ++ [m.fm]) then leadN (voted r m) else voted r m) else r
def grantL (r : Nd) (m : Mg) (L : List Mg) : List Mg := if grants r m then (if Quo.wins r.conf (r.votes ++ [m.fm]) then leadL (voted r m) L else L) else L
/-- A later term. -/
def later (r : Nd) (m : Mg) : Nd := if r.term < m.term then { clear r with term := m.term, vote := 0, role := 0, lead := 0 } else r
def armN (r : Nd) (m : Mg) : Nd :=
  if m.kind = 1 then askN r m else if m.kind = 2 then grantN r m else if m.kind = 3 then (if r.role = 2 then r else pushedN r m)
  else if m.kind = 5 then (if r.role = 2 then r else bundledN r m) else (if r.role = 2 then ackedN r m else r)
def armL (r : Nd) (m : Mg) (L : List Mg) : List Mg :=
  if m.kind = 1 then askL r m L else if m.kind = 2 then grantL r m L else if m.kind = 3 then (if r.role = 2 then L else pushedL r m L)
  else if m.kind = 5 then (if r.role = 2 then L else bundledL r m L) else (if r.role = 2 then ackedL r m L else L)
/-- A message. -/
def handN (r : Nd) (m : Mg) : Nd :=
  if (ok r && takes r m) = false then r
  else if m.term < (later r m).term then later r m
  else armN (later r m) m
def handL (r : Nd) (m : Mg) : List Mg :=
  if (ok r && takes r m) = false then []
  else if m.term < (later r m).term then
    (if m.kind = 1 then say (later r m) [] { mg0 with kind := 2, tt := m.fm } else if m.kind = 3 ∨ m.kind = 5 then say (later r m) [] { mg0 with kind := 4, tt := m.fm } else [])
  else armL (later r m) m []
end Rft
end Go.Proofs.Ytdpcebaggldaiaa
namespace Go.Proofs.Ytdpcebaggldaiaa
open Trl
open Rft (Nd Mg)
set_option linter.unusedVariables false
set_option maxRecDepth 10000

/-- What is granted speaks for the node that grants it. -/
theorem vote_fine (r : Nd) (m : Mg) (h1 : m.kind = 1) : ∀ x ∈ Rft.handL r m, x.yes = true → (Rft.handN r m).vote = x.tt ∧ x.term = (Rft.handN r m).term ∧ (r.term = (Rft.handN r m).term → r.vote = 0 ∨ r.vote = (Rft.handN r m).vote) := by
  intro x hx hy
  unfold Rft.handL at hx
  unfold Rft.handN
  by_cases h0 : (Rft.ok r && Rft.takes r m) = false
  · rw [if_pos h0] at hx
    cases hx
  rw [if_neg h0] at hx ⊢
  by_cases h2 : m.term < (Rft.later r m).term
  · rw [if_pos h2, if_pos h1] at hx
    unfold Rft.say at hx
    rw [List.nil_append, List.mem_singleton] at hx
    subst hx
    cases hy
  rw [if_neg h2] at hx ⊢
  unfold Rft.armL at hx
  unfold Rft.armN
  rw [if_pos h1] at hx ⊢
  unfold Rft.askL Rft.say at hx
  rw [List.nil_append, List.mem_singleton] at hx
  subst hx
  have ha : Rft.asks (Rft.later r m) m = true := hy
  unfold Rft.askN
  rw [if_pos ha]
  refine ⟨rfl, rfl, fun e => ?_⟩
  have e' : r.term = (Rft.later r m).term := e
  have hl : Rft.later r m = r := by
    unfold Rft.later at e' ⊢
    split at e'
    · rename_i hlt
      have : r.term = m.term := e'
      omega
    · rename_i hlt
      rw [if_neg hlt]
  rw [hl] at ha
  unfold Rft.asks at ha
  simp only [Bool.and_eq_true, Bool.or_eq_true, decide_eq_true_eq] at ha
  rcases ha.1.1 with e0 | e0
  · exact .inl e0
  · exact .inr e0
theorem hand_one (r : Nd) (m : Mg) (h1 : m.kind = 1) : (Rft.handL r m).length ≤ 1 := by
  unfold Rft.handL
  split
  · simp
  · split
    · simp [Rft.say]
    · unfold Rft.armL
      rw [if_pos h1]
      simp [Rft.askL, Rft.say]
namespace Rft
/-- The node of the example, k ticks on (k up to 9). -/
def awk (k : Nat) : Nd := ⟨2, [1, 2, 3], 0, 0, 0, 0, 0, 0, [], ⟨#[]⟩, 0, 10 - (k : Int), 10, [], [], []⟩
def awkC : Nd := ⟨2, [1, 2, 3], 1, 2, 1, 0, 0, 0, [], ⟨#[]⟩, 0, 14, 14, [2], [], []⟩
def awkN (k : Nat) : Nd := if k = 10 then awkC else awk k
def awkM (k : Nat) : List Mg := if k = 10 then [⟨1, 2, 1, 1, 0, 0, 0, false, [], ⟨#[]⟩⟩, ⟨1, 2, 3, 1, 0, 0, 0, false, [], ⟨#[]⟩⟩] else []
theorem awk_tick : ∀ k, k < 10 → tickN (awkN k) 4 = awkN (k + 1) ∧ tickL (awkN k) 4 = awkM (k + 1)
  | 0, _ => ⟨rfl, rfl⟩
  | 1, _ => ⟨rfl, rfl⟩
  | 2, _ => ⟨rfl, rfl⟩
  | 3, _ => ⟨rfl, rfl⟩
  | 4, _ => ⟨rfl, rfl⟩
  | 5, _ => ⟨rfl, rfl⟩
  | 6, _ => ⟨rfl, rfl⟩
  | 7, _ => ⟨rfl, rfl⟩
  | 8, _ => ⟨rfl, rfl⟩
  | 9, _ => ⟨rfl, rfl⟩
  | k + 10, h => by omega
def awkG : Mg := ⟨2, 3, 2, 1, 0, 0, 0, true, [], ⟨#[]⟩⟩
theorem agree_com (r : Nd) : ∃ c, agree r = { r with com := c } := by
  unfold agree
  split
  · exact ⟨r.com, rfl⟩
  · split
    · exact ⟨_, rfl⟩
    · exact ⟨r.com, rfl⟩
theorem awk_hand : (handN awkC awkG).role = 2 ∧ (handN awkC awkG).l.length = 1 ∧ (handL awkC awkG).length = 2 ∧ ((handL awkC awkG).head?.map (·.es.length)) = some 1 := by
  have hN : handN awkC awkG = leadN (voted awkC awkG) := rfl
  have hL : handL awkC awkG = pushAll (leadN (voted awkC awkG)) [] := rfl
  rw [hN, hL]
  unfold leadN
  obtain ⟨c, e⟩ := agree_com (own (lead1 (voted awkC awkG)))
  rw [e]
  exact ⟨rfl, rfl, rfl, rfl⟩
end Rft
end Go.Proofs.Ytdpcebaggldaiaa
namespace Go.Proofs.Ytdpcebaggldaiaa
open Trl
open Rft (Nd Mg)
set_option linter.unusedVariables false
set_option maxRecDepth 10000

theorem put_end {b k p fx : Int} {l es l' : List En} (h : put b k l p es fx = some l') (hp : b ≤ p) (hp2 : p ≤ b + (l.length : Int)) : p + (es.length : Int) ≤ b + (l'.length : Int) := by
  unfold put at h
  have ha := agr_le (l.drop (p - b).toNat) es
  have hd : (l.drop (p - b).toNat).length = l.length - (p - b).toNat := List.length_drop
  split at h
  · rename_i e
    injection h with h
    subst h
    omega
  · split at h
    · cases h
    · split at h
      · injection h with h
        subst h
        rw [List.length_append, List.length_take, List.length_drop]
        omega
      · cases h
theorem putB_end {b k p q fx : Int} {l es l' : List En} (h : putB b k l p q es fx = some l') : p + (es.length : Int) ≤ b + (l'.length : Int) := by
  unfold putB at h
  split at h
  · rename_i hc
    exact put_end h hc.1 hc.2.1
  · cases h
/-- What was put is there. -/
theorem Put_end {b k p q fx : Int} {l es l' : List En} (h : Put b k l p q es fx = some l') : p + (es.length : Int) ≤ b + (l'.length : Int) := by
  unfold Put at h
  split at h
  · cases h
  · split at h
    · split at h
      · injection h with h
        subst h
        omega
      · split at h
        · have := putB_end h
          rw [List.length_drop] at this
          omega
        · cases h
    · exact putB_end h
theorem put_chk {b k p fx : Int} {l es l' : List En} (h : put b k l p es fx = some l') (hk : chk b k l = true) : chk b k l' = true := by
  unfold put at h
  split at h
  · injection h with h
    subst h
    exact hk
  · split at h
    · cases h
    · split at h
      · rename_i hc
        injection h with h
        subst h
        exact hc
      · cases h
theorem putB_chk {b k p q fx : Int} {l es l' : List En} (h : putB b k l p q es fx = some l') (hk : chk b k l = true) : chk b k l' = true := by
  unfold putB at h
  split at h
  · exact put_chk h hk
  · cases h
/-- .. and the log is right. -/
theorem Put_chk {b k p q fx : Int} {l es l' : List En} (h : Put b k l p q es fx = some l') (hk : chk b k l = true) : chk b k l' = true := by
  unfold Put at h
  split at h
  · cases h
  · split at h
    · split at h
      · injection h with h
        subst h
        exact hk
      · split at h
        · exact putB_chk h hk
        · cases h
    · exact putB_chk h hk
/-- The program's Commit behind a push. -/
theorem com_is {c q e l : Int} (h : e ≤ l) : (if c < (if q < e then q else e) then (if q < e then q else e) else c) = (if c < Rft.mn l (Rft.mn e q) then Rft.mn l (Rft.mn e q) else c) := by
  unfold Rft.mn
  grind
end Go.Proofs.Ytdpcebaggldaiaa
