/- Configurations and the sets that win over them: the mathematics. -/
namespace Go.Proofs.Ytdpcebaggldaiaa.Quo
set_option linter.unusedVariables false

/-- From p on, each number above the one ahead of it. -/
def rise (p : Int) : List Int → Bool
  | [] => true
  | x :: l => decide (p < x) && rise x l
def chk (c : List Int) : Bool := !(decide (c.length < 1)) && !(decide (7 < c.length)) && rise 0 c
def has (s : List Int) (x : Int) : Bool := s.any fun y => y == x
def ins (c s : List Int) : Nat := c.countP fun x => has s x
def wins (c s : List Int) : Bool := chk c && decide (c.length < 2 * ins c s)
/-- What a node has reached: the last item tells. -/
def lat (m : List (Int × Int)) (id : Int) : Int := m.foldl (fun a it => if it.1 = id then it.2 else a) 0
def srt (l : List Int) : List Int := l.mergeSort fun x y => decide (x ≤ y)
def med (v : List Int) : Int := (srt v).getD ((v.length - 1) / 2) 0
def rea (c : List Int) (m : List (Int × Int)) : Int := if chk c = true then med (c.map (lat m)) else 0
def mayA (c : List Int) (a : Int) : Bool := decide (0 ≤ a) && !has c a
def mayR (c : List Int) (r : Int) : Bool := r == 0 || has c r
def wo (c : List Int) (r : Int) : List Int := c.filter fun x => x != r
def out (c : List Int) (a r : Int) : List Int := if a = 0 then wo c r else srt (wo c r ++ [a])
/-- Whether there is a next one. -/
def nxB (c : List Int) (a r : Int) : Bool := chk c && mayA c a && mayR c r && chk (out c a r)

theorem rise_iff (l : List Int) : ∀ p, rise p l = true ↔ (∀ x ∈ l, p < x) ∧ l.Pairwise (· < ·) := by
  induction l with
  | nil => intro p; simp [rise]
  | cons x l ih =>
    intro p
    unfold rise
    rw [Bool.and_eq_true, decide_eq_true_eq, ih x, List.pairwise_cons]
    constructor
    · rintro ⟨h1, h2, h3⟩
      refine ⟨fun y hy => ?_, h2, h3⟩
      rcases List.mem_cons.1 hy with rfl | hy
      · exact h1
      · have := h2 y hy; omega
    · rintro ⟨h1, h2, h3⟩
      exact ⟨h1 x (by simp), h2, h3⟩
theorem chk_iff (c : List Int) : chk c = true ↔ 1 ≤ c.length ∧ c.length ≤ 7 ∧ (∀ x ∈ c, 0 < x) ∧ c.Pairwise (· < ·) := by
  unfold chk
  rw [Bool.and_eq_true, Bool.and_eq_true, rise_iff, Bool.not_eq_true', Bool.not_eq_true', decide_eq_false_iff_not, decide_eq_false_iff_not]
  constructor
  · rintro ⟨⟨h1, h2⟩, h3⟩; exact ⟨by omega, by omega, h3⟩
  · rintro ⟨h1, h2, h3⟩; exact ⟨⟨by omega, by omega⟩, h3⟩
theorem rise_take {l : List Int} {j : Nat} {x : Int} : ∀ {p : Int}, l[j]? = some x → rise p (l.take (j + 1)) = (rise p (l.take j) && decide (((l.take j).getLast?.getD p) < x)) := by
  induction l generalizing j with
  | nil => intro p h; simp at h
  | cons y l ih =>
    intro p h
    cases j with
    | zero => simp at h; subst h; simp [rise]; rfl
    | succ j =>
      simp at h
      rw [List.take_succ_cons, List.take_succ_cons]
      unfold rise
      rw [ih h, Bool.and_assoc]
      congr 3
      cases hl : l.take j with
      | nil => simp
      | cons z t => simp [List.getLast?_cons]
theorem has_iff (s : List Int) (x : Int) : has s x = true ↔ x ∈ s := by simp [has]
theorem has_take {s : List Int} {k : Nat} {y x : Int} (h : s[k]? = some y) : has (s.take (k + 1)) x = (has (s.take k) x || (y == x)) := by
  unfold has
  rw [List.take_add_one, h, List.any_append]
  simp
theorem has_all {s : List Int} {k : Nat} {y x : Int} (h : s[k]? = some y) (e : (y == x) = true) : has s x = true := by
  unfold has
  exact List.any_eq_true.2 ⟨y, List.mem_of_getElem? h, e⟩
theorem ins_take {c s : List Int} {k : Nat} {x : Int} (h : c[k]? = some x) : ins (c.take (k + 1)) s = ins (c.take k) s + (if has s x = true then 1 else 0) := by
  unfold ins
  rw [List.take_add_one, h, List.countP_append]
  simp [List.countP_cons]
theorem ins_le (c s : List Int) : ins c s ≤ c.length := List.countP_le_length
theorem ins_mono {c s t : List Int} (h : ∀ x ∈ c, x ∈ s → x ∈ t) : ins c s ≤ ins c t := by
  unfold ins
  refine List.countP_mono_left fun x hx h1 => ?_
  rw [has_iff] at *
  exact h x hx h1
theorem wins_chk {c s : List Int} (h : wins c s = true) : chk c = true := by
  unfold wins at h
  rw [Bool.and_eq_true] at h
  exact h.1
theorem wins_ins {c s : List Int} (h : wins c s = true) : c.length < 2 * ins c s := by
  unfold wins at h
  rw [Bool.and_eq_true, decide_eq_true_eq] at h
  exact h.2
theorem wins_mk {c s : List Int} (h : chk c = true) (k : c.length < 2 * ins c s) : wins c s = true := by
  unfold wins
  rw [Bool.and_eq_true, decide_eq_true_eq]
  exact ⟨h, k⟩
/-- How many of c are in both, in one, in neither. -/
theorem both_in (c a b : List Int) : ins c a + ins c b ≤ c.length + c.countP fun x => has a x && has b x := by
  unfold ins
  induction c with
  | nil => simp
  | cons x c ih =>
    simp only [List.countP_cons, List.length_cons]
    cases has a x <;> cases has b x <;> simp <;> omega
def meet (c a b : List Int) : Bool := c.any fun x => has a x && has b x
theorem meet_of {c a b : List Int} (h : c.length < ins c a + ins c b) : meet c a b = true := by
  have := both_in c a b
  unfold meet
  rw [List.any_eq_true]
  have h1 : 0 < c.countP fun x => has a x && has b x := by omega
  obtain ⟨x, hx, h2⟩ := List.countP_pos_iff.1 h1
  exact ⟨x, hx, h2⟩
theorem meet_take {c a b : List Int} {k : Nat} {x : Int} (h : c[k]? = some x) : meet (c.take (k + 1)) a b = (meet (c.take k) a b || (has a x && has b x)) := by
  unfold meet
  rw [List.take_add_one, h, List.any_append]
  simp
/-- Two that win over one meet. -/
theorem meet_one {c a b : List Int} (ha : wins c a = true) (hb : wins c b = true) : meet c a b = true := by
  have h1 := wins_ins ha
  have h2 := wins_ins hb
  exact meet_of (by omega)
theorem srt_perm (l : List Int) : (srt l).Perm l := List.mergeSort_perm _ _
theorem srt_len (l : List Int) : (srt l).length = l.length := (srt_perm l).length_eq
theorem srt_le (l : List Int) : (srt l).Pairwise (· ≤ ·) := by
  have h := List.pairwise_mergeSort (le := fun x y : Int => decide (x ≤ y)) (fun a b c h1 h2 => by simp only [decide_eq_true_eq] at *; omega) (fun a b => by simp only [Bool.or_eq_true, decide_eq_true_eq]; omega) l
  exact h.imp fun h => by simpa using h
theorem srt_is {l m : List Int} (hm : m.Pairwise (· ≤ ·)) (h : m.Perm l) : srt l = m :=
  List.Perm.eq_of_pairwise (le := fun a b : Int => a ≤ b) (fun a b _ _ h1 h2 => by omega) (srt_le l) hm ((srt_perm l).trans h.symm)
theorem wo_len (c : List Int) (r : Int) : (wo c r).length ≤ c.length := List.length_filter_le _ _
theorem wo_take {c : List Int} {k : Nat} {x r : Int} (h : c[k]? = some x) : wo (c.take (k + 1)) r = wo (c.take k) r ++ (if (x != r) = true then [x] else []) := by
  unfold wo
  rw [List.take_add_one, h, List.filter_append]
  simp [List.filter_cons]
theorem wo_same {c : List Int} {r : Int} (h : has c r = false) : wo c r = c := by
  unfold wo
  rw [List.filter_eq_self]
  intro x hx
  have : ¬ r ∈ c := fun e => by rw [(has_iff c r).2 e] at h; cases h
  simp
  rintro rfl
  exact this hx
theorem has_no {c : List Int} {r : Int} (h : has c r = false) : ¬ r ∈ c := fun e => by rw [(has_iff c r).2 e] at h; cases h
theorem has0 {c : List Int} (h : chk c = true) : has c 0 = false := by
  cases h0 : has c 0 with
  | false => rfl
  | true =>
    have := ((chk_iff c).1 h).2.2.1 0 ((has_iff c 0).1 h0)
    omega
/-- A set over the list with another order. -/
theorem ins_perm {c c' : List Int} (h : c.Perm c') (s : List Int) : ins c s = ins c' s := h.countP_eq _
theorem wo_more (r : Int) {c : List Int} (hp : c.Pairwise (· < ·)) : c.length ≤ (wo c r).length + 1 := by
  unfold wo
  induction c with
  | nil => simp
  | cons y c ih =>
    rw [List.pairwise_cons] at hp
    by_cases hy : y = r
    · subst hy
      have : (c.filter fun x => x != y) = c := by
        rw [List.filter_eq_self]
        intro z hz
        have := hp.1 z hz
        simp
        omega
      simp [this]
    · have := ih hp.2
      simp [hy]
      omega
/-- Over neighbours: with one more, or with one less. -/
theorem meet_next {c a b : List Int} {x r : Int} (h0 : x = 0 ∨ r = 0) (hn : nxB c x r = true) (ha : wins c a = true) (hb : wins (out c x r) b = true) : meet c a b = true := by
  unfold nxB at hn
  simp only [Bool.and_eq_true] at hn
  obtain ⟨⟨⟨h1, h2⟩, h3⟩, h4⟩ := hn
  have k1 := wins_ins ha
  have k2 := wins_ins hb
  refine meet_of ?_
  unfold out at k2
  by_cases hx : x = 0
  · rw [if_pos hx] at k2
    have e1 : ins (wo c r) b ≤ ins c b := by
      unfold ins wo
      rw [List.countP_filter]
      exact List.countP_mono_left fun y _ hy => by simp at hy; exact hy.1
    have e2 : c.length ≤ (wo c r).length + 1 := by
      exact wo_more r ((chk_iff c).1 h1).2.2.2
    omega
  · rw [if_neg hx] at k2
    have hr : r = 0 := h0.resolve_left hx
    subst hr
    rw [wo_same (has0 h1)] at k2
    rw [srt_len, ins_perm (srt_perm _)] at k2
    have e : ins (c ++ [x]) b ≤ ins c b + 1 := by
      unfold ins
      rw [List.countP_append]
      have := List.countP_le_length (p := fun x => has b x) (l := [x])
      simp at this ⊢
      omega
    rw [List.length_append] at k2
    simp at k2
    omega
/-- The median: more than half have reached it. -/
theorem count_ge {S : List Int} (h : S.Pairwise (· ≤ ·)) {k : Nat} (hk : k < S.length) : S.length - k ≤ S.countP fun x => decide (S[k] ≤ x) := by
  have e : S.countP (fun x => decide (S[k] ≤ x)) = (S.take k).countP (fun x => decide (S[k] ≤ x)) + (S.drop k).countP (fun x => decide (S[k] ≤ x)) := by rw [← List.countP_append, List.take_append_drop]
  have : (S.drop k).countP (fun x => decide (S[k] ≤ x)) = (S.drop k).length := by
    rw [List.countP_eq_length]
    intro x hx
    obtain ⟨i, hi, rfl⟩ := List.mem_iff_getElem.1 hx
    simp only [List.getElem_drop, decide_eq_true_eq]
    rcases Nat.eq_zero_or_pos i with rfl | hi0
    · simp
    · exact List.pairwise_iff_getElem.1 h k (k + i) hk (by simp at hi; omega) (by omega)
  rw [e, this, List.length_drop]
  omega
theorem count_gt {S : List Int} (h : S.Pairwise (· ≤ ·)) {k : Nat} (hk : k < S.length) : (S.countP fun x => decide (S[k] < x)) ≤ S.length - k - 1 := by
  have e : S.countP (fun x => decide (S[k] < x)) = (S.take (k + 1)).countP (fun x => decide (S[k] < x)) + (S.drop (k + 1)).countP (fun x => decide (S[k] < x)) := by rw [← List.countP_append, List.take_append_drop]
  have : (S.take (k + 1)).countP (fun x => decide (S[k] < x)) = 0 := by
    rw [List.countP_eq_zero]
    intro x hx
    obtain ⟨i, hi, rfl⟩ := List.mem_iff_getElem.1 hx
    simp only [List.getElem_take, decide_eq_true_eq]
    simp at hi
    rcases Nat.eq_or_lt_of_le (show i ≤ k by omega) with rfl | hi0
    · omega
    · have := List.pairwise_iff_getElem.1 h i k (by omega) hk hi0
      omega
  have h2 := List.countP_le_length (p := fun x => decide (S[k] < x)) (l := S.drop (k + 1))
  rw [List.length_drop] at h2
  omega
theorem med_ge {v : List Int} (h : v ≠ []) : v.length < 2 * v.countP fun x => decide (med v ≤ x) := by
  have hl : 0 < v.length := List.length_pos_iff.2 h
  have hk : (v.length - 1) / 2 < (srt v).length := by rw [srt_len]; omega
  have h1 := count_ge (srt_le v) hk
  have e : med v = (srt v)[(v.length - 1) / 2] := by unfold med; rw [List.getD_eq_getElem?_getD, List.getElem?_eq_getElem hk]; rfl
  rw [← e, (srt_perm v).countP_eq, srt_len] at h1
  omega
theorem med_gt {v : List Int} (h : v ≠ []) : 2 * (v.countP fun x => decide (med v < x)) ≤ v.length := by
  have hl : 0 < v.length := List.length_pos_iff.2 h
  have hk : (v.length - 1) / 2 < (srt v).length := by rw [srt_len]; omega
  have h1 := count_gt (srt_le v) hk
  have e : med v = (srt v)[(v.length - 1) / 2] := by unfold med; rw [List.getD_eq_getElem?_getD, List.getElem?_eq_getElem hk]; rfl
  rw [← e, (srt_perm v).countP_eq, srt_len] at h1
  omega
theorem med_mem {v : List Int} (h : v ≠ []) : med v ∈ v := by
  have hl : 0 < v.length := List.length_pos_iff.2 h
  have hk : (v.length - 1) / 2 < (srt v).length := by rw [srt_len]; omega
  have e : med v = (srt v)[(v.length - 1) / 2] := by unfold med; rw [List.getD_eq_getElem?_getD, List.getElem?_eq_getElem hk]; rfl
  rw [e]
  exact (srt_perm v).mem_iff.1 (List.getElem_mem hk)
/-- A number that more than half have reached. -/
def good (v : List Int) (n : Int) : Bool := decide (v.length < 2 * v.countP fun x => decide (n ≤ x))
theorem good_le {v : List Int} (h : v ≠ []) {n : Int} (hg : good v n = true) : n ≤ med v := by
  unfold good at hg
  rw [decide_eq_true_eq] at hg
  refine Int.not_lt.1 fun hn => ?_
  have h1 := med_gt h
  have h2 : (v.countP fun x => decide (n ≤ x)) ≤ v.countP fun x => decide (med v < x) := List.countP_mono_left fun x _ hx => by
    simp only [decide_eq_true_eq] at *
    omega
  omega
theorem good_med {v : List Int} (h : v ≠ []) : good v (med v) = true := decide_eq_true (med_ge h)
/-- What the reference's look ends with. -/
theorem best_med {v : List Int} (h : v ≠ []) {f : Bool} {b : Int} (h0 : f = false → ∀ x ∈ v, good v x = false) (h1 : f = true → good v b = true ∧ ∀ x ∈ v, good v x = true → x ≤ b) : b = med v := by
  cases f with
  | false => have := h0 rfl _ (med_mem h); rw [good_med h] at this; cases this
  | true =>
    obtain ⟨k1, k2⟩ := h1 rfl
    have := k2 _ (med_mem h) (good_med h)
    have := good_le h k1
    omega
theorem has_filter (c : List Int) (p : Int → Bool) (x : Int) (hx : x ∈ c) : has (c.filter p) x = p x := by
  cases hp : p x with
  | true => exact (has_iff _ _).2 (List.mem_filter.2 ⟨hx, hp⟩)
  | false =>
    cases h : has (c.filter p) x with
    | false => rfl
    | true => have := (List.mem_filter.1 ((has_iff _ _).1 h)).2; rw [hp] at this; cases this
theorem ins_filter (c : List Int) (p : Int → Bool) : ins c (c.filter p) = c.countP p := by
  unfold ins
  refine List.countP_congr fun x hx => ?_
  rw [has_filter c p x hx]
theorem chk_ne {c : List Int} (h : chk c = true) : c ≠ [] := by
  have := ((chk_iff c).1 h).1
  intro e
  subst e
  simp at this
/-- Those that have reached the median win; those that have reached more don't. -/
theorem median_wins {c : List Int} (m : List (Int × Int)) (h : chk c = true) : wins c (c.filter fun x => decide (rea c m ≤ lat m x)) = true := by
  refine wins_mk h ?_
  rw [ins_filter]
  have hv : c.map (lat m) ≠ [] := by have := chk_ne h; simpa using this
  have h1 := med_ge hv
  rw [List.countP_map, List.length_map] at h1
  unfold rea
  rw [if_pos h]
  exact h1
theorem median_more {c : List Int} (m : List (Int × Int)) (h : chk c = true) : wins c (c.filter fun x => decide (rea c m + 1 ≤ lat m x)) = false := by
  have hv : c.map (lat m) ≠ [] := by have := chk_ne h; simpa using this
  have h1 := med_gt hv
  rw [List.countP_map, List.length_map] at h1
  cases hw : wins c (c.filter fun x => decide (rea c m + 1 ≤ lat m x)) with
  | false => rfl
  | true =>
    have h2 := wins_ins hw
    rw [ins_filter] at h2
    unfold rea at h2
    rw [if_pos h] at h2
    have : (c.countP fun x => decide (med (c.map (lat m)) + 1 ≤ lat m x)) = c.countP ((fun x => decide (med (c.map (lat m)) < x)) ∘ lat m) := List.countP_congr fun x _ => by simp; omega
    omega
/-- More nodes still win. -/
theorem more_wins {c s t : List Int} (h : wins c s = true) : wins c (s ++ t) = true := by
  refine wins_mk (wins_chk h) ?_
  have h1 := wins_ins h
  have h2 : ins c s ≤ ins c (s ++ t) := ins_mono fun x _ hx => List.mem_append.2 (.inl hx)
  omega
theorem in_out (c s : List Int) : c.countP (fun x => has s x) + c.countP (fun x => !has s x) = c.length := by
  induction c with
  | nil => rfl
  | cons y c ih => simp only [List.countP_cons, List.length_cons]; cases has s y <;> simp <;> omega
theorem rest_not {c s : List Int} (h : wins c s = true) : wins c (c.filter fun x => !has s x) = false := by
  cases hw : wins c (c.filter fun x => !has s x) with
  | false => rfl
  | true =>
    have h1 := wins_ins h
    have h2 := wins_ins hw
    rw [ins_filter] at h2
    have := in_out c s
    unfold ins at h1
    omega
theorem self_wins (c : List Int) : wins c c = chk c := by
  cases h : chk c with
  | false => unfold wins; rw [h]; rfl
  | true =>
    refine wins_mk h ?_
    have : ins c c = c.length := by
      unfold ins
      rw [List.countP_eq_length]
      intro x hx
      exact (has_iff _ _).2 hx
    have := ((chk_iff c).1 h).1
    omega
/-- The reference's way to the next one. -/
def rn (a r : Int) : Bool → List Int → List Int
  | put, [] => if put = true then [] else [a]
  | put, x :: c => (if put = false ∧ a < x then [a] else []) ++ (if (x != r) = true then [x] else []) ++ rn a r (put || decide (a < x)) c
theorem rn_put (a r : Int) : ∀ c, rn a r true c = wo c r
  | [] => rfl
  | x :: c => by
    unfold rn
    rw [Bool.true_or, rn_put a r c]
    unfold wo
    cases h : (x != r) <;> simp [h]
theorem rn_perm (a r : Int) : ∀ c, (rn a r false c).Perm (wo c r ++ [a])
  | [] => by simp [rn, wo]
  | x :: c => by
    unfold rn
    by_cases hx : a < x
    · rw [decide_eq_true hx, Bool.or_true, rn_put, if_pos ⟨rfl, hx⟩]
      have : wo (x :: c) r = (if (x != r) = true then [x] else []) ++ wo c r := by unfold wo; cases h : (x != r) <;> simp [h]
      rw [this, List.append_assoc]
      exact (List.perm_append_comm (l₁ := [a]))
    · rw [decide_eq_false hx, Bool.or_false, if_neg (fun e => hx e.2)]
      have : wo (x :: c) r = (if (x != r) = true then [x] else []) ++ wo c r := by unfold wo; cases h : (x != r) <;> simp [h]
      rw [this, List.nil_append, List.append_assoc]
      exact (rn_perm a r c).append_left _
theorem rn_mem (a r : Int) (c : List Int) : ∀ y ∈ rn a r false c, y ∈ c ∨ y = a := by
  intro y hy
  have := (rn_perm a r c).mem_iff.1 hy
  rw [List.mem_append] at this
  rcases this with h | h
  · exact .inl (List.mem_filter.1 h).1
  · exact .inr (by simpa using h)
theorem rn_le (a r : Int) : ∀ {c : List Int}, c.Pairwise (· < ·) → (rn a r false c).Pairwise (· ≤ ·)
  | [], _ => by simp [rn]
  | x :: c, h => by
    rw [List.pairwise_cons] at h
    have hw : (wo c r).Pairwise (· ≤ ·) := (h.2.sublist (List.filter_sublist)).imp fun h => by omega
    have hxw : ∀ y ∈ wo c r, x < y := fun y hy => h.1 y (List.mem_filter.1 hy).1
    unfold rn
    by_cases hx : a < x
    · rw [decide_eq_true hx, Bool.or_true, rn_put, if_pos ⟨rfl, hx⟩]
      cases hr : (x != r)
      · simp only [Bool.false_eq_true, if_false, List.append_nil]
        rw [List.singleton_append, List.pairwise_cons]
        exact ⟨fun y hy => by have := hxw y hy; omega, hw⟩
      · simp only [if_true]
        rw [List.append_assoc, List.singleton_append, List.pairwise_cons, List.singleton_append, List.pairwise_cons]
        refine ⟨fun y hy => ?_, fun y hy => by have := hxw y hy; omega, hw⟩
        rcases List.mem_cons.1 hy with rfl | hy
        · omega
        · have := hxw y hy; omega
    · rw [decide_eq_false hx, Bool.or_false, if_neg (fun e => hx e.2), List.nil_append]
      cases hr : (x != r)
      · simp only [Bool.false_eq_true, if_false, List.nil_append]
        exact rn_le a r h.2
      · simp only [if_true]
        rw [List.singleton_append, List.pairwise_cons]
        refine ⟨fun y hy => ?_, rn_le a r h.2⟩
        rcases rn_mem a r c y hy with h1 | rfl
        · have := h.1 y h1; omega
        · omega
/-- The reference's list is the program's. -/
theorem rn_out {c : List Int} (a r : Int) (h : c.Pairwise (· < ·)) : rn a r (a == 0) c = out c a r := by
  unfold out
  by_cases ha : a = 0
  · rw [if_pos ha]
    subst ha
    exact rn_put 0 r c
  · rw [if_neg ha, show (a == 0) = false by simpa using ha]
    exact (srt_is (rn_le a r h) (rn_perm a r c)).symm
end Go.Proofs.Ytdpcebaggldaiaa.Quo
