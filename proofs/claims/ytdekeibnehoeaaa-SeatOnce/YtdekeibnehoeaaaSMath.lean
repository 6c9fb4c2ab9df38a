/- Sessions: jobs, what a client was answered, books of sessions; a session put in its place, two books joined. -/
namespace Go.Proofs.Ytdekeibnehoeaaa.Sea
set_option linter.unusedVariables false

/-- A job. -/
structure Jb where
  nm : ByteArray
  ex : ByteArray
  zn : ByteArray
  tk : ByteArray
  cl : Int
  sq : Int
  ps : Bool
  ma : Int
/-- A session. -/
structure Sn where
  cl : Int
  sq : Int
  er : Int
  tm : Int
  js : List Jb
def zeroS : Sn := ⟨0, 0, 0, 0, []⟩

section keys
variable {α : Type} (f : α → Int)
def pos (l : List α) (c : Int) : Nat := l.countP fun p => decide (f p < c)
def there (l : List α) (c : Int) : Bool := l.any fun p => f p == c
variable {f}
theorem pos_is {l : List α} (h : l.Pairwise fun p q => f p < f q) {i : Nat} {p : α} (hi : l[i]? = some p) : pos f l (f p) = i := by
  induction l generalizing i with
  | nil => simp at hi
  | cons a r ih =>
    rw [List.pairwise_cons] at h
    cases i with
    | zero =>
      simp at hi
      subst hi
      unfold pos
      rw [List.countP_eq_zero]
      intro x hx
      rcases List.mem_cons.1 hx with rfl | hx
      · simp
      · have := h.1 x hx; simp; omega
    | succ k =>
      simp at hi
      have h1 := ih h.2 hi
      have h2 := h.1 p (List.mem_of_getElem? hi)
      unfold pos at h1 ⊢
      rw [List.countP_cons_of_pos (by simpa using h2), h1]
theorem there_at {l : List α} (h : l.Pairwise fun p q => f p < f q) {c : Int} (ht : there f l c = true) : ∃ p, l[pos f l c]? = some p ∧ f p = c := by
  unfold there at ht
  obtain ⟨p, hp, e⟩ := List.any_eq_true.1 ht
  have e : f p = c := by simpa using e
  obtain ⟨i, hi⟩ := List.getElem?_of_mem hp
  subst e
  exact ⟨p, by rw [pos_is h hi]; exact hi, rfl⟩
theorem there_no {l : List α} {c : Int} (ht : there f l c = false) : ∀ p ∈ l, f p ≠ c := by
  intro p hp e
  unfold there at ht
  have := (List.any_eq_false.1 ht) p hp
  simp [e] at this
theorem pos_le (l : List α) (c : Int) : pos f l c ≤ l.length := List.countP_le_length
theorem pos_before {l : List α} (h : l.Pairwise fun p q => f p < f q) {c : Int} {i : Nat} {p : α} (hi : l[i]? = some p) : f p < c ↔ i < pos f l c := by
  have key : ∀ (m : List α), (m.Pairwise fun p q => f p < f q) → ∀ i p, m[i]? = some p → (f p < c ↔ i < m.countP fun p => decide (f p < c)) := by
    intro m
    induction m with
    | nil => intro _ i p h; simp at h
    | cons a r ih =>
      intro hp i p hi
      rw [List.pairwise_cons] at hp
      cases i with
      | zero =>
        simp at hi
        subst hi
        by_cases ha : f a < c
        · rw [List.countP_cons_of_pos (by simpa using ha)]; simp [ha]
        · rw [List.countP_cons_of_neg (by simpa using ha)]
          have : r.countP (fun p => decide (f p < c)) = 0 := by
            rw [List.countP_eq_zero]
            intro x hx
            have := hp.1 x hx
            simp; omega
          rw [this]
          simp [ha]
      | succ k =>
        simp at hi
        have h1 := ih hp.2 k p hi
        have h2 := hp.1 p (List.mem_of_getElem? hi)
        by_cases ha : f a < c
        · rw [List.countP_cons_of_pos (by simpa using ha), h1]; omega
        · rw [List.countP_cons_of_neg (by simpa using ha)]
          have h3 : r.countP (fun p => decide (f p < c)) = 0 := by
            rw [List.countP_eq_zero]
            intro x hx
            have := hp.1 x hx
            simp; omega
          rw [h3]
          constructor
          · intro; omega
          · intro; omega
  exact key l h i p hi
theorem pos_map {β : Type} (g : β → α) (l : List β) (c : Int) : pos (fun x => f (g x)) l c = pos f (l.map g) c := by unfold pos; rw [List.countP_map]; rfl
theorem there_map {β : Type} (g : β → α) (l : List β) (c : Int) : there (fun x => f (g x)) l c = there f (l.map g) c := by unfold there; rw [List.any_map]; rfl
end keys

/-- May a session have this client and this number? -/
def may (c q : Int) : Bool := decide (1 ≤ c) && decide (c ≤ 64) && decide (1 ≤ q)
def chkF : Int → List Sn → Bool
  | _, [] => true
  | a, s :: r => may s.cl s.sq && decide (a < s.cl) && chkF s.cl r
/-- Is it a book? -/
def chk (L : List Sn) : Bool := chkF 0 L
theorem chkF_parts : ∀ {L : List Sn} {a : Int}, chkF a L = true → (∀ s ∈ L, may s.cl s.sq = true ∧ a < s.cl) ∧ (L.Pairwise fun p q => p.cl < q.cl)
  | [], _, _ => ⟨by simp, List.Pairwise.nil⟩
  | s :: r, a, h => by
    simp only [chkF, Bool.and_eq_true, decide_eq_true_eq] at h
    obtain ⟨h1, h2⟩ := chkF_parts h.2
    refine ⟨fun x hx => ?_, List.pairwise_cons.2 ⟨fun x hx => (h1 x hx).2, h2⟩⟩
    rcases List.mem_cons.1 hx with rfl | hx
    · exact h.1
    · exact ⟨(h1 x hx).1, by have := (h1 x hx).2; omega⟩
theorem chkF_of : ∀ {L : List Sn} {a : Int}, (∀ s ∈ L, may s.cl s.sq = true ∧ a < s.cl) → (L.Pairwise fun p q => p.cl < q.cl) → chkF a L = true
  | [], _, _, _ => rfl
  | s :: r, a, h1, h2 => by
    rw [List.pairwise_cons] at h2
    simp only [chkF, Bool.and_eq_true, decide_eq_true_eq]
    exact ⟨h1 s (by simp), chkF_of (fun x hx => ⟨(h1 x (by simp [hx])).1, h2.1 x hx⟩) h2.2⟩
theorem may_is {c q : Int} : may c q = true ↔ 1 ≤ c ∧ c ≤ 64 ∧ 1 ≤ q := by simp [may, and_assoc]
theorem chk_iff {L : List Sn} : chk L = true ↔ (∀ s ∈ L, may s.cl s.sq = true) ∧ (L.Pairwise fun p q => p.cl < q.cl) := by
  constructor
  · intro h
    obtain ⟨h1, h2⟩ := chkF_parts h
    exact ⟨fun s hs => (h1 s hs).1, h2⟩
  · rintro ⟨h1, h2⟩
    exact chkF_of (fun s hs => ⟨h1 s hs, by have := may_is.1 (h1 s hs); omega⟩) h2
theorem rise_len : ∀ {L : List Sn} {a : Int}, (∀ s ∈ L, a < s.cl ∧ s.cl ≤ 64) → (L.Pairwise fun p q => p.cl < q.cl) → a ≤ 64 → a + L.length ≤ 64
  | [], a, _, _, h => by simpa using h
  | s :: r, a, h1, h2, h3 => by
    rw [List.pairwise_cons] at h2
    have h4 := h1 s (by simp)
    have := rise_len (a := s.cl) (fun x hx => ⟨h2.1 x hx, (h1 x (by simp [hx])).2⟩) h2.2 h4.2
    rw [List.length_cons]
    omega
theorem chk_len {L : List Sn} (h : chk L = true) : L.length ≤ 64 := by
  obtain ⟨h1, h2⟩ := chk_iff.1 h
  have := rise_len (a := 0) (fun s hs => by have := may_is.1 (h1 s hs); omega) h2 (by omega)
  omega
/-- Of two sessions of one client the newer one. -/
def bt (x s : Sn) : Sn := if x.sq < s.sq then s else x
theorem bt_cl {x s : Sn} (h : x.cl = s.cl) : (bt x s).cl = x.cl := by unfold bt; split <;> simp [h]
theorem bt_or (x s : Sn) : bt x s = s ∨ bt x s = x := by unfold bt; split <;> simp
/-- A session in its place. -/
def put1 : List Sn → Sn → List Sn
  | [], s => [s]
  | x :: a, s => if x.cl < s.cl then x :: put1 a s else if s.cl < x.cl then s :: x :: a else bt x s :: a
/-- The client's session. -/
def lk (L : List Sn) (c : Int) : Option Sn := L.find? fun s => s.cl == c
/-- Is the session newer than what the book has? -/
def newer (L : List Sn) (s : Sn) : Bool := match lk L s.cl with
  | none => true
  | some x => decide (x.sq < s.sq)
theorem lk_none {L : List Sn} {c : Int} (h : there Sn.cl L c = false) : lk L c = none := by
  unfold lk
  rw [List.find?_eq_none]
  intro x hx
  have := there_no h x hx
  simpa using this
theorem lk_at {L : List Sn} (hp : L.Pairwise fun p q => p.cl < q.cl) {c : Int} {x : Sn} (hx : x ∈ L) (e : x.cl = c) : lk L c = some x := by
  induction L with
  | nil => simp at hx
  | cons a r ih =>
    rw [List.pairwise_cons] at hp
    unfold lk
    rw [List.find?_cons]
    rcases List.mem_cons.1 hx with rfl | hx
    · simp [e]
    · have := hp.1 x hx
      have h2 : (a.cl == c) = false := by simp; omega
      rw [h2]
      exact ih hp.2 hx
theorem lk_some {L : List Sn} {c : Int} {x : Sn} (h : lk L c = some x) : x ∈ L ∧ x.cl = c := by
  unfold lk at h
  exact ⟨List.mem_of_find?_eq_some h, by simpa using List.find?_some h⟩
theorem there_lk {L : List Sn} {c : Int} : there Sn.cl L c = (lk L c).isSome := by
  rw [Bool.eq_iff_iff]
  unfold there lk
  rw [List.find?_isSome, List.any_eq_true]
theorem ins_put : ∀ {L : List Sn} {s : Sn}, (L.Pairwise fun p q => p.cl < q.cl) → there Sn.cl L s.cl = false → L.take (pos Sn.cl L s.cl) ++ s :: L.drop (pos Sn.cl L s.cl) = put1 L s
  | [], s, _, _ => rfl
  | x :: a, s, hp, ht => by
    rw [List.pairwise_cons] at hp
    have hne := there_no ht x (by simp)
    have hta : there Sn.cl a s.cl = false := by
      unfold there at ht ⊢
      rw [List.any_cons] at ht
      exact (Bool.or_eq_false_iff.1 ht).2
    by_cases h : x.cl < s.cl
    · have e : pos Sn.cl (x :: a) s.cl = pos Sn.cl a s.cl + 1 := by unfold pos; rw [List.countP_cons_of_pos (by simpa using h)]
      rw [e, put1, if_pos h, ← ins_put hp.2 hta]
      rfl
    · have e : pos Sn.cl (x :: a) s.cl = 0 := by
        unfold pos
        rw [List.countP_eq_zero]
        intro y hy
        rcases List.mem_cons.1 hy with rfl | hy
        · simpa using h
        · have := hp.1 y hy; simp; omega
      rw [e, put1, if_neg h, if_pos (by omega)]
      rfl
theorem set_put : ∀ {L : List Sn} {s x : Sn}, (L.Pairwise fun p q => p.cl < q.cl) → L[pos Sn.cl L s.cl]? = some x → x.cl = s.cl → (if x.sq < s.sq then L.set (pos Sn.cl L s.cl) s else L) = put1 L s
  | [], s, x, _, h, _ => by simp at h
  | y :: a, s, x, hp, h, e => by
    rw [List.pairwise_cons] at hp
    by_cases hy : y.cl < s.cl
    · have e1 : pos Sn.cl (y :: a) s.cl = pos Sn.cl a s.cl + 1 := by unfold pos; rw [List.countP_cons_of_pos (by simpa using hy)]
      rw [e1, List.getElem?_cons_succ] at h
      rw [put1, if_pos hy, ← set_put hp.2 h e, e1, List.set_cons_succ]
      split <;> rfl
    · have e1 : pos Sn.cl (y :: a) s.cl = 0 := by
        unfold pos
        rw [List.countP_eq_zero]
        intro z hz
        rcases List.mem_cons.1 hz with rfl | hz
        · simpa using hy
        · have := hp.1 z hz; simp; omega
      rw [e1, List.getElem?_cons_zero] at h
      injection h with h
      subst h
      rw [put1, if_neg hy, if_neg (show ¬ s.cl < y.cl by omega), e1, List.set_cons_zero]
      unfold bt
      split <;> rfl
/-- Two books in one. -/
def mg : List Sn → List Sn → List Sn
  | [], b => b
  | x :: a, [] => x :: a
  | x :: a, y :: b => if x.cl < y.cl then x :: mg a (y :: b) else if y.cl < x.cl then y :: mg (x :: a) b else bt x y :: mg a b
  termination_by a b => a.length + b.length
theorem mg_nil (a : List Sn) : mg a [] = a := by cases a <;> simp [mg]
theorem mg_one : ∀ (L : List Sn) (s : Sn), mg L [s] = put1 L s
  | [], s => by simp [mg, put1]
  | x :: a, s => by
    rw [mg, put1, mg_one a s, mg_nil, mg_nil]
theorem fold_front (x : Sn) : ∀ (B A : List Sn), (∀ y ∈ B, x.cl < y.cl) → B.foldl put1 (x :: A) = x :: B.foldl put1 A
  | [], A, _ => rfl
  | y :: B, A, h => by
    rw [List.foldl_cons, List.foldl_cons, put1, if_pos (h y (by simp)), fold_front x B _ (fun z hz => h z (by simp [hz]))]
theorem mg_fold : ∀ (A B : List Sn), (B.Pairwise fun p q => p.cl < q.cl) → B.foldl put1 A = mg A B
  | [], [], _ => by simp [mg]
  | [], y :: B, h => by
    rw [List.pairwise_cons] at h
    rw [List.foldl_cons, put1, fold_front y B [] h.1, mg_fold [] B h.2]
    simp [mg]
  | x :: A, [], h => by simp [mg]
  | x :: A, y :: B, h => by
    have h' := h
    rw [List.pairwise_cons] at h
    rw [mg]
    by_cases h1 : x.cl < y.cl
    · rw [if_pos h1, ← mg_fold A (y :: B) h', fold_front x (y :: B) A (fun z hz => by
        rcases List.mem_cons.1 hz with rfl | hz
        · exact h1
        · have := h.1 z hz; omega)]
    · rw [if_neg h1]
      by_cases h2 : y.cl < x.cl
      · rw [if_pos h2, List.foldl_cons, put1, if_neg h1, if_pos h2, fold_front y B _ h.1, mg_fold (x :: A) B h.2]
      · rw [if_neg h2, List.foldl_cons, put1, if_neg h1, if_neg h2, ← mg_fold A B h.2]
        refine fold_front _ B A (fun z hz => ?_)
        have := h.1 z hz
        rw [bt_cl (by omega)]
        omega
  termination_by A B => A.length + B.length
theorem put1_keys : ∀ (L : List Sn) (s : Sn), ∀ x ∈ put1 L s, x = s ∨ x ∈ L
  | [], s, x, h => by simp [put1] at h; exact .inl h
  | y :: a, s, x, h => by
    rw [put1] at h
    split at h
    · rcases List.mem_cons.1 h with rfl | h
      · exact .inr (by simp)
      · rcases put1_keys a s x h with h | h
        · exact .inl h
        · exact .inr (by simp [h])
    · split at h
      · rcases List.mem_cons.1 h with rfl | h
        · exact .inl rfl
        · exact .inr h
      · rcases List.mem_cons.1 h with e | h
        · rcases bt_or y s with k | k
          · exact .inl (e.trans k)
          · exact .inr (by simp [e, k])
        · exact .inr (by simp [h])
theorem put1_rise : ∀ {L : List Sn} {s : Sn}, (L.Pairwise fun p q => p.cl < q.cl) → (put1 L s).Pairwise fun p q => p.cl < q.cl
  | [], s, _ => by simp [put1]
  | x :: a, s, h => by
    have h' := h
    rw [List.pairwise_cons] at h
    rw [put1]
    by_cases h1 : x.cl < s.cl
    · rw [if_pos h1, List.pairwise_cons]
      refine ⟨fun y hy => ?_, put1_rise h.2⟩
      rcases put1_keys a s y hy with rfl | hy
      · exact h1
      · exact h.1 y hy
    · rw [if_neg h1]
      by_cases h2 : s.cl < x.cl
      · rw [if_pos h2, List.pairwise_cons]
        refine ⟨fun y hy => ?_, h'⟩
        rcases List.mem_cons.1 hy with rfl | hy
        · exact h2
        · have := h.1 y hy; omega
      · rw [if_neg h2, List.pairwise_cons]
        refine ⟨fun y hy => ?_, h.2⟩
        have := h.1 y hy
        rw [bt_cl (by omega)]
        exact this
theorem chk_put {L : List Sn} {s : Sn} (h : chk L = true) (hs : may s.cl s.sq = true) : chk (put1 L s) = true := by
  obtain ⟨h1, h2⟩ := chk_iff.1 h
  refine chk_iff.2 ⟨fun x hx => ?_, put1_rise h2⟩
  rcases put1_keys L s x hx with rfl | hx
  · exact hs
  · exact h1 x hx
theorem chk_fold : ∀ {B A : List Sn}, chk A = true → (∀ s ∈ B, may s.cl s.sq = true) → chk (B.foldl put1 A) = true
  | [], A, h, _ => h
  | y :: B, A, h, hb => chk_fold (B := B) (chk_put h (hb y (by simp))) (fun s hs => hb s (by simp [hs]))
theorem chk_mg {A B : List Sn} (ha : chk A = true) (hb : chk B = true) : chk (mg A B) = true := by
  obtain ⟨h1, h2⟩ := chk_iff.1 hb
  rw [← mg_fold A B h2]
  exact chk_fold ha h1
/-- What one is told of each client does not hang on which book comes first. -/
theorem mg_swap : ∀ (A B : List Sn), (mg A B).map (fun s => (s.cl, s.sq)) = (mg B A).map fun s => (s.cl, s.sq)
  | [], B => by rw [mg_nil]; simp [mg]
  | x :: A, [] => by rw [mg_nil]; simp [mg]
  | x :: A, y :: B => by
    rw [mg, mg]
    by_cases h1 : x.cl < y.cl
    · rw [if_pos h1, if_neg (by omega), if_pos h1, List.map_cons, List.map_cons, mg_swap A (y :: B)]
    · rw [if_neg h1]
      by_cases h2 : y.cl < x.cl
      · rw [if_pos h2, if_pos h2, List.map_cons, List.map_cons, mg_swap (x :: A) B]
      · rw [if_neg h2, if_neg h2, if_neg h1, List.map_cons, List.map_cons, mg_swap A B]
        congr 1
        unfold bt
        by_cases h3 : x.sq < y.sq
        · rw [if_pos h3, if_neg (by omega)]
        · rw [if_neg h3]
          by_cases h4 : y.sq < x.sq
          · rw [if_pos h4]
          · rw [if_neg h4]
            simp only [Prod.mk.injEq]
            omega
  termination_by A B => A.length + B.length
theorem mg_self : ∀ (A : List Sn), mg A A = A
  | [] => by simp [mg]
  | x :: A => by rw [mg, if_neg (by omega), if_neg (by omega), mg_self A, bt, if_neg (by omega)]
theorem put1_swap : ∀ (L : List Sn) {a b : Sn}, a.cl ≠ b.cl → put1 (put1 L a) b = put1 (put1 L b) a
  | [], a, b, h => by
    simp only [put1]
    by_cases h1 : a.cl < b.cl
    · rw [if_pos h1, if_neg (by omega), if_pos h1]
    · rw [if_neg h1, if_pos (by omega), if_pos (by omega)]
  | x :: L, a, b, h => by
    have ih := put1_swap L h
    have ka : x.cl = a.cl → (bt x a).cl = x.cl := bt_cl
    have kb : x.cl = b.cl → (bt x b).cl = x.cl := bt_cl
    rw [put1, put1]
    by_cases h1 : x.cl < a.cl
    · rw [if_pos h1]
      by_cases h2 : x.cl < b.cl
      · rw [if_pos h2, put1, put1, if_pos h1, if_pos h2, ih]
      · rw [if_neg h2]
        by_cases h3 : b.cl < x.cl
        · rw [if_pos h3, put1, put1, put1, if_pos h1, if_neg h2, if_pos h3, if_pos (by omega)]
        · have := kb (by omega)
          rw [if_neg h3, put1, put1, if_neg h2, if_neg h3, if_pos (by omega)]
    · rw [if_neg h1]
      by_cases h4 : a.cl < x.cl
      · rw [if_pos h4]
        by_cases h2 : x.cl < b.cl
        · rw [if_pos h2, put1, put1, put1, if_neg h1, if_pos h4, if_pos (by omega), if_pos h2]
        · rw [if_neg h2]
          by_cases h3 : b.cl < x.cl
          · rw [if_pos h3, put1, put1, put1, put1, if_neg h2, if_pos h3, if_neg h1, if_pos h4]
            by_cases h5 : a.cl < b.cl
            · rw [if_pos h5, if_neg (by omega), if_pos h5]
            · rw [if_neg h5, if_pos (by omega), if_pos (by omega)]
          · have := kb (by omega)
            rw [if_neg h3, put1, put1, put1, if_neg h2, if_neg h3, if_pos (by omega), if_neg (by omega), if_pos (by omega)]
      · have := ka (by omega)
        rw [if_neg h4]
        by_cases h2 : x.cl < b.cl
        · rw [if_pos h2, put1, put1, if_neg h1, if_neg h4, if_pos (by omega)]
        · rw [if_neg h2]
          by_cases h3 : b.cl < x.cl
          · rw [if_pos h3, put1, put1, put1, if_neg h1, if_neg h4, if_neg (by omega), if_pos (by omega), if_pos (by omega)]
          · omega
theorem lk_put_other {a : Sn} {c : Int} (hc : c ≠ a.cl) : ∀ (L : List Sn), lk (put1 L a) c = lk L c
  | [] => by
    have : (a.cl == c) = false := by simp; omega
    simp [put1, lk, this]
  | x :: L => by
    have ih := lk_put_other hc L
    have ha : (a.cl == c) = false := by simp; omega
    rw [put1]
    split
    · unfold lk at ih ⊢
      rw [List.find?_cons, List.find?_cons, ih]
    · split
      · unfold lk
        rw [List.find?_cons (a := a), ha]
      · rename_i h1 h2
        have hx : (x.cl == c) = false := by simp; omega
        unfold lk
        rw [List.find?_cons, List.find?_cons (a := x), hx]
        have : ((bt x a).cl == c) = false := by rw [bt_cl (by omega)]; exact hx
        rw [this]
theorem lk_put_same {L : List Sn} {a : Sn} (hp : L.Pairwise fun p q => p.cl < q.cl) (hn : newer L a = true) : lk (put1 L a) a.cl = some a := by
  refine lk_at (put1_rise hp) ?_ rfl
  clear hp
  induction L with
  | nil => simp [put1]
  | cons x L ih =>
    unfold newer lk at hn ih
    rw [List.find?_cons] at hn
    rw [put1]
    by_cases h1 : x.cl < a.cl
    · have hx : (x.cl == a.cl) = false := by simp; omega
      rw [hx] at hn
      rw [if_pos h1]
      exact List.mem_cons_of_mem _ (ih hn)
    · rw [if_neg h1]
      by_cases h2 : a.cl < x.cl
      · rw [if_pos h2]; simp
      · have hx : (x.cl == a.cl) = true := by simp; omega
        rw [hx] at hn
        simp at hn
        rw [if_neg h2, bt, if_pos hn]
        simp
theorem put1_stays {L : List Sn} {a : Sn} (hp : L.Pairwise fun p q => p.cl < q.cl) (hn : newer L a = false) : put1 L a = L := by
  induction L with
  | nil => simp [newer, lk] at hn
  | cons x L ih =>
    rw [List.pairwise_cons] at hp
    unfold newer lk at hn ih
    rw [List.find?_cons] at hn
    rw [put1]
    by_cases h1 : x.cl < a.cl
    · have hx : (x.cl == a.cl) = false := by simp; omega
      rw [hx] at hn
      rw [if_pos h1, ih hp.2 hn]
    · rw [if_neg h1]
      by_cases h2 : a.cl < x.cl
      · exfalso
        have hx : (x.cl == a.cl) = false := by simp; omega
        rw [hx] at hn
        have : L.find? (fun s => s.cl == a.cl) = none := by
          rw [List.find?_eq_none]
          intro y hy
          have := hp.1 y hy
          simp; omega
        rw [this] at hn
        simp at hn
      · have hx : (x.cl == a.cl) = true := by simp; omega
        rw [hx] at hn
        simp at hn
        rw [if_neg h2, bt, if_neg (by omega)]
theorem put1_len : ∀ (L : List Sn) (s : Sn), L.length ≤ (put1 L s).length
  | [], s => by simp
  | x :: a, s => by
    rw [put1]
    split
    · have := put1_len a s; simp only [List.length_cons]; omega
    · split
      · simp only [List.length_cons]; omega
      · simp
/-- What Look tells: the error, and the session. -/
def lookE (L : List Sn) (c q : Int) : Int :=
  if chk L = false then 4 else if may c q = false then 1 else match lk L c with
    | none => 60
    | some x => if x.sq < q then 60 else if q < x.sq then 160 else 0
def lookS (L : List Sn) (c q : Int) : Sn :=
  if lookE L c q = 0 then (lk L c).getD zeroS else zeroS
def putE (L : List Sn) (s : Sn) : Int := if chk L = false then 4 else if may s.cl s.sq = false then 1 else if newer L s = true then 0 else 160
def putL (L : List Sn) (s : Sn) : List Sn := if putE L s = 0 then put1 L s else []
def joinE (A B : List Sn) : Int := if chk A = true ∧ chk B = true then 0 else 4
def joinL (A B : List Sn) : List Sn := if chk A = true ∧ chk B = true then mg A B else []
end Go.Proofs.Ytdekeibnehoeaaa.Sea
