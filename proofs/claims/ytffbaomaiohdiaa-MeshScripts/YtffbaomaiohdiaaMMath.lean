/- Meshes, as lists of packets: what each call makes of one. -/
namespace Go.Proofs.Ytffbaomaiohdiaa.Msh
set_option linter.unusedVariables false

structure Pk where
  id : Int
  fm : Int
  tt : Int
  body : ByteArray
/-- A mesh: the packets, how many Ids were given, the cuts as they were said. -/
structure Ms where
  l : List Pk
  n : Nat
  cs : List (Int × Int)
def same (p : Int × Int) (a b : Int) : Bool := (p.1 == a && p.2 == b) || (p.1 == b && p.2 == a)
def isCut (cs : List (Int × Int)) (a b : Int) : Bool := cs.any fun p => same p a b
def cutL (cs : List (Int × Int)) (a b : Int) : List (Int × Int) := if isCut cs a b = true then cs else cs ++ [(a, b)]
def joinL (cs : List (Int × Int)) (a b : Int) : List (Int × Int) := cs.filter fun p => !same p a b
def there (l : List Pk) (id : Int) : Bool := l.any fun p => p.id == id
def pos (l : List Pk) (id : Int) : Nat := l.countP fun p => decide (p.id < id)
def entE (l : List Pk) : Int := if l.length = 512 then 3 else 0
def entI (s : Ms) : Int := if s.l.length = 512 then 0 else (s.n : Int) + 1
def entS (s : Ms) (p : Pk) : Ms := if s.l.length = 512 then s else ⟨s.l ++ [⟨(s.n : Int) + 1, p.fm, p.tt, p.body⟩], s.n + 1, s.cs⟩
/-- The first that isn't cut. -/
def nxt (s : Ms) : Option Nat := s.l.findIdx? fun p => !isCut s.cs p.fm p.tt
def outS (s : Ms) (i : Nat) : Ms := ⟨s.l.eraseIdx i, s.n, s.cs⟩
structure Ok (s : Ms) : Prop where
  rise : s.l.Pairwise fun p q => p.id < q.id
  low : ∀ p ∈ s.l, 1 ≤ p.id ∧ p.id ≤ s.n
  len : s.l.length ≤ 512
  txt : ∀ p ∈ s.l, p.body.size ≤ 65536
theorem ok_new : Ok ⟨[], 0, []⟩ := ⟨List.Pairwise.nil, by simp, by simp, by simp⟩
theorem same_min (p : Int × Int) (a b : Int) : same p a b = (min p.1 p.2 == min a b && max p.1 p.2 == max a b) := by
  unfold same
  rw [Bool.eq_iff_iff]
  simp only [Bool.or_eq_true, Bool.and_eq_true, beq_iff_eq]
  omega
theorem same_swap (p : Int × Int) (a b : Int) : same p a b = same p b a := by unfold same; rw [Bool.or_comm]
theorem isCut_nil (a b : Int) : isCut [] a b = false := rfl
theorem isCut_cut (cs : List (Int × Int)) (a b x y : Int) : isCut (cutL cs a b) x y = (isCut cs x y || same (a, b) x y) := by
  unfold cutL
  split
  · rename_i h
    cases h1 : same (a, b) x y with
    | false => simp
    | true =>
      have : isCut cs x y = isCut cs a b := by
        unfold isCut
        congr 1
        funext p
        rw [same_min, same_min]
        rw [same_min] at h1
        simp only [Bool.and_eq_true, beq_iff_eq] at h1
        simp only [h1.1, h1.2]
      rw [this, h]
      rfl
  · simp [isCut]
theorem isCut_join (cs : List (Int × Int)) (a b x y : Int) : isCut (joinL cs a b) x y = (isCut cs x y && !same (a, b) x y) := by
  unfold isCut joinL
  rw [Bool.eq_iff_iff]
  simp only [List.any_eq_true, List.mem_filter, Bool.and_eq_true, Bool.not_eq_true', same_min, beq_iff_eq, Bool.and_eq_false_iff]
  constructor
  · rintro ⟨p, ⟨h1, h2⟩, h3⟩
    refine ⟨⟨p, h1, h3⟩, ?_⟩
    simp only [beq_eq_false_iff_ne, ne_eq] at h2 ⊢
    omega
  · rintro ⟨⟨p, h1, h3⟩, h2⟩
    refine ⟨p, ⟨h1, ?_⟩, h3⟩
    simp only [beq_eq_false_iff_ne, ne_eq] at h2 ⊢
    omega
theorem cut_len (cs : List (Int × Int)) (a b : Int) : (cutL cs a b).length ≤ cs.length + 1 := by unfold cutL; split <;> simp
theorem join_len (cs : List (Int × Int)) (a b : Int) : (joinL cs a b).length ≤ cs.length := List.length_filter_le _ _
/-- No pair stands there twice. -/
def Sgl (cs : List (Int × Int)) : Prop := cs.Pairwise fun p q => same p q.1 q.2 = false
theorem same_cong {p : Int × Int} {a b x y : Int} (h : same (a, b) x y = true) : same p a b = same p x y := by
  rw [same_min] at h
  simp only [Bool.and_eq_true, beq_iff_eq] at h
  rw [same_min, same_min, h.1, h.2]
theorem sgl_cut {cs : List (Int × Int)} (h : Sgl cs) (a b : Int) : Sgl (cutL cs a b) := by
  unfold cutL
  split
  · exact h
  · rename_i hc
    have hc : isCut cs a b = false := by simpa using hc
    refine List.pairwise_append.2 ⟨h, by simp, fun p hp q hq => ?_⟩
    simp at hq
    subst hq
    have := List.any_eq_false.1 hc p hp
    simpa using this
theorem sgl_join {cs : List (Int × Int)} (h : Sgl cs) (a b : Int) : Sgl (joinL cs a b) := h.sublist List.filter_sublist
theorem join_count {cs : List (Int × Int)} (h : Sgl cs) (a b : Int) : (joinL cs a b).length + (if isCut cs a b = true then 1 else 0) = cs.length := by
  induction cs with
  | nil => rfl
  | cons p r ih =>
    have h0 := List.pairwise_cons.1 h
    have ih := ih h0.2
    cases hp : same p a b with
    | false =>
      have e1 : joinL (p :: r) a b = p :: joinL r a b := by unfold joinL; rw [List.filter_cons_of_pos (by simp [hp])]
      have e2 : isCut (p :: r) a b = isCut r a b := by unfold isCut; rw [List.any_cons, hp, Bool.false_or]
      rw [e1, e2, List.length_cons, List.length_cons]
      omega
    | true =>
      have e1 : joinL (p :: r) a b = joinL r a b := by unfold joinL; rw [List.filter_cons_of_neg (by simp [hp])]
      have e2 : isCut (p :: r) a b = true := by unfold isCut; rw [List.any_cons, hp, Bool.true_or]
      have e3 : isCut r a b = false := by
        unfold isCut
        rw [List.any_eq_false]
        intro q hq
        have h1 := h0.1 q hq
        intro h2
        have h3 : same p q.1 q.2 = true := by
          have : same (q.1, q.2) a b = true := h2
          rw [same_cong (p := p) this]
          exact hp
        rw [h3] at h1
        cases h1
      rw [e3] at ih
      rw [e1, e2, List.length_cons]
      simp at ih ⊢
      omega
/-- Where a packet stands. -/
theorem pos_is {l : List Pk} (h : l.Pairwise fun p q => p.id < q.id) {i : Nat} {p : Pk} (hi : l[i]? = some p) : pos l p.id = i := by
  induction l generalizing i with
  | nil => simp at hi
  | cons a r ih =>
    rw [List.pairwise_cons] at h
    cases i with
    | zero =>
      simp at hi
      subst hi
      unfold pos
      rw [List.countP_eq_zero]
      intro x hx
      rcases List.mem_cons.1 hx with rfl | hx
      · simp
      · have := h.1 x hx; simp; omega
    | succ k =>
      simp at hi
      have h1 := ih h.2 hi
      have h2 := h.1 p (List.mem_of_getElem? hi)
      unfold pos at h1 ⊢
      rw [List.countP_cons_of_pos (by simpa using h2), h1]
theorem there_at {l : List Pk} (h : l.Pairwise fun p q => p.id < q.id) {id : Int} (ht : there l id = true) : ∃ p, l[pos l id]? = some p ∧ p.id = id := by
  unfold there at ht
  obtain ⟨p, hp, e⟩ := List.any_eq_true.1 ht
  have e : p.id = id := by simpa using e
  obtain ⟨i, hi⟩ := List.getElem?_of_mem hp
  subst e
  exact ⟨p, by rw [pos_is h hi]; exact hi, rfl⟩
theorem there_no {l : List Pk} {id : Int} (ht : there l id = false) : ∀ p ∈ l, p.id ≠ id := by
  intro p hp e
  unfold there at ht
  have := (List.any_eq_false.1 ht) p hp
  simp [e] at this
theorem pos_le (l : List Pk) (id : Int) : pos l id ≤ l.length := List.countP_le_length
theorem pos_before {l : List Pk} (h : l.Pairwise fun p q => p.id < q.id) {id : Int} {i : Nat} {p : Pk} (hi : l[i]? = some p) : p.id < id ↔ i < pos l id := by
  have hl := (List.getElem?_eq_some_iff.1 hi)
  have key : ∀ (m : List Pk), (m.Pairwise fun p q => p.id < q.id) → ∀ i p, m[i]? = some p → (p.id < id ↔ i < m.countP fun p => decide (p.id < id)) := by
    intro m
    induction m with
    | nil => intro _ i p h; simp at h
    | cons a r ih =>
      intro hp i p hi
      rw [List.pairwise_cons] at hp
      cases i with
      | zero =>
        simp at hi
        subst hi
        by_cases ha : a.id < id
        · rw [List.countP_cons_of_pos (by simpa using ha)]; simp [ha]
        · rw [List.countP_cons_of_neg (by simpa using ha)]
          have : r.countP (fun p => decide (p.id < id)) = 0 := by
            rw [List.countP_eq_zero]
            intro x hx
            have := hp.1 x hx
            simp; omega
          rw [this]
          simp [ha]
      | succ k =>
        simp at hi
        have h1 := ih hp.2 k p hi
        have h2 := hp.1 p (List.mem_of_getElem? hi)
        by_cases ha : a.id < id
        · rw [List.countP_cons_of_pos (by simpa using ha), h1]; omega
        · rw [List.countP_cons_of_neg (by simpa using ha)]
          have h3 : r.countP (fun p => decide (p.id < id)) = 0 := by
            rw [List.countP_eq_zero]
            intro x hx
            have := hp.1 x hx
            simp; omega
          rw [h3]
          constructor
          · intro; omega
          · intro; omega
  exact key l h i p hi
theorem ok_ent {s : Ms} (h : Ok s) (p : Pk) (hp : p.body.size ≤ 65536) : Ok (entS s p) := by
  unfold entS
  split
  · exact h
  · rename_i hl
    refine ⟨?_, fun q hq => ?_, ?_, fun q hq => ?_⟩
    · rw [List.pairwise_append]
      refine ⟨h.rise, by simp, fun a ha b hb => ?_⟩
      simp at hb
      subst hb
      have := h.low a ha
      show a.id < _ + 1
      omega
    · rcases List.mem_append.1 hq with hq | hq
      · have := h.low q hq
        simp only
        omega
      · simp at hq
        subst hq
        simp only
        omega
    · have := h.len
      simp
      omega
    · rcases List.mem_append.1 hq with hq | hq
      · exact h.txt q hq
      · simp at hq
        subst hq
        exact hp
theorem ok_out {s : Ms} (h : Ok s) (i : Nat) : Ok (outS s i) := by
  have hs : (s.l.eraseIdx i).Sublist s.l := List.eraseIdx_sublist _ _
  exact ⟨h.rise.sublist hs, fun p hp => h.low p (hs.subset hp), Nat.le_trans hs.length_le h.len, fun p hp => h.txt p (hs.subset hp)⟩
theorem ok_cs {s : Ms} (h : Ok s) (cs : List (Int × Int)) : Ok ⟨s.l, s.n, cs⟩ := ⟨h.rise, h.low, h.len, h.txt⟩
end Go.Proofs.Ytffbaomaiohdiaa.Msh
