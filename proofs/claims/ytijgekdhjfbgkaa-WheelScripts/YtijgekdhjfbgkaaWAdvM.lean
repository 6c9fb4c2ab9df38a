/- An advance, item by item: the mathematics. -/
import Derived.Test.YtijgekdhjfbgkaaWTake
namespace Go.Proofs.Ytijgekdhjfbgkaa
open Go.RowKit Go.Sort Whl
set_option linter.unusedVariables false

theorem cat_nodup {ls : Nat → List Int} (h1 : ∀ p, p < 193 → (ls p).Nodup) (h2 : ∀ p q x, p < 193 → q < 193 → x ∈ ls p → x ∈ ls q → p = q) : ∀ k, k ≤ 193 → (cat ls k).Nodup
  | 0, _ => List.nodup_nil
  | k + 1, hk => by
    rw [cat_succ]
    refine List.nodup_append.2 ⟨cat_nodup h1 h2 k (by omega), h1 k (by omega), fun a ha b hb e => ?_⟩
    subst e
    obtain ⟨p, hp, hx⟩ := mem_cat.1 ha
    have := h2 p k a (by omega) (by omega) hx hb
    omega
theorem nd_of_map {l : List It} (h : (l.map Prod.fst).Nodup) : l.Nodup := (List.pairwise_map.1 h).imp fun h e => h (by rw [e])
theorem items_of {L : List It} : ∀ rs : List Int, (∀ x ∈ rs, ∃ a ∈ L, a.1 = x) → ∃ aa : List It, aa.map Prod.fst = rs ∧ ∀ a ∈ aa, a ∈ L
  | [], _ => ⟨[], rfl, fun a h => by cases h⟩
  | x :: rs, h => by
    obtain ⟨a, ha, hx⟩ := h x (by simp)
    obtain ⟨aa, h1, h2⟩ := items_of rs fun y hy => h y (by simp [hy])
    refine ⟨a :: aa, by rw [List.map_cons, hx, h1], fun b hb => ?_⟩
    rcases List.mem_cons.1 hb with e | e
    · rw [e]; exact ha
    · exact h2 b e
/-- The items of the places up to q. -/
structure Upto (now : Int) (L : List It) (ls : Nat → List Int) (q : Nat) (aa : List It) : Prop where
  ids : aa.map Prod.fst = cat ls (q + 1)
  sub : ∀ a ∈ aa, a ∈ L
  nd : aa.Nodup
  mem : ∀ a ∈ L, a ∈ aa ↔ plc now.toNat a.2.toNat ≤ q
theorem Held.upto {now : Int} {L : List It} {ls : Nat → List Int} (h : Held now L ls) (hu : Uni L) {q : Nat} (hq : q < 193) : ∃ aa, Upto now L ls q aa := by
  obtain ⟨aa, h1, h2⟩ := items_of (L := L) (cat ls (q + 1)) fun x hx => by
    obtain ⟨p, hp, hx⟩ := mem_cat.1 hx
    obtain ⟨a, ha, e, _⟩ := ((h p (by omega)).2 x).1 hx
    exact ⟨a, ha, e⟩
  have nd : (cat ls (q + 1)).Nodup := cat_nodup (fun p hp => (h p hp).1) (fun p r x hp hr h1 h2 => by
    obtain ⟨a, ha, e, ea⟩ := ((h p hp).2 x).1 h1
    obtain ⟨c, hc, e', ec⟩ := ((h r hr).2 x).1 h2
    have := hu a ha c hc (by rw [e, e'])
    rw [← ea, ← ec, this]) _ (by omega)
  refine ⟨aa, h1, h2, nd_of_map (by rw [h1]; exact nd), fun a ha => ⟨fun hm => ?_, fun hp => ?_⟩⟩
  · have : a.1 ∈ cat ls (q + 1) := by rw [← h1]; exact List.mem_map.2 ⟨a, hm, rfl⟩
    obtain ⟨p, hp, hx⟩ := mem_cat.1 this
    obtain ⟨c, hc, e, ec⟩ := ((h p (by omega)).2 _).1 hx
    rw [← hu c hc a ha e, ec]
    omega
  · have : a.1 ∈ cat ls (q + 1) := mem_cat.2 ⟨_, Nat.lt_succ_of_le hp, ((h _ (by omega)).2 _).2 ⟨a, ha, rfl, rfl⟩⟩
    rw [← h1] at this
    obtain ⟨c, hc, e⟩ := List.mem_map.1 this
    rw [← hu c (h2 c hc) a ha e]
    exact hc
theorem Upto.len {now : Int} {L : List It} {ls : Nat → List Int} {q : Nat} {aa : List It} (h : Upto now L ls q aa) : aa.length ≤ L.length := List.Nodup.length_le_of_subset h.nd fun a ha => h.sub a ha
theorem Upto.cat {now : Int} {L : List It} {ls : Nat → List Int} {q : Nat} {aa : List It} (h : Upto now L ls q aa) : (Go.Proofs.Ytijgekdhjfbgkaa.cat ls (q + 1)).length = aa.length := by rw [← h.ids, List.length_map]
/-- Those of the items that still wait when j of 'aa' have come by. -/
def lf (aa : List It) (to : Int) (j : Nat) (a : It) : Bool := !(decide (a ∈ aa.take j) && decide (a.2 ≤ to))
def dueJ (aa : List It) (to : Int) (j : Nat) : List It := (aa.take j).filter fun a => decide (a.2 ≤ to)
/-- Where they stand then. -/
def HeldJ (to : Int) (L aa : List It) (j : Nat) (ls : Nat → List Int) : Prop := ∀ p, p < 193 → (ls p).Nodup ∧ ∀ x, x ∈ ls p ↔ ∃ a ∈ L, a.1 = x ∧ plc to.toNat a.2.toNat = p ∧ to < a.2 ∧ (a ∉ aa ∨ a ∈ aa.take j)
theorem take_next {aa : List It} {j : Nat} {a : It} (h : aa[j]? = some a) : aa.take (j + 1) = aa.take j ++ [a] := by
  rw [List.take_add_one, h]
  rfl
theorem not_yet {aa : List It} (hn : aa.Nodup) {j : Nat} {a : It} (h : aa[j]? = some a) : a ∉ aa.take j := by
  intro hm
  obtain ⟨i, hi, e⟩ := List.mem_take_iff_getElem.1 hm
  obtain ⟨hj, e'⟩ := List.getElem?_eq_some_iff.1 h
  exact List.pairwise_iff_getElem.1 hn i j (by omega) hj (by omega) (e.trans e'.symm)
section
variable {now to : Int} {L aa : List It} {ls : Nat → List Int} {q : Nat}
theorem Upto.far (h : Upto now L ls q aa) (hO : Ok now L) (h1 : now ≤ to) (hq : q = plc now.toNat to.toNat) {a : It} (ha : a ∈ L) (hn : a ∉ aa) : to < a.2 ∧ plc to.toNat a.2.toNat = plc now.toNat a.2.toNat ∧ q < plc now.toNat a.2.toNat := by
  have hp : q < plc now.toNat a.2.toNat := by
    rcases Nat.lt_or_ge q (plc now.toNat a.2.toNat) with c | c
    · exact c
    · exact absurd ((h.mem a ha).2 c) hn
  have n0 := hO.n0
  have lo := hO.lo a ha
  have := plc_stay (now := now.toNat) (t := a.2.toNat) (to := to.toNat) (by omega) (by omega) (by rw [← hq]; exact hp)
  exact ⟨by omega, this.2, hp⟩
theorem HeldJ.start (hH : Held now L ls) (h : Upto now L ls q aa) (hO : Ok now L) (h1 : now ≤ to) (hq : q = plc now.toNat to.toNat) : HeldJ to L aa 0 (cutl ls q) := by
  intro p hp
  unfold cutl
  obtain ⟨k1, k2⟩ := hH p hp
  split
  · rename_i c
    refine ⟨List.nodup_nil, fun x => ⟨fun h => (by cases h), ?_⟩⟩
    rintro ⟨a, ha, _, e, _, hn | hn⟩
    · have := h.far hO h1 hq ha hn
      omega
    · simp at hn
  · rename_i c
    refine ⟨k1, fun x => ?_⟩
    rw [k2]
    constructor
    · rintro ⟨a, ha, e1, e2⟩
      have hn : a ∉ aa := fun hm => by have := (h.mem a ha).1 hm; omega
      have := h.far hO h1 hq ha hn
      exact ⟨a, ha, e1, by omega, this.1, .inl hn⟩
    · rintro ⟨a, ha, e1, e2, _, hn | hn⟩
      · have := h.far hO h1 hq ha hn
        exact ⟨a, ha, e1, by omega⟩
      · simp at hn
theorem HeldJ.late {j : Nat} (hH : HeldJ to L aa j ls) (hu : Uni L) (hn : aa.Nodup) {a : It} (ha : a ∈ L) (hj : aa[j]? = some a) (ht : to < a.2) :
    HeldJ to L aa (j + 1) (upd ls (plc to.toNat a.2.toNat) (ls (plc to.toNat a.2.toNat) ++ [a.1])) := by
  have hny := not_yet hn hj
  have hin : a ∈ aa := List.mem_of_getElem? hj
  intro p hp
  obtain ⟨k1, k2⟩ := hH p hp
  have key : ∀ x, (∃ c ∈ L, c.1 = x ∧ plc to.toNat c.2.toNat = p ∧ to < c.2 ∧ (c ∉ aa ∨ c ∈ aa.take (j + 1))) ↔ (∃ c ∈ L, c.1 = x ∧ plc to.toNat c.2.toNat = p ∧ to < c.2 ∧ (c ∉ aa ∨ c ∈ aa.take j)) ∨ (x = a.1 ∧ plc to.toNat a.2.toNat = p) := fun x => by
    rw [take_next hj]
    constructor
    · rintro ⟨c, hc, e1, e2, e3, e4 | e4⟩
      · exact .inl ⟨c, hc, e1, e2, e3, .inl e4⟩
      · rcases List.mem_append.1 e4 with e | e
        · exact .inl ⟨c, hc, e1, e2, e3, .inr e⟩
        · rw [List.mem_singleton] at e
          exact .inr ⟨by rw [← e1, e], by rw [← e]; exact e2⟩
    · rintro (⟨c, hc, e1, e2, e3, e4⟩ | ⟨e1, e2⟩)
      · exact ⟨c, hc, e1, e2, e3, e4.imp id fun e => List.mem_append.2 (.inl e)⟩
      · exact ⟨a, ha, e1.symm, e2, ht, .inr (List.mem_append.2 (.inr (by simp)))⟩
  by_cases e : p = plc to.toNat a.2.toNat
  · subst e
    rw [upd_same]
    refine ⟨List.nodup_append.2 ⟨k1, by simp, fun y hy z hz => ?_⟩, fun x => ?_⟩
    · simp at hz
      subst hz
      rintro rfl
      obtain ⟨c, hc, e1, _, _, e4⟩ := (k2 _).1 hy
      have := hu c hc a ha e1
      subst this
      rcases e4 with e4 | e4
      · exact e4 hin
      · exact hny e4
    · rw [key, List.mem_append, k2, List.mem_singleton]
      constructor
      · rintro (h | h)
        · exact .inl h
        · exact .inr ⟨h, rfl⟩
      · rintro (h | h)
        · exact .inl h
        · exact .inr h.1
  · rw [upd_other _ _ e]
    refine ⟨k1, fun x => ?_⟩
    rw [key, k2]
    constructor
    · exact .inl
    · rintro (h | h)
      · exact h
      · exact absurd h.2.symm e
theorem HeldJ.soon {j : Nat} (hH : HeldJ to L aa j ls) {a : It} (hj : aa[j]? = some a) (ht : ¬ to < a.2) : HeldJ to L aa (j + 1) ls := by
  intro p hp
  obtain ⟨k1, k2⟩ := hH p hp
  refine ⟨k1, fun x => ?_⟩
  rw [k2, take_next hj]
  constructor
  · rintro ⟨c, hc, e1, e2, e3, e4⟩
    exact ⟨c, hc, e1, e2, e3, e4.imp id fun e => List.mem_append.2 (.inl e)⟩
  · rintro ⟨c, hc, e1, e2, e3, e4 | e4⟩
    · exact ⟨c, hc, e1, e2, e3, .inl e4⟩
    · rcases List.mem_append.1 e4 with e | e
      · exact ⟨c, hc, e1, e2, e3, .inr e⟩
      · rw [List.mem_singleton] at e
        rw [e] at e3
        exact absurd e3 ht
theorem lf_zero : L.filter (lf aa to 0) = L := List.filter_eq_self.2 fun a _ => by simp [lf]
theorem lf_late {j : Nat} {a : It} (hj : aa[j]? = some a) (ht : to < a.2) : L.filter (lf aa to (j + 1)) = L.filter (lf aa to j) := by
  refine List.filter_congr fun c _ => ?_
  unfold lf
  rw [take_next hj]
  by_cases e : c = a
  · rw [e, decide_eq_false (show ¬ a.2 ≤ to by omega)]; simp
  · simp [e]
theorem lf_soon {j : Nat} (hu : Uni L) {a : It} (ha : a ∈ L) (hj : aa[j]? = some a) (ht : ¬ to < a.2) : L.filter (lf aa to (j + 1)) = dropL a.1 (L.filter (lf aa to j)) := by
  unfold dropL
  rw [List.filter_filter]
  refine List.filter_congr fun c hc => ?_
  unfold lf
  rw [take_next hj]
  by_cases e : c = a
  · rw [e, decide_eq_true (show a.2 ≤ to by omega)]; simp
  · have h1 : c.1 ≠ a.1 := fun k => e (hu c hc a ha k)
    simp [e, h1]
theorem lf_has {j : Nat} {a : It} (ha : a ∈ L) (hn : a ∉ aa.take j) : a ∈ L.filter (lf aa to j) := List.mem_filter.2 ⟨ha, by simp [lf, hn]⟩
theorem due_late {j : Nat} {a : It} (hj : aa[j]? = some a) (ht : to < a.2) : dueJ aa to (j + 1) = dueJ aa to j := by
  unfold dueJ
  rw [take_next hj, List.filter_append, List.filter_cons_of_neg (by simp; omega)]
  simp
theorem due_soon {j : Nat} {a : It} (hj : aa[j]? = some a) (ht : ¬ to < a.2) : dueJ aa to (j + 1) = dueJ aa to j ++ [a] := by
  unfold dueJ
  rw [take_next hj, List.filter_append, List.filter_cons_of_pos (by simp; omega)]
  rfl
theorem due_len {j : Nat} : (dueJ aa to j).length ≤ aa.length := by
  unfold dueJ
  have h1 := List.length_filter_le (fun a : It => decide (a.2 ≤ to)) (aa.take j)
  have h2 := List.length_take_le j aa
  have h3 := List.length_take_le' j aa
  omega
theorem lf_end (h : Upto now L ls q aa) (hO : Ok now L) (h1 : now ≤ to) (hq : q = plc now.toNat to.toNat) {j : Nat} (hj : aa.length ≤ j) : L.filter (lf aa to j) = restL to L := by
  unfold restL
  refine List.filter_congr fun a ha => ?_
  unfold lf
  rw [List.take_of_length_le hj]
  by_cases c : to < a.2
  · rw [decide_eq_false (show ¬ a.2 ≤ to by omega), decide_eq_true c]; simp
  · have : a ∈ aa := by
      rcases Classical.em (a ∈ aa) with e | e
      · exact e
      · exact absurd (h.far hO h1 hq ha e).1 c
    rw [decide_eq_true (show a.2 ≤ to by omega), decide_eq_false c, decide_eq_true this]; rfl
theorem due_end (h : Upto now L ls q aa) (hO : Ok now L) (h1 : now ≤ to) (hq : q = plc now.toNat to.toNat) {j : Nat} (hj : aa.length ≤ j) : srtL (dueJ aa to j) = dueL to L := by
  unfold dueJ
  rw [List.take_of_length_le hj]
  refine srt_ext (srtL_srt (h.nd.filter _)) (srt_filter hO.srt _) fun a => ?_
  rw [srtL_mem, dueL, List.mem_filter, List.mem_filter]
  constructor
  · exact fun ⟨k1, k2⟩ => ⟨h.sub a k1, k2⟩
  · rintro ⟨k1, k2⟩
    refine ⟨?_, k2⟩
    rcases Classical.em (a ∈ aa) with e | e
    · exact e
    · have := (h.far hO h1 hq k1 e).1
      have k2 : a.2 ≤ to := by simpa using k2
      omega
theorem HeldJ.done {lsj : Nat → List Int} {j : Nat} (hH : HeldJ to L aa j lsj) (hj : aa.length ≤ j) : Held to (restL to L) lsj := by
  intro p hp
  obtain ⟨k1, k2⟩ := hH p hp
  refine ⟨k1, fun x => ?_⟩
  rw [k2, List.take_of_length_le hj]
  unfold restL
  constructor
  · rintro ⟨a, ha, e1, e2, e3, _⟩
    exact ⟨a, List.mem_filter.2 ⟨ha, by simpa using e3⟩, e1, e2⟩
  · rintro ⟨a, ha, e1, e2⟩
    obtain ⟨a1, a2⟩ := List.mem_filter.1 ha
    exact ⟨a, a1, e1, e2, by simpa using a2, (Classical.em (a ∈ aa)).symm.imp id id⟩
theorem HeldJ.len {lsj : Nat → List Int} {j : Nat} (hH : HeldJ to L aa j lsj) {p : Nat} (hp : p < 193) : (lsj p).length ≤ L.length := by
  obtain ⟨h1, h2⟩ := hH p hp
  have := List.Nodup.length_le_of_subset h1 (l₂ := L.map Prod.fst) fun id hid => by
    obtain ⟨a, ha, e, _⟩ := (h2 id).1 hid
    exact List.mem_map.2 ⟨a, ha, e⟩
  simpa using this
end
end Go.Proofs.Ytijgekdhjfbgkaa
