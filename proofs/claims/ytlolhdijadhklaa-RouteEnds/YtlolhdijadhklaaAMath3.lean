/- A right map stays right. -/
import Derived.Test.YtlolhdijadhklaaAMath2
namespace Go.Proofs.Ytlolhdijadhklaa.Atl
set_option linter.unusedVariables false

theorem uni_nodup {l : List Sp} : Uni l ↔ (l.map (·.sh)).Nodup := by
  unfold List.Nodup
  rw [List.pairwise_iff_getElem]
  simp only [List.length_map, List.getElem_map]
  constructor
  · intro h i j hi hj hij e
    have := h i j _ _ (List.getElem?_eq_getElem hi) (List.getElem?_eq_getElem hj) e
    omega
  · intro h i j s t hs ht e
    obtain ⟨hi, ei⟩ := List.getElem?_eq_some_iff.1 hs
    obtain ⟨hj, ej⟩ := List.getElem?_eq_some_iff.1 ht
    apply Classical.byContradiction
    intro hne
    rcases Nat.lt_or_gt_of_ne hne with h1 | h1
    · exact h i j hi hj h1 (by rw [ei, ej, e])
    · exact h j i hj hi h1 (by rw [ei, ej, e])
theorem jn_congr : ∀ {l m : List Sp} {f : ByteArray}, l.map (fun s => (s.fr, s.up)) = m.map (fun s => (s.fr, s.up)) → jnF f l = jnF f m
  | [], [], _, _ => rfl
  | [], _ :: _, _, h => by simp at h
  | _ :: _, [], _, h => by simp at h
  | s :: l, t :: m, f, h => by
    simp only [List.map_cons, List.cons.injEq, Prod.mk.injEq] at h
    obtain ⟨⟨h1, h2⟩, h3⟩ := h
    have he : l.isEmpty = m.isEmpty := by
      have := congrArg List.length h3
      simp only [List.length_map] at this
      rw [Bool.eq_iff_iff, List.isEmpty_iff_length_eq_zero, List.isEmpty_iff_length_eq_zero, this]
    rw [jnF, jnF, h1, h2, he, jn_congr h3]
theorem idx_congr {l m : List Sp} (h : l.map (·.sh) = m.map (·.sh)) (x : Int) : idx l x = idx m x := by
  have key : ∀ k : List Sp, idx k x = (k.map (·.sh)).findIdx fun y => decide (y = x) := fun k => by
    unfold idx
    rw [List.findIdx_map]
    rfl
  rw [key, key, h]
theorem set_same {α β : Type} {l : List α} {i : Nat} {s x : α} (f : α → β) (hs : l[i]? = some s) (e : f x = f s) : (l.set i x).map f = l.map f := by
  rw [List.map_set]
  apply List.ext_getElem?
  intro j
  rw [List.getElem?_set]
  by_cases h : i = j
  · subst h
    rw [if_pos rfl, e]
    simp [hs]
    exact (List.getElem?_eq_some_iff.1 hs).1
  · rw [if_neg h]
/-- One span is changed within its range. -/
theorem set_right {a : Am} (h : Rgt a) {i : Nat} {s x : Sp} (hs : a.l[i]? = some s) (e1 : x.fr = s.fr) (e2 : x.up = s.up) (e3 : x.sh = s.sh) (hx : SpR a.g a.la x) (p : Pl) (hp : planB ⟨a.g, a.la, a.l.set i x, p⟩ = true) : Rgt ⟨a.g, a.la, a.l.set i x, p⟩ := by
  refine ⟨h.g1, h.g8, h.la, by rw [List.length_set]; exact h.n1, by rw [List.length_set]; exact h.n16, fun y hy => ?_, ?_, ?_, hp⟩
  · rcases List.mem_or_eq_of_mem_set hy with hy | rfl
    · exact h.sp y hy
    · exact hx
  · rw [uni_nodup, set_same (fun s => s.sh) hs e3]
    exact uni_nodup.1 h.un
  · show jnF em (a.l.set i x) = true
    rw [jn_congr (set_same (fun s => (s.fr, s.up)) hs (by rw [e1, e2]))]
    exact h.jn
theorem plan_zP (g la : Int) (l : List Sp) : planB ⟨g, la, l, zP⟩ = true := by unfold planB; rw [peq_self]; rfl
theorem not_in {l : List Sp} {x : Int} (h : plc l x < 0) : ∀ s ∈ l, s.sh ≠ x := fun s hs e => by
  have : idx l x < l.length := by
    unfold idx
    rw [List.findIdx_lt_length]
    exact ⟨s, hs, by simpa using e⟩
  unfold plc at h
  rw [if_pos this] at h
  omega
/-- A span is parted. -/
theorem split_right {a : Am} (h : Rgt a) {i : Nat} {s : Sp} (hs : a.l[i]? = some s) (k : ByteArray) (o : Int) (hk : parts s k = true) (ho : plc a.l o < 0) (o1 : 1 ≤ o) (o2 : o ≤ a.la) (hn : a.l.length < 16) (he : s.ep + 1 ≤ 1099511627776) :
    Rgt ⟨a.g, a.la, chgL a.l i (i + 1) [⟨s.fr, k, s.sh, s.ep + 1, s.gr⟩, ⟨k, s.up, o, s.ep + 1, s.gr⟩], zP⟩ := by
  have hsp := h.sp s (List.mem_of_getElem? hs)
  have hmem := List.mem_of_getElem? hs
  have hi := (List.getElem?_eq_some_iff.1 hs).1
  unfold SpR at hsp
  have el : chgL a.l i (i + 1) [(⟨s.fr, k, s.sh, s.ep + 1, s.gr⟩ : Sp), ⟨k, s.up, o, s.ep + 1, s.gr⟩] = a.l.take i ++ (⟨s.fr, k, s.sh, s.ep + 1, s.gr⟩ :: ⟨k, s.up, o, s.ep + 1, s.gr⟩ :: a.l.drop (i + 1)) := by unfold chgL; simp
  unfold parts ends at hk
  simp only [Bool.and_eq_true, Bool.or_eq_true, beq_iff_eq] at hk
  obtain ⟨⟨k1, k2⟩, k3⟩ := hk
  refine ⟨h.g1, h.g8, h.la, by unfold chgL; simp; omega, by unfold chgL; simp; omega, fun y hy => ?_, ?_, ?_, plan_zP _ _ _⟩
  · have hy' : y ∈ chgL a.l i (i + 1) [(⟨s.fr, k, s.sh, s.ep + 1, s.gr⟩ : Sp), ⟨k, s.up, o, s.ep + 1, s.gr⟩] := hy
    rw [el] at hy'
    simp only [List.mem_append, List.mem_cons] at hy'
    rcases hy' with hy | rfl | rfl | hy
    · exact h.sp y (List.mem_of_mem_take hy)
    · exact ⟨hsp.1, hsp.2.1, by show 1 ≤ s.ep + 1; omega, he, hsp.2.2.2.2.1, hsp.2.2.2.2.2⟩
    · exact ⟨o1, o2, by show 1 ≤ s.ep + 1; omega, he, hsp.2.2.2.2.1, hsp.2.2.2.2.2⟩
    · exact h.sp y (List.mem_of_mem_drop hy)
  · show Uni (chgL _ _ _ _)
    rw [uni_nodup, el]
    have hu := uni_nodup.1 h.un
    rw [split_at hs] at hu
    simp only [List.map_append, List.map_cons] at hu ⊢
    have hno : o ∉ (a.l.take i).map (·.sh) ++ s.sh :: (a.l.drop (i + 1)).map (·.sh) := by
      rw [← List.map_cons (f := fun s : Sp => s.sh), ← List.map_append, ← split_at hs]
      intro hm
      obtain ⟨y, hy, e⟩ := List.mem_map.1 hm
      exact not_in ho y hy e
    have hp : (((a.l.take i).map (·.sh)) ++ s.sh :: o :: (a.l.drop (i + 1)).map (·.sh)).Perm (o :: (((a.l.take i).map (·.sh)) ++ s.sh :: (a.l.drop (i + 1)).map (·.sh))) := by
      refine List.Perm.trans (List.Perm.append_left _ (List.Perm.swap _ _ _)) ?_
      exact List.perm_middle
    rw [hp.nodup_iff, List.nodup_cons]
    exact ⟨hno, hu⟩
  · show jnF em (chgL _ _ _ _) = true
    rw [el]
    obtain ⟨t, h1, h2⟩ := jn_at h.jn hs
    refine (jn_append (by simp)).2 ⟨t, h1, ?_⟩
    obtain ⟨j1, j2, j3⟩ := jn_cons.1 h2
    refine jn_cons.2 ⟨j1, .inr ⟨k1, by rw [← j1]; exact k2⟩, jn_cons.2 ⟨rfl, ?_, j3⟩⟩
    rcases j2 with j2 | ⟨j2, _⟩
    · exact .inl j2
    · rcases k3 with k3 | k3
      · rw [list_em.1 k3, named_em] at j2; cases j2
      · exact .inr ⟨j2, k3⟩
/-- Two spans are joined. -/
theorem merge_right {a : Am} (h : Rgt a) {i : Nat} {s t : Sp} (hs : a.l[i]? = some s) (ht : a.l[i + 1]? = some t) (he : max s.ep t.ep + 1 ≤ 1099511627776) :
    Rgt ⟨a.g, a.la, chgL a.l i (i + 2) [mrgS s t], zP⟩ := by
  have hsp := h.sp s (List.mem_of_getElem? hs)
  have hi := (List.getElem?_eq_some_iff.1 ht).1
  unfold SpR at hsp
  have el : chgL a.l i (i + 2) [mrgS s t] = a.l.take i ++ (mrgS s t :: a.l.drop (i + 2)) := by unfold chgL; simp
  have ed : a.l.drop (i + 1) = t :: a.l.drop (i + 2) := by
    rw [List.drop_eq_getElem_cons (by omega), (List.getElem?_eq_some_iff.1 ht).2]
  refine ⟨h.g1, h.g8, h.la, by unfold chgL; simp; omega, by have := h.n16; unfold chgL; simp; omega, fun y hy => ?_, ?_, ?_, plan_zP _ _ _⟩
  · have hy' : y ∈ chgL a.l i (i + 2) [mrgS s t] := hy
    rw [el] at hy'
    simp only [List.mem_append, List.mem_cons] at hy'
    rcases hy' with hy | rfl | hy
    · exact h.sp y (List.mem_of_mem_take hy)
    · exact ⟨hsp.1, hsp.2.1, by show 1 ≤ max s.ep t.ep + 1; omega, he, hsp.2.2.2.2.1, hsp.2.2.2.2.2⟩
    · exact h.sp y (List.mem_of_mem_drop hy)
  · show Uni (chgL _ _ _ _)
    rw [uni_nodup, el]
    have hu := uni_nodup.1 h.un
    rw [split_at hs, ed] at hu
    simp only [List.map_append, List.map_cons] at hu ⊢
    refine List.Nodup.sublist ?_ hu
    exact List.Sublist.append_left (List.Sublist.cons_cons _ (List.sublist_cons_self _ _)) _
  · show jnF em (chgL _ _ _ _) = true
    rw [el]
    obtain ⟨f, h1, h2⟩ := jn_at h.jn hs
    rw [ed] at h2
    refine (jn_append (by simp)).2 ⟨f, h1, ?_⟩
    obtain ⟨j1, j2, j3⟩ := jn_cons.1 h2
    obtain ⟨m1, m2, m3⟩ := jn_cons.1 j3
    refine jn_cons.2 ⟨j1, ?_, m3⟩
    rcases m2 with m2 | ⟨m2, m4⟩
    · exact .inl m2
    · rcases j2 with j2 | ⟨_, j2⟩
      · cases j2
      · exact .inr ⟨m2, lt_trans j2 m4⟩
end Go.Proofs.Ytlolhdijadhklaa.Atl
