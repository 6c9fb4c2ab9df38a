/- Which span a name lies in. -/
import Derived.Test.YtlolhdijadhklaaAMath2
namespace Go.Proofs.Ytlolhdijadhklaa.Atl
set_option linter.unusedVariables false

theorem jn_next {l : List Sp} (hj : jnF em l = true) {j : Nat} {p v : Sp} (hp : l[j]? = some p) (hv : l[j + 1]? = some v) : v.fr = p.up ∧ named p.up = true ∧ lt p.fr p.up = true := by
  obtain ⟨t, _, h2⟩ := jn_at hj hp
  have hl := (List.getElem?_eq_some_iff.1 hv).1
  rw [List.drop_eq_getElem_cons hl, (List.getElem?_eq_some_iff.1 hv).2] at h2
  obtain ⟨j1, j2, j3⟩ := jn_cons.1 h2
  obtain ⟨m1, _, _⟩ := jn_cons.1 j3
  rcases j2 with j2 | j2
  · cases j2
  · exact ⟨m1, j2.1, by rw [j1]; exact j2.2⟩
theorem jn_end {l : List Sp} (hj : jnF em l = true) {j : Nat} {p : Sp} (hp : l[j]? = some p) (he : j + 1 = l.length) : p.up = em := by
  obtain ⟨t, _, h2⟩ := jn_at hj hp
  rw [List.drop_of_length_le (by omega)] at h2
  obtain ⟨_, _, j3⟩ := jn_cons.1 h2
  simp only [jnF, beq_iff_eq] at j3
  exact list_em.1 j3
/-- The ends rise. -/
theorem jn_mono {l : List Sp} (hj : jnF em l = true) {j : Nat} {p : Sp} (hp : l[j]? = some p) : ∀ (d : Nat) (q : Sp), l[j + d]? = some q → j + d + 1 < l.length → lt q.up p.up = false
  | 0, q, hq, _ => by
    rw [Nat.add_zero, hp] at hq
    injection hq with hq
    rw [hq]
    exact lt_irrefl _
  | d + 1, q, hq, hl => by
    obtain ⟨r, hr⟩ : ∃ r, l[j + d]? = some r := ⟨_, List.getElem?_eq_getElem (by omega)⟩
    have h1 := jn_mono hj hp d r hr (by omega)
    obtain ⟨e1, _, _⟩ := jn_next hj hr (show l[j + d + 1]? = some q from hq)
    obtain ⟨v, hv⟩ : ∃ v, l[j + (d + 1) + 1]? = some v := ⟨_, List.getElem?_eq_getElem hl⟩
    obtain ⟨_, _, h3⟩ := jn_next hj hq hv
    rw [e1] at h3
    cases h : lt q.up p.up with
    | false => rfl
    | true =>
      have := lt_trans h3 h
      rw [this] at h1
      cases h1
theorem fnd_is {l : List Sp} {k : ByteArray} {i : Nat} {v : Sp} (hv : l[i]? = some v) (h1 : ends v k = true) (h2 : ∀ j p, j < i → l[j]? = some p → ends p k = false) : fnd l k = i := by
  have hl := (List.getElem?_eq_some_iff.1 hv).1
  unfold fnd
  rw [List.findIdx_eq hl, (List.getElem?_eq_some_iff.1 hv).2]
  exact ⟨h1, fun j hj => h2 j _ hj (List.getElem?_eq_getElem (by omega))⟩
/-- Where a span begins, there it is found. -/
theorem find_from {a : Am} (h : Rgt a) {i : Nat} {v : Sp} (hv : a.l[i + 1]? = some v) : findB a v.fr = true ∧ findS a v.fr = v := by
  have hl := (List.getElem?_eq_some_iff.1 hv).1
  obtain ⟨p, hp⟩ : ∃ p, a.l[i]? = some p := ⟨_, List.getElem?_eq_getElem (by omega)⟩
  obtain ⟨e1, e2, _⟩ := jn_next h.jn hp hv
  have hb : findB a v.fr = true := by
    unfold findB
    rw [chk_is.2 h, e1, e2]
    rfl
  have hf : fnd a.l v.fr = i + 1 := by
    refine fnd_is hv ?_ fun j p' hj hp' => ?_
    · unfold ends
      by_cases he : i + 1 + 1 = a.l.length
      · rw [jn_end h.jn hv he, em_list]; rfl
      · obtain ⟨x, hx⟩ : ∃ x, a.l[i + 1 + 1]? = some x := ⟨_, List.getElem?_eq_getElem (by omega)⟩
        rw [(jn_next h.jn hv hx).2.2, Bool.or_true]
    · obtain ⟨d, rfl⟩ : ∃ d, i = j + d := ⟨i - j, by omega⟩
      have h1 := jn_mono h.jn hp' d p hp (by omega)
      obtain ⟨y, hy⟩ : ∃ y, a.l[j + 1]? = some y := ⟨_, List.getElem?_eq_getElem (by omega)⟩
      have h2 := (jn_next h.jn hp' hy).2.1
      unfold ends
      rw [e1, h1, Bool.or_false]
      cases he : (p'.up.toList == []) with
      | false => rfl
      | true =>
        have : p'.up = em := list_em.1 (by simpa using he)
        rw [this, named_em] at h2
        cases h2
  refine ⟨hb, ?_⟩
  unfold findS
  rw [hb, if_pos rfl, hf, List.getD_eq_getElem?_getD, hv]
  rfl
theorem ends_le {s : Sp} {x y : ByteArray} (h : lt y x = false) (he : ends s y = true) : ends s x = true := by
  unfold ends at he ⊢
  simp only [Bool.or_eq_true] at he ⊢
  rcases he with he | he
  · exact .inl he
  · exact .inr (le_lt h he)
theorem fnd_le {a : Am} (h : Rgt a) {x y : ByteArray} (hxy : lt y x = false) : fnd a.l x ≤ fnd a.l y := by
  have hl := fnd_lt h y
  apply Nat.le_of_not_lt
  intro hlt
  have h1 : ends (a.l[fnd a.l y]'hl) y = true := by
    unfold fnd at hl ⊢
    exact List.findIdx_getElem (p := fun s => ends s y) (w := hl)
  have h2 := ends_le hxy h1
  unfold fnd at hlt
  have h3 := List.not_of_lt_findIdx hlt
  unfold fnd at h2
  have h4 : true = false := h2.symm.trans h3
  cases h4
theorem findS_at {a : Am} (h : Rgt a) {k : ByteArray} (hb : findB a k = true) : a.l[fnd a.l k]? = some (findS a k) := by
  have hl := fnd_lt h k
  unfold findS
  rw [hb, if_pos rfl, List.getD_eq_getElem?_getD, List.getElem?_eq_getElem hl]
  rfl
/-- A name between two of one span lies in that span. -/
theorem find_mid {a : Am} {x y z : ByteArray} (hx : findB a x = true) (hy : findB a y = true) (hz : findB a z = true) (h1 : lt y x = false) (h2 : lt z y = false) (he : seq (findS a x) (findS a z) = true) : seq (findS a y) (findS a x) = true := by
  have hr : Rgt a := chk_is.1 (by unfold findB at hx; simp only [Bool.and_eq_true] at hx; exact hx.2)
  have e := seq_iff.1 he
  have i1 := fnd_le hr h1
  have i2 := fnd_le hr h2
  have e3 := hr.un _ _ _ _ (findS_at hr hx) (findS_at hr hz) (by rw [e])
  have e4 : fnd a.l y = fnd a.l x := by omega
  have e5 := findS_at hr hy
  rw [e4, findS_at hr hx] at e5
  injection e5 with e5
  rw [← e5]
  exact seq_self _
end Go.Proofs.Ytlolhdijadhklaa.Atl
