/- What is planned, done or given up: epochs grow, names lie in one span. -/
import Derived.Test.YtkidhnlombhhnaaAPlansM
import Derived.Test.YtkidhnlombhhnaaAFindM
namespace Go.Proofs.Ytkidhnlombhhnaa
open Atl
set_option linter.unusedVariables false

/-- One of them: a plan that begins, a phase that is done, a plan that is given up. -/
structure Dd where
  k : Int
  p : Pl
  ph : Int
def doM (a : Am) (d : Dd) : Am := if d.k = 0 then begM a d.p else if d.k = 1 then advM a d.ph else aboM a
def doE (a : Am) (d : Dd) : Int := if d.k = 0 then begE a d.p else if d.k = 1 then advE a d.ph else aboE a
/-- Later spans: a shard's epoch hasn't fallen, and where its group is another one it has grown. -/
def Later (l m : List Sp) : Prop := ∀ s ∈ l, ∀ t ∈ m, t.sh = s.sh → s.ep ≤ t.ep ∧ (t.gr = s.gr ∨ s.ep < t.ep)
theorem mem_uni {l : List Sp} (h : Uni l) {s t : Sp} (hs : s ∈ l) (ht : t ∈ l) (e : t.sh = s.sh) : t = s := by
  obtain ⟨i, hi, e1⟩ := List.getElem_of_mem hs
  obtain ⟨j, hj, e2⟩ := List.getElem_of_mem ht
  have h1 := h i j s t (by rw [List.getElem?_eq_getElem hi, e1]) (by rw [List.getElem?_eq_getElem hj, e2]) e.symm
  subst h1
  exact e2.symm.trans e1
theorem later_refl {l : List Sp} (h : Uni l) : Later l l := fun s hs t ht e => by
  rw [mem_uni h hs ht e]
  exact ⟨Int.le_refl _, .inl rfl⟩
theorem later_chg {l : List Sp} (h : Uni l) {i k : Nat} {m : List Sp} (hm : ∀ t ∈ m, (∃ s ∈ l, t.sh = s.sh ∧ s.ep < t.ep) ∨ ∀ s ∈ l, s.sh ≠ t.sh) : Later l (chgL l i k m) := fun s hs t ht e => by
  unfold chgL at ht
  simp only [List.mem_append] at ht
  rcases ht with (ht | ht) | ht
  · rw [mem_uni h hs (List.mem_of_mem_take ht) e]
    exact ⟨Int.le_refl _, .inl rfl⟩
  · rcases hm t ht with ⟨s', h1, h2, h3⟩ | h1
    · have := mem_uni h hs h1 (by rw [← h2]; exact e)
      subst this
      exact ⟨by omega, .inr h3⟩
    · exact absurd e.symm (h1 s hs)
  · rw [mem_uni h hs (List.mem_of_mem_drop ht) e]
    exact ⟨Int.le_refl _, .inl rfl⟩
theorem later_step {a : Am} (h : Rgt a) (hp : peq a.p zP = false) : Later a.l (Atl.step a).l := by
  obtain ⟨s, hs, ep1, ep2, hst, hkd, se1, se2⟩ := plan_span h hp
  have hm := List.mem_of_getElem? hs
  unfold Atl.step
  by_cases p1 : a.p.ph = 1
  · rw [if_pos p1, List.getD_eq_getElem?_getD, hs]
    show Later a.l (one1 a (idx a.l a.p.sh) s).l
    unfold one1
    by_cases k1 : a.p.k = 1
    · rw [if_pos k1]
      exact later_chg h.un fun t ht => by
        rw [List.mem_singleton] at ht
        subst ht
        exact .inl ⟨s, hm, rfl, by show s.ep < s.ep + 1; omega⟩
    · rw [if_neg k1]
      by_cases k2 : a.p.k = 2
      · rw [if_pos k2]
        refine later_chg h.un fun t ht => ?_
        rcases List.mem_cons.1 ht with rfl | ht
        · exact .inl ⟨s, hm, rfl, by show s.ep < s.ep + 1; omega⟩
        · rw [List.mem_singleton] at ht
          subst ht
          refine .inr fun y hy e => ?_
          unfold kindB at hkd
          rw [if_neg k1, if_pos k2] at hkd
          unfold splitB at hkd
          simp only [Bool.and_eq_true, decide_eq_true_eq] at hkd
          exact not_in hkd.1.1.2 y hy e
      · rw [if_neg k2]
        exact later_chg h.un fun t ht => by
          rw [List.mem_singleton] at ht
          subst ht
          exact .inl ⟨s, hm, rfl, by show s.ep < max s.ep _ + 1; omega⟩
  · rw [if_neg p1]
    by_cases p2 : a.p.ph = 2
    · rw [if_pos p2]; exact later_refl h.un
    · rw [if_neg p2]; exact later_refl h.un
/-- What one of them makes of a right map. -/
theorem does_right {a : Am} (h : Rgt a) (d : Dd) : Rgt (doM a d) ∧ Later a.l (doM a d).l ∧ (doE a d ≠ 0 → doM a d = a) := by
  have hc := chk_is.2 h
  have hf : ¬ chk a = false := by rw [hc]; simp
  unfold doM doE
  by_cases k0 : d.k = 0
  · rw [if_pos k0, if_pos k0]
    by_cases he : begE a d.p = 0
    · obtain ⟨h1, h2, _⟩ := beg_on h he
      exact ⟨h1, by rw [h2]; exact later_refl h.un, fun hn => absurd he hn⟩
    · have e : begM a d.p = a := by
        unfold begE at he
        rw [if_neg hf] at he
        unfold begM
        rw [if_neg hf, if_pos he]
      exact ⟨by rw [e]; exact h, by rw [e]; exact later_refl h.un, fun _ => e⟩
  · rw [if_neg k0, if_neg k0]
    by_cases k1 : d.k = 1
    · rw [if_pos k1, if_pos k1]
      unfold advM advE
      rw [if_neg hf, if_neg hf]
      by_cases hr : peq a.p zP = true ∨ a.p.ph ≠ d.ph
      · rw [if_pos hr, if_pos hr]
        exact ⟨h, later_refl h.un, fun _ => rfl⟩
      · rw [if_neg hr, if_neg hr]
        have hp : peq a.p zP = false := by cases hq : peq a.p zP with
          | false => rfl
          | true => exact absurd (.inl hq) hr
        exact ⟨rgt_step h hp, later_step h hp, fun hn => absurd rfl hn⟩
    · rw [if_neg k1, if_neg k1]
      unfold aboM aboE
      rw [if_neg hf, if_neg hf]
      by_cases hr : peq a.p zP = true ∨ a.p.ph ≠ 1
      · rw [if_pos hr, if_pos hr]
        exact ⟨h, later_refl h.un, fun _ => rfl⟩
      · rw [if_neg hr, if_neg hr]
        have hp : peq a.p zP = false := by cases hq : peq a.p zP with
          | false => rfl
          | true => exact absurd (.inl hq) hr
        have p1 : a.p.ph = 1 := by
          apply Classical.byContradiction
          intro hn
          exact hr (.inr hn)
        obtain ⟨s, hs, _, _, _, _, _, _⟩ := plan_span h hp
        have hi := (List.getElem?_eq_some_iff.1 hs).1
        have hg : a.l.getD (idx a.l a.p.sh) zS = s := by rw [List.getD_eq_getElem?_getD, hs]; rfl
        refine ⟨?_, ?_, fun hn => absurd rfl hn⟩
        · have := rgt_abort h hp p1 hs
          rw [hg, ← set_chg hi]
          exact this
        · rw [hg]
          exact later_chg h.un fun t ht => by
            rw [List.mem_singleton] at ht
            subst ht
            exact .inl ⟨s, List.mem_of_getElem? hs, rfl, by show s.ep < s.ep + 2; omega⟩
/-- Does a key lie in a span's range? -/
def inS (s : Sp) (k : ByteArray) : Bool := !lt k s.fr && ends s k
theorem em_end {s : Sp} (h : named s.up = true) : (s.up.toList == []) = false := by
  cases he : (s.up.toList == []) with
  | false => rfl
  | true =>
    have : s.up = em := list_em.1 (by simpa using he)
    rw [this, named_em] at h
    cases h
/-- Just the span that is found. -/
theorem ins_is {a : Am} (h : Rgt a) {k : ByteArray} {j : Nat} {t : Sp} (ht : a.l[j]? = some t) : inS t k = decide (j = fnd a.l k) := by
  have hl := (List.getElem?_eq_some_iff.1 ht).1
  have hf := fnd_lt h k
  have he : ends (a.l[fnd a.l k]'hf) k = true := by
    unfold fnd at hf ⊢
    exact List.findIdx_getElem (p := fun s => ends s k) (w := hf)
  obtain ⟨f, hfs⟩ : ∃ f, a.l[fnd a.l k]? = some f := ⟨_, List.getElem?_eq_getElem hf⟩
  rw [(List.getElem?_eq_some_iff.1 hfs).2] at he
  have lo : ∀ i p, i < fnd a.l k → a.l[i]? = some p → ends p k = false := fun i p hi hp => by
    unfold fnd at hi
    have := List.not_of_lt_findIdx hi
    rw [(List.getElem?_eq_some_iff.1 hp).2] at this
    exact Bool.eq_false_iff.2 (by simpa using this)
  unfold inS
  rcases Nat.lt_trichotomy j (fnd a.l k) with hj | hj | hj
  · rw [lo j t hj ht, Bool.and_false, decide_eq_false (by omega)]
  · subst hj
    rw [hfs] at ht
    injection ht with ht
    subst ht
    rw [he, Bool.and_true, decide_eq_true rfl]
    have : lt k f.fr = false := by
      by_cases h0 : fnd a.l k = 0
      · rw [h0] at hfs
        obtain ⟨t, h1, h2⟩ := jn_at h.jn hfs
        rw [List.take_zero] at h1
        have e : em = t := h1
        rw [(jn_cons.1 h2).1, ← e]
        exact lt_em k
      · obtain ⟨p, hp⟩ : ∃ p, a.l[fnd a.l k - 1]? = some p := ⟨_, List.getElem?_eq_getElem (by omega)⟩
        have e1 := lo (fnd a.l k - 1) p (by omega) hp
        obtain ⟨e2, _, _⟩ := jn_next h.jn hp (by rw [show fnd a.l k - 1 + 1 = fnd a.l k by omega]; exact hfs)
        unfold ends at e1
        rw [Bool.or_eq_false_iff] at e1
        rw [e2]
        exact e1.2
    rw [this]
    rfl
  · rw [decide_eq_false (by omega)]
    obtain ⟨d, rfl⟩ : ∃ d, j = fnd a.l k + d + 1 := ⟨j - fnd a.l k - 1, by omega⟩
    obtain ⟨q, hq⟩ : ∃ q, a.l[fnd a.l k + d]? = some q := ⟨_, List.getElem?_eq_getElem (by omega)⟩
    obtain ⟨y, hy⟩ : ∃ y, a.l[fnd a.l k + 1]? = some y := ⟨_, List.getElem?_eq_getElem (by omega)⟩
    have h1 := jn_mono h.jn hfs d q hq (by omega)
    obtain ⟨e1, _, _⟩ := jn_next h.jn hq ht
    have h2 := (jn_next h.jn hfs hy).2.1
    have h3 : lt k f.up = true := by
      unfold ends at he
      rw [em_end h2, Bool.false_or] at he
      exact he
    have h4 : lt k t.fr = true := by
      rw [e1]
      cases h5 : lt k q.up with
      | true => rfl
      | false =>
        have := le_lt h5 h3
        rw [this] at h1
        cases h1
    rw [h4]
    rfl
end Go.Proofs.Ytkidhnlombhhnaa
