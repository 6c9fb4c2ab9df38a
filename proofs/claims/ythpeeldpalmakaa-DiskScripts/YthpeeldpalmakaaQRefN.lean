/- .. what each call leaves of that. -/
import Derived.Test.YthpeeldpalmakaaQRefM
namespace Go.Proofs.Ythpeeldpalmakaa
open Go.RowKit Dsk
set_option linter.unusedVariables false
set_option maxRecDepth 10000

namespace Dsk
theorem srtS_pair (l : List (List UInt8)) : (srtS l).Pairwise fun a b => a ≤ b := by
  have tr : ∀ a b c : List UInt8, decide (a ≤ b) = true → decide (b ≤ c) = true → decide (a ≤ c) = true := fun a b c h1 h2 => by
    simp only [decide_eq_true_eq] at *
    exact List.le_trans h1 h2
  have tt : ∀ a b : List UInt8, (decide (a ≤ b) || decide (b ≤ a)) = true := fun a b => by
    simp only [Bool.or_eq_true, decide_eq_true_eq]
    exact List.le_total a b
  exact (List.pairwise_mergeSort tr tt l).imp fun h => by simpa using h
theorem srtS_eq {N l : List (List UInt8)} (hp : N.Pairwise fun a b => a ≤ b) (h : N.Perm l) : N = srtS l := by
  rw [← srtS_perm h]
  exact (List.mergeSort_of_pairwise (hp.imp fun h => by simpa using h)).symm
theorem bytesLess_eq : ∀ (x y : List UInt8), Op.bytesLess x y = decide (x < y)
  | [], [] => by simp [Op.bytesLess]
  | _ :: _, [] => by simp [Op.bytesLess]
  | [], _ :: _ => by simp [Op.bytesLess]
  | a :: x, b :: y => by
    rw [Op.bytesLess, bytesLess_eq x y]
    simp only [List.cons_lt_cons_iff]
    by_cases h1 : a < b <;> by_cases h2 : a = b <;> by_cases h3 : x < y <;> simp [h1, h2, h3]
theorem srtS_ins {K : List (List UInt8)} {x : List UInt8} {k : Nat} (h : Spot (srtS K) x k) : (srtS K).take k ++ x :: (srtS K).drop k = srtS (K ++ [x]) := by
  obtain ⟨h1, h2, h3⟩ := h
  have hp := srtS_pair K
  have hpm : (srtS K).Perm K := List.mergeSort_perm _ _
  generalize srtS K = N at *
  refine srtS_eq ?_ ?_
  · rw [← List.take_append_drop k N, List.pairwise_append] at hp
    obtain ⟨p1, p2, p3⟩ := hp
    rw [List.pairwise_append, List.pairwise_cons]
    have hx : ∀ y ∈ N.drop k, x ≤ y := fun y hy => by
      cases hd : N.drop k with
      | nil => rw [hd] at hy; simp at hy
      | cons z R =>
        have hz : N[k]? = some z := by rw [← List.head?_drop, hd]; rfl
        have h4 := h3 z hz
        rw [bytesLess_eq, decide_eq_false_iff_not] at h4
        have h5 : x ≤ z := List.not_lt.1 h4
        rw [hd] at hy p2
        rcases List.mem_cons.1 hy with e | e
        · rw [e]; exact h5
        · exact List.le_trans h5 ((List.pairwise_cons.1 p2).1 y e)
    refine ⟨p1, ⟨hx, p2⟩, fun a ha b hb => ?_⟩
    have h4 := h2 a ha
    rw [bytesLess_eq, decide_eq_true_eq] at h4
    rcases List.mem_cons.1 hb with e | e
    · rw [e]; exact List.le_of_lt h4
    · exact p3 a ha b e
  · have e1 : (N.take k ++ x :: N.drop k).Perm (x :: (N.take k ++ N.drop k)) := List.perm_middle
    rw [List.take_append_drop] at e1
    exact (e1.trans (hpm.cons x)).trans (List.perm_append_singleton x K).symm
theorem srtS_filter (K : List (List UInt8)) (p : List UInt8 → Bool) : (srtS K).filter p = srtS (K.filter p) :=
  srtS_eq ((srtS_pair K).filter p) ((List.mergeSort_perm _ _).filter p)
theorem flt_app (A : List En) (a : En) (x : List UInt8) : flt (A ++ [a]) x = if a.nm = x then flt A x ++ [a] else flt A x := by
  unfold flt
  by_cases h : a.nm = x
  · simp [h]
  · simp [h]
theorem mem_keys {L : Ds} {x : List UInt8} : x ∈ L.map (·.1) ↔ has L x = true := by
  rw [has_iff, List.mem_map]
  constructor
  · rintro ⟨p, hp, e⟩; exact ⟨p.2, by rw [← e]; exact hp⟩
  · rintro ⟨f, hf⟩; exact ⟨_, hf, rfl⟩
theorem rel_app {s : St} {N L A} (h : Rel s N L A) (x l : List UInt8) (he : appE s.l x l.length = 0) (N' : List (List UInt8)) (hN : if rhas N x = true then N' = N else ∃ k, Spot N x k ∧ N' = N.take k ++ x :: N.drop k) :
    Rel (appS s x l) N' (L ++ [⟨x, l, false⟩]) (A ++ [⟨x, l, some s.m⟩]) := by
  have eS : appS s x l = ⟨if has s.l x = true then setF s.l x (appF s.m l) else s.l ++ [(x, appF s.m l ⟨[], []⟩)], s.m + 1⟩ := by unfold appS; rw [if_pos he]
  rw [has_rel h] at hN
  have nil : has s.l x = false → flt A x = [] := fun hh => by
    unfold flt
    rw [List.filter_eq_nil_iff]
    intro a ha c
    have := mem_keys.1 (h.hk a ha)
    have c' : a.nm = x := by simpa using c
    rw [c', hh] at this
    cases this
  have hn : (A ++ [⟨x, l, some s.m⟩] : List En).filterMap (·.no) = A.filterMap (·.no) ++ [s.m] := by simp
  have all : ∀ p ∈ (appS s x l).l, p.2.by_ = (flt (A ++ [⟨x, l, some s.m⟩]) p.1).flatMap (·.b) ∧ p.2.ws = (flt (A ++ [⟨x, l, some s.m⟩]) p.1).filterMap En.w := by
    intro p hp
    rw [eS] at hp
    simp only at hp
    rw [flt_app]
    cases hh : has s.l x with
    | true =>
      rw [hh] at hp
      simp only [if_true] at hp
      unfold setF at hp
      obtain ⟨q, hq, e⟩ := List.mem_map.1 hp
      by_cases c : q.1 = x
      · rw [if_pos c] at e
        subst e
        rw [if_pos c.symm]
        simp [appF, h.hb q hq, h.hw q hq, En.w]
      · rw [if_neg c] at e
        subst e
        rw [if_neg fun e => c e.symm]
        exact ⟨h.hb _ hq, h.hw _ hq⟩
    | false =>
      rw [hh] at hp
      simp only [Bool.false_eq_true, if_false] at hp
      rcases List.mem_append.1 hp with hp | hp
      · have c : ¬ x = p.1 := fun e => has_not hh p hp e.symm
        rw [if_neg c]
        exact ⟨h.hb _ hp, h.hw _ hp⟩
      · simp at hp
        subst hp
        simp [nil hh, appF, En.w]
  have keys : (appS s x l).l.map (·.1) = if has s.l x = true then s.l.map (·.1) else s.l.map (·.1) ++ [x] := by
    rw [eS]
    cases hh : has s.l x
    · simp
    · simp [setF_keys]
  refine ⟨by rw [h.hL]; simp [En.rw], ?_, fun p hp => (all p hp).1, fun p hp => (all p hp).2, fun a ha => ?_, ?_, ?_, ?_⟩
  · rw [keys]
    cases hh : has s.l x with
    | true =>
      rw [hh] at hN
      simp only [if_true] at hN ⊢
      rw [hN]; exact h.hN
    | false =>
      rw [hh] at hN
      simp only [Bool.false_eq_true, if_false] at hN ⊢
      obtain ⟨k, hs, e⟩ := hN
      rw [e]
      rw [h.hN] at hs ⊢
      exact srtS_ins hs
  · rw [keys]
    rcases List.mem_append.1 ha with ha | ha
    · have := h.hk a ha
      split
      · exact this
      · simp only [List.mem_append]; exact .inl this
    · simp at ha
      subst ha
      simp only
      split
      · next hh => exact mem_keys.2 hh
      · simp
  · rw [hn, List.pairwise_append]
    exact ⟨h.hn, by simp, fun a ha b hb => by simp at hb; rw [hb]; exact h.hm a ha⟩
  · intro i hi
    rw [hn] at hi
    rw [eS]
    show i < s.m + 1
    rcases List.mem_append.1 hi with hi | hi
    · have := h.hm i hi; omega
    · simp at hi; omega
  · rw [List.pairwise_append]
    exact ⟨h.ho, by simp, fun a ha b hb => by simp at hb; rw [hb]; simp⟩
end Dsk
end Go.Proofs.Ythpeeldpalmakaa
