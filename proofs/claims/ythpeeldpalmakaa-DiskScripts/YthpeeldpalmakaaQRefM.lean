/- The reference's list of writes, held against the files. -/
import Derived.Test.YthpeeldpalmakaaQRef6
namespace Go.Proofs.Ythpeeldpalmakaa
open Go.RowKit Dsk
set_option linter.unusedVariables false
set_option maxRecDepth 10000

namespace Dsk
/-- A write that was done: its file, its bytes, its number as long as it waits. -/
structure En where
  nm : List UInt8
  b : List UInt8
  no : Option Int
def En.rw (a : En) : Rw := ⟨a.nm, a.b, a.no.isNone⟩
def flt (A : List En) (x : List UInt8) : List En := A.filter fun a => a.nm == x
def En.w (a : En) : Option (Int × Nat) := a.no.map fun n => (n, a.b.length)
structure Rel (s : St) (N : List (List UInt8)) (L : List Rw) (A : List En) : Prop where
  hL : L = A.map En.rw
  hN : N = srtS (s.l.map (·.1))
  hb : ∀ p ∈ s.l, p.2.by_ = (flt A p.1).flatMap (·.b)
  hw : ∀ p ∈ s.l, p.2.ws = (flt A p.1).filterMap En.w
  hk : ∀ a ∈ A, a.nm ∈ s.l.map (·.1)
  hn : (A.filterMap (·.no)).Pairwise (· < ·)
  hm : ∀ i ∈ A.filterMap (·.no), i < s.m
  ho : A.Pairwise fun a b => a.nm = b.nm → a.no ≠ none → b.no ≠ none
theorem fm_congr {α β : Type} {f g : α → List β} : ∀ {l : List α}, (∀ x ∈ l, f x = g x) → l.flatMap f = l.flatMap g
  | [], _ => rfl
  | a :: l, h => by rw [List.flatMap_cons, List.flatMap_cons, h a (by simp), fm_congr fun x hx => h x (by simp [hx])]
theorem perm_parts : ∀ (K : List (List UInt8)) (A : List En), K.Nodup → (∀ a ∈ A, a.nm ∈ K) → (K.flatMap (flt A)).Perm A
  | [], A, _, h => by
    have : A = [] := by
      cases A with
      | nil => rfl
      | cons a A => have := h a (by simp); simp at this
    subst this
    simp
  | x :: K, A, hn, h => by
    rw [List.nodup_cons] at hn
    have e : K.flatMap (flt A) = K.flatMap (flt (A.filter fun a => !(a.nm == x))) := by
      refine fm_congr fun y hy => ?_
      unfold flt
      rw [List.filter_filter]
      refine List.filter_congr fun a ha => ?_
      by_cases h1 : a.nm = y
      · have : ¬ a.nm = x := fun c => hn.1 (by rw [← c, h1]; exact hy)
        simp [h1]
        rw [← h1]; exact this
      · simp [h1]
    have ih := perm_parts K (A.filter fun a => !(a.nm == x)) hn.2 fun a ha => by
      rw [List.mem_filter] at ha
      rcases List.mem_cons.1 (h a ha.1) with c | c
      · simp [c] at ha
      · exact c
    rw [List.flatMap_cons, e]
    exact (List.Perm.append_left _ ih).trans (List.filter_append_perm _ A)
theorem nums_rel {s : St} {N L A} (h : Rel s N L A) (nd : (s.l.map (·.1)).Nodup) : (nums s.l).Perm (A.filterMap (·.no)) := by
  have e : nums s.l = ((s.l.map (·.1)).flatMap (flt A)).filterMap (·.no) := by
    unfold nums
    rw [List.filterMap_flatMap, List.flatMap_map]
    refine fm_congr fun p hp => ?_
    rw [h.hw p hp, List.map_filterMap]
    refine congrFun (congrArg List.filterMap (funext fun a => ?_)) _
    unfold En.w
    cases a.no <;> rfl
  rw [e]
  exact (perm_parts _ A nd h.hk).filterMap _
theorem tot_rel {s : St} {N L A} (h : Rel s N L A) (nd : (s.l.map (·.1)).Nodup) : rtot L = tot s.l := by
  have e1 : tot s.l = (((s.l.map (·.1)).flatMap (flt A)).flatMap (·.b)).length := by
    unfold tot
    rw [List.flatMap_assoc, List.flatMap_map, List.length_flatMap]
    refine congrArg List.sum (List.map_congr_left fun p hp => ?_)
    rw [h.hb p hp]
  have e2 : rtot L = (A.flatMap (·.b)).length := by
    rw [h.hL]
    unfold rtot
    rw [List.length_flatMap, List.map_map]
    rfl
  rw [e1, e2]
  exact ((perm_parts _ A nd h.hk).flatMap_right _).length_eq.symm
theorem wait_rel {s : St} {N L A} (h : Rel s N L A) (nd : (s.l.map (·.1)).Nodup) : rwait L = wait s.l := by
  rw [← wait_nums, (nums_rel h nd).length_eq, h.hL]
  unfold rwait
  clear h
  induction A with
  | nil => rfl
  | cons a A ih =>
    obtain ⟨nm, b, no⟩ := a
    cases no with
    | none => simpa [En.rw] using ih
    | some i => simpa [En.rw] using ih
theorem has_rel {s : St} {N L A} (h : Rel s N L A) (x : List UInt8) : rhas N x = has s.l x := by
  rw [h.hN, Bool.eq_iff_iff]
  unfold rhas has
  rw [List.any_eq_true, List.any_eq_true]
  constructor
  · rintro ⟨y, hy, e⟩
    obtain ⟨p, hp, e2⟩ := List.mem_map.1 (mem_srtS.1 hy)
    exact ⟨p, hp, by rw [e2]; exact e⟩
  · rintro ⟨p, hp, e⟩
    exact ⟨p.1, mem_srtS.2 (List.mem_map.2 ⟨p, hp, rfl⟩), e⟩
theorem len_rel {s : St} {N L A} (h : Rel s N L A) : N.length = s.l.length := by rw [h.hN, srtS_len, List.length_map]
theorem rB_rel {s : St} {N L A} (h : Rel s N L A) (x : List UInt8) : rB L x = (flt A x).flatMap (·.b) := by
  rw [h.hL]
  unfold rB flt
  rw [List.filter_map, List.flatMap_map]
  rfl
theorem read_rel {s : St} {N L A} (h : Rel s N L A) (nd : (s.l.map (·.1)).Nodup) (x : List UInt8) : (if rhas N x = true then rB L x else []) = rdB s.l x := by
  rw [has_rel h, rB_rel h]
  cases hh : has s.l x with
  | false => rw [rdB_not hh]; rfl
  | true =>
    obtain ⟨f, hf⟩ := has_iff.1 hh
    rw [rdB_mem nd hf, h.hb _ hf]
    rfl
theorem hasE_rel {s : St} {N L A} (h : Rel s N L A) (x : List UInt8) : rhasE N x = hasE s.l x := by unfold rhasE hasE; rw [has_rel h]
theorem rel_new : Rel newS [] [] [] := ⟨rfl, by simp [newS, srtS], by simp [newS], by simp [newS], by simp, by simp, by simp, by simp⟩
end Dsk
end Go.Proofs.Ythpeeldpalmakaa
