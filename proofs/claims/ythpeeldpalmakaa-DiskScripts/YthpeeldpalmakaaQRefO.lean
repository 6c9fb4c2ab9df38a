/- .. Sync, Remove, Crash. -/
import Derived.Test.YthpeeldpalmakaaQRefN
namespace Go.Proofs.Ythpeeldpalmakaa
open Go.RowKit Dsk
set_option linter.unusedVariables false
set_option maxRecDepth 10000

namespace Dsk
def En.cal (x : List UInt8) (a : En) : En := if a.nm = x then ⟨a.nm, a.b, none⟩ else a
theorem cal_nm (x : List UInt8) (a : En) : (a.cal x).nm = a.nm := by unfold En.cal; split <;> rfl
theorem cal_b (x : List UInt8) (a : En) : (a.cal x).b = a.b := by unfold En.cal; split <;> rfl
theorem flt_map (A : List En) (f : En → En) (hf : ∀ a, (f a).nm = a.nm) (x : List UInt8) : flt (A.map f) x = (flt A x).map f := by
  unfold flt
  rw [List.filter_map]
  refine congrArg (List.map f) (List.filter_congr fun a _ => ?_)
  simp only [Function.comp, hf]
theorem flt_nm {A : List En} {x : List UInt8} {a : En} (h : a ∈ flt A x) : a.nm = x ∧ a ∈ A := by
  unfold flt at h
  rw [List.mem_filter] at h
  exact ⟨by simpa using h.2, h.1⟩
theorem cal_sub (x : List UInt8) : ∀ A : List En, ((A.map (En.cal x)).filterMap (·.no)).Sublist (A.filterMap (·.no))
  | [] => by simp
  | a :: A => by
    have ih := cal_sub x A
    obtain ⟨nm, b, no⟩ := a
    by_cases c : nm = x
    · cases no with
      | none => simpa [En.cal, c] using ih
      | some i =>
        rw [List.map_cons, show En.cal x ⟨nm, b, some i⟩ = ⟨nm, b, none⟩ from if_pos c]
        exact ih.cons i
    · cases no with
      | none => simpa [En.cal, c] using ih
      | some i => simpa [En.cal, c] using ih
theorem rel_sync {s : St} {N L A} (h : Rel s N L A) (x : List UInt8) : Rel (syncS s x) N (syncR L x) (A.map (En.cal x)) := by
  have key : (syncS s x).l.map (·.1) = s.l.map (·.1) := keys_sync s x
  have all : ∀ p ∈ (syncS s x).l, p.2.by_ = (flt (A.map (En.cal x)) p.1).flatMap (·.b) ∧ p.2.ws = (flt (A.map (En.cal x)) p.1).filterMap En.w := by
    intro p hp
    unfold syncS setF at hp
    obtain ⟨q, hq, e⟩ := List.mem_map.1 hp
    rw [flt_map A _ (cal_nm x)]
    by_cases c : q.1 = x
    · rw [if_pos c] at e
      subst e
      refine ⟨?_, ?_⟩
      · show q.2.by_ = _
        rw [h.hb q hq, List.flatMap_map]
        exact fm_congr fun a _ => (cal_b x a).symm
      · show [] = _
        refine Eq.symm ?_
        rw [List.filterMap_eq_nil_iff]
        intro a ha
        obtain ⟨b, hb, e⟩ := List.mem_map.1 ha
        have : b.nm = x := (flt_nm hb).1.trans c
        rw [← e]
        simp [En.cal, this, En.w]
    · rw [if_neg c] at e
      subst e
      have e2 : (flt A q.1).map (En.cal x) = flt A q.1 := by
        conv => rhs; rw [← List.map_id (flt A q.1)]
        refine List.map_congr_left fun a ha => ?_
        have : ¬ a.nm = x := fun e => c ((flt_nm ha).1.symm.trans e)
        simp [En.cal, this]
      rw [e2]
      exact ⟨h.hb q hq, h.hw q hq⟩
  refine ⟨?_, by rw [key]; exact h.hN, fun p hp => (all p hp).1, fun p hp => (all p hp).2, fun a ha => ?_, h.hn.sublist (cal_sub x A), fun i hi => h.hm i ((cal_sub x A).subset hi), ?_⟩
  · rw [h.hL]
    unfold syncR
    rw [List.map_map, List.map_map]
    refine List.map_congr_left fun a _ => ?_
    simp only [Function.comp]
    by_cases c : a.nm = x
    · simp [En.rw, En.cal, c]
    · simp [En.rw, En.cal, c]
  · obtain ⟨b, hb, e⟩ := List.mem_map.1 ha
    rw [key, ← e, cal_nm]
    exact h.hk b hb
  · rw [List.pairwise_map]
    refine h.ho.imp fun {a b} hab => ?_
    rw [cal_nm, cal_nm]
    intro e
    have := hab e
    by_cases c : a.nm = x
    · simp [En.cal, c]
    · have c' : ¬ b.nm = x := fun d => c (e.trans d)
      simp [En.cal, c, c']
      simpa using this
theorem sync_none {s : St} {N L A} (h : Rel s N L A) {x : List UInt8} (hx : rhas N x = false) : syncR L x = L := by
  rw [has_rel h] at hx
  unfold syncR
  conv => rhs; rw [← List.map_id L]
  refine List.map_congr_left fun y hy => ?_
  rw [h.hL] at hy
  obtain ⟨a, ha, e⟩ := List.mem_map.1 hy
  have h1 := mem_keys.1 (h.hk a ha)
  have : ¬ y.nm = x := fun c => by
    rw [← e] at c
    have c' : a.nm = x := c
    rw [c', hx] at h1
    cases h1
  simp [this]
theorem rel_rem {s : St} {N L A} (h : Rel s N L A) (x : List UInt8) : Rel (remS s x) (N.filter fun y => y != x) (L.filter fun y => y.nm != x) (A.filter fun a => a.nm != x) := by
  have key : (remS s x).l.map (·.1) = (s.l.map (·.1)).filter fun y => y != x := by
    unfold remS
    rw [List.filter_map]
    rfl
  have fl : ∀ y, y ≠ x → flt (A.filter fun a => a.nm != x) y = flt A y := fun y hy => by
    unfold flt
    rw [List.filter_filter]
    refine List.filter_congr fun a _ => ?_
    by_cases c : a.nm = y
    · simp [c, hy]
    · simp [c]
  have mem : ∀ p ∈ (remS s x).l, p ∈ s.l ∧ p.1 ≠ x := fun p hp => by
    unfold remS at hp
    rw [List.mem_filter] at hp
    exact ⟨hp.1, by simpa using hp.2⟩
  have sub : (A.filter fun a => a.nm != x).Sublist A := List.filter_sublist
  refine ⟨?_, by rw [key, h.hN]; exact srtS_filter _ _, fun p hp => ?_, fun p hp => ?_, fun a ha => ?_, h.hn.sublist (sub.filterMap _), fun i hi => h.hm i ((sub.filterMap _).subset hi), h.ho.sublist sub⟩
  · rw [h.hL, List.filter_map]
    rfl
  · rw [fl _ (mem p hp).2]; exact h.hb p (mem p hp).1
  · rw [fl _ (mem p hp).2]; exact h.hw p (mem p hp).1
  · rw [List.mem_filter] at ha
    rw [key, List.mem_filter]
    exact ⟨h.hk a ha.1, ha.2⟩
theorem rem_none {s : St} {N L A} (h : Rel s N L A) {x : List UInt8} (hx : rhas N x = false) : (N.filter fun y => y != x) = N ∧ (L.filter fun y => y.nm != x) = L := by
  have hx' := hx
  rw [has_rel h] at hx
  constructor
  · rw [List.filter_eq_self]
    intro y hy
    unfold rhas at hx'
    rw [List.any_eq_false] at hx'
    have := hx' y hy
    simpa using this
  · rw [List.filter_eq_self]
    intro y hy
    rw [h.hL] at hy
    obtain ⟨a, ha, e⟩ := List.mem_map.1 hy
    have h1 := mem_keys.1 (h.hk a ha)
    have : ¬ y.nm = x := fun c => by
      rw [← e] at c
      have c' : a.nm = x := c
      rw [c', hx] at h1
      cases h1
    simpa using this
def crB (nx torn : Int) (a : En) : List UInt8 := match a.no with | none => a.b | some i => a.b.take (stays nx torn (i, a.b.length))
def gone (nx torn : Int) (a : En) : Nat := match a.no with | none => 0 | some i => a.b.length - stays nx torn (i, a.b.length)
theorem lost_gone (nx torn : Int) : ∀ F : List En, lost nx torn (F.filterMap En.w) = (F.map (gone nx torn)).sum
  | [] => rfl
  | a :: F => by
    have ih := lost_gone nx torn F
    unfold lost at ih ⊢
    obtain ⟨nm, b, no⟩ := a
    cases no with
    | none => exact ih.trans (Nat.zero_add _).symm
    | some i => simp [En.w, gone, ih]
theorem gone_crB (nx torn : Int) (a : En) : crB nx torn a = a.b.take (a.b.length - gone nx torn a) ∧ gone nx torn a ≤ a.b.length := by
  unfold crB gone
  cases a.no with
  | none => simp
  | some i =>
    have := stays_le nx torn (i, a.b.length)
    simp only at this ⊢
    refine ⟨?_, by omega⟩
    congr 1
    omega
theorem cut_file (nx torn : Int) : ∀ F : List En, (F.Pairwise fun a b => gone nx torn a ≠ 0 → gone nx torn b = b.b.length) → (F.flatMap (·.b)).take ((F.flatMap (·.b)).length - (F.map (gone nx torn)).sum) = F.flatMap (crB nx torn)
  | [], _ => rfl
  | a :: F, h => by
    rw [List.pairwise_cons] at h
    have ih := cut_file nx torn F h.2
    obtain ⟨e1, e2⟩ := gone_crB nx torn a
    have le : (F.map (gone nx torn)).sum ≤ (F.flatMap (·.b)).length := by
      clear ih h
      induction F with
      | nil => simp
      | cons c F ih => have := (gone_crB nx torn c).2; simp at ih ⊢; omega
    rw [List.flatMap_cons, List.flatMap_cons, List.map_cons, List.sum_cons, List.length_append]
    by_cases c : gone nx torn a = 0
    · rw [e1, c, Nat.sub_zero, List.take_length]
      have : a.b.length + (F.flatMap (·.b)).length - (0 + (F.map (gone nx torn)).sum) = a.b.length + ((F.flatMap (·.b)).length - (F.map (gone nx torn)).sum) := by omega
      rw [this, List.take_length_add_append, ih]
    · have h1 : ∀ b ∈ F, gone nx torn b = b.b.length := fun b hb => h.1 b hb c
      have h2 : (F.map (gone nx torn)).sum = (F.flatMap (·.b)).length := by
        rw [List.length_flatMap]
        exact congrArg List.sum (List.map_congr_left h1)
      have h3 : F.flatMap (crB nx torn) = [] := by
        rw [List.flatMap_eq_nil_iff]
        intro b hb
        rw [(gone_crB nx torn b).1, h1 b hb]
        simp
      rw [h2, h3, List.append_nil, e1]
      have : a.b.length + (F.flatMap (·.b)).length - (gone nx torn a + (F.flatMap (·.b)).length) = a.b.length - gone nx torn a := by omega
      rw [this, List.take_append_of_le_length (by omega)]
theorem crR_rel (nx : Int) (torn : Int) (K : Nat) : ∀ (A : List En) (n : Nat), (∀ j i, (A.filterMap (·.no))[j]? = some i → ((i < nx ↔ n + j < K) ∧ (nx < i ↔ K < n + j))) → crR K torn.toNat n (A.map En.rw) = A.map fun a => (⟨a.nm, crB nx torn a, true⟩ : Rw)
  | [], _, _ => rfl
  | a :: A, n, h => by
    obtain ⟨nm, b, no⟩ := a
    rw [List.map_cons, List.map_cons, crR]
    cases no with
    | none =>
      have ih := crR_rel nx torn K A n fun j i hj => h j i (by simpa using hj)
      congr 1
    | some i =>
      have ih := crR_rel nx torn K A (n + 1) fun j i hj => by
        have := h (j + 1) i (by simpa using hj)
        rw [show n + 1 + j = n + (j + 1) by omega]
        exact this
      have h0 := h 0 i (by simp)
      rw [Nat.add_zero] at h0
      congr 1
      unfold crOne crB En.rw stays
      simp only [Option.isNone_some, Bool.false_eq_true, if_false]
      by_cases c1 : K < n
      · rw [if_pos c1, if_neg (fun d => by have := h0.1.1 d; omega), if_pos (h0.2.2 c1)]
        simp
      · rw [if_neg c1]
        by_cases c2 : n = K
        · rw [if_pos c2, if_neg (fun d => by have := h0.1.1 d; omega), if_neg (fun d => by have := h0.2.1 d; omega)]
          congr 1
          by_cases c3 : torn.toNat ≤ b.length
          · rw [Nat.min_eq_left c3]
          · rw [Nat.min_eq_right (by omega), List.take_of_length_le (by omega), List.take_of_length_le (by omega)]
        · rw [if_neg c2, if_pos (h0.1.2 (by omega)), List.take_of_length_le (by omega)]
theorem behind_rel {s : St} {N L A} (h : Rel s N L A) (nd : (s.l.map (·.1)).Nodup) (K : Nat) : ∀ j i, (A.filterMap (·.no))[j]? = some i → ((i < behind s K ↔ j < K) ∧ (behind s K < i ↔ K < j)) := by
  intro j i hj
  have hp := nums_rel h nd
  have hs : sorted (nums s.l) = A.filterMap (·.no) := by
    rw [sorted_perm hp]
    exact List.mergeSort_of_pairwise (h.hn.imp fun h => by simp; omega)
  have hi : i < s.m := h.hm i (List.mem_of_getElem? hj)
  unfold behind
  rw [hs, hp.length_eq]
  have hn := h.hn
  generalize A.filterMap (·.no) = W at hj hn
  obtain ⟨hlt, hv⟩ := List.getElem?_eq_some_iff.1 hj
  by_cases c : W.length ≤ K
  · rw [if_pos c]
    constructor <;> omega
  · rw [if_neg c]
    have hK : K < W.length := by omega
    have e : W.getD K 0 = W[K] := by simp [List.getD, hK]
    rw [e]
    rw [List.pairwise_iff_getElem] at hn
    rcases Nat.lt_trichotomy j K with d | d | d
    · have := hn j K hlt hK d
      rw [hv] at this
      constructor <;> omega
    · subst d
      rw [hv]
      constructor <;> omega
    · have := hn K j hK hlt d
      rw [hv] at this
      constructor <;> omega
theorem rel_crash {s : St} {N L A} (h : Rel s N L A) (nd : (s.l.map (·.1)).Nodup) (keep torn : Int) :
    Rel (crashS s keep torn) N (crR keep.toNat torn.toNat 0 L) (A.map fun a => ⟨a.nm, crB (behind s keep.toNat) torn a, none⟩) := by
  have hB := behind_rel h nd keep.toNat
  have key : (crashS s keep torn).l.map (·.1) = s.l.map (·.1) := by
    unfold crashS
    rw [List.map_map]
    rfl
  generalize hnx : behind s keep.toNat = nx at hB ⊢
  have no0 : (A.map fun a => (⟨a.nm, crB nx torn a, none⟩ : En)).filterMap (·.no) = [] := by
    rw [List.filterMap_eq_nil_iff]
    intro a ha
    obtain ⟨b, _, e⟩ := List.mem_map.1 ha
    rw [← e]
  have ho2 : A.Pairwise fun a b => a.nm = b.nm → gone nx torn a ≠ 0 → gone nx torn b = b.b.length := by
    have h1 := h.hn
    rw [List.pairwise_filterMap] at h1
    refine (h.ho.and h1).imp fun {a b} ⟨x1, x2⟩ e g => ?_
    unfold gone at g ⊢
    cases ha : a.no with
    | none => rw [ha] at g; simp at g
    | some i =>
      rw [ha] at g
      simp only at g
      have hb := x1 e (by rw [ha]; simp)
      cases hb2 : b.no with
      | none => exact absurd hb2 hb
      | some j =>
        have := x2 i ha j hb2
        have h3 : ¬ i < nx := fun c => by simp [stays, c] at g
        simp only
        unfold stays
        rw [if_neg (by omega), if_pos (by omega)]
        omega
  refine ⟨?_, by rw [key]; exact h.hN, fun p hp => ?_, fun p hp => ?_, fun a ha => ?_, by rw [no0]; exact List.Pairwise.nil, by rw [no0]; simp, ?_⟩
  · rw [h.hL, crR_rel nx torn keep.toNat A 0 fun j i hj => by rw [Nat.zero_add]; exact hB j i hj, List.map_map]
    rfl
  · unfold crashS at hp
    obtain ⟨q, hq, e⟩ := List.mem_map.1 hp
    rw [← e, flt_map A (fun a => ⟨a.nm, crB nx torn a, none⟩) fun _ => rfl, List.flatMap_map]
    show (q.2.crash (behind s keep.toNat) torn).by_ = (flt A q.1).flatMap (crB nx torn)
    rw [hnx, ← cut_file nx torn (flt A q.1), ← lost_gone, ← h.hw q hq, ← h.hb q hq]
    · rfl
    · refine (ho2.filter _).imp_of_mem fun {a b} ha hb hab => ?_
      exact hab ((flt_nm ha).1.trans (flt_nm hb).1.symm)
  · unfold crashS at hp
    obtain ⟨q, hq, e⟩ := List.mem_map.1 hp
    rw [← e, flt_map A (fun a => ⟨a.nm, crB nx torn a, none⟩) fun _ => rfl]
    show [] = _
    refine Eq.symm ?_
    rw [List.filterMap_eq_nil_iff]
    intro a ha
    obtain ⟨b, _, e⟩ := List.mem_map.1 ha
    rw [← e]
    rfl
  · obtain ⟨b, hb, e⟩ := List.mem_map.1 ha
    rw [key, ← e]
    exact h.hk b hb
  · rw [List.pairwise_map]
    refine h.ho.imp fun {a b} _ _ c => ?_
    exact absurd rfl c
end Dsk
end Go.Proofs.Ythpeeldpalmakaa
