/- A local day's instants, counted twice. -/
import Derived.Test.YtlnafkcoicaefaaDoorZBackMath
namespace Go.Proofs.YtlnafkcoicaefaaDoor.Zon

/-- How many of the k numbers from a on are so? -/
def cnt (p : Int → Bool) (a : Int) : Nat → Nat
  | 0 => 0
  | k + 1 => cnt p a k + (if p (a + k) then 1 else 0)
theorem cnt_succ (p : Int → Bool) (a : Int) (k : Nat) : cnt p a (k + 1) = cnt p a k + (if p (a + k) then 1 else 0) := rfl
theorem cnt_le (p : Int → Bool) (a : Int) : ∀ k, cnt p a k ≤ k
  | 0 => Nat.le_refl _
  | k + 1 => by
    have := cnt_le p a k
    unfold cnt
    split <;> omega
theorem cnt_add (p : Int → Bool) (a : Int) (k : Nat) : ∀ m, cnt p a (k + m) = cnt p a k + cnt p (a + k) m
  | 0 => by simp [cnt]
  | m + 1 => by
    have ih := cnt_add p a k m
    rw [show k + (m + 1) = k + m + 1 by omega, cnt_succ, cnt_succ, ih, show a + ((k + m : Nat) : Int) = a + k + m by omega]
    omega
theorem cnt_congr {p q : Int → Bool} {a : Int} : ∀ {k : Nat}, (∀ t, a ≤ t → t < a + k → p t = q t) → cnt p a k = cnt q a k
  | 0, _ => rfl
  | k + 1, h => by
    unfold cnt
    rw [cnt_congr (k := k) (fun t h1 h2 => h t h1 (by omega)), h (a + k) (by omega) (by omega)]
theorem cnt_none {p : Int → Bool} {a : Int} : ∀ {k : Nat}, (∀ t, a ≤ t → t < a + k → p t = false) → cnt p a k = 0
  | 0, _ => rfl
  | k + 1, h => by
    unfold cnt
    rw [cnt_none (k := k) (fun t h1 h2 => h t h1 (by omega)), h (a + k) (by omega) (by omega)]
    rfl
theorem cnt_or {p q : Int → Bool} (a : Int) : ∀ k : Nat, (∀ t, ¬ (p t = true ∧ q t = true)) → cnt (fun t => p t || q t) a k = cnt p a k + cnt q a k
  | 0, _ => rfl
  | k + 1, h => by
    unfold cnt
    rw [cnt_or a k h]
    have := h (a + k)
    cases hp : p (a + k) <;> cases hq : q (a + k) <;> simp_all <;> omega

/-- Is t's local minute in the day whose first minute is N? -/
def Z.inDay (z : Z) (N t : Int) : Bool := decide (N ≤ t + z.at t) && decide (t + z.at t < N + 1440)
/-- Is it shown so by the offset o? -/
def Z.shown (z : Z) (N o t : Int) : Bool := (z.at t == o) && (decide (N ≤ t + o) && decide (t + o < N + 1440))
theorem shown_cnt (z : Z) (N o : Int) (h1 : -720 ≤ o) (h2 : o ≤ 960) : cnt (z.shown N o) (N - 1000) 3500 = cnt (fun t => z.at t == o) (N - o) 1440 := by
  obtain ⟨k, hk⟩ : ∃ k : Nat, (k : Int) = 1000 - o := ⟨(1000 - o).toNat, by omega⟩
  have hk2 : k ≤ 1720 := by omega
  obtain ⟨m, hm⟩ : ∃ m : Nat, 3500 = k + (1440 + m) := ⟨3500 - k - 1440, by omega⟩
  rw [hm, cnt_add, cnt_add]
  have e1 : cnt (z.shown N o) (N - 1000) k = 0 := cnt_none fun t a b => by
    unfold Z.shown
    rw [decide_eq_false (show ¬ N ≤ t + o by omega)]
    simp
  have e2 : cnt (z.shown N o) (N - 1000 + k + (1440 : Nat)) m = 0 := cnt_none fun t a b => by
    unfold Z.shown
    rw [decide_eq_false (show ¬ t + o < N + 1440 by omega)]
    simp
  have e3 : N - 1000 + (k : Int) = N - o := by omega
  rw [e3] at e2 ⊢
  rw [e1, e2]
  have e4 : cnt (z.shown N o) (N - o) 1440 = cnt (fun t => z.at t == o) (N - o) 1440 := cnt_congr fun t a b => by
    unfold Z.shown
    rw [decide_eq_true (show N ≤ t + o by omega), decide_eq_true (show t + o < N + 1440 by omega)]
    simp
  omega

/-- The instants of the first k minutes of a day. -/
def Z.tot (z : Z) (N : Int) : Nat → Nat
  | 0 => 0
  | k + 1 => z.tot N k + (z.ins (N + k)).length
theorem by_len (z : Z) (L o : Int) (h1 : 0 ≤ L - o) (h2 : L - o ≤ 226157759) : (z.by L o).toList.length = if (z.at (L - o) == o) then 1 else 0 := by
  unfold Z.by
  by_cases c : z.at (L - o) = o
  · rw [if_pos ⟨h1, h2, c⟩]; simp [c]
  · rw [if_neg (fun h => c h.2.2)]; simp [c]
theorem ins_parts (z : Z) (L : Int) : (z.ins L).length = if z.s = 0 then (z.by L z.b).toList.length else (z.by L (z.b + z.s)).toList.length + (z.by L z.b).toList.length := by
  unfold Z.ins Z.offs
  split
  · cases h : z.by L z.b <;> simp [h]
  · cases h : z.by L (z.b + z.s) <;> cases h' : z.by L z.b <;> simp [h, h']
theorem tot_is {z : Z} (h : z.ok) {N : Int} (hN1 : 4320 ≤ N) (hN2 : N ≤ 226152000) : ∀ k : Nat, k ≤ 1440 →
    z.tot N k = if z.s = 0 then cnt (fun t => z.at t == z.b) (N - z.b) k else cnt (fun t => z.at t == z.b + z.s) (N - (z.b + z.s)) k + cnt (fun t => z.at t == z.b) (N - z.b) k
  | 0, _ => by simp [Z.tot, cnt]
  | k + 1, hk => by
    have ih := tot_is h hN1 hN2 k (by omega)
    have h1 := h.1
    have h2 := h.2.1
    have h3 := h.2.2.1
    have h4 := h.2.2.2.1
    unfold Z.tot cnt
    rw [ih, ins_parts]
    have e1 : N + (k : Int) - z.b = N - z.b + k := by omega
    have e2 : N + (k : Int) - (z.b + z.s) = N - (z.b + z.s) + k := by omega
    have b1 := by_len z (N + k) z.b (by omega) (by omega)
    have b2 := by_len z (N + k) (z.b + z.s) (by omega) (by omega)
    rw [e1] at b1
    rw [e2] at b2
    rw [b1, b2]
    split <;> omega
/-- A local day has as many instants as its minutes have. -/
theorem tot_day {z : Z} (h : z.ok) {N : Int} (hN1 : 4320 ≤ N) (hN2 : N ≤ 226152000) : z.tot N 1440 = cnt (z.inDay N) (N - 1000) 3500 := by
  have h1 := h.1
  have h2 := h.2.1
  have h3 := h.2.2.1
  have h4 := h.2.2.2.1
  rw [tot_is h hN1 hN2 1440 (by omega)]
  by_cases hs : z.s = 0
  · rw [if_pos hs, ← shown_cnt z N z.b (by omega) (by omega)]
    refine cnt_congr fun t _ _ => ?_
    unfold Z.shown Z.inDay
    rw [at_zero hs]
    simp
  · rw [if_neg hs, ← shown_cnt z N z.b (by omega) (by omega), ← shown_cnt z N (z.b + z.s) (by omega) (by omega), ← cnt_or _ _ ?_]
    · refine cnt_congr fun t _ _ => ?_
      unfold Z.shown Z.inDay
      rcases at_two z t with e | e
      · rw [e]
        have : (z.b + z.s == z.b) = false := by simp; omega
        rw [this]
        simp
      · rw [e]
        have : (z.b == z.b + z.s) = false := by simp; omega
        rw [this]
        simp
    · intro t ht
      unfold Z.shown at ht
      simp at ht
      omega
end Go.Proofs.YtlnafkcoicaefaaDoor.Zon
