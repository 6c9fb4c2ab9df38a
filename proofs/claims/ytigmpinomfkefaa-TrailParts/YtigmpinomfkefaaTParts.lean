/- In two parts, or at once. -/
import Derived.Test.YtigmpinomfkefaaTMath
namespace Go.Proofs.Ytigmpinomfkefaa
namespace Trl
set_option linter.unusedVariables false

theorem lastT_pos {k q : Int} {l : List En} (h : l ≠ []) : lastT k l = lastT q l := by
  unfold lastT
  cases hl : l.getLast? with
  | none => simp at hl; exact absurd hl h
  | some x => rfl
theorem lastT_in {k : Int} {l : List En} {m : Nat} {x : En} (hm : 0 < m) (h : l[m - 1]? = some x) : lastT k (l.take m) = x.1 := by
  have := lastT_at (k := k) h
  rwa [show m - 1 + 1 = m by omega] at this
theorem agr_yes {x y : En} {l m : List En} (e : x.1 = y.1) : agr (x :: l) (y :: m) = agr l m + 1 := by
  rw [agr]
  exact if_pos e
theorem agr_no {x y : En} {l m : List En} (e : ¬ x.1 = y.1) : agr (x :: l) (y :: m) = 0 := by
  rw [agr]
  exact if_neg e
theorem agr_drop {l es : List En} : ∀ {m : Nat}, m ≤ agr l es → agr (l.drop m) (es.drop m) = agr l es - m := by
  induction l generalizing es with
  | nil => intro m h; simp [agr] at h; subst h; simp [agr]
  | cons x l ih =>
    intro m h
    cases es with
    | nil => simp [agr] at h; subst h; simp [agr]
    | cons y es =>
      cases m with
      | zero => simp
      | succ m =>
        by_cases e : x.1 = y.1
        · rw [agr_yes e] at h ⊢
          rw [List.drop_succ_cons, List.drop_succ_cons, ih (by omega)]
          omega
        · rw [agr_no e] at h
          omega
theorem agr_take {l es : List En} {m : Nat} (h : m ≤ es.length) : agr l (es.take m) = min (agr l es) m := by
  induction l generalizing es m with
  | nil => simp [agr]
  | cons x l ih =>
    cases es with
    | nil => simp [agr]
    | cons y es =>
      cases m with
      | zero => simp [agr]
      | succ m =>
        rw [List.take_succ_cons]
        unfold agr
        split
        · rw [ih (by simpa using h)]; omega
        · simp
theorem put_two {b k p q fx : Int} {l es A : List En} (hk : chk b k l = true) (hp : b ≤ p) (hp2 : p ≤ b + (l.length : Int)) (hq : tm b k l p = q) (h : put b k l p es fx = some A) {m : Nat} (hm : m ≤ es.length) :
    ∃ B, put b k l p (es.take m) fx = some B ∧ chk b k B = true ∧ p + (m : Int) ≤ b + (B.length : Int) ∧ tm b k B (p + (m : Int)) = lastT q (es.take m) ∧ put b k B (p + (m : Int)) (es.drop m) fx = some A := by
  obtain ⟨P, hP⟩ : ∃ P, (p - b).toNat = P := ⟨_, rfl⟩
  have hPl : P ≤ l.length := by omega
  have hPm : (p + (m : Int) - b).toNat = P + m := by omega
  have hlm : (es.take m).length = m := by rw [List.length_take]; omega
  obtain ⟨s, hs⟩ : ∃ s, agr (l.drop P) es = s := ⟨_, rfl⟩
  have hsl := agr_le (l.drop P) es
  rw [hs, List.length_drop] at hsl
  have ht := agr_take (l := l.drop P) hm
  rw [hs] at ht
  unfold put at h
  rw [hP, hs] at h
  by_cases hms : m ≤ s
  · have htm : min s m = m := by omega
    have hB : put b k l p (es.take m) fx = some l := by
      unfold put
      rw [hP, ht, htm, hlm, if_pos rfl]
    have hd : agr (l.drop (P + m)) (es.drop m) = s - m := by
      have := agr_drop (l := l.drop P) (es := es) (m := m) (by omega)
      rw [List.drop_drop, hs] at this
      exact this
    have htm' : tm b k l (p + (m : Int)) = lastT q (es.take m) := by
      unfold tm
      rw [hPm]
      by_cases h0 : m = 0
      · subst h0
        rw [Nat.add_zero, List.take_zero, lastT_nil, ← hq, ← hP]
        rfl
      · obtain ⟨x, y, hx, hy, e⟩ := agr_at (l := l.drop P) (m := es) (i := m - 1) (by omega)
        rw [lastT_in (by omega) hy, lastT_in (x := x) (by omega) (by rw [List.getElem?_drop] at hx; rw [← hx]; congr 1; omega), e]
    refine ⟨l, hB, hk, by omega, htm', ?_⟩
    unfold put
    rw [hPm, hd, List.length_drop]
    by_cases hse : s = es.length
    · rw [if_pos hse] at h
      rw [if_pos (by omega)]
      exact h
    · rw [if_neg hse] at h
      rw [if_neg (by omega)]
      have e1 : p + (m : Int) + ((s - m : Nat) : Int) + 1 = p + (s : Int) + 1 := by omega
      have e2 : P + m + (s - m) = P + s := by omega
      have e3 : (es.drop m).drop (s - m) = es.drop s := by rw [List.drop_drop]; congr 1; omega
      rw [e1, e2, e3]
      exact h
  · have htm : min s m = s := by omega
    have hse : ¬ s = es.length := by omega
    rw [if_neg hse] at h
    by_cases hfx : p + (s : Int) + 1 ≤ fx
    · rw [if_pos hfx] at h; cases h
    · rw [if_neg hfx] at h
      split at h
      · rename_i hA
        injection h with h
        subst h
        have eB : l.take (P + s) ++ (es.take m).drop s = (l.take (P + s) ++ es.drop s).take (P + m) := by
          rw [List.take_append, List.length_take, List.drop_take]
          rw [List.take_of_length_le (i := P + m) (by rw [List.length_take]; omega)]
          congr 2
          omega
        have hcB : chk b k (l.take (P + s) ++ (es.take m).drop s) = true := by rw [eB]; exact chk_pre hA _
        have hBl : (l.take (P + s) ++ (es.take m).drop s).length = P + m := by rw [List.length_append, List.length_drop, List.length_take, hlm]; omega
        have hB : put b k l p (es.take m) fx = some (l.take (P + s) ++ (es.take m).drop s) := by
          unfold put
          rw [hP, ht, htm, hlm, if_neg (by omega), if_neg hfx, if_pos hcB]
        refine ⟨_, hB, hcB, by rw [hBl]; omega, ?_, ?_⟩
        · unfold tm
          rw [hPm, List.take_of_length_le (by rw [hBl]; omega), lastT_append]
          have hne : (es.take m).drop s ≠ [] := by
            intro e
            have := congrArg List.length e
            rw [List.length_drop, hlm] at this
            simp at this
            omega
          have e1 : lastT q (es.take m) = lastT (lastT q ((es.take m).take s)) ((es.take m).drop s) := by rw [← lastT_append, List.take_append_drop]
          rw [e1]
          exact lastT_pos hne
        · have hz : agr ((l.take (P + s) ++ (es.take m).drop s).drop (P + m)) (es.drop m) = 0 := by
            rw [List.drop_of_length_le (by rw [hBl]; omega)]
            simp [agr]
          have eA : (l.take (P + s) ++ (es.take m).drop s) ++ es.drop m = l.take (P + s) ++ es.drop s := by
            rw [List.append_assoc]
            congr 1
            have : es.drop s = (es.take m).drop s ++ es.drop m := by
              have e := List.take_append_drop m es
              conv => lhs; rw [← e]
              rw [List.drop_append, hlm]
              congr 1
              rw [show s - m = 0 by omega]
              rfl
            rw [this]
          unfold put
          rw [hPm, hz, List.length_drop]
          by_cases hme : m = es.length
          · rw [if_pos (by omega)]
            rw [List.drop_of_length_le (i := m) (by omega), List.append_nil] at eA
            rw [eA]
          · rw [if_neg (by omega), if_neg (by omega), Nat.add_zero, List.drop_zero, List.take_of_length_le (by rw [hBl]; omega), eA, if_pos hA]
      · cases h
theorem putB_two {b k p q fx : Int} {l es A : List En} (hk : chk b k l = true) (h : putB b k l p q es fx = some A) {m : Nat} (hm : m ≤ es.length) :
    ∃ B, putB b k l p q (es.take m) fx = some B ∧ chk b k B = true ∧ putB b k B (p + (m : Int)) (lastT q (es.take m)) (es.drop m) fx = some A := by
  unfold putB at h
  split at h
  · rename_i hc
    obtain ⟨h1, h2, h3⟩ := hc
    obtain ⟨B, k1, k2, k3, k4, k5⟩ := put_two hk h1 h2 h3 h hm
    refine ⟨B, ?_, k2, ?_⟩
    · unfold putB
      rw [if_pos ⟨h1, h2, h3⟩]
      exact k1
    · unfold putB
      rw [if_pos ⟨by omega, k3, k4⟩]
      exact k5
  · cases h
theorem put_parts {b k p q fx : Int} {l es A : List En} (h : Put b k l p q es fx = some A) {n : Nat} (hn : 0 < n) (hn2 : n ≤ es.length) :
    ∃ B, Put b k l p q (es.take n) fx = some B ∧ (b ≤ p + (n : Int) → ∃ x, es[n - 1]? = some x ∧ Put b k B (p + (n : Int)) x.1 (es.drop n) fx = some A) := by
  obtain ⟨x, hx⟩ : ∃ x, es[n - 1]? = some x := ⟨_, List.getElem?_eq_getElem (by omega)⟩
  unfold Put at h
  split at h
  · cases h
  · rename_i hc
    simp only [Bool.or_eq_true, Bool.not_eq_true', decide_eq_true_eq, not_or, Bool.not_eq_false] at hc
    obtain ⟨⟨⟨hk, hp⟩, hq⟩, hf⟩ := hc
    have hf1 := foll_pre hf n
    have hf2 := foll_suf hf n
    rw [lastT_in hn hx] at hf2
    have hx1 : 0 ≤ x.1 := by
      have h1 := foll_take (k := q) hx
      rw [show n - 1 + 1 = n by omega, hf1] at h1
      have h2 := (Bool.and_eq_true_iff.1 h1.symm).2
      unfold one at h2
      simp at h2
      omega
    have hlm : (es.take n).length = n := by rw [List.length_take]; omega
    have c1 : (!chk b k l || decide (p < 0) || decide (q < 0) || !foll q (es.take n)) = false := by rw [hk, hf1, decide_eq_false hp, decide_eq_false hq]; rfl
    have c2 : ∀ B, chk b k B = true → (!chk b k B || decide (p + (n : Int) < 0) || decide (x.1 < 0) || !foll x.1 (es.drop n)) = false := fun B hB => by rw [hB, hf2, decide_eq_false (by omega), decide_eq_false (by omega)]; rfl
    by_cases hpb : p < b
    · rw [if_pos hpb] at h
      by_cases hsh : (n : Int) < b - p
      · refine ⟨l, ?_, fun e => by omega⟩
        unfold Put
        rw [c1, if_neg (by simp), if_pos hpb, if_pos (by rw [hlm]; exact hsh)]
      · rw [if_neg (by omega)] at h
        split at h
        · rename_i hkk
          obtain ⟨d, hd⟩ : ∃ d, (b - p).toNat = d := ⟨_, rfl⟩
          rw [hd] at h hkk
          obtain ⟨B, k1, k2, k3⟩ := putB_two hk h (m := n - d) (by rw [List.length_drop]; omega)
          refine ⟨B, ?_, fun _ => ⟨x, hx, ?_⟩⟩
          · unfold Put
            rw [c1, if_neg (by simp), if_pos hpb, if_neg (by rw [hlm]; omega), hd, List.getElem?_take_of_lt (by omega), if_pos hkk, List.drop_take]
            exact k1
          · unfold Put
            rw [c2 B k2, if_neg (by simp), if_neg (by omega)]
            rw [List.drop_drop, show d + (n - d) = n by omega, show b + ((n - d : Nat) : Int) = p + (n : Int) by omega] at k3
            have e : lastT k ((es.drop d).take (n - d)) = x.1 := by
              by_cases h0 : n - d = 0
              · rw [h0, List.take_zero, lastT_nil]
                have : n = d := by omega
                rw [← this, hx] at hkk
                exact hkk.symm
              · refine lastT_in (by omega) ?_
                rw [List.getElem?_drop, ← hx]
                congr 1
                omega
            rw [e] at k3
            exact k3
        · cases h
    · rw [if_neg hpb] at h
      obtain ⟨B, k1, k2, k3⟩ := putB_two hk h hn2
      refine ⟨B, ?_, fun _ => ⟨x, hx, ?_⟩⟩
      · unfold Put
        rw [c1, if_neg (by simp), if_neg hpb]
        exact k1
      · unfold Put
        rw [c2 B k2, if_neg (by simp), if_neg (by omega), ← lastT_in (k := q) hn hx]
        exact k3
end Trl
end Go.Proofs.Ytigmpinomfkefaa
