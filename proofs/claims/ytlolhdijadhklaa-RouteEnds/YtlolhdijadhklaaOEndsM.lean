/- A right way stays right, and ends: what is reckoned. -/
import Derived.Test.YtlolhdijadhklaaOAwake
namespace Go.Proofs.Ytlolhdijadhklaa
open Go.RowKit Atl
set_option linter.unusedVariables false

theorem rchk_done {r : Wy} (h1 : rnum r = true) (h2 : rmap r.m = true) (hd : r.d = true) : rchk r = true := by
  unfold rchk
  rw [h1, h2, hd]
  rfl
theorem rnum_is {r : Wy} : rnum r = true ↔ (1 ≤ r.n ∧ r.n ≤ 7) ∧ (1 ≤ r.nd ∧ r.nd ≤ r.n) ∧ 0 ≤ r.lf ∧ r.lf ≤ 64 := by
  unfold rnum wit
  simp only [Bool.and_eq_true, decide_eq_true_eq]
  exact ⟨fun h => ⟨h.1.1, h.1.2, h.2⟩, fun h => ⟨⟨h.1, h.2.1⟩, h.2.2⟩⟩
/-- What is known of a way that is turned: it has the numbers, a right map, and may go on. -/
theorem trn_ok {r : Wy} (p : Rp) (h : way r = true) : rnum (trnW r p) = true ∧ rmap (trnW r p).m = true ∧ (trnW r p).d = false ∧ ((trnW r p).f || !emp (trnW r p).m && named (trnW r p).nm) = true := by
  obtain ⟨p1, p2, p3, p4, p5, p6, p7, p8, p9⟩ := way_parts h
  unfold trnW
  split
  · exact ⟨rnum_is.2 ⟨⟨p3, p4⟩, ⟨by show (1 : Int) ≤ 1; omega, p3⟩, by show 0 ≤ r.lf; omega, p6⟩, p8, p7, rfl⟩
  · split
    · rename_i _ hm
      simp only [Bool.and_eq_true] at hm
      refine ⟨rnum_is.2 ⟨⟨p3, p4⟩, ⟨by show (1 : Int) ≤ 1; omega, p3⟩, by show 0 ≤ r.lf; omega, p6⟩, ?_, p7, ?_⟩
      · show rmap p.m = true
        unfold rmap
        rw [hm.2.2, Bool.or_true]
      · show (!named r.nm || !emp p.m && named r.nm) = true
        rw [chk_some hm.2.2]
        cases named r.nm <;> rfl
    · split
      · rename_i _ _ hm
        unfold wit at hm
        simp only [Bool.and_eq_true, decide_eq_true_eq] at hm
        exact ⟨rnum_is.2 ⟨⟨p3, p4⟩, hm.2.2, by show 0 ≤ r.lf; omega, p6⟩, p8, p7, p9⟩
      · refine ⟨rnum_is.2 ⟨⟨p3, p4⟩, ?_, by show 0 ≤ r.lf; omega, p6⟩, p8, p7, p9⟩
        show 1 ≤ nxt r ∧ nxt r ≤ r.n
        unfold nxt
        split
        · omega
        · rename_i hne
          have : r.nd ≠ r.n := by simpa using hne
          omega
/-- A right way stays right; it counts down, or ends by an answer. -/
theorem hrd_ok {r : Wy} (p : Rp) (h : way r = true) : rchk (hrdW r p) = true ∧ (hrdW r p).lf ≤ r.lf ∧ ((hrdW r p).d = false → (hrdW r p).lf = r.lf - 1) ∧
    ((hrdW r p).d = true → (hrdW r p).er = 181 ∨ p.k = 2 ∧ (hrdW r p).er = p.er ∧ (hrdW r p).tm = p.tm ∧ (hrdW r p).j = p.j) ∧ ((hrdW r p).j = r.j ∨ (hrdW r p).j = p.j ∨ (hrdW r p).j = nil3) := by
  obtain ⟨p1, p2, p3, p4, p5, p6, p7, p8, p9⟩ := way_parts h
  cases he : endB r p with
  | true =>
    rw [hrd_end h he]
    refine ⟨rchk_done (rnum_is.2 ⟨⟨p3, p4⟩, ⟨p1, p2⟩, by show 0 ≤ r.lf; omega, p6⟩) p8 rfl, Int.le_refl _, fun hd => (by cases hd), fun _ => .inr ⟨?_, rfl, rfl, rfl⟩, .inr (.inl rfl)⟩
    unfold endB at he
    simp only [Bool.and_eq_true, beq_iff_eq] at he
    exact he.1
  | false =>
    rw [hrd_of h he]
    obtain ⟨t1, t2, t3, t4⟩ := trn_ok p h
    have tl := trn_lf r p
    have tj : (trnW r p).j = r.j := by
      unfold trnW
      split
      · rfl
      · split
        · rfl
        · split <;> rfl
    generalize trnW r p = t at *
    obtain ⟨q1, q2, q3⟩ := rnum_is.1 t1
    unfold cntW
    split
    · rename_i h0
      have h0' : t.lf - 1 = 0 := by simpa using h0
      exact ⟨rchk_done (rnum_is.2 ⟨q1, q2, by show 0 ≤ t.lf - 1; omega, by show t.lf - 1 ≤ 64; omega⟩) t2 rfl, by show t.lf - 1 ≤ r.lf; omega, fun hd => (by cases hd), fun _ => .inl rfl, .inr (.inr rfl)⟩
    · rename_i h0
      have h0' : t.lf - 1 ≠ 0 := by simpa using h0
      refine ⟨?_, by show t.lf - 1 ≤ r.lf; omega, fun _ => by show t.lf - 1 = r.lf - 1; omega, fun hd => (by rw [show (lessW t).d = t.d from rfl, t3] at hd; cases hd), .inl tj⟩
      have r1 : rnum (lessW t) = true := rnum_is.2 ⟨q1, q2, by show 0 ≤ t.lf - 1; omega, by show t.lf - 1 ≤ 64; omega⟩
      unfold rchk
      rw [r1, show rmap (lessW t).m = true from t2]
      unfold goes
      rw [show ((lessW t).f || !emp (lessW t).m && named (lessW t).nm) = true from t4, show decide (0 < (lessW t).lf) = true from decide_eq_true (by show 0 < t.lf - 1; omega)]
      simp
theorem whr_done {r : Wy} (hd : r.d = true) : whr r = (0, 0, 0, 0) := by
  unfold whr way
  rw [hd, if_pos (by simp)]
theorem whr_way {r : Wy} (h : way r = true) : (r.f = true → whr r = (0, r.nd, 0, 0)) ∧ (r.f = false → whr r = ((findS r.m r.nm).gr, r.nd, (findS r.m r.nm).sh, (findS r.m r.nm).ep) ∧ 1 ≤ (findS r.m r.nm).gr ∧ findB r.m r.nm = true) := by
  obtain ⟨p1, p2, p3, p4, p5, p6, p7, p8, p9⟩ := way_parts h
  constructor
  · intro hf
    unfold whr
    rw [h, if_neg (by simp), if_pos hf]
  · intro hf
    rw [hf, Bool.false_or] at p9
    simp only [Bool.and_eq_true, Bool.not_eq_true'] at p9
    have hc : chk r.m = true := by
      unfold rmap at p8
      rwa [p9.1, Bool.false_or] at p8
    have hb : findB r.m r.nm = true := by unfold findB; rw [p9.2, hc]; rfl
    refine ⟨?_, ?_, hb⟩
    · unfold whr
      rw [h, if_neg (by simp), hf, if_neg (by simp)]
    · have rg := chk_is.1 hc
      have := findS_at (k := r.nm) rg hb
      exact (rg.sp _ (List.mem_of_getElem? this)).2.2.2.2.1
end Go.Proofs.Ytlolhdijadhklaa
