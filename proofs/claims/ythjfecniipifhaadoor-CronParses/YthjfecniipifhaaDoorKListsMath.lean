/- Two lists of minutes put together: no program's run in this text. -/
import Derived.Test.YthjfecniipifhaaDoorKRight
import Derived.Test.YthjfecniipifhaaDoorKFits
namespace Go.Proofs.YthjfecniipifhaaDoor.Cro

theorem wds_word {A R : List UInt8} (hA : ∀ b ∈ A, blk b = false) (hne : A ≠ []) : wds [] (A ++ 32 :: R) = A :: wds [] R := by
  rw [wds_skip A.length [] (A ++ 32 :: R) (by simp) (fun j hj => by
    rw [List.getD_eq_getElem?_getD, List.getElem?_append_left hj, List.getElem?_eq_getElem hj]
    exact hA _ (List.getElem_mem hj))]
  simp only [List.nil_append, List.take_left', List.drop_left']
  rw [wds, if_pos (by decide), if_neg hne]
theorem itms_append {f : Sp} : ∀ {l r : List (List UInt8)} {a b : List It}, itms f l = some a → itms f r = some b → itms f (l ++ r) = some (a ++ b)
  | [], r, a, b, h1, h2 => by
    simp [itms] at h1
    subst h1
    exact h2
  | y :: t, r, a, b, h1, h2 => by
    rw [itms] at h1
    cases e1 : itm f y with
    | none => rw [e1] at h1; cases h1
    | some i =>
      cases e2 : itms f t with
      | none => rw [e1, e2] at h1; cases h1
      | some c =>
        rw [e1, e2] at h1
        injection h1 with h1
        subst h1
        rw [List.cons_append, itms, e1, itms_append e2 h2]
        rfl
theorem fld_append {f : Sp} {l r : List (List UInt8)} (h1 : (fld f l).2 = 0) (h2 : (fld f r).2 = 0) : fld f (l ++ r) = ((fld f l).1 ||| (fld f r).1, 0) := by
  obtain ⟨a, a1, a2, a3⟩ := fld_parts h1
  obtain ⟨b, b1, b2, b3⟩ := fld_parts h2
  rw [a3, b3]
  unfold fld
  rw [itms_append a1 b1]
  simp only
  rw [if_pos (by rw [List.all_append, a2, b2]; rfl), sets_append, sets_or f b]
theorem lists {A B R : List UInt8} (hA : ∀ b ∈ A, blk b = false) (hB : ∀ b ∈ B, blk b = false) (nA : A ≠ []) (nB : B ≠ []) (hx : (parse (A ++ 32 :: R)).2.2 = 0) (hy : (parse (B ++ 32 :: R)).2.2 = 0) :
    (256 < ((A ++ 44 :: B) ++ 32 :: R).length ∧ parse ((A ++ 44 :: B) ++ 32 :: R) = (zero, 0, 2)) ∨
    ((parse ((A ++ 44 :: B) ++ 32 :: R)).2.2 = 0 ∧ (parse ((A ++ 44 :: B) ++ 32 :: R)).1 = { (parse (A ++ 32 :: R)).1 with mi := (parse (A ++ 32 :: R)).1.mi ||| (parse (B ++ 32 :: R)).1.mi } ∧
      (parse (B ++ 32 :: R)).1 = { (parse (A ++ 32 :: R)).1 with mi := (parse (B ++ 32 :: R)).1.mi }) := by
  have hC : ∀ b ∈ A ++ 44 :: B, blk b = false := fun b hb => by
    rcases List.mem_append.mp hb with h | h
    · exact hA b h
    · rcases List.mem_cons.mp h with rfl | h
      · decide
      · exact hB b h
  have nC : A ++ 44 :: B ≠ [] := by simp
  obtain ⟨a1, a2, a3, a4⟩ := parse_parts hx
  obtain ⟨b1, b2, b3, b4⟩ := parse_parts hy
  rw [wds_word hA nA] at a2 a3 a4
  rw [wds_word hB nB] at b2 b3 b4
  by_cases hl : 256 < ((A ++ 44 :: B) ++ 32 :: R).length
  · refine .inl ⟨hl, ?_⟩
    unfold parse
    rw [if_pos hl]
  · right
    have hw : wds [] ((A ++ 44 :: B) ++ 32 :: R) = (A ++ 44 :: B) :: wds [] R := wds_word hC nC
    generalize wds [] R = ws at a2 a3 a4 b2 b3 b4 hw
    have F0 : ∀ X, F (X :: ws) 0 = fld (sp 0) (spl 44 X) := fun X => rfl
    have Fs : ∀ X j, F (X :: ws) (j + 1) = fld (sp (j + 1)) (spl 44 (ws.getD j [])) := fun X j => rfl
    have e0 : F ((A ++ 44 :: B) :: ws) 0 = ((F (A :: ws) 0).1 ||| (F (B :: ws) 0).1, 0) := by
      rw [F0, F0, F0, spl_append]
      exact fld_append (a3 0 (by omega)) (b3 0 (by omega))
    have es : ∀ j, F ((A ++ 44 :: B) :: ws) (j + 1) = F (A :: ws) (j + 1) := fun j => rfl
    have eb : ∀ j, F (B :: ws) (j + 1) = F (A :: ws) (j + 1) := fun j => rfl
    have z : ∀ j, j < 5 → (F ((A ++ 44 :: B) :: ws) j).2 = 0 := fun j hj => by
      cases j with
      | zero => rw [e0]
      | succ j => rw [es]; exact a3 _ hj
    have hz : parse ((A ++ 44 :: B) ++ 32 :: R) = (⟨(F ((A ++ 44 :: B) :: ws) 0).1, (F ((A ++ 44 :: B) :: ws) 1).1, (F ((A ++ 44 :: B) :: ws) 2).1, (F ((A ++ 44 :: B) :: ws) 3).1, (F ((A ++ 44 :: B) :: ws) 4).1, ((A ++ 44 :: B) :: ws).getD 2 [] == [42], ((A ++ 44 :: B) :: ws).getD 4 [] == [42]⟩, 0, 0) := by
      unfold parse
      rw [if_neg hl, hw, if_neg (by simp at a2 ⊢; omega), scan_ok _ 5 0 (fun j _ hj => z j (by omega))]
    refine ⟨by rw [hz], ?_, ?_⟩
    · rw [hz, a4, b4, e0]
      rfl
    · rw [a4, b4]
      rfl
theorem fits_or {c : C} {p q : Nat} (hp : ({ c with mi := p } : C).right) (hq : ({ c with mi := q } : C).right) (hr : ({ c with mi := p ||| q } : C).right) (y m d h n k : Int) :
    ({ c with mi := p ||| q } : C).fits y m d h n k = (({ c with mi := p } : C).fits y m d h n k || ({ c with mi := q } : C).fits y m d h n k) := by
  unfold C.fits
  rw [decide_eq_true hp, decide_eq_true hq, decide_eq_true hr]
  simp only [Bool.true_and, Nat.testBit_or, C.day]
  cases decide (Mnt y m d h n k) <;> cases p.testBit n.toNat <;> cases q.testBit n.toNat <;> cases c.ho.testBit h.toNat <;> simp
end Go.Proofs.YthjfecniipifhaaDoor.Cro
