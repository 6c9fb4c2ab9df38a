/- What begins, goes on or is given up stays right. -/
import Derived.Test.YtlolhdijadhklaaAMath3
import Derived.Test.YtlolhdijadhklaaAPSpan
import Derived.Test.YtlolhdijadhklaaAState
namespace Go.Proofs.Ytlolhdijadhklaa
open Atl
set_option linter.unusedVariables false

theorem planB_of {a : Am} {s : Sp} (hs : a.l[idx a.l a.p.sh]? = some s) (h1 : 1 ≤ a.p.ep) (h2 : a.p.ep ≤ 1099511627774) (h3 : stB a.p s = true) (h4 : kindB a s = true) : planB a = true := by
  rw [planB_some hs, h3, h4, decide_eq_true h1, show mR a.p.ep = true from decide_eq_true h2]
  simp
theorem em_nil : ((⟨#[]⟩ : ByteArray).toList == []) = true := by rw [show (⟨#[]⟩ : ByteArray) = em from rfl, em_list]; rfl
theorem set_at {l : List Sp} {i : Nat} {s x : Sp} (hs : l[i]? = some s) (e : x.sh = s.sh) (z : Int) : idx (l.set i x) z = idx l z := idx_congr (Atl.set_same (fun s => s.sh) hs e) z
theorem st_one {p : Pl} {s : Sp} (h : stB p s = true) (h1 : p.ph = 1) : s.gr = (if p.k = 1 then p.pa else p.gp) ∧ s.ep = p.ep := by
  unfold stB at h
  rw [if_pos h1] at h
  simpa using h
theorem rgt_step {a : Am} (h : Rgt a) (hp : peq a.p zP = false) : Rgt (Atl.step a) := by
  obtain ⟨s, hs, ep1, ep2, hst, hkd, se1, se2⟩ := plan_span h hp
  have hi := (List.getElem?_eq_some_iff.1 hs).1
  have hsp := h.sp s (List.mem_of_getElem? hs)
  unfold Atl.step
  by_cases p1 : a.p.ph = 1
  · rw [if_pos p1, List.getD_eq_getElem?_getD, hs]
    show Rgt (one1 a (idx a.l a.p.sh) s)
    obtain ⟨hg, he⟩ := st_one hst p1
    rcases kind_123 hkd with k1 | k2 | k3
    · unfold one1
      rw [if_pos k1, ← set_chg hi]
      unfold kindB at hkd
      rw [if_pos k1] at hkd
      have hm := hkd
      unfold moveB isG at hm
      simp only [Bool.and_eq_true, decide_eq_true_eq] at hm
      unfold SpR at hsp
      refine set_right (x := movS a.p s) h hs rfl rfl rfl ⟨hsp.1, hsp.2.1, by show 1 ≤ s.ep + 1; omega, by show s.ep + 1 ≤ _; omega, hm.1.1.1.2.1, hm.1.1.1.2.2⟩ _ ?_
      refine planB_of (s := movS a.p s) ?_ ep1 ep2 ?_ ?_
      · show (a.l.set _ _)[idx (a.l.set _ _) a.p.sh]? = _
        rw [set_at hs (show (movS a.p s).sh = s.sh from rfl), List.getElem?_set_self hi]
      · show stB ⟨a.p.k, 2, _, _, _, _, _, _⟩ _ = true
        unfold stB
        simp [k1, movS, he]
      · show kindB ⟨_, _, _, ⟨a.p.k, 2, _, _, _, _, _, _⟩⟩ _ = true
        unfold kindB
        rw [if_pos k1]
        exact hkd
    · unfold one1
      rw [if_neg (by rw [k2]; decide), if_pos k2]
      unfold kindB at hkd
      rw [if_neg (by rw [k2]; decide), if_pos k2] at hkd
      unfold splitB at hkd
      simp only [Bool.and_eq_true, decide_eq_true_eq] at hkd
      have hla := h.la1
      exact split_right h hs a.p.key a.p.ot hkd.1.2 hkd.1.1.2 (by omega) (by omega) hkd.2 (by omega)
    · obtain ⟨t, ht, _, _, t1, t2, t3⟩ := kind_next h hkd k3
      unfold one1
      rw [if_neg (by rw [k3]; decide), if_neg (by rw [k3]; decide), List.getD_eq_getElem?_getD, ht]
      show Rgt ⟨_, _, chgL _ _ _ [mrgS s t], _⟩
      exact merge_right h hs ht (by omega)
  · rw [if_neg p1]
    by_cases p2 : a.p.ph = 2
    · rw [if_pos p2]
      have k1 : a.p.k = 1 := by
        unfold stB at hst
        rw [if_neg p1, if_neg (by omega)] at hst
        by_cases k : a.p.k = 1
        · exact k
        · rw [if_neg (fun h => k h.1)] at hst; cases hst
      refine ⟨h.g1, h.g8, h.la, h.n1, h.n16, h.sp, h.un, h.jn, ?_⟩
      refine planB_of (s := s) hs ep1 ep2 ?_ ?_
      · show stB ⟨a.p.k, 3, _, _, _, _, _, _⟩ _ = true
        unfold stB at hst ⊢
        rw [if_neg p1, if_neg (by omega), if_pos ⟨k1, .inl p2⟩] at hst
        rw [if_neg (show ¬ (3 : Int) = 1 by decide), if_neg (show ¬ (3 : Int) = 9 by decide), if_pos ⟨k1, .inr rfl⟩]
        exact hst
      · show kindB ⟨_, _, _, ⟨a.p.k, 3, _, _, _, _, _, _⟩⟩ _ = true
        unfold kindB at hkd ⊢
        rw [if_pos k1] at hkd ⊢
        exact hkd
    · rw [if_neg p2]
      exact ⟨h.g1, h.g8, h.la, h.n1, h.n16, h.sp, h.un, h.jn, plan_zP _ _ _⟩
theorem rgt_abort {a : Am} (h : Rgt a) (hp : peq a.p zP = false) (p1 : a.p.ph = 1) {s : Sp} (hs : a.l[idx a.l a.p.sh]? = some s) : Rgt ⟨a.g, a.la, a.l.set (idx a.l a.p.sh) (aboS s), ⟨a.p.k, 9, a.p.sh, a.p.ot, a.p.gp, a.p.pa, a.p.ep, a.p.key⟩⟩ := by
  obtain ⟨s', hs', ep1, ep2, hst, hkd, se1, se2⟩ := plan_span h hp
  rw [hs] at hs'
  injection hs' with e
  subst e
  have hi := (List.getElem?_eq_some_iff.1 hs).1
  have hsp := h.sp s (List.mem_of_getElem? hs)
  obtain ⟨hg, he⟩ := st_one hst p1
  unfold SpR at hsp
  refine set_right (x := aboS s) h hs rfl rfl rfl ⟨hsp.1, hsp.2.1, by show 1 ≤ s.ep + 2; omega, by show s.ep + 2 ≤ _; omega, hsp.2.2.2.2.1, hsp.2.2.2.2.2⟩ _ ?_
  refine planB_of (s := aboS s) ?_ ep1 ep2 ?_ ?_
  · show (a.l.set _ _)[idx (a.l.set _ _) a.p.sh]? = _
    rw [set_at hs (show (aboS s).sh = s.sh from rfl), List.getElem?_set_self hi]
  · show stB ⟨a.p.k, 9, _, _, _, _, _, _⟩ _ = true
    unfold stB
    simp only [aboS]
    simp [hg, he]
  · show kindB ⟨_, _, _, ⟨a.p.k, 9, _, _, _, _, _, _⟩⟩ _ = true
    unfold kindB at hkd ⊢
    rcases kind_123 (show kindB a s = true from hkd) with k1 | k2 | k3
    · rw [if_pos k1] at hkd ⊢
      exact hkd
    · rw [if_neg (by rw [k2]; decide), if_pos k2] at hkd
      show (if a.p.k = 1 then _ else if a.p.k = 2 then _ else _) = true
      rw [if_neg (by rw [k2]; decide), if_pos k2]
      have e : plc (a.l.set (idx a.l a.p.sh) (aboS s)) a.p.ot = plc a.l a.p.ot := by unfold plc; rw [set_at hs (show (aboS s).sh = s.sh from rfl), List.length_set]
      unfold splitB at hkd ⊢
      simp only [e, List.length_set]
      exact hkd
    · rw [if_neg (by rw [k3]; decide), if_neg (by rw [k3]; decide), if_pos k3] at hkd
      show (if a.p.k = 1 then _ else if a.p.k = 2 then _ else if a.p.k = 3 then _ else _) = true
      rw [if_neg (by rw [k3]; decide), if_neg (by rw [k3]; decide), if_pos k3]
      show mergeB (a.l.set (idx a.l a.p.sh) (aboS s)) _ (idx (a.l.set (idx a.l a.p.sh) (aboS s)) a.p.sh) = true
      rw [set_at hs (show (aboS s).sh = s.sh from rfl)]
      unfold mergeB at hkd ⊢
      rw [List.getElem?_set_ne (by omega)]
      exact hkd
theorem rgt_begin {a : Am} (h : Rgt a) {q : Pl} (hf : flt a q = 0) : Rgt ⟨a.g, if q.k = 2 then a.la + 1 else a.la, a.l, pln a q⟩ ∧ (pln a q).ph = 1 ∧ ((pln a q).k = 1 ∨ (pln a q).k = 2 ∨ (pln a q).k = 3) := by
  unfold flt at hf
  cases hp : peq a.p zP with
  | false => rw [hp, if_pos rfl] at hf; cases hf
  | true =>
    rw [hp, if_neg (by simp)] at hf
    unfold flt1 at hf
    by_cases kk : q.k < 1 ∨ 3 < q.k
    · rw [if_pos kk] at hf; cases hf
    · rw [if_neg kk] at hf
      cases hs : a.l[idx a.l q.sh]? with
      | none => rw [hs] at hf; cases hf
      | some s =>
        rw [hs] at hf
        change (if mR s.ep = false then (1 : Int) else _) = 0 at hf
        cases hm : mR s.ep with
        | false => rw [hm, if_pos rfl] at hf; cases hf
        | true =>
          rw [hm, if_neg (by simp)] at hf
          have hme : s.ep ≤ 1099511627774 := by unfold mR at hm; exact of_decide_eq_true hm
          have hsp := h.sp s (List.mem_of_getElem? hs)
          have hsp' := hsp
          unfold SpR at hsp'
          have hix : idx a.l s.sh = idx a.l q.sh := idx_self h.un hs
          have hla := h.la
          unfold flt2 at hf
          by_cases k1 : q.k = 1
          · rw [if_pos k1] at hf
            have hn : ¬ (isG a.g q.gp = false ∨ q.gp = s.gr) := fun e => by rw [if_pos e] at hf; cases hf
            have e : pln a q = ⟨1, 1, s.sh, 0, q.gp, s.gr, s.ep, ⟨#[]⟩⟩ := by unfold pln; rw [hs]; simp [k1]
            rw [e, if_neg (by rw [k1]; decide)]
            refine ⟨⟨h.g1, h.g8, h.la, h.n1, h.n16, h.sp, h.un, h.jn, ?_⟩, rfl, .inl rfl⟩
            refine planB_of (s := s) (by show a.l[idx a.l s.sh]? = _; rw [hix]; exact hs) hsp'.2.2.1 hme (by simp [stB]) ?_
            show (if (1 : Int) = 1 then moveB a.g _ else _) = true
            rw [if_pos rfl]
            unfold moveB
            have g1 : isG a.g q.gp = true := by cases g : isG a.g q.gp <;> simp [g] at hn ⊢
            have g2 : isG a.g s.gr = true := by unfold isG; simp; exact hsp'.2.2.2.2
            have g3 : q.gp ≠ s.gr := fun e => hn (.inr e)
            simp only [g1, g2]
            rw [decide_eq_true g3, em_nil]
            rfl
          · rw [if_neg k1] at hf
            by_cases k2 : q.k = 2
            · rw [if_pos k2] at hf
              cases hpt : parts s q.key with
              | false => rw [hpt, if_pos rfl] at hf; cases hf
              | true =>
                rw [hpt, if_neg (by simp)] at hf
                have hn : ¬ (a.l.length = 16 ∨ a.la = 1099511627776) := fun e => by rw [if_pos e] at hf; cases hf
                have e : pln a q = ⟨2, 1, s.sh, a.la + 1, s.gr, 0, s.ep, q.key⟩ := by unfold pln; rw [hs]; simp [k2]
                have hn16 := h.n16
                rw [e, if_pos k2]
                refine ⟨⟨h.g1, h.g8, by show a.la + 1 ≤ _; omega, h.n1, h.n16, fun y hy => ?_, h.un, h.jn, ?_⟩, rfl, .inr (.inl rfl)⟩
                · have := h.sp y hy
                  unfold SpR at this ⊢
                  exact ⟨this.1, by show y.sh ≤ a.la + 1; omega, this.2.2⟩
                · refine planB_of (s := s) (by show a.l[idx a.l s.sh]? = _; rw [hix]; exact hs) hsp'.2.2.1 hme (by simp [stB]) ?_
                  show (if (2 : Int) = 1 then _ else if (2 : Int) = 2 then splitB (a.la + 1) a.l _ s else _) = true
                  rw [if_neg (by decide), if_pos rfl]
                  unfold splitB
                  have np : plc a.l (a.la + 1) < 0 := by
                    unfold plc
                    rw [if_neg]
                    · decide
                    · intro hlt
                      unfold idx at hlt
                      rw [List.findIdx_lt_length] at hlt
                      obtain ⟨y, hy, e⟩ := hlt
                      have h1 := h.sp y hy
                      unfold SpR at h1
                      have h2 : y.sh = a.la + 1 := by simpa using e
                      omega
                  simp only [hpt]
                  rw [decide_eq_true np, decide_eq_true (show a.l.length < 16 by omega)]
                  simp
            · rw [if_neg k2] at hf
              cases ht : a.l[idx a.l q.sh + 1]? with
              | none => rw [ht] at hf; cases hf
              | some t =>
                rw [ht] at hf
                change (if mR t.ep = false then (1 : Int) else _) = 0 at hf
                cases hm2 : mR t.ep with
                | false => rw [hm2, if_pos rfl] at hf; cases hf
                | true =>
                  rw [hm2, if_neg (by simp)] at hf
                  have hg : t.gr = s.gr := by
                    apply Classical.byContradiction
                    intro hne
                    rw [if_pos hne] at hf
                    cases hf
                  have k3 : q.k = 3 := by omega
                  have e : pln a q = ⟨3, 1, s.sh, t.sh, s.gr, 0, s.ep, ⟨#[]⟩⟩ := by
                    unfold pln
                    rw [hs]
                    simp only [k3]
                    rw [List.getD_eq_getElem?_getD, ht]
                    simp
                  rw [e, if_neg k2]
                  refine ⟨⟨h.g1, h.g8, h.la, h.n1, h.n16, h.sp, h.un, h.jn, ?_⟩, rfl, .inr (.inr rfl)⟩
                  refine planB_of (s := s) (by show a.l[idx a.l s.sh]? = _; rw [hix]; exact hs) hsp'.2.2.1 hme (by simp [stB]) ?_
                  show (if (3 : Int) = 1 then _ else if (3 : Int) = 2 then _ else if (3 : Int) = 3 then mergeB a.l _ (idx a.l s.sh) else _) = true
                  rw [if_neg (by decide), if_neg (by decide), if_pos rfl, hix]
                  unfold mergeB
                  rw [ht]
                  simp [hm2, hg]
end Go.Proofs.Ytlolhdijadhklaa
