/- A shard that is parted and joined again, and one that is moved: what is reckoned. -/
import Derived.Test.YtlolhdijadhklaaAPlansM
namespace Go.Proofs.Ytlolhdijadhklaa
open Atl
set_option linter.unusedVariables false

def plS (x : Int) (k : ByteArray) : Pl := ⟨2, 0, x, 0, 0, 0, 0, k⟩
def plJ (x : Int) : Pl := ⟨3, 0, x, 0, 0, 0, 0, em⟩
def plM (x g : Int) : Pl := ⟨1, 0, x, 0, g, 0, 0, em⟩
theorem plc_neg {l : List Sp} {x : Int} (h : ¬ plc l x < 0) : ∃ s, l[idx l x]? = some s ∧ s.sh = x ∧ plc l x = (idx l x : Int) := by
  unfold plc at h ⊢
  by_cases hl : idx l x < l.length
  · rw [if_pos hl]
    refine ⟨_, List.getElem?_eq_getElem hl, ?_, rfl⟩
    unfold idx at hl ⊢
    simpa using List.findIdx_getElem (p := fun t : Sp => decide (t.sh = x)) (xs := l) (w := hl)
  · rw [if_neg hl] at h
    exact absurd (by decide) h
theorem beg_is {a : Am} (h : Rgt a) {q : Pl} (he : begE a q = 0) : flt a q = 0 ∧ begM a q = ⟨a.g, if q.k = 2 then a.la + 1 else a.la, a.l, pln a q⟩ := by
  have hc := chk_is.2 h
  unfold begE at he
  rw [hc, if_neg (by simp)] at he
  refine ⟨he, ?_⟩
  unfold begM
  rw [hc, if_neg (by simp), if_neg (by simpa using he)]
theorem chg_at {l : List Sp} {i k : Nat} {m : List Sp} (hi : i ≤ l.length) (j : Nat) (hj : j < m.length) : (chgL l i k m)[i + j]? = m[j]? := by
  unfold chgL
  rw [List.append_assoc, List.getElem?_append_right (by rw [List.length_take]; omega), List.length_take, Nat.min_eq_left hi, List.getElem?_append_left (by omega)]
  congr 1
  omega
theorem chg_at0 {l : List Sp} {i k : Nat} {m : List Sp} (hi : i ≤ l.length) (hj : 0 < m.length) : (chgL l i k m)[i]? = m[0]? := chg_at hi 0 hj
/-- Parted. -/
theorem back_split {a : Am} (h : Rgt a) (hp : peq a.p zP = true) {x : Int} {s : Sp} (hs : a.l[idx a.l x]? = some s) (hx : s.sh = x) (key : ByteArray) (he : begE a (plS x key) = 0) :
    let B := begM a (plS x key)
    Rgt B ∧ peq B.p zP = false ∧ B.p.ph = 1 ∧ s.ep ≤ 1099511627774 ∧
      Atl.step B = ⟨a.g, a.la + 1, chgL a.l (idx a.l x) (idx a.l x + 1) [⟨s.fr, key, s.sh, s.ep + 1, s.gr⟩, ⟨key, s.up, a.la + 1, s.ep + 1, s.gr⟩], zP⟩ := by
  obtain ⟨hf, eb⟩ := beg_is h he
  obtain ⟨r1, r2, r3⟩ := rgt_begin h hf
  have hpn : pln a (plS x key) = ⟨2, 1, s.sh, a.la + 1, s.gr, 0, s.ep, key⟩ := by
    unfold pln
    show (match a.l[idx a.l x]? with | none => zP | some s => _) = _
    rw [hs]
    rfl
  have hk2 : (plS x key).k = 2 := rfl
  rw [if_pos hk2] at eb r1
  rw [hpn] at eb r1
  have hme : s.ep ≤ 1099511627774 := by
    unfold flt at hf
    rw [hp, if_neg (by simp)] at hf
    unfold flt1 at hf
    rw [if_neg (by rw [hk2]; decide)] at hf
    change (match a.l[idx a.l x]? with | none => (172 : Int) | some s => _) = 0 at hf
    rw [hs] at hf
    change (if mR s.ep = false then (1 : Int) else _) = 0 at hf
    cases hm : mR s.ep with
    | false => rw [hm, if_pos rfl] at hf; cases hf
    | true => unfold mR at hm; exact of_decide_eq_true hm
  refine ⟨by rw [eb]; exact r1, ?_, by rw [eb], hme, ?_⟩
  · rw [eb]
    cases hq : peq _ zP with
    | false => rfl
    | true => have := congrArg Pl.k (peq_iff.1 hq); cases this
  · rw [eb]
    unfold Atl.step
    rw [if_pos rfl]
    show one1 _ (idx a.l s.sh) (a.l.getD (idx a.l s.sh) zS) = _
    rw [hx, List.getD_eq_getElem?_getD, hs]
    unfold one1
    rw [if_neg (by show ¬ (2 : Int) = 1; decide), if_pos (by rfl)]
    simp [lowS, uppS, hx]
/-- Joined again. -/
theorem back_join {C : Am} (h : Rgt C) (hp : peq C.p zP = true) {i : Nat} {x : Int} {s t : Sp} (hs : C.l[i]? = some s) (ht : C.l[i + 1]? = some t) (hx : s.sh = x) (e1 : t.ep = s.ep) (e2 : t.gr = s.gr) :
    begE C (plJ x) = (if s.ep ≤ 1099511627774 then 0 else 1) ∧ (begE C (plJ x) = 0 → let D := begM C (plJ x)
      Rgt D ∧ peq D.p zP = false ∧ D.p.ph = 1 ∧ Atl.step D = ⟨C.g, C.la, chgL C.l i (i + 2) [⟨s.fr, t.up, s.sh, s.ep + 1, s.gr⟩], zP⟩) := by
  have hc := chk_is.2 h
  have hi : idx C.l x = i := by rw [← hx]; exact idx_self h.un hs
  have hb : begE C (plJ x) = (if s.ep ≤ 1099511627774 then 0 else 1) := by
    unfold begE
    rw [hc, if_neg (by simp)]
    unfold flt
    rw [hp, if_neg (by simp)]
    unfold flt1
    rw [if_neg (by show ¬ ((3 : Int) < 1 ∨ (3 : Int) < 3); decide)]
    show (match C.l[idx C.l x]? with | none => (172 : Int) | some s => _) = _
    rw [hi, hs]
    show (if mR s.ep = false then (1 : Int) else flt2 C (plJ x) (idx C.l x) s) = _
    rw [hi]
    unfold mR
    by_cases hm : s.ep ≤ 1099511627774
    · rw [if_pos hm, decide_eq_true hm, if_neg (by simp)]
      unfold flt2
      rw [if_neg (by show ¬ (3 : Int) = 1; decide), if_neg (by show ¬ (3 : Int) = 2; decide), ht]
      show (if mR t.ep = false then (1 : Int) else if t.gr ≠ s.gr then 170 else 0) = 0
      unfold mR
      rw [e1, decide_eq_true hm, if_neg (by simp), if_neg (by simp [e2])]
    · rw [if_neg hm, decide_eq_false hm, if_pos rfl]
  refine ⟨hb, fun he => ?_⟩
  obtain ⟨hf, eb⟩ := beg_is h he
  obtain ⟨r1, r2, r3⟩ := rgt_begin h hf
  have hpn : pln C (plJ x) = ⟨3, 1, s.sh, t.sh, s.gr, 0, s.ep, em⟩ := by
    unfold pln
    show (match C.l[idx C.l x]? with | none => zP | some s => _) = _
    rw [hi, hs]
    show (⟨3, 1, s.sh, (C.l.getD (idx C.l x + 1) zS).sh, s.gr, 0, s.ep, ⟨#[]⟩⟩ : Pl) = _
    rw [hi, List.getD_eq_getElem?_getD, ht]
    rfl
  have hk3 : ¬ (plJ x).k = 2 := by show ¬ (3 : Int) = 2; decide
  rw [if_neg hk3] at eb r1
  rw [hpn] at eb r1
  refine ⟨by rw [eb]; exact r1, ?_, by rw [eb], ?_⟩
  · rw [eb]
    cases hq : peq _ zP with
    | false => rfl
    | true => have := congrArg Pl.k (peq_iff.1 hq); cases this
  · rw [eb]
    unfold Atl.step
    rw [if_pos rfl]
    show one1 _ (idx C.l s.sh) (C.l.getD (idx C.l s.sh) zS) = _
    rw [hx, hi, List.getD_eq_getElem?_getD, hs]
    unfold one1
    rw [if_neg (by show ¬ (3 : Int) = 1; decide), if_neg (by show ¬ (3 : Int) = 2; decide)]
    rw [List.getD_eq_getElem?_getD, ht]
    show (⟨C.g, C.la, chgL C.l i (i + 2) [⟨s.fr, t.up, s.sh, max s.ep t.ep + 1, s.gr⟩], zP⟩ : Am) = _
    rw [e1, Int.max_self, hx]
/-- Parted and joined. -/
theorem back_whole {a : Am} (h : Rgt a) (hp : peq a.p zP = true) {x : Int} {s : Sp} (hs : a.l[idx a.l x]? = some s) (hx : s.sh = x) (key : ByteArray) (he : begE a (plS x key) = 0) :
    let B := begM a (plS x key)
    let C := Atl.step B
    let D := begM C (plJ x)
    Rgt B ∧ peq B.p zP = false ∧ B.p.ph = 1 ∧ Rgt C ∧ C.l.length = a.l.length + 1 ∧ begE C (plJ x) = (if s.ep ≤ 1099511627773 then 0 else 1) ∧
      (begE C (plJ x) = 0 → Rgt D ∧ peq D.p zP = false ∧ D.p.ph = 1 ∧ Rgt (Atl.step D) ∧ (Atl.step D).l.length = a.l.length ∧ (Atl.step D).l[idx a.l x]? = some ⟨s.fr, s.up, s.sh, s.ep + 2, s.gr⟩) := by
  obtain ⟨b1, b2, b3, b4, b5⟩ := back_split h hp hs hx key he
  have hi := (List.getElem?_eq_some_iff.1 hs).1
  intro B C D
  have rc : Rgt C := rgt_step b1 b2
  have ec : C = _ := b5
  have l0 : C.l[idx a.l x]? = some ⟨s.fr, key, s.sh, s.ep + 1, s.gr⟩ := by rw [ec]; exact chg_at0 (by omega) (by simp)
  have l1 : C.l[idx a.l x + 1]? = some ⟨key, s.up, a.la + 1, s.ep + 1, s.gr⟩ := by rw [ec]; exact chg_at (by omega) 1 (by simp)
  have hl : C.l.length = a.l.length + 1 := by rw [ec]; show (chgL _ _ _ _).length = _; unfold chgL; simp; omega
  have zc : peq C.p zP = true := by rw [ec]; exact peq_self _
  obtain ⟨j1, j2⟩ := back_join rc zc l0 l1 hx rfl rfl
  refine ⟨b1, b2, b3, rc, hl, ?_, fun hd => ?_⟩
  · rw [j1]
    show (if s.ep + 1 ≤ _ then (0 : Int) else 1) = _
    by_cases hm : s.ep ≤ 1099511627773
    · rw [if_pos hm, if_pos (by omega)]
    · rw [if_neg hm, if_neg (by omega)]
  · obtain ⟨d1, d2, d3, d4⟩ := j2 hd
    refine ⟨d1, d2, d3, rgt_step d1 d2, ?_, ?_⟩
    · show (Atl.step (begM C (plJ x))).l.length = _
      rw [d4]
      show (chgL _ _ _ _).length = _
      unfold chgL
      simp
      omega
    · show (Atl.step (begM C (plJ x))).l[_]? = _
      rw [d4]
      refine (chg_at0 (by omega) (by simp)).trans ?_
      simp only [List.getElem?_cons_zero]
      rw [show s.ep + 1 + 1 = s.ep + 2 by omega]
/-- What a plan is behind so many phases. -/
def stp (B : Am) : Nat → Am
  | 0 => B
  | n + 1 => Atl.step (stp B n)
/-- A plan of the kind that moves. -/
theorem back_move {a : Am} (h : Rgt a) (hp : peq a.p zP = true) {x : Int} {s : Sp} (hs : a.l[idx a.l x]? = some s) (hx : s.sh = x) (g : Int) (he : begE a (plM x g) = 0) :
    let B := begM a (plM x g)
    (∀ n, n < 3 → Rgt (stp B n) ∧ peq (stp B n).p zP = false ∧ (stp B n).p.ph = (n : Int) + 1) ∧ Rgt (stp B 3) ∧ (stp B 3).p = zP ∧ (stp B 3).l[idx a.l x]? = some ⟨s.fr, s.up, s.sh, s.ep + 1, g⟩ := by
  obtain ⟨hf, eb⟩ := beg_is h he
  obtain ⟨r1, r2, r3⟩ := rgt_begin h hf
  have hi := (List.getElem?_eq_some_iff.1 hs).1
  have hpn : pln a (plM x g) = ⟨1, 1, s.sh, 0, g, s.gr, s.ep, em⟩ := by
    unfold pln
    show (match a.l[idx a.l x]? with | none => zP | some s => _) = _
    rw [hs]
    rfl
  have hk1 : ¬ (plM x g).k = 2 := by show ¬ (1 : Int) = 2; decide
  rw [if_neg hk1] at eb r1
  rw [hpn] at eb r1
  have e1 : Atl.step ⟨a.g, a.la, a.l, ⟨1, 1, s.sh, 0, g, s.gr, s.ep, em⟩⟩ = ⟨a.g, a.la, chgL a.l (idx a.l x) (idx a.l x + 1) [⟨s.fr, s.up, s.sh, s.ep + 1, g⟩], ⟨1, 2, s.sh, 0, g, s.gr, s.ep, em⟩⟩ := by
    unfold Atl.step
    rw [if_pos rfl]
    show one1 _ (idx a.l s.sh) (a.l.getD (idx a.l s.sh) zS) = _
    rw [hx, List.getD_eq_getElem?_getD, hs]
    unfold one1
    rw [if_pos rfl]
    simp [movS, hx]
  have z : ∀ (k ph sh ot gp pa ep : Int) (ky : ByteArray), k = 1 → peq ⟨k, ph, sh, ot, gp, pa, ep, ky⟩ zP = false := fun k ph sh ot gp pa ep ky hk => by
    cases hq : peq _ zP with
    | false => rfl
    | true => have h1 := congrArg Pl.k (peq_iff.1 hq); have h2 : k = 0 := h1; omega
  have s0 : stp (begM a (plM x g)) 0 = ⟨a.g, a.la, a.l, ⟨1, 1, s.sh, 0, g, s.gr, s.ep, em⟩⟩ := eb
  have s1 : stp (begM a (plM x g)) 1 = ⟨a.g, a.la, chgL a.l (idx a.l x) (idx a.l x + 1) [⟨s.fr, s.up, s.sh, s.ep + 1, g⟩], ⟨1, 2, s.sh, 0, g, s.gr, s.ep, em⟩⟩ := by
    show Atl.step (stp _ 0) = _
    rw [s0, e1]
  have s2 : stp (begM a (plM x g)) 2 = ⟨a.g, a.la, chgL a.l (idx a.l x) (idx a.l x + 1) [⟨s.fr, s.up, s.sh, s.ep + 1, g⟩], ⟨1, 3, s.sh, 0, g, s.gr, s.ep, em⟩⟩ := by
    show Atl.step (stp _ 1) = _
    rw [s1]
    rfl
  have s3 : stp (begM a (plM x g)) 3 = ⟨a.g, a.la, chgL a.l (idx a.l x) (idx a.l x + 1) [⟨s.fr, s.up, s.sh, s.ep + 1, g⟩], zP⟩ := by
    show Atl.step (stp _ 2) = _
    rw [s2]
    rfl
  have q0 : Rgt (stp (begM a (plM x g)) 0) := by rw [s0]; exact r1
  have q1 : Rgt (stp (begM a (plM x g)) 1) := rgt_step q0 (by rw [s0]; exact z _ _ _ _ _ _ _ _ rfl)
  have q2 : Rgt (stp (begM a (plM x g)) 2) := rgt_step q1 (by rw [s1]; exact z _ _ _ _ _ _ _ _ rfl)
  have q3 : Rgt (stp (begM a (plM x g)) 3) := rgt_step q2 (by rw [s2]; exact z _ _ _ _ _ _ _ _ rfl)
  refine ⟨fun n hn => ?_, q3, by rw [s3], by rw [s3]; exact chg_at0 (by omega) (by simp)⟩
  match n, hn with
  | 0, _ => exact ⟨q0, by rw [s0]; exact z _ _ _ _ _ _ _ _ rfl, by rw [s0]; rfl⟩
  | 1, _ => exact ⟨q1, by rw [s1]; exact z _ _ _ _ _ _ _ _ rfl, by rw [s1]; rfl⟩
  | 2, _ => exact ⟨q2, by rw [s2]; exact z _ _ _ _ _ _ _ _ rfl, by rw [s2]; rfl⟩
end Go.Proofs.Ytlolhdijadhklaa
