/- Maps of shards: spans, plans, what is right, what is answered. -/
import Derived.Lib.Bytealg
import GoSem.Op.String
namespace Go.Proofs.Ytlolhdijadhklaa.Atl
set_option linter.unusedVariables false

/-- A span: its ends, shard, epoch, group. -/
structure Sp where
  fr : ByteArray
  up : ByteArray
  sh : Int
  ep : Int
  gr : Int
/-- A plan: kind, phase, shard, other, group, past, epoch, key. -/
structure Pl where
  k : Int
  ph : Int
  sh : Int
  ot : Int
  gp : Int
  pa : Int
  ep : Int
  key : ByteArray
/-- A map: groups, last, spans, plan. -/
structure Am where
  g : Int
  la : Int
  l : List Sp
  p : Pl
def em : ByteArray := ⟨#[]⟩
def zS : Sp := ⟨⟨#[]⟩, ⟨#[]⟩, 0, 0, 0⟩
def zP : Pl := ⟨0, 0, 0, 0, 0, 0, 0, ⟨#[]⟩⟩
def zA : Am := ⟨0, 0, [], zP⟩
/-- Does one name stand ahead of the other? -/
def lt (a b : ByteArray) : Bool := Op.bytesLess a.toList b.toList
theorem less_irrefl : ∀ x : List UInt8, Op.bytesLess x x = false
  | [] => rfl
  | a :: x => by
    rw [Op.bytesLess, less_irrefl x]
    simp
theorem less_trans : ∀ {x y z : List UInt8}, Op.bytesLess x y = true → Op.bytesLess y z = true → Op.bytesLess x z = true
  | _, _, [], _, h2 => by cases ‹List UInt8› <;> simp [Op.bytesLess] at h2
  | [], _, _ :: _, _, _ => rfl
  | a :: x, [], c :: z, h1, _ => by simp [Op.bytesLess] at h1
  | a :: x, b :: y, c :: z, h1, h2 => by
    simp only [Op.bytesLess, Bool.or_eq_true, Bool.and_eq_true, decide_eq_true_eq, beq_iff_eq] at h1 h2 ⊢
    rcases h1 with h1 | ⟨rfl, h1⟩
    · rcases h2 with h2 | ⟨rfl, h2⟩
      · exact .inl (UInt8.lt_trans h1 h2)
      · exact .inl h1
    · rcases h2 with h2 | ⟨rfl, h2⟩
      · exact .inl h2
      · exact .inr ⟨rfl, less_trans h1 h2⟩
theorem less_total : ∀ {x y : List UInt8}, Op.bytesLess x y = false → Op.bytesLess y x = false → x = y
  | [], [], _, _ => rfl
  | [], _ :: _, h, _ => by simp [Op.bytesLess] at h
  | _ :: _, [], _, h => by simp [Op.bytesLess] at h
  | a :: x, b :: y, h1, h2 => by
    simp only [Op.bytesLess, Bool.or_eq_false_iff, decide_eq_false_iff_not] at h1 h2
    have e : a = b := UInt8.le_antisymm (UInt8.not_lt.1 h2.1) (UInt8.not_lt.1 h1.1)
    subst e
    simp at h1 h2
    rw [less_total h1 h2]
theorem toList_inj {s t : ByteArray} : s.toList = t.toList ↔ s = t := by
  rw [Lib.toList_data, Lib.toList_data]
  constructor
  · intro h
    cases s; cases t
    simp at h
    rw [h]
  · intro h; rw [h]
theorem em_list : em.toList = [] := by rw [Lib.toList_data]; rfl
theorem list_em {s : ByteArray} : s.toList = [] ↔ s = em := by rw [← em_list]; exact toList_inj
theorem lt_irrefl (a : ByteArray) : lt a a = false := less_irrefl _
theorem lt_trans {a b c : ByteArray} (h1 : lt a b = true) (h2 : lt b c = true) : lt a c = true := less_trans h1 h2
theorem lt_total {a b : ByteArray} (h1 : lt a b = false) (h2 : lt b a = false) : a = b := toList_inj.1 (less_total h1 h2)
theorem lt_asymm {a b : ByteArray} (h : lt a b = true) : lt b a = false := by
  cases h2 : lt b a with
  | false => rfl
  | true => rw [← lt_irrefl a, lt_trans h h2]
/-- Not above, then below: below. -/
theorem le_lt {a b c : ByteArray} (h1 : lt b a = false) (h2 : lt b c = true) : lt a c = true := by
  cases h : lt a b with
  | true => exact lt_trans h h2
  | false => rw [lt_total h h1]; exact h2
theorem lt_le {a b c : ByteArray} (h1 : lt a b = true) (h2 : lt c b = false) : lt a c = true := by
  cases h : lt b c with
  | true => exact lt_trans h1 h
  | false => rw [← lt_total h h2]; exact h1
theorem lt_em (a : ByteArray) : lt a em = false := by
  unfold lt
  rw [em_list]
  cases a.toList <;> rfl
/-- A byte that names may have. -/
def inN (b : UInt8) : Bool := (decide (97 ≤ b.toNat) && decide (b.toNat ≤ 122)) || (decide (48 ≤ b.toNat) && decide (b.toNat ≤ 57)) || decide (b.toNat = 45) || decide (b.toNat = 46)
/-- Is it a name? -/
def named (s : ByteArray) : Bool := decide (1 ≤ s.size) && decide (s.size ≤ 16) && s.data.toList.all inN
theorem named_em : named em = false := rfl
/-- Are two spans, two plans alike? -/
def seq (s t : Sp) : Bool := decide (s.fr.toList = t.fr.toList) && decide (s.up.toList = t.up.toList) && decide (s.sh = t.sh) && decide (s.ep = t.ep) && decide (s.gr = t.gr)
theorem seq_iff {s t : Sp} : seq s t = true ↔ s = t := by
  obtain ⟨a, b, c, d, e⟩ := s
  obtain ⟨a', b', c', d', e'⟩ := t
  simp only [seq, Bool.and_eq_true, decide_eq_true_eq, toList_inj, Sp.mk.injEq]
  constructor
  · rintro ⟨⟨⟨⟨h1, h2⟩, h3⟩, h4⟩, h5⟩; exact ⟨h1, h2, h3, h4, h5⟩
  · rintro ⟨h1, h2, h3, h4, h5⟩; exact ⟨⟨⟨⟨h1, h2⟩, h3⟩, h4⟩, h5⟩
theorem seq_self (s : Sp) : seq s s = true := seq_iff.2 rfl
def peq (p q : Pl) : Bool := decide (p.k = q.k) && decide (p.ph = q.ph) && decide (p.sh = q.sh) && decide (p.ot = q.ot) && decide (p.gp = q.gp) && decide (p.pa = q.pa) && decide (p.ep = q.ep) && decide (p.key.toList = q.key.toList)
theorem peq_iff {p q : Pl} : peq p q = true ↔ p = q := by
  obtain ⟨a1, a2, a3, a4, a5, a6, a7, a8⟩ := p
  obtain ⟨b1, b2, b3, b4, b5, b6, b7, b8⟩ := q
  simp only [peq, Bool.and_eq_true, decide_eq_true_eq, toList_inj, Pl.mk.injEq]
  constructor
  · rintro ⟨⟨⟨⟨⟨⟨⟨h1, h2⟩, h3⟩, h4⟩, h5⟩, h6⟩, h7⟩, h8⟩; exact ⟨h1, h2, h3, h4, h5, h6, h7, h8⟩
  · rintro ⟨h1, h2, h3, h4, h5, h6, h7, h8⟩; exact ⟨⟨⟨⟨⟨⟨⟨h1, h2⟩, h3⟩, h4⟩, h5⟩, h6⟩, h7⟩, h8⟩
theorem peq_self (p : Pl) : peq p p = true := peq_iff.2 rfl
/-- Where a shard's span stands. -/
def idx (l : List Sp) (x : Int) : Nat := l.findIdx fun s => decide (s.sh = x)
def plc (l : List Sp) (x : Int) : Int := if idx l x < l.length then (idx l x : Int) else -1
def isG (g n : Int) : Bool := decide (1 ≤ n) && decide (n ≤ g)
def isE (n : Int) : Bool := decide (1 ≤ n) && decide (n ≤ 1099511627776)
def mR (n : Int) : Bool := decide (n ≤ 1099511627774)
def ends (s : Sp) (k : ByteArray) : Bool := (s.up.toList == []) || lt k s.up
def parts (s : Sp) (k : ByteArray) : Bool := named k && lt s.fr k && ends s k
/-- Is the i-th span right by itself? -/
def okS (g la : Int) (l : List Sp) (i : Nat) (s : Sp) : Bool := decide (1 ≤ s.sh) && decide (s.sh ≤ la) && decide (idx l s.sh = i) && isE s.ep && isG g s.gr
def okF (g la : Int) (l : List Sp) : Nat → List Sp → Bool
  | _, [] => true
  | i, s :: r => okS g la l i s && okF g la l (i + 1) r
/-- Do they cover all names, from one on? -/
def jnF : ByteArray → List Sp → Bool
  | f, [] => f.toList == []
  | f, s :: r => (s.fr.toList == f.toList) && (r.isEmpty || (named s.up && lt f s.up)) && jnF s.up r
def spansB (a : Am) : Bool := decide (1 ≤ a.g) && decide (a.g ≤ 8) && decide (a.la ≤ 1099511627776) && decide (1 ≤ a.l.length) && decide (a.l.length ≤ 16) && okF a.g a.la a.l 0 a.l && jnF em a.l
/-- Has the span the group and the epoch of the plan's phase? -/
def stB (p : Pl) (s : Sp) : Bool :=
  if p.ph = 1 then decide (s.gr = if p.k = 1 then p.pa else p.gp) && decide (s.ep = p.ep)
  else if p.ph = 9 then decide (s.gr = if p.k = 1 then p.pa else p.gp) && decide (s.ep = p.ep + 2)
  else if p.k = 1 ∧ (p.ph = 2 ∨ p.ph = 3) then decide (s.gr = p.gp) && decide (s.ep = p.ep + 1) else false
def moveB (g : Int) (p : Pl) : Bool := decide (p.gp ≠ p.pa) && isG g p.gp && isG g p.pa && decide (p.ot = 0) && (p.key.toList == [])
def splitB (la : Int) (l : List Sp) (p : Pl) (s : Sp) : Bool := decide (p.pa = 0) && decide (p.ot = la) && decide (plc l p.ot < 0) && parts s p.key && decide (l.length < 16)
def mergeB (l : List Sp) (p : Pl) (i : Nat) : Bool := match l[i + 1]? with
  | none => false
  | some t => decide (p.ot = t.sh) && decide (p.gp = t.gr) && mR t.ep && decide (p.pa = 0) && (p.key.toList == [])
def kindB (a : Am) (s : Sp) : Bool := if a.p.k = 1 then moveB a.g a.p else if a.p.k = 2 then splitB a.la a.l a.p s else if a.p.k = 3 then mergeB a.l a.p (idx a.l a.p.sh) else false
def planB (a : Am) : Bool := peq a.p zP || match a.l[idx a.l a.p.sh]? with
  | none => false
  | some s => decide (1 ≤ a.p.ep) && mR a.p.ep && stB a.p s && kindB a s
def chk (a : Am) : Bool := spansB a && planB a
/-- The span of a key. -/
def fnd (l : List Sp) (k : ByteArray) : Nat := l.findIdx fun s => ends s k
def findB (a : Am) (k : ByteArray) : Bool := named k && chk a
def findS (a : Am) (k : ByteArray) : Sp := if findB a k = true then a.l.getD (fnd a.l k) zS else zS
/-- A new map. -/
def newE (g : Int) : Int := if 1 ≤ g ∧ g ≤ 8 then 0 else 1
def newM (g : Int) : Am := if 1 ≤ g ∧ g ≤ 8 then ⟨g, 1, [⟨⟨#[]⟩, ⟨#[]⟩, 1, 1, 1⟩], zP⟩ else zA
/-- How a plan is refused (0: it isn't). -/
def flt2 (a : Am) (q : Pl) (i : Nat) (s : Sp) : Int :=
  if q.k = 1 then (if isG a.g q.gp = false ∨ q.gp = s.gr then 1 else 0)
  else if q.k = 2 then (if parts s q.key = false then 170 else if a.l.length = 16 ∨ a.la = 1099511627776 then 3 else 0)
  else match a.l[i + 1]? with
    | none => 170
    | some t => if mR t.ep = false then 1 else if t.gr ≠ s.gr then 170 else 0
def flt1 (a : Am) (q : Pl) : Int :=
  if q.k < 1 ∨ 3 < q.k then 1 else match a.l[idx a.l q.sh]? with
    | none => 172
    | some s => if mR s.ep = false then 1 else flt2 a q (idx a.l q.sh) s
def flt (a : Am) (q : Pl) : Int := if peq a.p zP = false then 180 else flt1 a q
/-- The plan that is drawn. -/
def pln (a : Am) (q : Pl) : Pl := match a.l[idx a.l q.sh]? with
  | none => zP
  | some s => if q.k = 1 then ⟨1, 1, s.sh, 0, q.gp, s.gr, s.ep, ⟨#[]⟩⟩ else if q.k = 2 then ⟨2, 1, s.sh, a.la + 1, s.gr, 0, s.ep, q.key⟩
    else ⟨3, 1, s.sh, (a.l.getD (idx a.l q.sh + 1) zS).sh, s.gr, 0, s.ep, ⟨#[]⟩⟩
def begE (a : Am) (q : Pl) : Int := if chk a = false then 4 else flt a q
def begM (a : Am) (q : Pl) : Am := if chk a = false then zA else if flt a q ≠ 0 then a else ⟨a.g, if q.k = 2 then a.la + 1 else a.la, a.l, pln a q⟩
/-- Spans with some in the place of those from i up to, not with, k. -/
def chgL (l : List Sp) (i k : Nat) (m : List Sp) : List Sp := l.take i ++ m ++ l.drop k
/-- The spans behind the first phase. -/
def movS (p : Pl) (s : Sp) : Sp := ⟨s.fr, s.up, s.sh, s.ep + 1, p.gp⟩
def lowS (p : Pl) (s : Sp) : Sp := ⟨s.fr, p.key, s.sh, s.ep + 1, s.gr⟩
def uppS (p : Pl) (s : Sp) : Sp := ⟨p.key, s.up, p.ot, s.ep + 1, s.gr⟩
def mrgS (s t : Sp) : Sp := ⟨s.fr, t.up, s.sh, max s.ep t.ep + 1, s.gr⟩
def aboS (s : Sp) : Sp := ⟨s.fr, s.up, s.sh, s.ep + 2, s.gr⟩
def one1 (a : Am) (i : Nat) (s : Sp) : Am :=
  if a.p.k = 1 then ⟨a.g, a.la, chgL a.l i (i + 1) [movS a.p s], ⟨a.p.k, 2, a.p.sh, a.p.ot, a.p.gp, a.p.pa, a.p.ep, a.p.key⟩⟩
  else if a.p.k = 2 then ⟨a.g, a.la, chgL a.l i (i + 1) [lowS a.p s, uppS a.p s], zP⟩
  else ⟨a.g, a.la, chgL a.l i (i + 2) [mrgS s (a.l.getD (i + 1) zS)], zP⟩
def step (a : Am) : Am :=
  if a.p.ph = 1 then one1 a (idx a.l a.p.sh) (a.l.getD (idx a.l a.p.sh) zS)
  else if a.p.ph = 2 then ⟨a.g, a.la, a.l, ⟨a.p.k, 3, a.p.sh, a.p.ot, a.p.gp, a.p.pa, a.p.ep, a.p.key⟩⟩
  else ⟨a.g, a.la, a.l, zP⟩
def advE (a : Am) (n : Int) : Int := if chk a = false then 4 else if peq a.p zP = true ∨ a.p.ph ≠ n then 4 else 0
def advM (a : Am) (n : Int) : Am := if chk a = false then zA else if peq a.p zP = true ∨ a.p.ph ≠ n then a else step a
def aboE (a : Am) : Int := if chk a = false then 4 else if peq a.p zP = true ∨ a.p.ph ≠ 1 then 4 else 0
def aboM (a : Am) : Am := if chk a = false then zA else if peq a.p zP = true ∨ a.p.ph ≠ 1 then a
  else ⟨a.g, a.la, chgL a.l (idx a.l a.p.sh) (idx a.l a.p.sh + 1) [aboS (a.l.getD (idx a.l a.p.sh) zS)], ⟨a.p.k, 9, a.p.sh, a.p.ot, a.p.gp, a.p.pa, a.p.ep, a.p.key⟩⟩
-- the reference's look at spans
def rfF (g la : Int) (l : List Sp) : ByteArray → Nat → List Sp → Bool
  | _, _, [] => true
  | f, i, s :: r => (s.fr.toList == f.toList) && decide (1 ≤ s.sh) && decide (s.sh ≤ la) && decide (i ≤ idx l s.sh) && isE s.ep && isG g s.gr && (if r.isEmpty = true then s.up.toList == [] else named s.up && lt s.fr s.up) && rfF g la l s.up (i + 1) r
theorem idx_le {l : List Sp} {i : Nat} {s : Sp} (h : l[i]? = some s) : idx l s.sh ≤ i := by
  unfold idx
  have hi := (List.getElem?_eq_some_iff.1 h).1
  apply Nat.le_of_not_lt
  intro hlt
  have := List.not_of_lt_findIdx hlt
  rw [(List.getElem?_eq_some_iff.1 h).2] at this
  simp at this
theorem rf_is (g la : Int) (l : List Sp) : ∀ (r : List Sp) (f : ByteArray) (i : Nat), l.drop i = r → (r = [] → f.toList = []) → rfF g la l f i r = (okF g la l i r && jnF f r)
  | [], f, i, _, h => by simp [rfF, okF, jnF, h rfl]
  | s :: r, f, i, hd, _ => by
    have hs : l[i]? = some s := by have := congrArg (fun m : List Sp => m[0]?) hd; simpa using this
    have hr : l.drop (i + 1) = r := by rw [← List.drop_drop, hd]; rfl
    have h1 := idx_le hs
    have h2 : decide (i ≤ idx l s.sh) = decide (idx l s.sh = i) := by rw [Bool.eq_iff_iff]; simp; omega
    rw [rfF, okF, jnF, okS, h2]
    cases hr2 : r with
    | nil =>
      simp only [List.isEmpty_nil, if_true, rfF, okF, jnF, Bool.and_true, Bool.true_or]
      generalize decide (1 ≤ s.sh) = b1
      generalize decide (s.sh ≤ la) = b2
      generalize decide (idx l s.sh = i) = b3
      generalize isE s.ep = b4
      generalize isG g s.gr = b5
      generalize (s.fr.toList == f.toList) = b6
      generalize (s.up.toList == []) = b7
      cases b1 <;> cases b2 <;> cases b3 <;> cases b4 <;> cases b5 <;> cases b6 <;> cases b7 <;> rfl
    | cons t m =>
      have ih := rf_is g la l r s.up (i + 1) hr (by rw [hr2]; intro e; cases e)
      rw [← hr2, ih]
      have he : r.isEmpty = false := by rw [hr2]; rfl
      rw [he]
      cases h6 : (s.fr.toList == f.toList) with
      | false => simp
      | true =>
        have e6 : s.fr = f := toList_inj.1 (by simpa using h6)
        rw [e6]
        simp only [Bool.true_and, Bool.false_or, Bool.false_eq_true, if_false]
        generalize decide (1 ≤ s.sh) = b1
        generalize decide (s.sh ≤ la) = b2
        generalize decide (idx l s.sh = i) = b3
        generalize isE s.ep = b4
        generalize isG g s.gr = b5
        generalize named s.up = b6
        generalize lt f s.up = b7
        generalize okF g la l (i + 1) r = b8
        generalize jnF s.up r = b9
        cases b1 <;> cases b2 <;> cases b3 <;> cases b4 <;> cases b5 <;> cases b6 <;> cases b7 <;> cases b8 <;> cases b9 <;> rfl
end Go.Proofs.Ytlolhdijadhklaa.Atl
