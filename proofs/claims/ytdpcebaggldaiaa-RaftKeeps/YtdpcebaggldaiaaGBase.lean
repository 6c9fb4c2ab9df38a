/- Nodes and messages in memory; a node at work. -/
import Derived.Test.YtdpcebaggldaiaaMa
import Derived.Test.YtdpcebaggldaiaaTCheck
import Derived.Test.YtdpcebaggldaiaaMc
import Derived.Deep.MidRow
namespace Go.Proofs.Ytdpcebaggldaiaa
open Go.RowKit Trl
open Rft (Nd Mg)
set_option linter.unusedVariables false
set_option maxRecDepth 10000

/-- A slice's three parts. -/
structure S3 where
  a : Option Addr
  n : Nat
  c : Nat
abbrev S3.v (s : S3) : Value := .slice s.a s.n s.c
def nil3 : S3 := ⟨none, 0, 0⟩
/-- The five slices of a node. -/
structure Sv where
  c : S3
  e : S3
  v : S3
  n : S3
  m : S3
abbrev nc (r : Nd) (V : Sv) : List Value := [.int .i64 r.id, .slice V.c.a V.c.n V.c.c, .int .i64 r.term, .int .i64 r.vote, .int .i64 r.role, .int .i64 r.lead, .int .i64 r.b, .int .i64 r.k, .slice V.e.a V.e.n V.e.c, .string r.snap, .int .i64 r.com, .int .i64 r.left, .int .i64 r.wait, .slice V.v.a V.v.n V.v.c, .slice V.n.a V.n.n V.n.c, .slice V.m.a V.m.n V.m.c]
abbrev nv (r : Nd) (V : Sv) : Value := .agg #[.int .i64 r.id, .slice V.c.a V.c.n V.c.c, .int .i64 r.term, .int .i64 r.vote, .int .i64 r.role, .int .i64 r.lead, .int .i64 r.b, .int .i64 r.k, .slice V.e.a V.e.n V.e.c, .string r.snap, .int .i64 r.com, .int .i64 r.left, .int .i64 r.wait, .slice V.v.a V.v.n V.v.c, .slice V.n.a V.n.n V.n.c, .slice V.m.a V.m.n V.m.c]
/-- A node at work: the node, and what it has sent. -/
abbrev oc (r : Nd) (V : Sv) (s : S3) : List Value := [.int .i64 r.id, .slice V.c.a V.c.n V.c.c, .int .i64 r.term, .int .i64 r.vote, .int .i64 r.role, .int .i64 r.lead, .int .i64 r.b, .int .i64 r.k, .slice V.e.a V.e.n V.e.c, .string r.snap, .int .i64 r.com, .int .i64 r.left, .int .i64 r.wait, .slice V.v.a V.v.n V.v.c, .slice V.n.a V.n.n V.n.c, .slice V.m.a V.m.n V.m.c, .slice s.a s.n s.c]
abbrev mc (x : Mg × S3) : List Value := [.int .i64 x.1.kind, .int .i64 x.1.fm, .int .i64 x.1.tt, .int .i64 x.1.term, .int .i64 x.1.index, .int .i64 x.1.logt, .int .i64 x.1.com, .bool x.1.yes, .slice x.2.a x.2.n x.2.c, .string x.1.data]
abbrev mv (g : Mg) (s : S3) : Value := .agg #[.int .i64 g.kind, .int .i64 g.fm, .int .i64 g.tt, .int .i64 g.term, .int .i64 g.index, .int .i64 g.logt, .int .i64 g.com, .bool g.yes, .slice s.a s.n s.c, .string g.data]
def eM : Elm (Mg × S3) where
  el := 30
  sl := 35
  size := 10
  bytes := 104
  zero := .agg #[.int .i64 0, .int .i64 0, .int .i64 0, .int .i64 0, .int .i64 0, .int .i64 0, .int .i64 0, .bool false, .slice none 0 0, .string ⟨#[]⟩]
  enc := fun x => mc x
  hu := Try.underlying35
  hi := by kernel_rfl
  hz := rfl
  hs := by decide
  len := fun _ => rfl
  one := by intro x v hv; simp at hv; rcases hv with rfl | rfl | rfl | rfl | rfl | rfl | rfl | rfl | rfl | rfl <;> rfl
  he := by kernel_rfl
  so := fun W => Try.sizeOf30 W
/-- A slice of an object's own, in blocks from 'base' on that bear the tag i; or an empty one without room. -/
def Row {α : Type} (E : Elm α) (w : World) (base : Nat) (T : Nat → Nat) (i : Nat) (v : Value) (l : List α) : Prop :=
  (E.Own w base v l ∧ ∀ k, v.ownBlock = some k → T k = i) ∨ (l = [] ∧ ∃ a, v = .slice (some a) 0 0)
section
variable {α : Type} {E : Elm α}
theorem Row.rx {w : World} {base : Nat} {T : Nat → Nat} {i : Nat} {v : Value} {l : List α} (h : Row E w base T i v l) : E.Rx w v l := by
  rcases h with ⟨h, _⟩ | ⟨rfl, a, rfl⟩
  · exact h.rx
  · exact .inr ⟨a, 0, rfl, .inl rfl, fun t x hx => by simp [Elm.cells] at hx⟩
theorem Row.len {w : World} {base : Nat} {T : Nat → Nat} {i : Nat} {ad : Option Addr} {n c : Nat} {l : List α} (h : Row E w base T i (.slice ad n c) l) : n = l.length := by
  rcases h with ⟨h, _⟩ | ⟨rfl, a, e⟩
  · exact h.len
  · injection e
theorem Row.kept {F : Nat → Prop} {w w' : World} {base : Nat} {T : Nat → Nat} {i : Nat} {v : Value} {l : List α} (h : Row E w base T i v l) (g : Chg F w w') (hF : ∀ k, T k = i → base ≤ k → k < w.heap.size → ¬ F k) : Row E w' base T i v l := by
  rcases h with ⟨h, t⟩ | h
  · exact .inl ⟨h.kept g (fun k hk => hF k (t k hk) (h.lt k hk).1 (h.lt k hk).2), t⟩
  · exact .inr h
theorem Row.retag {w : World} {base : Nat} {T T' : Nat → Nat} {i : Nat} {v : Value} {l : List α} (h : Row E w base T i v l) (hT : ∀ k, k < w.heap.size → T' k = T k) : Row E w base T' i v l := by
  rcases h with ⟨h, t⟩ | h
  · exact .inl ⟨h, fun k hk => (hT k (h.lt k hk).2).trans (t k hk)⟩
  · exact .inr h
theorem Row.own {w : World} {base : Nat} {T : Nat → Nat} {i : Nat} {v : Value} {l : List α} (h : Row E w base T i v l) (hl : l ≠ []) : E.Own w base v l ∧ ∀ k, v.ownBlock = some k → T k = i := by
  rcases h with h | ⟨e, _⟩
  · exact h
  · exact absurd e hl
theorem Row.nil {w : World} {base : Nat} {T : Nat → Nat} {i : Nat} : Row E w base T i (.slice none 0 0) [] := .inl ⟨Elm.nil _ _, fun k hk => by cases hk⟩
theorem Row.low {w : World} {base base' : Nat} {T : Nat → Nat} {i : Nat} {v : Value} {l : List α} (h : Row E w base T i v l) (hb : base' ≤ base) : Row E w base' T i v l := by
  rcases h with ⟨h, t⟩ | h
  · exact .inl ⟨h.low hb, t⟩
  · exact .inr h
end
theorem Sl.row {w : World} {base : Nat} {T : Nat → Nat} {i : Nat} {v : Value} {l : List En} (h : Row eE w base T i v l) : Sl w v l := by
  rcases h with ⟨h, _⟩ | ⟨rfl, a, rfl⟩
  · exact Sl.own h
  · exact ⟨some a, 0, rfl, by simp, by simp, .inr ⟨a, 0, rfl, .inl rfl, fun t x hx => by simp [Elm.cells] at hx⟩⟩
/-- Cells of a block that may be written. -/
def Cs (w : World) (b : Nat) (cs : List Value) : Prop := w.rangeAt b 0 cs ∧ (∀ i, w.frozen? ⟨b, i, none⟩ = false) ∧ b < w.heap.size
theorem Cs.at_ {w : World} {b : Nat} {cs : List Value} (h : Cs w b cs) (i : Nat) {v : Value} (hi : cs[i]? = some v) : w.cell? ⟨b, i, none⟩ = some v := by
  have := h.1 i v hi
  rwa [Nat.zero_add] at this
theorem Cs.kept {F : Nat → Prop} {w w' : World} {b : Nat} {cs : List Value} (h : Cs w b cs) (g : Chg F w w') (hF : ¬ F b) : Cs w' b cs := by
  refine ⟨fun j v hv => g.cell (h.1 j v hv) hF, fun i => (g.frozen (a := ⟨b, i, none⟩) h.2.2 hF).trans (h.2.1 i), Nat.lt_of_lt_of_le h.2.2 g.size⟩
theorem Cs.grown {w w' : World} {b : Nat} {cs : List Value} (h : Cs w b cs) (g : w.grownBy w' none) : Cs w' b cs := h.kept (F := fun _ => False) (Chg.of g (by simp)) id
theorem Cs.set {w : World} {b : Nat} {cs : List Value} (h : Cs w b cs) (i : Nat) (v : Value) : Cs (w.setCell ⟨b, i, none⟩ v) b (cs.set i v) := by
  refine ⟨fun j x hx => ?_, fun j => ?_, by rw [size_set]; exact h.2.2⟩
  · by_cases e : i = j
    · subst e
      have hl : i < cs.length := by obtain ⟨h1, _⟩ := List.getElem?_eq_some_iff.mp hx; simpa using h1
      rw [List.getElem?_set_self hl] at hx
      injection hx with hx
      subst hx
      rw [Nat.zero_add]
      exact set_same (h.at_ i (List.getElem?_eq_getElem hl))
    · rw [List.getElem?_set_ne e] at hx
      rw [Nat.zero_add]
      rw [set_other (by simp)]
      exact h.at_ j hx
  · have := h.2.1 j
    simpa using this
theorem chg_setb {F : Nat → Prop} {w w' : World} (h : Chg F w w') (b i : Nat) (v : Value) (hb : F b) : Chg F w (w'.setCell ⟨b, i, none⟩ v) := h.grown (grown_set w' ⟨b, i, none⟩ v) (fun k e => .inl (by injection e with e; subst e; exact hb))
/-- A node at work in memory: in blocks from 'base' on; the tags keep apart what is written. -/
structure Oc (w : World) (base b : Nat) (r : Nd) (X : List (Mg × S3)) (V : Sv) (s : S3) (T : Nat → Nat) : Prop where
  hb : base ≤ b
  tb : T b = 0
  cs : Cs w b (oc r V s)
  c : Row eK w base T 1 V.c.v r.conf
  e : Row eE w base T 1 V.e.v r.l
  v : Row eK w base T 2 V.v.v r.votes
  n : Row eN w base T 3 V.n.v r.next
  m : Row eN w base T 4 V.m.v r.mat
  l : eM.Own w base s.v X ∧ ∀ k, s.v.ownBlock = some k → T k = 5
  ms : ∀ x ∈ X, Row eE w base T 1 x.2.v x.1.es
/-- .. with these messages; its group lies at c. -/
def Ob (w : World) (base b : Nat) (r : Nd) (L : List Mg) (c : S3) : Prop := ∃ X V s T, Oc w base b r X V s T ∧ X.map (·.1) = L ∧ V.c = c
theorem Oc.kept {F : Nat → Prop} {w w' : World} {base b : Nat} {r : Nd} {X : List (Mg × S3)} {V : Sv} {s : S3} {T : Nat → Nat} (h : Oc w base b r X V s T) (g : Chg F w w') (hF : ∀ k, base ≤ k → k < w.heap.size → ¬ F k) : Oc w' base b r X V s T :=
  ⟨h.hb, h.tb, h.cs.kept g (hF b h.hb h.cs.2.2), h.c.kept g (fun k _ => hF k), h.e.kept g (fun k _ => hF k), h.v.kept g (fun k _ => hF k), h.n.kept g (fun k _ => hF k), h.m.kept g (fun k _ => hF k), ⟨h.l.1.kept g (fun k hk => hF k (h.l.1.lt k hk).1 (h.l.1.lt k hk).2), h.l.2⟩, fun x hx => (h.ms x hx).kept g (fun k _ => hF k)⟩
theorem Oc.grown {w w' : World} {base b : Nat} {r : Nd} {X : List (Mg × S3)} {V : Sv} {s : S3} {T : Nat → Nat} (h : Oc w base b r X V s T) (g : w.grownBy w' none) : Oc w' base b r X V s T := h.kept (F := fun _ => False) (Chg.of g (by simp)) (fun _ _ _ => id)
theorem Ob.grown {w w' : World} {base b : Nat} {r : Nd} {L : List Mg} {c : S3} (h : Ob w base b r L c) (g : w.grownBy w' none) : Ob w' base b r L c := by
  obtain ⟨X, V, s, T, h, e⟩ := h
  exact ⟨X, V, s, T, h.grown g, e⟩
theorem Ob.kept {F : Nat → Prop} {w w' : World} {base b : Nat} {r : Nd} {L : List Mg} {c : S3} (h : Ob w base b r L c) (g : Chg F w w') (hF : ∀ k, base ≤ k → k < w.heap.size → ¬ F k) : Ob w' base b r L c := by
  obtain ⟨X, V, s, T, h, e⟩ := h
  exact ⟨X, V, s, T, h.kept g hF, e⟩
theorem Oc.retag {w : World} {base b : Nat} {r : Nd} {X : List (Mg × S3)} {V : Sv} {s : S3} {T T' : Nat → Nat} (h : Oc w base b r X V s T) (hT : ∀ k, k < w.heap.size → T' k = T k) : Oc w base b r X V s T' :=
  ⟨h.hb, (hT b h.cs.2.2).trans h.tb, h.cs, h.c.retag hT, h.e.retag hT, h.v.retag hT, h.n.retag hT, h.m.retag hT, ⟨h.l.1, fun k hk => (hT k (h.l.1.lt k hk).2).trans (h.l.2 k hk)⟩, fun x hx => (h.ms x hx).retag hT⟩
/-- Of what lay below 'base' nothing has turned. -/
abbrev Kp (base : Nat) (w w' : World) : Prop := Chg (fun k => base ≤ k) w w'
theorem Kp.trans {base : Nat} {w w1 w2 : World} (h : Kp base w w1) (k : Kp base w1 w2) : Kp base w w2 := Chg.trans h k (fun _ h => .inl h)
theorem Kp.grown {base : Nat} {w w1 w2 : World} (h : Kp base w w1) (k : w1.grownBy w2 none) : Kp base w w2 := Chg.grown h k (by simp)
theorem Kp.of {base : Nat} {w w1 : World} (k : w.grownBy w1 none) : Kp base w w1 := Chg.of k (by simp)
theorem Kp.refl (base : Nat) (w : World) : Kp base w w := Chg.refl _ _
/-- Cells of the object have turned, no slice but what is emptied. -/
theorem Oc.turn {w w' : World} {base b : Nat} {r r' : Nd} {X : List (Mg × S3)} {V V' : Sv} {s : S3} {T : Nat → Nat} (h : Oc w base b r X V s T) (g : Chg (fun k => k = b) w w') (hc : Cs w' b (oc r' V' s))
    (h1 : r'.conf = r.conf ∧ V'.c = V.c) (h2 : (r'.l = r.l ∧ V'.e = V.e) ∨ (r'.l = [] ∧ V'.e = nil3)) (h3 : (r'.votes = r.votes ∧ V'.v = V.v) ∨ (r'.votes = [] ∧ V'.v = nil3)) (h4 : (r'.next = r.next ∧ V'.n = V.n) ∨ (r'.next = [] ∧ V'.n = nil3)) (h5 : (r'.mat = r.mat ∧ V'.m = V.m) ∨ (r'.mat = [] ∧ V'.m = nil3)) : Oc w' base b r' X V' s T := by
  have ne : ∀ i, i ≠ 0 → ∀ k, T k = i → base ≤ k → k < w.heap.size → ¬ k = b := fun i hi k ht _ _ e => by subst e; rw [h.tb] at ht; exact hi ht.symm
  have hc' := h.c.kept g (ne 1 (by decide))
  have he' := h.e.kept g (ne 1 (by decide))
  have hv' := h.v.kept g (ne 2 (by decide))
  have hn' := h.n.kept g (ne 3 (by decide))
  have hm' := h.m.kept g (ne 4 (by decide))
  refine ⟨h.hb, h.tb, hc, by rw [h1.1, h1.2]; exact hc', ?_, ?_, ?_, ?_, ⟨h.l.1.kept g (fun k hk e => ne 5 (by decide) k (h.l.2 k hk) (h.l.1.lt k hk).1 (h.l.1.lt k hk).2 e), h.l.2⟩, fun x hx => (h.ms x hx).kept g (ne 1 (by decide))⟩
  · rcases h2 with ⟨e1, e2⟩ | ⟨e1, e2⟩ <;> rw [e1, e2]
    · exact he'
    · exact Row.nil
  · rcases h3 with ⟨e1, e2⟩ | ⟨e1, e2⟩ <;> rw [e1, e2]
    · exact hv'
    · exact Row.nil
  · rcases h4 with ⟨e1, e2⟩ | ⟨e1, e2⟩ <;> rw [e1, e2]
    · exact hn'
    · exact Row.nil
  · rcases h5 with ⟨e1, e2⟩ | ⟨e1, e2⟩ <;> rw [e1, e2]
    · exact hm'
    · exact Row.nil
theorem Chg.toKp {base b : Nat} {w w' : World} (g : Chg (fun k => k = b) w w') (hb : base ≤ b) : Kp base w w' := g.wide (fun k e => by subst e; exact hb)
end Go.Proofs.Ytdpcebaggldaiaa
