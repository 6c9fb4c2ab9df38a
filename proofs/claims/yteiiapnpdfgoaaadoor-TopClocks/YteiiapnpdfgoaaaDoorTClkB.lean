/- Once a day: the zone asked beside a list that grows. -/
import Derived.Test.YteiiapnpdfgoaaaDoorTClkA
import Derived.Maps.AppendAt
namespace Go.Proofs.YteiiapnpdfgoaaaDoor
open Go.RowKit
set_option linter.unusedVariables false

/-- 'append(v, x)', v the call's own; and where the new row lies. -/
theorem wpList_append_loc {w : World} {ops : Array Oper} {rest : List Oper} {o : Oper} {a : Act} {Q : Exit → Act → World → Prop} (hgd : o.guard = none) (s x : Operand)
    (ho : o.op = .call { callee := .builtin .append, args := #[s, x], argTypes := #[40, 40] })
    (base : Nat) (V : Value) (l0 : List Int) (hs : a.eval s = V) (hown : OwnI w base V l0) (q : Nat) (t : Int) (hx : a.eval x = .slice (some ⟨q, 0, none⟩) 1 1) (hc : w.cell? ⟨q, 0, none⟩ = some (.int .i64 t))
    (hb : l0.length ≤ 2000) (hbase : base ≤ w.heap.size)
    (h : ∀ v' w', OwnI w' base v' (l0 ++ [t]) → w.grownBy w' V.ownBlock → (v'.ownBlock = V.ownBlock ∨ v'.ownBlock = some w.heap.size) → wpList Tryd.prog ops Q rest (a.put o.dst v') w') : wpList Tryd.prog ops Q (o :: rest) a w := by
  obtain ⟨ii, hi, hz0, hz1, hz2⟩ := info_parts info_i64
  obtain ⟨v', w', hr, h2, h3, h4, h5⟩ := run_append_own_at (P := Tryd.prog) w base 40 o.type 2 ii (.int .i64 0) 1 8 Tryd.underlying40 hi hz0 hz1 hz2 rfl (by decide) V l0.length (l0.map (Value.int .i64)) hown ⟨q, 0, none⟩ 1 1 [.int .i64 t] rfl
    (fun j u hu => by
      cases j with
      | zero => simp at hu; subst hu; rw [Addr.add_lit]; exact hc
      | succ j => simp at hu) (fun u hu => by simp at hu; subst hu; rfl) (by unfold maxLen; omega) (by omega) hbase
  refine wpList_plain hgd fun K hK => ?_
  unfold Oper.wp execOp
  simp only [ho, resolve, invoke, builtin, Sem.run_bind, Sem.run_pure, Result.andThen_ok, List.map_toArray, List.map_cons, List.map_nil, hs, hx, hr]
  refine hK _ _ (h v' w' ?_ h3 h5)
  unfold OwnI
  simpa using h2
/-- The zone asked, a list beside it. -/
theorem inst_out {B : Nat} {wr : World} {b : Nat} {z : Zon.Z} {f : Value} {l : List Int} (hz : z.ok) (h : Fnd B wr b z f l) (hb : b < B) (y m d hh n k : Int) (hT : Thr y m d hh n) :
    Calls Tryd.prog 13 #[.pointer (some ⟨b, 0, none⟩), civ y m d hh n k] wr fun e w' => ∃ v, e = .returned v ∧ OwnI w' wr.heap.size v (z.ins (inst y m d hh n)) ∧ ((z.ins (inst y m d hh n) = [] ∧ Fnd B w' b z f l) ∨ ∃ base, Fnd3 B w' b z f l base) ∧ (∀ k, f.ownBlock = some k → k < wr.heap.size) ∧ wr.grownBy w' (some b) := by
  obtain ⟨base, h1, h2, hO, ⟨hf, hZ⟩ | ⟨s, hR, hs⟩⟩ := h
  · have hl : l = [] := by
      rcases hO.row with ⟨e, _⟩ | ⟨g, cap, e, _⟩
      · exact e
      · rw [hf] at e; cases e
    subst hl hf
    refine (instants_any b z hz y m d hh n k hT wr hZ).mono fun e w' ⟨v, he, hv, hQ, hg⟩ => ⟨v, he, hv, ?_, fun k hk => by simp [Value.ownBlock] at hk, hg⟩
    have hsz := hg.size
    rcases hQ with ⟨e1, hZ'⟩ | ⟨s, hR⟩
    · exact .inl ⟨e1, base, h1, by omega, World.ownsRow_nil _ _ _ _, .inl ⟨rfl, hZ'⟩⟩
    · exact .inr ⟨w'.heap.size, by omega, Nat.le_refl _, World.ownsRow_nil _ _ _ _, s, hR, hR.low⟩
  · refine (instants_rdy b z hz y m d hh n k hT wr s hR).mono fun e w' ⟨v, he, hv, hR', hg⟩ => ⟨v, he, hv, .inr ⟨base, h1, by have := hg.size; omega, hO.kept hg (by simp), s, hR', hs⟩, fun k hk => (World.ownsRow.lt hO k hk).2, grown_more (grown_refl wr (some b)) hg (by simp)⟩
/-- One more in the list. -/
theorem Fnd3.more {B : Nat} {w3 w4 : World} {b : Nat} {z : Zon.Z} {f v4 : Value} {l l4 : List Int} {base : Nat} {x : Obj} (h : Fnd3 B w3 b z f l base) (hb : b < B) (g : (w3.alloc x).grownBy w4 f.ownBlock) (hO : OwnI w4 base v4 l4) : Fnd3 B w4 b z v4 l4 base := by
  obtain ⟨h1, h2, hf, s, hR, hs⟩ := h
  have hw := g.size
  simp at hw
  refine ⟨h1, by omega, hO, s, (hR.kept (World.grownBy_alloc w3 x none)).foreign g ?_ ?_, hs⟩
  · intro e
    have := (World.ownsRow.lt hf b e.symm).1
    omega
  · intro k hk e
    have := (World.ownsRow.lt hf k e.symm).1
    have := hs k hk
    omega
theorem Fnd.up {B : Nat} {wr w' : World} {b : Nat} {z : Zon.Z} {f : Value} {l : List Int} (h : Fnd B wr b z f l) (g : wr.grownBy w' none) : Fnd B w' b z f l := by
  obtain ⟨base, h1, h2, hO, hQ⟩ := h
  refine ⟨base, h1, by have := g.size; omega, hO.kept g (by simp), ?_⟩
  rcases hQ with ⟨e, hZ⟩ | ⟨s, hR, hs⟩
  · exact .inl ⟨e, hZ.kept g⟩
  · exact .inr ⟨s, hR.kept g, hs⟩
theorem OwnI.but {w w' : World} {base : Nat} {v : Value} {l : List Int} {row : Option Nat} (h : OwnI w base v l) (g : w.grownBy w' row) (hr : ∀ k, v.ownBlock = some k → row ≠ some k) : OwnI w' base v l := by
  refine World.ownsRow.kept h g ?_
  cases hv : v.ownBlock with
  | none => exact .inl rfl
  | some k => exact .inr fun e => hr k hv e.symm
/-- The list that grows, and the one that Between answered. -/
structure Ct (w4 : World) (wr : World) (b : Nat) (z : Zon.Z) (f : Value) (l : List Int) (bl : Nat) (lv : Value) (LL : List Int) : Prop where
  fnd : Fnd w4.heap.size wr b z f l
  lst : OwnI wr bl lv LL
  low : ∀ k, lv.ownBlock = some k → k < w4.heap.size
  g : w4.grownBy wr (some b)
/-- .. while the instants of one day, v, are gone through. -/
structure Cv (w4 : World) (wr : World) (b : Nat) (z : Zon.Z) (f : Value) (l : List Int) (base bl : Nat) (lv : Value) (LL : List Int) (S : Nat) (v : Value) (IL : List Int) : Prop where
  fnd : Fnd3 w4.heap.size wr b z f l base
  lst : OwnI wr bl lv LL
  low : ∀ k, lv.ownBlock = some k → k < w4.heap.size
  g : w4.grownBy wr (some b)
  all : OwnI wr S v IL
  ne : ∀ k, v.ownBlock = some k → f.ownBlock ≠ some k
theorem Ct.up {w4 wr w' : World} {b bl : Nat} {z : Zon.Z} {f lv : Value} {l LL : List Int} (h : Ct w4 wr b z f l bl lv LL) (g : wr.grownBy w' none) : Ct w4 w' b z f l bl lv LL :=
  ⟨h.fnd.up g, h.lst.kept g (by simp), h.low, grown_more h.g g (by simp)⟩
/-- A day's instants asked for. -/
theorem ct_inst {w4 wr : World} {b bl : Nat} {z : Zon.Z} {f lv : Value} {l LL : List Int} (hz : z.ok) (h : Ct w4 wr b z f l bl lv LL) (hb : b < w4.heap.size) (hbl : b < bl) (y m d hh n k : Int) (hT : Thr y m d hh n) {L : Int} (hL : inst y m d hh n = L) :
    Calls Tryd.prog 13 #[.pointer (some ⟨b, 0, none⟩), civ y m d hh n k] wr fun e w' => ∃ a q c S, e = .returned (.slice a q c) ∧ Hid (q = (z.ins L).length) ∧ ((z.ins L = [] ∧ Ct w4 w' b z f l bl lv LL) ∨ ∃ base, Cv w4 w' b z f l base bl lv LL S (.slice a q c) (z.ins L)) := by
  subst hL
  refine (inst_out hz h.fnd hb y m d hh n k hT).mono fun e w' ⟨v, he, hv, hQ, hlo, hg⟩ => ?_
  obtain ⟨a, c, rfl⟩ := hv.len
  have hl := h.lst.kept hg (fun k e => by injection e with e; omega)
  have g4 := grown_more h.g hg (fun k e => .inl e)
  refine ⟨a, _, c, wr.heap.size, he, (rfl : (z.ins (inst y m d hh n)).length = _), ?_⟩
  rcases hQ with ⟨e1, hF⟩ | ⟨base, hF⟩
  · exact .inl ⟨e1, hF, hl, h.low, g4⟩
  · exact .inr ⟨base, hF, hl, h.low, g4, hv, fun k hk e => by have := (World.ownsRow.lt hv k hk).1; have := hlo k e; omega⟩
theorem Cv.ct {w4 wr : World} {b base bl S : Nat} {z : Zon.Z} {f lv v : Value} {l LL IL : List Int} (h : Cv w4 wr b z f l base bl lv LL S v IL) : Ct w4 wr b z f l bl lv LL := ⟨h.fnd.fnd, h.lst, h.low, h.g⟩
theorem Cv.at_ {w4 wr : World} {b base bl S : Nat} {z : Zon.Z} {f lv : Value} {l LL IL : List Int} {a : Option Addr} {q c : Nat} (h : Cv w4 wr b z f l base bl lv LL S (.slice a q c) IL) {j : Nat} {x : Int} (hj : IL[j]? = some x) : ∃ g, a = some ⟨g, 0, none⟩ ∧ wr.cell? ⟨g, j, none⟩ = some (.int .i64 x) := by
  have hlt := (List.getElem?_eq_some_iff.1 hj).1
  rcases h.all.row with ⟨e, _⟩ | ⟨g, cap, e, _, hc⟩
  · rw [e] at hlt; simp at hlt
  · injection e with e
    refine ⟨g, e, ?_⟩
    rw [hc j hlt, List.getD_eq_getElem?_getD, hj]
    rfl
/-- One of them put behind. -/
theorem Cv.more {w4 wr w5 : World} {b base bl S : Nat} {z : Zon.Z} {f f5 lv v : Value} {l l5 LL IL : List Int} {x : Obj} (h : Cv w4 wr b z f l base bl lv LL S v IL) (hb : b < w4.heap.size) (hO : OwnI w5 base f5 l5) (g : (wr.alloc x).grownBy w5 f.ownBlock) (hloc : f5.ownBlock = f.ownBlock ∨ f5.ownBlock = some (wr.alloc x).heap.size) : Cv w4 w5 b z f5 l5 base bl lv LL S v IL := by
  have ga := World.grownBy_alloc wr x none
  have hfl : ∀ k, f.ownBlock = some k → w4.heap.size ≤ k := fun k hk => Nat.le_trans h.fnd.1 (World.ownsRow.lt h.fnd.2.2.1 k hk).1
  have hz := h.g.size
  refine ⟨h.fnd.more hb g hO, (h.lst.kept ga (by simp)).but g fun k hk e => by have := h.low k hk; have := hfl k e; omega, h.low, grown_more (grown_alloc h.g x) g fun k e => .inr (hfl k e), (h.all.kept ga (by simp)).but g fun k hk e => h.ne k hk e, fun k hk e => ?_⟩
  rcases hloc with e1 | e1
  · rw [e1] at e; exact h.ne k hk e
  · rw [e1] at e
    injection e with e
    have := (World.ownsRow.lt h.all k hk).2
    simp at e
    omega
end Go.Proofs.YteiiapnpdfgoaaaDoor
