/- Rows of elements: a slice of its own, one that is read, what is appended, cut and looked up. -/
import Derived.Test.YtlolhdijadhklaaMBase
namespace Go.Proofs.Ytlolhdijadhklaa
open Go.RowKit
set_option linter.unusedVariables false

/-- How elements of a slice's type lie in memory. -/
structure Elm (α : Type) where
  el : TypeId
  sl : TypeId
  size : Nat
  bytes : Nat
  zero : Value
  enc : α → List Value
  hu : Try.prog.underlying sl = some (.slice el)
  hi : (Try.prog.info? el).map (fun i => (i.zero, i.size, i.bytes)) = some (some zero, size, bytes)
  hz : zero.cells.size = size
  hs : 0 < size
  len : ∀ x, (enc x).length = size
  one : ∀ x, ∀ v ∈ enc x, v.oneCell' = true
  he : Try.prog.elem sl = el
  so : ∀ W, (sizeOf el).run Try.prog W = .ok size W
namespace Elm
variable {α : Type} (E : Elm α)
def cells (l : List α) : List Value := l.flatMap E.enc
theorem cells_nil : E.cells [] = [] := rfl
theorem cells_cons (a : α) (l : List α) : E.cells (a :: l) = E.enc a ++ E.cells l := rfl
theorem cells_len : ∀ l : List α, (E.cells l).length = l.length * E.size
  | [] => by simp [cells]
  | a :: l => by rw [cells_cons, List.length_append, E.len, cells_len l, List.length_cons, Nat.succ_mul]; omega
theorem cells_append (l m : List α) : E.cells (l ++ m) = E.cells l ++ E.cells m := by simp [cells]
theorem cells_one (l : List α) : ∀ v ∈ E.cells l, v.oneCell' = true := by
  intro v hv
  obtain ⟨a, _, ha⟩ := List.mem_flatMap.1 hv
  exact E.one a v ha
theorem cells_take : ∀ (l : List α) (k : Nat), E.cells (l.take k) = (E.cells l).take (k * E.size)
  | [], k => by simp [cells]
  | a :: l, 0 => by simp [cells]
  | a :: l, k + 1 => by
    have h1 : (E.enc a).take (k * E.size + E.size) = E.enc a := List.take_of_length_le (by rw [E.len]; omega)
    rw [List.take_succ_cons, cells_cons, cells_cons, Nat.succ_mul, List.take_append, h1, E.len, cells_take l k, Nat.add_sub_cancel]
theorem cells_drop : ∀ (l : List α) (k : Nat), E.cells (l.drop k) = (E.cells l).drop (k * E.size)
  | [], k => by simp [cells]
  | a :: l, 0 => by simp
  | a :: l, k + 1 => by
    have h1 : (E.enc a).drop (k * E.size + E.size) = [] := List.drop_of_length_le (by rw [E.len]; omega)
    rw [List.drop_succ_cons, cells_cons, Nat.succ_mul, List.drop_append, h1, E.len, cells_drop l k, Nat.add_sub_cancel, List.nil_append]
theorem cells_at {l : List α} {i : Nat} {x : α} (h : l[i]? = some x) (j : Nat) (hj : j < E.size) : (E.cells l)[i * E.size + j]? = (E.enc x)[j]? := by
  have h1 : E.cells (l.drop i) = E.enc x ++ E.cells (l.drop (i + 1)) := by
    rw [← cells_cons, List.drop_eq_getElem_cons (List.getElem?_eq_some_iff.1 h).1, (List.getElem?_eq_some_iff.1 h).2]
  rw [cells_drop] at h1
  have h2 := congrArg (fun m : List Value => m[j]?) h1
  simp only [List.getElem?_drop] at h2
  rw [h2, List.getElem?_append_left (by rw [E.len]; exact hj)]
/-- The slice v is a row of its own, from block 'base' on. -/
def Own (w : World) (base : Nat) (v : Value) (l : List α) : Prop := w.ownsRow base E.el E.size v l.length (E.cells l)
/-- The slice v reads as l. -/
def Rx (w : World) (v : Value) (l : List α) : Prop := (v = .slice none 0 0 ∧ l = []) ∨ ∃ a c, v = .slice (some a) l.length c ∧ (l = [] ∨ a.spot = none) ∧ ∀ t x, (E.cells l)[t]? = some x → w.cell? (a.add t) = some x
variable {E}
theorem form {w : World} {base : Nat} {v : Value} {l : List α} (h : E.Own w base v l) : ∃ ad c, v = .slice ad l.length c := by
  rcases h.2 with ⟨e, h0⟩ | ⟨g, cap, cur, e, _⟩
  · exact ⟨_, _, by rw [h0]; exact e⟩
  · exact ⟨_, _, e⟩
theorem Own.len {w : World} {base : Nat} {ad : Option Addr} {n c : Nat} {l : List α} (h : E.Own w base (.slice ad n c) l) : n = l.length := by
  rcases h.2 with ⟨e, h0⟩ | ⟨g, cap, cur, e, _⟩
  · injection e with _ e _; omega
  · injection e
theorem nil (w : World) (base : Nat) : E.Own w base (.slice none 0 0) [] := World.ownsRow_nil _ _ _ _
theorem Own.low {w : World} {base base' : Nat} {v : Value} {l : List α} (h : E.Own w base v l) (hb : base' ≤ base) : E.Own w base' v l := owns_low h hb
theorem Own.kept {F : Nat → Prop} {w w' : World} {base : Nat} {v : Value} {l : List α} (h : E.Own w base v l) (g : Chg F w w') (hF : ∀ k, v.ownBlock = some k → ¬ F k) : E.Own w' base v l := g.owns h hF
theorem Own.grown {w w' : World} {base : Nat} {v : Value} {l : List α} (h : E.Own w base v l) (g : w.grownBy w' none) : E.Own w' base v l := h.kept (F := fun _ => False) (Chg.of g (by simp)) (fun _ _ => id)
theorem Own.but {w w' : World} {base : Nat} {v : Value} {l : List α} {row : Option Nat} (h : E.Own w base v l) (g : w.grownBy w' row) (hne : ∀ k, v.ownBlock = some k → row ≠ some k) : E.Own w' base v l := kept_ne h g hne
theorem Own.lt {w : World} {base : Nat} {v : Value} {l : List α} (h : E.Own w base v l) : ∀ k, v.ownBlock = some k → base ≤ k ∧ k < w.heap.size := World.ownsRow.lt h
theorem Own.rx {w : World} {base : Nat} {v : Value} {l : List α} (h : E.Own w base v l) : E.Rx w v l := by
  rcases h.2 with ⟨e, h0⟩ | ⟨g, cap, cur, e, hg, hh, h1, h2, h3, h4⟩
  · exact .inl ⟨e, List.eq_nil_of_length_eq_zero h0⟩
  · exact .inr ⟨⟨g, 0, none⟩, cap, e, .inr rfl, fun t x hx => World.ownsRow.cells h (g := g) (by rw [e]; rfl) t x hx⟩
theorem Rx.form {w : World} {v : Value} {l : List α} (h : E.Rx w v l) : ∃ ad c, v = .slice ad l.length c := by
  rcases h with ⟨e, rfl⟩ | ⟨a, c, e, _⟩
  · exact ⟨_, _, e⟩
  · exact ⟨_, _, e⟩
theorem Rx.kept {F : Nat → Prop} {w w' : World} {v : Value} {l : List α} (h : E.Rx w v l) (g : Chg F w w') (hF : ∀ k, v.ownBlock = some k → ¬ F k) : E.Rx w' v l := by
  rcases h with h | ⟨a, c, rfl, hs, h1⟩
  · exact .inl h
  · refine .inr ⟨a, c, rfl, hs, fun t x hx => g.cell (h1 t x hx) ?_⟩
    have : (a.add t).block = a.block := by unfold Addr.add; split <;> rfl
    rw [this]
    exact hF _ rfl
theorem Rx.kept' {F : Nat → Prop} {w w' : World} {v : Value} {l : List α} (h : E.Rx w v l) (g : Chg F w w') (hF : l ≠ [] → ∀ k, v.ownBlock = some k → ¬ F k) : E.Rx w' v l := by
  by_cases hl : l = []
  · subst hl
    rcases h with h | ⟨a, c, e, _, _⟩
    · exact .inl h
    · exact .inr ⟨a, c, e, .inl rfl, fun t x hx => by simp [cells] at hx⟩
  · exact h.kept g (hF hl)
/-- Where the cells lie that are read. -/
theorem Rx.lt {w : World} {v : Value} {l : List α} (h : E.Rx w v l) (hl : l ≠ []) : ∀ k, v.ownBlock = some k → k < w.heap.size := by
  intro k hk
  rcases h with ⟨_, e⟩ | ⟨a, c, rfl, _, h1⟩
  · exact absurd e hl
  · obtain ⟨x, m, rfl⟩ := List.exists_cons_of_ne_nil hl
    have hs := E.hs
    have hlen := E.len x
    obtain ⟨u, hu⟩ : ∃ u, (E.cells (x :: m))[0]? = some u := ⟨_, List.getElem?_eq_getElem (by rw [cells_cons, List.length_append]; omega)⟩
    have h2 := World.block_lt_of_cell? w _ (h1 0 u hu)
    have : (a.add 0).block = a.block := by unfold Addr.add; split <;> rfl
    rw [this] at h2
    injection hk with hk
    omega
theorem Rx.below {w w' : World} {v : Value} {l : List α} (h : E.Rx w v l) (g : Below w.heap.size w w') : E.Rx w' v l := by
  rcases h with h | ⟨a, c, rfl, hs, h1⟩
  · exact .inl h
  · exact .inr ⟨a, c, rfl, hs, fun t x hx => (g.cell (World.block_lt_of_cell? w _ (h1 t x hx))).trans (h1 t x hx)⟩
theorem Rx.grown {w w' : World} {v : Value} {l : List α} (h : E.Rx w v l) (g : w.grownBy w' none) : E.Rx w' v l := h.kept (F := fun _ => False) (Chg.of g (by simp)) (fun _ _ => id)
/-- A new row. -/
theorem made (w : World) (cur : Array Value) (cap : Nat) (n : Nat) (hn : n = w.heap.size) (hm : cap ≤ maxLen) (hc : cur.size = cap * E.size) : E.Own (w.alloc (.cells cur E.el)) n (.slice (some ⟨n, 0, none⟩) 0 cap) [] := by
  subst hn
  exact World.ownsRow_made w cur cap (Nat.le_refl _) hm hc
/-- 'append(v, x...)'. -/
theorem run_append {w : World} {base : Nat} {V X : Value} {l0 l : List α} (hown : E.Own w base V l0) (hX : E.Rx w X l) (hb : l0.length + l.length ≤ 4611686018427387904) (hby : (l0.length + l.length) * E.bytes ≤ 140737488355328) (hbase : base ≤ w.heap.size) (ty : TypeId) :
    ∃ v' w', (Builtin.append_ #[E.sl, E.sl] ty #[V, X]).run Try.prog w = .ok v' w' ∧ E.Own w' base v' (l0 ++ l) ∧ w.grownBy w' V.ownBlock ∧ (v'.ownBlock = V.ownBlock ∨ v'.ownBlock = some w.heap.size) := by
  obtain ⟨ii, hi, hz0, hz1, hz2⟩ := info_parts E.hi
  rcases hX with ⟨rfl, rfl⟩ | ⟨a, c, rfl, hs, hc⟩
  · refine ⟨V, w, run_append_owned_none (P := Try.prog) (w := w) base E.sl ty E.el ii E.size E.hu hi V l0.length (E.cells l0) hown, by rw [List.append_nil]; exact hown, grown_refl _ _, .inl rfl⟩
  · obtain ⟨v', w', hr, h2, h3, h4, h5⟩ := run_append_own_at (P := Try.prog) w base E.sl ty E.el ii E.zero E.size E.bytes E.hu hi hz0 hz1 hz2 E.hz E.hs V l0.length (E.cells l0) hown a l.length c (E.cells l) (E.cells_len l) hc (E.cells_one l) (by unfold maxLen; omega) hby hbase
    exact ⟨v', w', hr, by unfold Own; rw [cells_append, List.length_append]; exact h2, h3, h5⟩
theorem wp_append {w : World} {o : Oper} {a : Act} {K : Act → World → Prop} {Q : Exit → Act → World → Prop} (s x : Operand)
    (ho : o.op = .call { callee := .builtin .append, args := #[s, x], argTypes := #[E.sl, E.sl] }) (base : Nat) (V : Value) (l0 : List α) (hs : a.eval s = V) (hown : E.Own w base V l0) (X : Value) (l : List α) (hx : a.eval x = X) (hX : E.Rx w X l)
    (hb : l0.length + l.length ≤ 4611686018427387904) (hby : (l0.length + l.length) * E.bytes ≤ 140737488355328) (hbase : base ≤ w.heap.size)
    (h : ∀ ad n c w', E.Own w' base (.slice ad n c) (l0 ++ l) → w.grownBy w' V.ownBlock → ((Value.slice ad n c).ownBlock = V.ownBlock ∨ (Value.slice ad n c).ownBlock = some w.heap.size) → K (a.put o.dst (.slice ad n c)) w') : o.wp Try.prog a w K Q := by
  obtain ⟨v', w', hr, h2, h3, h5⟩ := run_append hown hX hb hby hbase o.type
  unfold Oper.wp execOp
  simp only [ho, resolve, invoke, builtin, Sem.run_bind, Sem.run_pure, Result.andThen_ok, List.map_toArray, List.map_cons, List.map_nil, hs, hx, hr]
  obtain ⟨ad, c, rfl⟩ := form h2
  exact h ad _ c w' h2 h3 h5
theorem wpList_append {w : World} {ops : Array Oper} {rest : List Oper} {o : Oper} {a : Act} {Q : Exit → Act → World → Prop} (hgd : o.guard = none) (s x : Operand)
    (ho : o.op = .call { callee := .builtin .append, args := #[s, x], argTypes := #[E.sl, E.sl] }) (base : Nat) (V : Value) (l0 : List α) (hs : a.eval s = V) (hown : E.Own w base V l0) (X : Value) (l : List α) (hx : a.eval x = X) (hX : E.Rx w X l)
    (hb : l0.length + l.length ≤ 4611686018427387904) (hby : (l0.length + l.length) * E.bytes ≤ 140737488355328) (hbase : base ≤ w.heap.size)
    (h : ∀ ad n c w', E.Own w' base (.slice ad n c) (l0 ++ l) → w.grownBy w' V.ownBlock → ((Value.slice ad n c).ownBlock = V.ownBlock ∨ (Value.slice ad n c).ownBlock = some w.heap.size) → wpList Try.prog ops Q rest (a.put o.dst (.slice ad n c)) w') : wpList Try.prog ops Q (o :: rest) a w :=
  wpList_plain hgd fun K hK => wp_append s x ho base V l0 hs hown X l hx hX hb hby hbase fun ad n c w' h1 h2 h3 => hK _ _ (h ad n c w' h1 h2 h3)
/-- One new element, in a row of its own: it reads as that. -/
theorem rx_one {w : World} {q : Nat} {x : α} (h : ∀ j u, (E.enc x)[j]? = some u → w.cell? ⟨q, j, none⟩ = some u) : E.Rx w (.slice (some ⟨q, 0, none⟩) 1 1) [x] := by
  refine .inr ⟨⟨q, 0, none⟩, 1, rfl, .inr rfl, fun t u hu => ?_⟩
  rw [Addr.add_lit, Nat.zero_add]
  rw [cells_cons, cells_nil, List.append_nil] at hu
  exact h t u hu
/-- 'v[:k]'. -/
theorem upto {w : World} {base : Nat} {v : Value} {L : List α} (h : E.Own w base v L) {k : Nat} (hk : k ≤ L.length) :
    ∃ ad c, (∀ W, (Instr.sliceAt E.sl v none (some (.int .i64 (k : Int))) none).run Try.prog W = .ok (.slice ad k c) W) ∧ E.Own w base (.slice ad k c) (L.take k) ∧ (Value.slice ad k c).ownBlock = v.ownBlock := by
  have ht : Try.prog.underlying E.sl = some (.slice (Try.prog.elem E.sl)) := by rw [E.he]; exact E.hu
  have run : ∀ a n c W, k ≤ c → (Instr.sliceAt E.sl (.slice a n c) none (some (.int .i64 (k : Int))) none).run Try.prog W = .ok (sliced a 0 k c E.size) W := fun a n c W hn => by
    rw [run_sliceAt_slice W E.sl _ _ _ _ ht, run_slice_h W E.sl a n c ht .i64 (k : Int) (by omega) (by omega), E.he, E.so W]
    show Result.ok (sliced a 0 (k : Int).toNat c E.size) W = _
    rw [Int.toNat_natCast]
  have hlen : (L.take k).length = k := by rw [List.length_take]; omega
  rcases h.2 with ⟨e, h0⟩ | ⟨g, cap, cur, e, hg, hh, h1, h2, h3, h4⟩
  · have hL : L = [] := List.eq_nil_of_length_eq_zero h0
    subst hL
    have hk0 : k = 0 := by simpa using hk
    subst hk0
    refine ⟨none, 0, fun W => ?_, nil _ _, by rw [e]⟩
    rw [e, run none 0 0 W (by omega)]
    rfl
  · refine ⟨some ⟨g, 0, none⟩, cap, fun W => ?_, ⟨by rw [cells_len], .inr ⟨g, cap, cur, by rw [hlen], hg, hh, by rw [hlen]; omega, h2, h3, ?_⟩⟩, by rw [e]; rfl⟩
    · rw [e, run _ _ _ W (by omega)]
      unfold sliced
      by_cases hc : cap = 0
      · rw [if_pos hc]; rfl
      · rw [if_neg hc]
        show Result.ok (Value.slice (some ((⟨g, 0, none⟩ : Addr).add (0 * E.size))) _ _) W = _
        rw [Addr.add_lit, Nat.zero_mul]
        rfl
    · rw [hlen, cells_take, ← h4, List.take_take, Nat.min_eq_left (Nat.mul_le_mul_right _ hk)]
/-- Where the i-th element lies. -/
theorem Own.at_ {w : World} {base : Nat} {v : Value} {l : List α} (h : E.Own w base v l) {i : Nat} {x : α} (hi : l[i]? = some x) :
    ∃ g c, v = .slice (some ⟨g, 0, none⟩) l.length c ∧ (∀ j u, (E.enc x)[j]? = some u → w.cell? ⟨g, i * E.size + j, none⟩ = some u) ∧ ∀ j, w.frozen? ⟨g, j, none⟩ = false := by
  have hlt := (List.getElem?_eq_some_iff.1 hi).1
  rcases h.2 with ⟨e, h0⟩ | ⟨g, cap, cur, e, hg, hh, h1, h2, h3, h4⟩
  · omega
  · refine ⟨g, cap, e, fun j u hu => ?_, fun j => by simp [World.frozen?, hh]⟩
    have hj : j < E.size := by have := (List.getElem?_eq_some_iff.1 hu).1; rw [E.len] at this; exact this
    have := World.ownsRow.cells h (g := g) (by rw [e]; rfl) (i * E.size + j) u (by rw [cells_at E hi j hj]; exact hu)
    rwa [Addr.add_lit, Nat.zero_add] at this
theorem Rx.at_ {w : World} {v : Value} {l : List α} (h : E.Rx w v l) {i : Nat} {x : α} (hi : l[i]? = some x) :
    ∃ g o c, v = .slice (some ⟨g, o, none⟩) l.length c ∧ (∀ j u, (E.enc x)[j]? = some u → w.cell? ⟨g, o + i * E.size + j, none⟩ = some u) := by
  have hlt := (List.getElem?_eq_some_iff.1 hi).1
  rcases h with ⟨_, rfl⟩ | ⟨⟨g, o, sp⟩, c, e, hs, hc⟩
  · simp at hlt
  · rcases hs with rfl | hs
    · simp at hlt
    · simp at hs
      subst hs
      refine ⟨g, o, c, e, fun j u hu => ?_⟩
      have hj : j < E.size := by have := (List.getElem?_eq_some_iff.1 hu).1; rw [E.len] at this; exact this
      have := hc (i * E.size + j) u (by rw [cells_at E hi j hj]; exact hu)
      rwa [Addr.add_lit, ← Nat.add_assoc] at this
/-- 'v[i]'s place. -/
theorem run_at {W : World} {g o n c i : Nat} (hi : i < n) (hn : n ≤ 9223372036854775807) : (Instr.indexAt E.sl (.slice (some ⟨g, o, none⟩) n c) (.int .i64 (i : Int))).run Try.prog W = .ok (.pointer (some ⟨g, o + i * E.size, none⟩)) W := by
  have ht : Try.prog.underlying E.sl = some (.slice (Try.prog.elem E.sl)) := by rw [E.he]; exact E.hu
  rw [run_indexAt_slice (P := Try.prog) W E.sl ⟨g, o, none⟩ n c .i64 (i : Int) ht, if_pos ⟨by omega, by omega⟩, E.he, E.so W]
  show Result.ok (Value.pointer (some ((⟨g, o, none⟩ : Addr).add ((i : Int).toNat * E.size)))) W = _
  rw [Addr.add_lit, Int.toNat_natCast]
end Elm
end Go.Proofs.Ytlolhdijadhklaa
