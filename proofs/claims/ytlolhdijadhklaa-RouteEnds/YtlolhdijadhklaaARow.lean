/- Rows that are written: one element set, elements copied. -/
import Derived.Test.YtlolhdijadhklaaABase
import Derived.Laws.ResultCell
import Derived.Laws.IdiomCopy
import Derived.Lib.SmallJoins
namespace Go.Proofs.Ytlolhdijadhklaa
open Go.RowKit Atl
set_option linter.unusedVariables false
set_option maxRecDepth 10000

/-- Cells are set in a block: what it holds then. -/
theorem heap_set (g : Nat) (e : TypeId) (fz : Nat × Nat) : ∀ (vs : List Value) (o : Nat) (cur : Array Value) (w : World), w.heap[g]? = some (.cells cur e fz) → o + vs.length ≤ cur.size →
    ∃ cur', (w.setCells g o vs).heap[g]? = some (.cells cur' e fz) ∧ cur'.size = cur.size ∧ ∀ t, cur'[t]? = if o ≤ t ∧ t < o + vs.length then vs[t - o]? else cur[t]?
  | [], o, cur, w, h, hl => ⟨cur, h, rfl, fun t => by rw [if_neg (by simp only [List.length_nil]; omega)]⟩
  | v :: r, o, cur, w, h, hl => by
    simp only [List.length_cons] at hl
    have h1 : (w.setCell ⟨g, o, none⟩ v).heap[g]? = some (.cells (cur.setIfInBounds o v) e fz) := Joins.block_setCell h v
    obtain ⟨cur', h2, h3, h4⟩ := heap_set g e fz r (o + 1) (cur.setIfInBounds o v) _ h1 (by simp; omega)
    refine ⟨cur', h2, by rw [h3]; simp, fun t => ?_⟩
    rw [h4 t]
    by_cases h5 : o + 1 ≤ t ∧ t < o + 1 + r.length
    · rw [if_pos h5, if_pos (by simp only [List.length_cons]; omega), show t - o = (t - (o + 1)) + 1 by omega, List.getElem?_cons_succ]
    · rw [if_neg h5, Array.getElem?_setIfInBounds]
      by_cases h6 : o = t
      · subst h6
        rw [if_pos rfl, if_pos (by omega), if_pos (by simp only [List.length_cons]; omega), Nat.sub_self, List.getElem?_cons_zero]
      · rw [if_neg h6, if_neg (by simp only [List.length_cons]; omega)]
theorem grown_setCells (b : Nat) : ∀ (vs : List Value) (o : Nat) (w : World), w.grownBy (w.setCells b o vs) (some b)
  | [], _, w => grown_refl w _
  | v :: r, o, w => grown_more (grown_set w ⟨b, o, none⟩ v) (grown_setCells b r (o + 1) _) (fun _ e => .inl e)
theorem setCells_size (b : Nat) : ∀ (vs : List Value) (o : Nat) (w : World), (w.setCells b o vs).heap.size = w.heap.size
  | [], _, w => rfl
  | v :: r, o, w => by rw [World.setCells, setCells_size b r]; exact size_set _ _ _
namespace Elm
variable {α : Type} {E : Elm α}
/-- A block whose first cells are those of a list is a row of its own. -/
theorem own_of {w : World} {base g cap : Nat} {cur : Array Value} {l : List α} (hg : base ≤ g) (hh : w.heap[g]? = some (.cells cur E.el)) (h1 : l.length ≤ cap) (h2 : cap ≤ maxLen) (h3 : cur.size = cap * E.size) (hc : ∀ (t : Nat) (x : Value), (E.cells l)[t]? = some x → cur[t]? = some x) :
    E.Own w base (.slice (some ⟨g, 0, none⟩) l.length cap) l := by
  refine ⟨E.cells_len l, .inr ⟨g, cap, cur, rfl, hg, hh, h1, h2, h3, ?_⟩⟩
  have hle : l.length * E.size ≤ cur.size := by rw [h3]; exact Nat.mul_le_mul_right _ h1
  apply List.ext_getElem?
  intro t
  by_cases ht : t < l.length * E.size
  · obtain ⟨x, hx⟩ : ∃ x, (E.cells l)[t]? = some x := ⟨_, List.getElem?_eq_getElem (by rw [E.cells_len]; exact ht)⟩
    rw [hx, List.getElem?_take_of_lt ht]
    simpa using hc t x hx
  · rw [List.getElem?_take_eq_none (by omega), List.getElem?_eq_none (by rw [E.cells_len]; omega)]
/-- The cells of a list with one element put in between. -/
theorem cells_ins (l : List α) (i : Nat) (hi : i ≤ l.length) (x : α) (t : Nat) : (E.cells (l.take i ++ x :: l.drop i))[t]? = if t < i * E.size then (E.cells l)[t]? else if t < (i + 1) * E.size then (E.enc x)[t - i * E.size]? else (E.cells (l.drop i))[t - (i + 1) * E.size]? := by
  have e1 : (i + 1) * E.size = i * E.size + E.size := by rw [Nat.succ_mul]
  have hl : (E.cells (l.take i)).length = i * E.size := by rw [E.cells_len, List.length_take, Nat.min_eq_left hi]
  rw [cells_append, cells_cons]
  by_cases h1 : t < i * E.size
  · rw [if_pos h1, List.getElem?_append_left (by omega), cells_take, List.getElem?_take_of_lt h1]
  · rw [if_neg h1, List.getElem?_append_right (by omega), hl]
    by_cases h2 : t < (i + 1) * E.size
    · rw [if_pos h2, List.getElem?_append_left (by rw [E.len]; omega)]
    · rw [if_neg h2, List.getElem?_append_right (by rw [E.len]; omega), E.len, show t - i * E.size - E.size = t - (i + 1) * E.size by omega]
theorem cells_set (l : List α) (i : Nat) (hi : i < l.length) (x : α) (t : Nat) : (E.cells (l.set i x))[t]? = if i * E.size ≤ t ∧ t < i * E.size + E.size then (E.enc x)[t - i * E.size]? else (E.cells l)[t]? := by
  have e : l.set i x = l.take i ++ x :: l.drop (i + 1) := by rw [List.set_eq_take_append_cons_drop, if_pos hi]
  have hl : (E.cells (l.take i)).length = i * E.size := by rw [E.cells_len, List.length_take, Nat.min_eq_left (by omega)]
  have e1 : (i + 1) * E.size = i * E.size + E.size := by rw [Nat.succ_mul]
  rw [e, cells_append, cells_cons]
  by_cases h1 : t < i * E.size
  · rw [if_neg (by omega), List.getElem?_append_left (by omega), cells_take, List.getElem?_take_of_lt h1]
  · rw [List.getElem?_append_right (by omega), hl]
    by_cases h2 : t < i * E.size + E.size
    · rw [if_pos (by omega), List.getElem?_append_left (by rw [E.len]; omega)]
    · rw [if_neg (by omega), List.getElem?_append_right (by rw [E.len]; omega), E.len, cells_drop, List.getElem?_drop, show (i + 1) * E.size + (t - i * E.size - E.size) = t by omega]
/-- One element of a row of its own is written. -/
theorem Own.set {w : World} {base g n c : Nat} {l : List α} (h : E.Own w base (.slice (some ⟨g, 0, none⟩) n c) l) {i : Nat} (hi : i < l.length) (x : α) :
    w.there g (i * E.size) E.size ∧ E.Own (w.setCells g (i * E.size) (E.enc x)) base (.slice (some ⟨g, 0, none⟩) n c) (l.set i x) := by
  rcases h.2 with ⟨e, h0⟩ | ⟨g', cap, cur, e, hg, hh, h1, h2, h3, h4⟩
  · omega
  injection e with e1 e2 e3
  injection e1 with e1
  injection e1 with e1 _ _
  subst e1 e2 e3
  have hb : i * E.size + E.size ≤ cur.size := by rw [h3, ← Nat.succ_mul]; exact Nat.mul_le_mul_right _ (by omega)
  have cells : ∀ k, k < cur.size → (w.cell? ⟨g, k, none⟩).isSome = true ∧ w.frozen? ⟨g, k, none⟩ = false := fun k hk => by
    constructor
    · simp [World.cell?, hh, hk]
    · simp [World.frozen?, hh]
  refine ⟨fun j hj => cells _ (by omega), ?_⟩
  obtain ⟨cur', q1, q2, q3⟩ := heap_set g E.el (0, 0) (E.enc x) (i * E.size) cur w hh (by rw [E.len]; exact hb)
  have := own_of (E := E) (base := base) (l := l.set i x) hg q1 (by simpa using h1) h2 (by rw [q2, h3]) (fun t u hu => by
    rw [cells_set l i hi] at hu
    rw [q3 t, E.len]
    by_cases ht : i * E.size ≤ t ∧ t < i * E.size + E.size
    · rw [if_pos ht] at hu ⊢; exact hu
    · rw [if_neg ht] at hu ⊢
      have hlt : t < l.length * E.size := by have := (List.getElem?_eq_some_iff.1 hu).1; rwa [E.cells_len] at this
      rw [← h4, List.getElem?_take_of_lt hlt] at hu
      simpa using hu)
  rwa [List.length_set] at this
end Elm
/-- 'copy' of rows: all is read ahead of what is written. -/
theorem run_copy_rows {P : Program} (w : World) (dT sT ty elem : TypeId) (b o dLen dCap : Nat) (a : Addr) (sLen sCap sz : Nat) (cs : List Value)
    (hu : P.underlying dT = some (.slice elem)) (hs : (P.info? elem).map (·.size) = some sz) (hn : cs.length = Nat.min sLen dLen * sz)
    (hsrc : ∀ j v, cs[j]? = some v → w.cell? (a.add j) = some v) (hc : ∀ j, j < cs.length → (w.cell? ⟨b, o + j, none⟩).isSome = true) (hf : ∀ j, j < cs.length → w.frozen? ⟨b, o + j, none⟩ = false) (h1 : ∀ v ∈ cs, v.oneCell' = true) :
    (Builtin.copy_ #[dT, sT] ty #[.slice (some ⟨b, o, none⟩) dLen dCap, .slice (some a) sLen sCap]).run P w = .ok (goInt (Nat.min sLen dLen)) (w.setCells b o cs) := by
  have hl := run_loadCells_list (P := P) w a cs hsrc
  have hst := run_storeCells_cells (P := P) b o cs 0 w (by simpa using hc) (by simpa using hf) h1
  cases hq : P.info? elem with
  | none => simp [hq] at hs
  | some i =>
    have hi : i.size = sz := by simpa [hq] using hs
    rw [hn] at hl
    simp [Builtin.copy_, run_underlying hu, Builtin.lenOf, Builtin.firstCells, sizeOf, typeInfo, hq, hi, hl, hst]
theorem wp_copy_run (w : World) {P : Program} {o : Oper} {a : Act} {K : Act → World → Prop} {Q : Exit → Act → World → Prop} (d s : Operand) (t t' : TypeId)
    (ho : o.op = .call { callee := .builtin .copy, args := #[d, s], argTypes := #[t, t'] }) (v u : Value) (hd : a.eval d = v) (hs : a.eval s = u) {v' : Value} {w' : World}
    (hr : (Builtin.copy_ #[t, t'] o.type #[v, u]).run P w = .ok v' w') (h : K (a.put o.dst v') w') : o.wp P a w K Q := by
  unfold Oper.wp execOp
  simp only [ho, resolve, invoke, builtin, Sem.run_bind, Sem.run_pure, Result.andThen_ok, List.map_toArray, List.map_cons, List.map_nil, hd, hs, hr]
  exact h
theorem wpList_copy_run (w : World) {P : Program} {ops : Array Oper} {rest : List Oper} {o : Oper} {a : Act} {Q : Exit → Act → World → Prop} (hgd : o.guard = none) (d s : Operand) (t t' : TypeId)
    (ho : o.op = .call { callee := .builtin .copy, args := #[d, s], argTypes := #[t, t'] }) (v u : Value) (hd : a.eval d = v) (hs : a.eval s = u) {v' : Value} {w' : World}
    (hr : (Builtin.copy_ #[t, t'] o.type #[v, u]).run P w = .ok v' w') (h : wpList P ops Q rest (a.put o.dst v') w') : wpList P ops Q (o :: rest) a w :=
  wpList_plain hgd fun _ hK => wp_copy_run w d s t t' ho v u hd hs hr (hK _ _ h)
/-- A whole struct is stored: what is known of the world behind it. -/
theorem store_row {P : Program} {ops : Array Oper} {rest : List Oper} {d : Option Tmp} {ty ty' : TypeId} {x y : Operand} {ps : String} {af : Array Edge} {a : Act} {w : World} {Q : Exit → Act → World → Prop}
    (q o : Nat) (cells : Array Value) (hx : a.eval x = .pointer (some ⟨q, o, none⟩)) (hy : a.eval y = .agg cells)
    (ht : w.there q o cells.size) (hi : (P.info? ty).map (·.size) = some cells.size) (h1 : cells.all (·.oneCell') = true)
    (h : ∀ w2 : World, w2 = w.setCells q o cells.toList → wpList P ops Q rest (a.put d undef) w2) : wpList P ops Q (⟨d, .store ty x y, ty', ps, af, none⟩ :: rest) a w :=
  wpList_store_mid rfl ty x y rfl q o cells hx hy ht hi h1 (h _ rfl)
theorem res_row1 {P : Program} {fn : Func} {p : Tmp} {ty : TypeId} {w : World} {q : Nat} {cs : List Value} {tmps : Array Value} {d : TypeDesc} (h : fn.results = #[.cell p ty]) (hp : tmps.getD p undef = .pointer (some ⟨q, 0, none⟩)) (hr : w.rangeAt q 0 cs)
    (hu : P.underlying ty = some d) (hd : d.isRow = true) (hi : (P.info? ty).map (·.size) = some cs.length) : (results fn tmps).run P w = .ok (.agg cs.toArray) w := by
  have := run_loadVar_mid (P := P) w q 0 ty cs d hr hu hd hi
  have hp' : tmps[p]?.getD undef = .pointer (some ⟨q, 0, none⟩) := by simpa using hp
  simp [results, h, hp', asAddr, this]
theorem res_row2 {P : Program} {fn : Func} {p u : Tmp} {ty : TypeId} {w : World} {q : Nat} {cs : List Value} {tmps : Array Value} {d : TypeDesc} (h : fn.results = #[.cell p ty, .tmp u]) (hp : tmps.getD p undef = .pointer (some ⟨q, 0, none⟩)) (hr : w.rangeAt q 0 cs)
    (hu : P.underlying ty = some d) (hd : d.isRow = true) (hi : (P.info? ty).map (·.size) = some cs.length) : (results fn tmps).run P w = .ok (.tuple #[.agg cs.toArray, tmps.getD u undef]) w := by
  rw [results_cell_tmp h, hp]
  have := run_loadVar_mid (P := P) w q 0 ty cs d hr hu hd hi
  simp only [asAddr, Sem.run_pure, Result.andThen_ok, this]
/-- Cells of a block that may be written. -/
def Cs (w : World) (b : Nat) (cs : List Value) : Prop := w.rangeAt b 0 cs ∧ ∀ i, w.frozen? ⟨b, i, none⟩ = false
theorem Cs.kept {F : Nat → Prop} {w w' : World} {b : Nat} {cs : List Value} (h : Cs w b cs) (g : Chg F w w') (hF : ¬ F b) (hb : b < w.heap.size) : Cs w' b cs :=
  ⟨fun j v hv => g.cell (h.1 j v hv) hF, fun i => (g.frozen (a := ⟨b, i, none⟩) hb hF).trans (h.2 i)⟩
theorem Cs.grown {w w' : World} {b : Nat} {cs : List Value} (h : Cs w b cs) (g : w.grownBy w' none) (hb : b < w.heap.size) : Cs w' b cs := h.kept (F := fun _ => False) (Chg.of g (by simp)) id hb
theorem Cs.there {w : World} {b : Nat} {cs : List Value} (h : Cs w b cs) {n : Nat} (hn : n ≤ cs.length) : w.there b 0 n := fun j hj => by
  refine ⟨?_, h.2 (0 + j)⟩
  rw [h.1 j cs[j] (List.getElem?_eq_getElem (by omega))]
  rfl
theorem cs_new {w W : World} {C : Array Value} {t : TypeId} (g : (w.alloc (.cells C t)).grownBy W none) : Cs W w.heap.size C.toList :=
  ⟨fun j v hv => by rw [Nat.zero_add]; exact cell_kept g j v (by simpa using hv), fun i => frozen_kept g i⟩
theorem Cs.set {w : World} {b : Nat} {cs : List Value} (h : Cs w b cs) (i : Nat) (v : Value) (hi : i < cs.length) : Cs (w.setCell ⟨b, i, none⟩ v) b (cs.set i v) := by
  refine ⟨fun j u hj => ?_, fun k => by rw [World.frozen?_setCell]; exact h.2 k⟩
  rw [List.getElem?_set] at hj
  by_cases e : i = j
  · subst e
    rw [if_pos rfl, if_pos hi] at hj
    injection hj with hj
    subst hj
    rw [Nat.zero_add]
    exact set_same (by have := h.1 i cs[i] (List.getElem?_eq_getElem hi); rwa [Nat.zero_add] at this)
  · rw [if_neg e] at hj
    rw [set_other (by rw [Nat.zero_add]; intro k; injection k with _ k _; exact e k)]
    exact h.1 j u hj
theorem Cs.sets {w : World} {b : Nat} {cs : List Value} (h : Cs w b cs) (vs : List Value) (hv : vs.length = cs.length) : Cs (w.setCells b 0 vs) b vs :=
  ⟨World.rangeAt_setCells_same w b 0 vs (h.there (by omega)), fun k => by rw [World.frozen?_setCells]; exact h.2 k⟩
end Go.Proofs.Ytlolhdijadhklaa
