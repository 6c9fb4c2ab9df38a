/- A map in a box of one's own, its spans beside, and a box for the answer. -/
import Derived.Test.YtlolhdijadhklaaABox
namespace Go.Proofs.Ytlolhdijadhklaa
open Go.RowKit Atl
set_option linter.unusedVariables false
set_option maxRecDepth 10000

/-- One cell of one span of a row of one's own is written. -/
theorem own_cell {w : World} {base g n c : Nat} {l : List Sp} (h : eS.Own w base (.slice (some ⟨g, 0, none⟩) n c) l) {i : Nat} {x x' : Sp} (hi : l[i]? = some x) (j : Nat) (hj : j < 5) (v : Value) (he : sc x' = (sc x).set j v) :
    eS.Own (w.setCell ⟨g, i * 5 + j, none⟩ v) base (.slice (some ⟨g, 0, none⟩) n c) (l.set i x') := by
  have hl := (List.getElem?_eq_some_iff.1 hi).1
  rcases h.2 with ⟨e, h0⟩ | ⟨g', cap, cur, e, hg, hh, h1, h2, h3, h4⟩
  · omega
  injection e with e1 e2 e3
  injection e1 with e1
  injection e1 with e1 _ _
  subst e1 e2 e3
  have h3' : cur.size = c * 5 := h3
  obtain ⟨cur', q1, q2, q3⟩ := heap_set g eS.el (0, 0) [v] (i * 5 + j) cur w hh (by show _ + 1 ≤ _; omega)
  have := Elm.own_of (E := eS) (base := base) (l := l.set i x') hg q1 (by simpa using h1) h2 (by rw [q2, h3]) (fun t u hu => by
    rw [Elm.cells_set l i hl] at hu
    change (if i * 5 ≤ t ∧ t < i * 5 + 5 then _ else _) = _ at hu
    rw [q3 t]
    change (if i * 5 + j ≤ t ∧ t < i * 5 + j + 1 then _ else _) = _
    by_cases ht : t = i * 5 + j
    · rw [if_pos (by omega), ht, Nat.sub_self]
      rw [if_pos (by omega), ht] at hu
      change (sc x')[i * 5 + j - i * 5]? = _ at hu
      rw [he, show i * 5 + j - i * 5 = j by omega, List.getElem?_set, if_pos rfl, if_pos (show j < (sc x).length from hj)] at hu
      exact hu
    · rw [if_neg (by omega)]
      have old : (eS.cells l)[t]? = some u := by
        by_cases h5 : i * 5 ≤ t ∧ t < i * 5 + 5
        · rw [if_pos h5] at hu
          change (sc x')[t - i * 5]? = _ at hu
          rw [he, List.getElem?_set, if_neg (by omega)] at hu
          have k := Elm.cells_at eS hi (t - i * 5) (by show _ < 5; omega)
          rw [show i * eS.size + (t - i * 5) = t by show i * 5 + _ = t; omega] at k
          rw [k]
          exact hu
        · rw [if_neg h5] at hu
          exact hu
      have hlt : t < l.length * 5 := by have := (List.getElem?_eq_some_iff.1 old).1; rw [Elm.cells_len] at this; exact this
      rw [← h4, List.getElem?_take_of_lt (show t < l.length * eS.size from hlt)] at old
      simpa using old)
  rwa [List.length_set] at this
theorem set_chg {l : List Sp} {i : Nat} (hi : i < l.length) (x : Sp) : l.set i x = chgL l i (i + 1) [x] := by
  unfold chgL
  rw [List.set_eq_take_append_cons_drop, if_pos hi]
  simp
/-- The plan in a map's box is written. -/
theorem Cs.plan {W : World} {Q : Nat} {a : Am} {u : S3} (h : Cs W Q (ac a u)) (p : Pl) : Cs (W.setCells Q 3 (pc p)) Q (ac ⟨a.g, a.la, a.l, p⟩ u) := by
  have := (((((((h.set 3 (.int .i64 p.k) (by simp)).set 4 (.int .i64 p.ph) (by simp)).set 5 (.int .i64 p.sh) (by simp)).set 6 (.int .i64 p.ot) (by simp)).set 7 (.int .i64 p.gp) (by simp)).set 8 (.int .i64 p.pa) (by simp)).set 9 (.int .i64 p.ep) (by simp)).set 10 (.string p.key) (by simp)
  exact this
/-- A map M in the box Q, its spans a row of one's own from 'base' on, and the box R, which is for the answer. -/
def St (F : Nat → Prop) (w W : World) (Q R base : Nat) (M : Am) (u : S3) : Prop :=
  Cs W Q (ac M u) ∧ Cs W R zaa.toList ∧ eS.Own W base (.slice u.a u.n u.c) M.l ∧ (∀ k, (Value.slice u.a u.n u.c).ownBlock = some k → k ≠ Q ∧ k ≠ R) ∧ u.n = M.l.length ∧ M.l.length ≤ 4096 ∧ Chg F w W ∧ w.heap.size ≤ Q ∧ Q < R ∧ R < W.heap.size ∧ base ≤ W.heap.size ∧ (∀ k, (Value.slice u.a u.n u.c).ownBlock = some k → F k ∨ w.heap.size ≤ k)
theorem St.row {F : Nat → Prop} {w W : World} {Q R base : Nat} {M : Am} {u : S3} (h : St F w W Q R base M u) : W.rangeAt Q 0 (ac M u) := h.1.1
theorem St.own {F : Nat → Prop} {w W : World} {Q R base : Nat} {M : Am} {u : S3} (h : St F w W Q R base M u) : eS.Own W base (.slice u.a u.n u.c) M.l := h.2.2.1
theorem St.rat {F : Nat → Prop} {w W : World} {Q R base : Nat} {M : Am} {u : S3} (h : St F w W Q R base M u) : Rat W M u := ⟨h.2.2.1.rx, h.2.2.2.2.1, by have := h.2.2.2.2.2.1; omega⟩
theorem St.grown {F : Nat → Prop} {w W W' : World} {Q R base : Nat} {M : Am} {u : S3} (h : St F w W Q R base M u) (g : W.grownBy W' none) : St F w W' Q R base M u := by
  obtain ⟨h1, h2, h3, hk, h4, h5, h6, h7, h8, h9, hb, hf⟩ := h
  have := g.size
  exact ⟨h1.grown g (by omega), h2.grown g h9, h3.grown g, hk, h4, h5, h6.grown g (by simp), h7, h8, by omega, by omega, hf⟩
/-- Something was done to the box alone. -/
theorem St.box {F : Nat → Prop} {w W W' : World} {Q R base : Nat} {M M' : Am} {u : S3} (h : St F w W Q R base M u) (g : W.grownBy W' (some Q)) (hs : W'.heap.size = W.heap.size) (hc : Cs W' Q (ac M' u)) (hl : M'.l = M.l) : St F w W' Q R base M' u := by
  obtain ⟨h1, h2, h3, hk, h4, h5, h6, h7, h8, h9, hb, hf⟩ := h
  refine ⟨hc, h2.kept (Chg.of (F := fun k => k = Q) g (fun k e => by injection e with e; exact e.symm)) (by omega) h9, ?_, hk, by rw [hl]; exact h4, by rw [hl]; exact h5, h6.grown g (fun k e => .inr (by injection e with e; omega)), h7, h8, by rw [hs]; exact h9, by rw [hs]; exact hb, hf⟩
  rw [hl]
  exact h3.but g (fun k hq e => by have := (hk k hq).1; injection e with e; omega)
theorem St.plan {F : Nat → Prop} {w W : World} {Q R base : Nat} {M : Am} {u : S3} (h : St F w W Q R base M u) (p : Pl) : St F w (W.setCells Q 3 (pc p)) Q R base ⟨M.g, M.la, M.l, p⟩ u :=
  h.box (grown_setCells _ _ _ _) (setCells_size _ _ _ _) (h.1.plan p) rfl
theorem St.phase {F : Nat → Prop} {w W : World} {Q R base : Nat} {M : Am} {u : S3} (h : St F w W Q R base M u) (n : Int) : St F w (W.setCell ⟨Q, 4, none⟩ (.int .i64 n)) Q R base ⟨M.g, M.la, M.l, ⟨M.p.k, n, M.p.sh, M.p.ot, M.p.gp, M.p.pa, M.p.ep, M.p.key⟩⟩ u :=
  h.box (grown_set _ _ _) (size_set _ _ _) (h.1.set 4 (.int .i64 n) (by simp)) rfl
theorem St.last {F : Nat → Prop} {w W : World} {Q R base : Nat} {M : Am} {u : S3} (h : St F w W Q R base M u) (n : Int) : St F w (W.setCell ⟨Q, 1, none⟩ (.int .i64 n)) Q R base ⟨M.g, n, M.l, M.p⟩ u :=
  h.box (grown_set _ _ _) (size_set _ _ _) (h.1.set 1 (.int .i64 n) (by simp)) rfl
/-- One cell of one span is written. -/
theorem St.span {F : Nat → Prop} {w W : World} {Q R base : Nat} {M : Am} {u : S3} {g : Nat} (h : St F w W Q R base M u) (hu : u.a = some ⟨g, 0, none⟩) {i : Nat} {x x' : Sp} (hi : M.l[i]? = some x) (j : Nat) (hj : j < 5) (v : Value) (he : sc x' = (sc x).set j v) :
    St F w (W.setCell ⟨g, i * 5 + j, none⟩ v) Q R base ⟨M.g, M.la, M.l.set i x', M.p⟩ u := by
  obtain ⟨h1, h2, h3, hk, h4, h5, h6, h7, h8, h9, hb, hf⟩ := h
  obtain ⟨ua, un, uc⟩ := u
  simp only at hu h3 h4
  subst hu
  have hg := h3.lt g rfl
  have hq := hk g rfl
  have gg : W.grownBy (W.setCell ⟨g, i * 5 + j, none⟩ v) (some g) := grown_set _ _ _
  have cc := Chg.of (F := fun k => k = g) gg (fun k e => by injection e with e; exact e.symm)
  exact ⟨h1.kept cc (by omega) (by omega), h2.kept cc (by omega) h9, own_cell h3 hi j hj v he, hk, by simpa using h4, by simpa using h5, h6.grown gg (fun k e => by injection e with e; rw [← e]; exact hf g rfl), h7, h8, by rw [size_set]; exact h9, by rw [size_set]; exact hb, hf⟩
/-- Another row of one's own is laid into the map. -/
theorem St.lay {F : Nat → Prop} {w W : World} {Q R base : Nat} {M : Am} {u u' : S3} {W' : World} {l' : List Sp} (h : St F w W Q R base M u) (hg : W.grownBy W' (Value.slice u.a u.n u.c).ownBlock) (ho : eS.Own W' base (.slice u'.a u'.n u'.c) l') (hw : ∀ k, (Value.slice u'.a u'.n u'.c).ownBlock = some k → (Value.slice u.a u.n u.c).ownBlock = some k ∨ W.heap.size ≤ k) (hn : u'.n = l'.length) (hl : l'.length ≤ 4096) :
    St F w (W'.setCell ⟨Q, 2, none⟩ (.slice u'.a u'.n u'.c)) Q R base ⟨M.g, M.la, l', M.p⟩ u' := by
  obtain ⟨h1, h2, h3, hk, h4, h5, h6, h7, h8, h9, hb, hf⟩ := h
  have cc := Chg.of (F := fun k => (Value.slice u.a u.n u.c).ownBlock = some k) hg (fun k e => e)
  have gs : W'.grownBy (W'.setCell ⟨Q, 2, none⟩ (.slice u'.a u'.n u'.c)) (some Q) := grown_set _ _ _
  have hsz := hg.size
  have c1 : Cs W' Q (ac M u) := h1.kept cc (fun e => (hk Q e).1 rfl) (by omega)
  have c2 : Cs W' R zaa.toList := h2.kept cc (fun e => (hk R e).2 rfl) h9
  have nw : ∀ k, (Value.slice u'.a u'.n u'.c).ownBlock = some k → k ≠ Q ∧ k ≠ R := fun k e => by
    rcases hw k e with h | h
    · exact hk k h
    · exact ⟨by omega, by omega⟩
  refine ⟨c1.set 2 (.slice u'.a u'.n u'.c) (by simp), c2.kept (Chg.of (F := fun k => k = Q) gs (fun k e => by injection e with e; exact e.symm)) (by omega) (by omega), ho.but gs (fun k hq e => by have := (nw k hq).1; injection e with e; omega), nw, hn, hl, ?_, h7, h8, by rw [size_set]; omega, by rw [size_set]; omega, fun k e => by
    rcases hw k e with h | h
    · exact hf k h
    · exact .inr (by have := h6.size; omega)⟩
  exact (h6.grown hg (fun k e => hf k e)).grown gs (fun k e => .inr (by injection e with e; omega))
/-- What calls answer: a map, an error. -/
def Res (w : World) (M : Am) (n : Int) (e : Ending) (w' : World) : Prop := ∃ u : S3, e = .returned (.tuple #[av M u, .int .i64 n]) ∧ Rat w' M u ∧ w.grownBy w' none ∧ ∀ k, (Value.slice u.a u.n u.c).ownBlock = some k → w.heap.size ≤ k
theorem St.done {F : Nat → Prop} {w W w9 : World} {Q R base : Nat} {M : Am} {u : S3} (h : St F w W Q R base M u) (e : w9 = W.setCells R 0 (ac M u)) : w9.rangeAt R 0 (ac M u) ∧ eS.Own w9 base (.slice u.a u.n u.c) M.l ∧ Rat w9 M u ∧ Chg F w w9 := by
  obtain ⟨h1, h2, h3, hk, h4, h5, h6, h7, h8, h9, hb, hf⟩ := h
  have gs := grown_setCells R (ac M u) 0 W
  have o9 : eS.Own w9 base (.slice u.a u.n u.c) M.l := by rw [e]; exact h3.but gs (fun k hq e => by have := (hk k hq).2; injection e with e; omega)
  refine ⟨box_set h2 rfl e, o9, ⟨o9.rx, h4, by omega⟩, ?_⟩
  rw [e]
  exact h6.grown gs (fun k e => .inr (by injection e with e; omega))
theorem St.base_le {F : Nat → Prop} {w W : World} {Q R base : Nat} {M : Am} {u : S3} (h : St F w W Q R base M u) : base ≤ W.heap.size := h.2.2.2.2.2.2.2.2.2.2.1
/-- Where the spans lie that are answered. -/
theorem St.high {w W : World} {Q R base B : Nat} {M : Am} {u : S3} (h : St (fun k => B ≤ k) w W Q R base M u) (hB : w.heap.size ≤ B) : ∀ k, (Value.slice u.a u.n u.c).ownBlock = some k → w.heap.size ≤ k := fun k e => by
  rcases h.2.2.2.2.2.2.2.2.2.2.2 k e with h1 | h1
  · exact Nat.le_trans hB h1
  · exact h1
theorem chg_high {w W : World} {base : Nat} (h : Chg (fun k => base ≤ k) w W) (hb : w.heap.size ≤ base) : w.grownBy W none :=
  ⟨h.os, h.tape, h.output, h.size, fun k hk _ => h.block k hk (by omega)⟩
/-- The start: what 'own' answered is stored in the map's box. -/
theorem St.start {w W0 W2 : World} {Q R : Nat} {a M : Am} {u u' : S3} (hQ : Cs W2 Q (ac a u)) (hR : Cs W2 R zaa.toList) (ho : eS.Own W2 W0.heap.size (.slice u'.a u'.n u'.c) M.l) (hn : u'.n = M.l.length) (hl : M.l.length ≤ 4096) (g : w.grownBy W2 none) (q1 : w.heap.size ≤ Q) (q2 : Q < R) (q3 : R < W0.heap.size) (q4 : W0.heap.size ≤ W2.heap.size) :
    St (fun k => W0.heap.size ≤ k) w (W2.setCells Q 0 (ac M u')) Q R W0.heap.size M u' := by
  have gs := grown_setCells Q (ac M u') 0 W2
  refine ⟨hQ.sets _ rfl, hR.kept (Chg.of (F := fun k => k = Q) gs (fun k e => by injection e with e; exact e.symm)) (by omega) (by omega), ?_, fun k e => by have := ho.lt k e; omega, hn, hl, (Chg.of (F := fun k => W0.heap.size ≤ k) g (by simp)).grown gs (fun k e => .inr (by injection e with e; omega)), q1, q2, by rw [setCells_size]; omega, by rw [setCells_size]; omega, fun k e => .inl (ho.lt k e).1⟩
  exact ho.but gs (fun k hk e => by have := ho.lt k hk; injection e with e; omega)
end Go.Proofs.Ytlolhdijadhklaa
