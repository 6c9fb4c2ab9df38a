/- Maps of shards in memory: rows of spans, spans, plans and maps by value. -/
import Derived.Test.YtlolhdijadhklaaMRow
import Derived.Test.YtlolhdijadhklaaAMath
import Derived.Handy
import Derived.Carry
import Derived.Deep.RegionHeld3
import Derived.Deep.MidRow
import Derived.Deep.CutRange
import Derived.Deep.CutBlock
namespace Go.Proofs.Ytlolhdijadhklaa
open Go.RowKit Atl
set_option linter.unusedVariables false
set_option maxRecDepth 10000

/-- A slice's three parts. -/
structure S3 where
  a : Option Addr
  n : Nat
  c : Nat
def nil3 : S3 := ⟨none, 0, 0⟩
abbrev sc (x : Sp) : List Value := [.string x.fr, .string x.up, .int .i64 x.sh, .int .i64 x.ep, .int .i64 x.gr]
abbrev sa (x : Sp) : Array Value := #[.string x.fr, .string x.up, .int .i64 x.sh, .int .i64 x.ep, .int .i64 x.gr]
abbrev sv (x : Sp) : Value := .agg #[.string x.fr, .string x.up, .int .i64 x.sh, .int .i64 x.ep, .int .i64 x.gr]
abbrev pc (p : Pl) : List Value := [.int .i64 p.k, .int .i64 p.ph, .int .i64 p.sh, .int .i64 p.ot, .int .i64 p.gp, .int .i64 p.pa, .int .i64 p.ep, .string p.key]
abbrev pa (p : Pl) : Array Value := #[.int .i64 p.k, .int .i64 p.ph, .int .i64 p.sh, .int .i64 p.ot, .int .i64 p.gp, .int .i64 p.pa, .int .i64 p.ep, .string p.key]
abbrev pv (p : Pl) : Value := .agg #[.int .i64 p.k, .int .i64 p.ph, .int .i64 p.sh, .int .i64 p.ot, .int .i64 p.gp, .int .i64 p.pa, .int .i64 p.ep, .string p.key]
abbrev ac (a : Am) (u : S3) : List Value := [.int .i64 a.g, .int .i64 a.la, .slice u.a u.n u.c, .int .i64 a.p.k, .int .i64 a.p.ph, .int .i64 a.p.sh, .int .i64 a.p.ot, .int .i64 a.p.gp, .int .i64 a.p.pa, .int .i64 a.p.ep, .string a.p.key]
abbrev aa (a : Am) (u : S3) : Array Value := #[.int .i64 a.g, .int .i64 a.la, .slice u.a u.n u.c, .int .i64 a.p.k, .int .i64 a.p.ph, .int .i64 a.p.sh, .int .i64 a.p.ot, .int .i64 a.p.gp, .int .i64 a.p.pa, .int .i64 a.p.ep, .string a.p.key]
abbrev av (a : Am) (u : S3) : Value := .agg #[.int .i64 a.g, .int .i64 a.la, .slice u.a u.n u.c, .int .i64 a.p.k, .int .i64 a.p.ph, .int .i64 a.p.sh, .int .i64 a.p.ot, .int .i64 a.p.gp, .int .i64 a.p.pa, .int .i64 a.p.ep, .string a.p.key]
def eS : Elm Sp where
  el := 29
  sl := 22
  size := 5
  bytes := 56
  zero := .agg #[.string ⟨#[]⟩, .string ⟨#[]⟩, .int .i64 0, .int .i64 0, .int .i64 0]
  enc := fun x => sc x
  hu := Try.underlying22
  hi := by kernel_rfl
  hz := rfl
  hs := by decide
  len := fun _ => rfl
  one := by intro x v hv; simp at hv; rcases hv with rfl | rfl | rfl | rfl | rfl <;> rfl
  he := by kernel_rfl
  so := fun W => Try.sizeOf29 W
/-- A map's slice reads as its spans. -/
def Rat (w : World) (a : Am) (u : S3) : Prop := eS.Rx w (.slice u.a u.n u.c) a.l ∧ u.n = a.l.length ∧ a.l.length * 56 ≤ 140737488355328
theorem Rat.grown {w w' : World} {a : Am} {u : S3} (h : Rat w a u) (g : w.grownBy w' none) : Rat w' a u := ⟨h.1.grown g, h.2⟩
theorem Rat.kept {F : Nat → Prop} {w w' : World} {a : Am} {u : S3} (h : Rat w a u) (g : Chg F w w') (hF : a.l ≠ [] → ∀ k, (Value.slice u.a u.n u.c).ownBlock = some k → ¬ F k) : Rat w' a u := ⟨h.1.kept' g hF, h.2⟩
theorem rat_nil (w : World) : Rat w zA nil3 := ⟨.inl ⟨rfl, rfl⟩, rfl, by simp [zA]⟩
theorem Rat.as {w : World} {a b : Am} {u : S3} (h : Rat w a u) (e : b.l = a.l) : Rat w b u := by
  unfold Rat
  rw [e]
  exact h
/-- The i-th span's cells. -/
theorem range_at {w : World} {ad : Option Addr} {N c : Nat} {X : List Sp} {i : Nat} {x : Sp} (h : eS.Rx w (.slice ad N c) X) (hi : X[i]? = some x) : ∃ g o, ad = some ⟨g, o, none⟩ ∧ w.rangeAt g (o + i * 5) (sc x) := by
  obtain ⟨g, o, c, h1, h2⟩ := h.at_ hi
  injection h1 with h1 _ _
  exact ⟨g, o, h1, h2⟩
theorem range_in {w : World} {g o N c : Nat} {X : List Sp} {i : Nat} {x : Sp} (h : eS.Rx w (.slice (some ⟨g, o, none⟩) N c) X) (hi : X[i]? = some x) : w.rangeAt g (o + i * 5) (sc x) := by
  obtain ⟨g', o', h1, h2⟩ := range_at h hi
  injection h1 with h1
  injection h1 with h1 h3 _
  subst h1 h3
  exact h2
/-- A whole span, plan, map is loaded. -/
theorem load_s {ops : Array Oper} {rest : List Oper} {d : Option Tmp} {ty' : TypeId} {x : Operand} {ps : String} {af : Array Edge} {a : Act} {w : World} {Q : Exit → Act → World → Prop}
    (q o : Nat) (s : Sp) (hx : a.eval x = .pointer (some ⟨q, o, none⟩)) (hr : w.rangeAt q o (sc s))
    (h : wpList Try.prog ops Q rest (a.put d (sv s)) w) : wpList Try.prog ops Q (⟨d, .load 29 x, ty', ps, af, none⟩ :: rest) a w :=
  wpList_load_mid rfl 29 x rfl q o hx (sc s) _ hr Try.underlying29 rfl (by kernel_rfl) h
theorem load_p {ops : Array Oper} {rest : List Oper} {d : Option Tmp} {ty' : TypeId} {x : Operand} {ps : String} {af : Array Edge} {a : Act} {w : World} {Q : Exit → Act → World → Prop}
    (q o : Nat) (s : Pl) (hx : a.eval x = .pointer (some ⟨q, o, none⟩)) (hr : w.rangeAt q o (pc s))
    (h : wpList Try.prog ops Q rest (a.put d (pv s)) w) : wpList Try.prog ops Q (⟨d, .load 24 x, ty', ps, af, none⟩ :: rest) a w :=
  wpList_load_mid rfl 24 x rfl q o hx (pc s) _ hr Try.underlying24 rfl (by kernel_rfl) h
theorem load_a {ops : Array Oper} {rest : List Oper} {d : Option Tmp} {ty' : TypeId} {x : Operand} {ps : String} {af : Array Edge} {a : Act} {w : World} {Q : Exit → Act → World → Prop}
    (q o : Nat) (s : Am) (u : S3) (hx : a.eval x = .pointer (some ⟨q, o, none⟩)) (hr : w.rangeAt q o (ac s u))
    (h : wpList Try.prog ops Q rest (a.put d (av s u)) w) : wpList Try.prog ops Q (⟨d, .load 26 x, ty', ps, af, none⟩ :: rest) a w :=
  wpList_load_mid rfl 26 x rfl q o hx (ac s u) _ hr Try.underlying26 rfl (by kernel_rfl) h
theorem load_sg {ops : Array Oper} {rest : List Oper} {d : Option Tmp} {ty' : TypeId} {x : Operand} {ps : String} {af : Array Edge} {gd : Nat × Bool} {a : Act} {w : World} {Q : Exit → Act → World → Prop}
    (q o : Nat) (s : Sp) (hw : Region.wanted ⟨d, .load 29 x, ty', ps, af, some gd⟩ (yielded ops a.tmps) = true) (hx : a.eval x = .pointer (some ⟨q, o, none⟩)) (hr : w.rangeAt q o (sc s))
    (h : wpList Try.prog ops Q rest (a.put d (sv s)) w) : wpList Try.prog ops Q (⟨d, .load 29 x, ty', ps, af, some gd⟩ :: rest) a w := by
  have h0 : wpList Try.prog ops Q (⟨d, .load 29 x, ty', ps, af, none⟩ :: rest) a w := load_s q o s hx hr h
  unfold wpList at h0 ⊢
  rw [if_pos hw]
  have h1 : Region.wanted ⟨d, .load 29 x, ty', ps, af, none⟩ (yielded ops a.tmps) = true := rfl
  rw [if_pos h1] at h0
  exact h0
theorem load_pg {ops : Array Oper} {rest : List Oper} {d : Option Tmp} {ty' : TypeId} {x : Operand} {ps : String} {af : Array Edge} {gd : Nat × Bool} {a : Act} {w : World} {Q : Exit → Act → World → Prop}
    (q o : Nat) (s : Pl) (hw : Region.wanted ⟨d, .load 24 x, ty', ps, af, some gd⟩ (yielded ops a.tmps) = true) (hx : a.eval x = .pointer (some ⟨q, o, none⟩)) (hr : w.rangeAt q o (pc s))
    (h : wpList Try.prog ops Q rest (a.put d (pv s)) w) : wpList Try.prog ops Q (⟨d, .load 24 x, ty', ps, af, some gd⟩ :: rest) a w := by
  have h0 : wpList Try.prog ops Q (⟨d, .load 24 x, ty', ps, af, none⟩ :: rest) a w := load_p q o s hx hr h
  unfold wpList at h0 ⊢
  rw [if_pos hw]
  have h1 : Region.wanted ⟨d, .load 24 x, ty', ps, af, none⟩ (yielded ops a.tmps) = true := rfl
  rw [if_pos h1] at h0
  exact h0
theorem load_ag {ops : Array Oper} {rest : List Oper} {d : Option Tmp} {ty' : TypeId} {x : Operand} {ps : String} {af : Array Edge} {gd : Nat × Bool} {a : Act} {w : World} {Q : Exit → Act → World → Prop}
    (q o : Nat) (s : Am) (u : S3) (hw : Region.wanted ⟨d, .load 26 x, ty', ps, af, some gd⟩ (yielded ops a.tmps) = true) (hx : a.eval x = .pointer (some ⟨q, o, none⟩)) (hr : w.rangeAt q o (ac s u))
    (h : wpList Try.prog ops Q rest (a.put d (av s u)) w) : wpList Try.prog ops Q (⟨d, .load 26 x, ty', ps, af, some gd⟩ :: rest) a w := by
  have h0 : wpList Try.prog ops Q (⟨d, .load 26 x, ty', ps, af, none⟩ :: rest) a w := load_a q o s u hx hr h
  unfold wpList at h0 ⊢
  rw [if_pos hw]
  have h1 : Region.wanted ⟨d, .load 26 x, ty', ps, af, none⟩ (yielded ops a.tmps) = true := rfl
  rw [if_pos h1] at h0
  exact h0
theorem cells_s {w : World} {q o : Nat} {s : Sp} (h : w.rangeAt q o (sc s)) : w.cell? ⟨q, o, none⟩ = some (.string s.fr) ∧ w.cell? ⟨q, o + 1, none⟩ = some (.string s.up) ∧ w.cell? ⟨q, o + 2, none⟩ = some (.int .i64 s.sh) ∧ w.cell? ⟨q, o + 3, none⟩ = some (.int .i64 s.ep) ∧ w.cell? ⟨q, o + 4, none⟩ = some (.int .i64 s.gr) :=
  ⟨h 0 _ rfl, h 1 _ rfl, h 2 _ rfl, h 3 _ rfl, h 4 _ rfl⟩
theorem cells_p {w : World} {q o : Nat} {p : Pl} (h : w.rangeAt q o (pc p)) : w.cell? ⟨q, o, none⟩ = some (.int .i64 p.k) ∧ w.cell? ⟨q, o + 1, none⟩ = some (.int .i64 p.ph) ∧ w.cell? ⟨q, o + 2, none⟩ = some (.int .i64 p.sh) ∧ w.cell? ⟨q, o + 3, none⟩ = some (.int .i64 p.ot) ∧ w.cell? ⟨q, o + 4, none⟩ = some (.int .i64 p.gp) ∧ w.cell? ⟨q, o + 5, none⟩ = some (.int .i64 p.pa) ∧ w.cell? ⟨q, o + 6, none⟩ = some (.int .i64 p.ep) ∧ w.cell? ⟨q, o + 7, none⟩ = some (.string p.key) :=
  ⟨h 0 _ rfl, h 1 _ rfl, h 2 _ rfl, h 3 _ rfl, h 4 _ rfl, h 5 _ rfl, h 6 _ rfl, h 7 _ rfl⟩
theorem cells_a {w : World} {q : Nat} {a : Am} {u : S3} (h : w.rangeAt q 0 (ac a u)) : w.cell? ⟨q, 0, none⟩ = some (.int .i64 a.g) ∧ w.cell? ⟨q, 1, none⟩ = some (.int .i64 a.la) ∧ w.cell? ⟨q, 2, none⟩ = some (.slice u.a u.n u.c) ∧ w.cell? ⟨q, 3, none⟩ = some (.int .i64 a.p.k) ∧ w.cell? ⟨q, 4, none⟩ = some (.int .i64 a.p.ph) ∧ w.cell? ⟨q, 5, none⟩ = some (.int .i64 a.p.sh) ∧ w.cell? ⟨q, 6, none⟩ = some (.int .i64 a.p.ot) ∧ w.cell? ⟨q, 7, none⟩ = some (.int .i64 a.p.gp) ∧ w.cell? ⟨q, 8, none⟩ = some (.int .i64 a.p.pa) ∧ w.cell? ⟨q, 9, none⟩ = some (.int .i64 a.p.ep) ∧ w.cell? ⟨q, 10, none⟩ = some (.string a.p.key) :=
  ⟨h 0 _ rfl, h 1 _ rfl, h 2 _ rfl, h 3 _ rfl, h 4 _ rfl, h 5 _ rfl, h 6 _ rfl, h 7 _ rfl, h 8 _ rfl, h 9 _ rfl, h 10 _ rfl⟩
/-- A map's plan, inside the map. -/
theorem plan_in {w : World} {q : Nat} {a : Am} {u : S3} (h : w.rangeAt q 0 (ac a u)) : w.rangeAt q 3 (pc a.p) := by
  intro j v hj
  have := h (3 + j) v (by rw [Nat.add_comm]; exact hj)
  rwa [Nat.zero_add] at this
set_option maxRecDepth 100000 in
theorem eql_span (a b : Sp) (w : World) : (binOp .eql 29 (sv a) (sv b)).run Try.prog w = .ok (.bool (seq a b)) w := by
  cases h : seq a b with
  | true =>
    simp [seq] at h
    go_simp
    all_goals simp only [h]
  | false =>
    go_simp
    intro h1 h2 h3 h4 h5
    simp [seq, h1, h2, h3, h4, h5] at h
set_option maxRecDepth 100000 in
theorem neq_span (a b : Sp) (w : World) : (binOp .neq 29 (sv a) (sv b)).run Try.prog w = .ok (.bool (!seq a b)) w := by
  cases h : seq a b with
  | false =>
    go_simp
    intro h1 h2 h3 h4 h5
    simp [seq, h1, h2, h3, h4, h5] at h
  | true =>
    simp [seq] at h
    go_simp
    all_goals simp only [h]
set_option maxRecDepth 100000 in
theorem eql_plan (a b : Pl) (w : World) : (binOp .eql 24 (pv a) (pv b)).run Try.prog w = .ok (.bool (peq a b)) w := by
  cases h : peq a b with
  | true =>
    simp [peq] at h
    go_simp
    all_goals simp only [h]
  | false =>
    go_simp
    intro h1 h2 h3 h4 h5 h6 h7 h8
    simp [peq, h1, h2, h3, h4, h5, h6, h7, h8] at h
set_option maxRecDepth 100000 in
theorem neq_plan (a b : Pl) (w : World) : (binOp .neq 24 (pv a) (pv b)).run Try.prog w = .ok (.bool (!peq a b)) w := by
  cases h : peq a b with
  | false =>
    go_simp
    intro h1 h2 h3 h4 h5 h6 h7 h8
    simp [peq, h1, h2, h3, h4, h5, h6, h7, h8] at h
  | true =>
    simp [peq] at h
    go_simp
    all_goals simp only [h]
theorem gtr_is (x y : ByteArray) : lt y x = true ↔ Op.bytesLess x.toList y.toList = false ∧ ¬ x.toList = y.toList := by
  constructor
  · intro h
    exact ⟨lt_asymm h, fun e => by rw [toList_inj.1 e, lt_irrefl] at h; cases h⟩
  · rintro ⟨h1, h2⟩
    cases h : lt y x with
    | true => rfl
    | false => exact absurd (toList_inj.2 (lt_total h1 h)) h2
/-- 'x > y', as the walk says it. -/
theorem gtr_form (x y : ByteArray) : (!Op.bytesLess x.toList y.toList && !(x.toList == y.toList)) = lt y x := by
  rw [Bool.eq_iff_iff, gtr_is]
  simp
theorem tri (x y : ByteArray) : (lt y x = true ∧ Op.bytesLess x.toList y.toList = false ∧ (x.toList == y.toList) = false) ∨ (lt y x = false ∧ Op.bytesLess x.toList y.toList = true) ∨ (lt y x = false ∧ Op.bytesLess x.toList y.toList = false ∧ (x.toList == y.toList) = true) := by
  cases h : lt y x with
  | true =>
    have := (gtr_is x y).1 h
    exact .inl ⟨rfl, this.1, by simpa using this.2⟩
  | false =>
    cases h1 : Op.bytesLess x.toList y.toList with
    | true => exact .inr (.inl ⟨rfl, rfl⟩)
    | false => exact .inr (.inr ⟨rfl, rfl, by simpa using Classical.byContradiction fun h2 => by rw [(gtr_is x y).2 ⟨h1, h2⟩] at h; cases h⟩)
end Go.Proofs.Ytlolhdijadhklaa
