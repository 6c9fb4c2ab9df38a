/- Ways in memory: a client's way by value. -/
import Derived.Test.YtlolhdijadhklaaAClone
namespace Go.Proofs.Ytlolhdijadhklaa
open Go.RowKit Atl
set_option linter.unusedVariables false
set_option maxRecDepth 10000

/-- A way: Nodes, Name, the Map with its slice, Fetch, Node, Left, Done, the Result's Err and Time, and its jobs' slice. -/
structure Wy where
  n : Int
  nm : ByteArray
  m : Am
  u : S3
  f : Bool
  nd : Int
  lf : Int
  d : Bool
  er : Int
  tm : Int
  j : S3
abbrev rc (r : Wy) : List Value := [.int .i64 r.n, .string r.nm, .int .i64 r.m.g, .int .i64 r.m.la, .slice r.u.a r.u.n r.u.c, .int .i64 r.m.p.k, .int .i64 r.m.p.ph, .int .i64 r.m.p.sh, .int .i64 r.m.p.ot, .int .i64 r.m.p.gp, .int .i64 r.m.p.pa, .int .i64 r.m.p.ep, .string r.m.p.key, .bool r.f, .int .i64 r.nd, .int .i64 r.lf, .bool r.d, .int .i64 r.er, .int .i64 r.tm, .slice r.j.a r.j.n r.j.c]
abbrev ra (r : Wy) : Array Value := #[.int .i64 r.n, .string r.nm, .int .i64 r.m.g, .int .i64 r.m.la, .slice r.u.a r.u.n r.u.c, .int .i64 r.m.p.k, .int .i64 r.m.p.ph, .int .i64 r.m.p.sh, .int .i64 r.m.p.ot, .int .i64 r.m.p.gp, .int .i64 r.m.p.pa, .int .i64 r.m.p.ep, .string r.m.p.key, .bool r.f, .int .i64 r.nd, .int .i64 r.lf, .bool r.d, .int .i64 r.er, .int .i64 r.tm, .slice r.j.a r.j.n r.j.c]
abbrev rv (r : Wy) : Value := .agg #[.int .i64 r.n, .string r.nm, .int .i64 r.m.g, .int .i64 r.m.la, .slice r.u.a r.u.n r.u.c, .int .i64 r.m.p.k, .int .i64 r.m.p.ph, .int .i64 r.m.p.sh, .int .i64 r.m.p.ot, .int .i64 r.m.p.gp, .int .i64 r.m.p.pa, .int .i64 r.m.p.ep, .string r.m.p.key, .bool r.f, .int .i64 r.nd, .int .i64 r.lf, .bool r.d, .int .i64 r.er, .int .i64 r.tm, .slice r.j.a r.j.n r.j.c]
def zW : Wy := ⟨0, ⟨#[]⟩, zA, nil3, false, 0, 0, false, 0, 0, nil3⟩
abbrev zra : Array Value := #[.int .i64 0, .string ⟨#[]⟩, .int .i64 0, .int .i64 0, .slice none 0 0, .int .i64 0, .int .i64 0, .int .i64 0, .int .i64 0, .int .i64 0, .int .i64 0, .int .i64 0, .string ⟨#[]⟩, .bool false, .int .i64 0, .int .i64 0, .bool false, .int .i64 0, .int .i64 0, .slice none 0 0]
/-- A whole way, a map is loaded (the operation is told by equations, so that it fails at once where it doesn't fit). -/
theorem load_r {ops : Array Oper} {rest : List Oper} {op : Oper} {x : Operand} {a : Act} {w : World} {Q : Exit → Act → World → Prop} (hgd : op.guard = none) (ho : op.op = .load 60 x)
    (q o : Nat) (r : Wy) (hx : a.eval x = .pointer (some ⟨q, o, none⟩)) (hr : w.rangeAt q o (rc r))
    (h : wpList Try.prog ops Q rest (a.put op.dst (rv r)) w) : wpList Try.prog ops Q (op :: rest) a w :=
  wpList_load_mid hgd 60 x ho q o hx (rc r) _ hr Try.underlying60 rfl (by kernel_rfl) h
theorem ld_a {ops : Array Oper} {rest : List Oper} {op : Oper} {x : Operand} {a : Act} {w : World} {Q : Exit → Act → World → Prop} (hgd : op.guard = none) (ho : op.op = .load 26 x)
    (q o : Nat) (s : Am) (u : S3) (hx : a.eval x = .pointer (some ⟨q, o, none⟩)) (hr : w.rangeAt q o (ac s u))
    (h : wpList Try.prog ops Q rest (a.put op.dst (av s u)) w) : wpList Try.prog ops Q (op :: rest) a w :=
  wpList_load_mid hgd 26 x ho q o hx (ac s u) _ hr Try.underlying26 rfl (by kernel_rfl) h
theorem wanted_free {ops : Array Oper} {rest : List Oper} {d : Option Tmp} {p : Op} {ty' : TypeId} {ps : String} {af : Array Edge} {gd : Nat × Bool} {a : Act} {w : World} {Q : Exit → Act → World → Prop}
    (hw : Region.wanted ⟨d, p, ty', ps, af, some gd⟩ (yielded ops a.tmps) = true) (h0 : wpList Try.prog ops Q (⟨d, p, ty', ps, af, none⟩ :: rest) a w) : wpList Try.prog ops Q (⟨d, p, ty', ps, af, some gd⟩ :: rest) a w := by
  unfold wpList at h0 ⊢
  rw [if_pos hw]
  have h1 : Region.wanted ⟨d, p, ty', ps, af, none⟩ (yielded ops a.tmps) = true := rfl
  rw [if_pos h1] at h0
  exact h0
theorem load_rg {ops : Array Oper} {rest : List Oper} {op : Oper} {x : Operand} {gd : Nat × Bool} {a : Act} {w : World} {Q : Exit → Act → World → Prop} (hgd : op.guard = some gd) (ho : op.op = .load 60 x)
    (q o : Nat) (r : Wy) (hw : Region.wanted op (yielded ops a.tmps) = true) (hx : a.eval x = .pointer (some ⟨q, o, none⟩)) (hr : w.rangeAt q o (rc r))
    (h : wpList Try.prog ops Q rest (a.put op.dst (rv r)) w) : wpList Try.prog ops Q (op :: rest) a w := by
  obtain ⟨d, p, t, ps, af, g⟩ := op
  simp only at hgd ho
  subst hgd ho
  exact wanted_free hw (load_r rfl rfl q o r hx hr h)
theorem ld_ag {ops : Array Oper} {rest : List Oper} {op : Oper} {x : Operand} {gd : Nat × Bool} {a : Act} {w : World} {Q : Exit → Act → World → Prop} (hgd : op.guard = some gd) (ho : op.op = .load 26 x)
    (q o : Nat) (s : Am) (u : S3) (hw : Region.wanted op (yielded ops a.tmps) = true) (hx : a.eval x = .pointer (some ⟨q, o, none⟩)) (hr : w.rangeAt q o (ac s u))
    (h : wpList Try.prog ops Q rest (a.put op.dst (av s u)) w) : wpList Try.prog ops Q (op :: rest) a w := by
  obtain ⟨d, p, t, ps, af, g⟩ := op
  simp only at hgd ho
  subst hgd ho
  exact wanted_free hw (ld_a rfl rfl q o s u hx hr h)
theorem map_in {w : World} {q : Nat} {r : Wy} (h : w.rangeAt q 0 (rc r)) : w.rangeAt q 2 (ac r.m r.u) := by
  intro j v hj
  have hl : j < 11 := (List.getElem?_eq_some_iff.1 hj).1
  have e : (ac r.m r.u)[j]? = (rc r)[2 + j]? := by
    rcases j with _ | _ | _ | _ | _ | _ | _ | _ | _ | _ | _ | j
    all_goals first | rfl | omega
  have := h (2 + j) v (e ▸ hj)
  rwa [Nat.zero_add] at this

def wit (n a b : Int) : Bool := decide (a ≤ n) && decide (n ≤ b)
def emp (a : Am) : Bool := (a.g == 0) && ((a.l.length : Int) == 0)
def rnum (r : Wy) : Bool := wit r.n 1 7 && wit r.nd 1 r.n && wit r.lf 0 64
def rmap (a : Am) : Bool := emp a || chk a
def goes (r : Wy) : Bool := decide (0 < r.lf) && (r.f || !emp r.m && named r.nm)
def rchk (r : Wy) : Bool := rnum r && rmap r.m && (r.d || goes r)
def way (r : Wy) : Bool := rchk r && !r.d
set_option maxRecDepth 100000 in
theorem within_any (n a b : Int) (w : World) : Calls Try.prog 68 #[.int .i64 n, .int .i64 a, .int .i64 b] w fun e w' => e = .returned (.bool (wit n a b)) ∧ w' = w := by
  unfold wit
  by_cases h1 : a ≤ n
  · rw [decide_eq_true h1]
    go_enter Try.func68, Try.ntmps68
    go_wp2_with fail
    go_ret
    exact ⟨by simp, rfl⟩
  · rw [decide_eq_false h1]
    have d : decide (a ≤ n) = false := decide_eq_false h1
    go_enter Try.func68, Try.ntmps68
    go_wp2_with fail
    go_ret
    exact ⟨by simp, rfl⟩
set_option maxRecDepth 100000 in
theorem empty_any (a : Am) (u : S3) (w : World) (h : Rat w a u) : Calls Try.prog 95 #[av a u] w fun e w' => e = .returned (.bool (emp a)) ∧ w.grownBy w' none := by
  have hn : Hid (u.n = a.l.length) := h.2.1
  have hl : Hid (a.l.length * 56 ≤ 140737488355328) := h.2.2
  clear h
  unfold emp
  rw [← hn.out]
  have hx : u.n ≤ 140737488355328 := by have := hn.out; have := hl.out; omega
  cases h1 : (a.g == 0) with
  | true =>
    go_enter Try.func95, Try.ntmps95
    go_wp2_with fail
    go_ret
    exact ⟨rfl, World.grownBy_alloc w _ none⟩
  | false =>
    go_enter Try.func95, Try.ntmps95
    go_wp2_with fail
    go_ret
    exact ⟨rfl, World.grownBy_alloc w _ none⟩
set_option maxRecDepth 100000 in
set_option maxHeartbeats 1600000 in
theorem rnum_any (r : Wy) (w : World) : Calls Try.prog 62 #[rv r] w fun e w' => e = .returned (.bool (rnum r)) ∧ w.grownBy w' none := by
  have W1 := within_any
  unfold rnum
  generalize h1 : wit r.n 1 7 = b1
  generalize h2 : wit r.nd 1 r.n = b2
  generalize h3 : wit r.lf 0 64 = b3
  have X1 : Hid (∀ W, _) := fun W => h1 ▸ within_any r.n 1 7 W
  have X2 : Hid (∀ W, _) := fun W => h2 ▸ within_any r.nd 1 r.n W
  have X3 : Hid (∀ W, _) := fun W => h3 ▸ within_any r.lf 0 64 W
  clear h1 h2 h3 W1
  cases b1 <;> cases b2
  all_goals
    go_enter Try.func62, Try.ntmps62
    go_wp2_with (first
      | (go_at_call 68; (with_reducible refine (X1.out _).mono ?_); rintro e w2 ⟨rfl, e2⟩; have e2' := e2.symm; clear e2; subst e2')
      | (go_at_call 68; (with_reducible refine (X2.out _).mono ?_); rintro e w2 ⟨rfl, e2⟩; have e2' := e2.symm; clear e2; subst e2')
      | (go_at_call 68; (with_reducible refine (X3.out _).mono ?_); rintro e w2 ⟨rfl, e2⟩; have e2' := e2.symm; clear e2; subst e2'))
    go_ret
    exact ⟨rfl, World.grownBy_alloc w _ none⟩
end Go.Proofs.Ytlolhdijadhklaa
