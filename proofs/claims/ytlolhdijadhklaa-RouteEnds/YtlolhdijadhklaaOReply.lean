/- Replies in memory; what ends a way; the next node. -/
import Derived.Test.YtlolhdijadhklaaOMath
namespace Go.Proofs.Ytlolhdijadhklaa
open Go.RowKit Atl
set_option linter.unusedVariables false
set_option maxRecDepth 10000

/-- A reply: Kind, Hint, the Result's Err and Time, its jobs' slice, the Map with its slice. -/
structure Rp where
  k : Int
  h : Int
  er : Int
  tm : Int
  j : S3
  m : Am
  u : S3
abbrev qc (p : Rp) : List Value := [.int .i64 p.k, .int .i64 p.h, .int .i64 p.er, .int .i64 p.tm, .slice p.j.a p.j.n p.j.c, .int .i64 p.m.g, .int .i64 p.m.la, .slice p.u.a p.u.n p.u.c, .int .i64 p.m.p.k, .int .i64 p.m.p.ph, .int .i64 p.m.p.sh, .int .i64 p.m.p.ot, .int .i64 p.m.p.gp, .int .i64 p.m.p.pa, .int .i64 p.m.p.ep, .string p.m.p.key]
abbrev qa (p : Rp) : Array Value := #[.int .i64 p.k, .int .i64 p.h, .int .i64 p.er, .int .i64 p.tm, .slice p.j.a p.j.n p.j.c, .int .i64 p.m.g, .int .i64 p.m.la, .slice p.u.a p.u.n p.u.c, .int .i64 p.m.p.k, .int .i64 p.m.p.ph, .int .i64 p.m.p.sh, .int .i64 p.m.p.ot, .int .i64 p.m.p.gp, .int .i64 p.m.p.pa, .int .i64 p.m.p.ep, .string p.m.p.key]
abbrev qv (p : Rp) : Value := .agg #[.int .i64 p.k, .int .i64 p.h, .int .i64 p.er, .int .i64 p.tm, .slice p.j.a p.j.n p.j.c, .int .i64 p.m.g, .int .i64 p.m.la, .slice p.u.a p.u.n p.u.c, .int .i64 p.m.p.k, .int .i64 p.m.p.ph, .int .i64 p.m.p.sh, .int .i64 p.m.p.ot, .int .i64 p.m.p.gp, .int .i64 p.m.p.pa, .int .i64 p.m.p.ep, .string p.m.p.key]
abbrev ec (er tm : Int) (j : S3) : List Value := [.int .i64 er, .int .i64 tm, .slice j.a j.n j.c]
abbrev ea (er tm : Int) (j : S3) : Array Value := #[.int .i64 er, .int .i64 tm, .slice j.a j.n j.c]
abbrev ev (er tm : Int) (j : S3) : Value := .agg #[.int .i64 er, .int .i64 tm, .slice j.a j.n j.c]
theorem load_q {ops : Array Oper} {rest : List Oper} {op : Oper} {x : Operand} {a : Act} {w : World} {Q : Exit → Act → World → Prop} (hgd : op.guard = none) (ho : op.op = .load 66 x)
    (q o : Nat) (p : Rp) (hx : a.eval x = .pointer (some ⟨q, o, none⟩)) (hr : w.rangeAt q o (qc p))
    (h : wpList Try.prog ops Q rest (a.put op.dst (qv p)) w) : wpList Try.prog ops Q (op :: rest) a w :=
  wpList_load_mid hgd 66 x ho q o hx (qc p) _ hr Try.underlying66 rfl (by kernel_rfl) h
theorem load_e {ops : Array Oper} {rest : List Oper} {op : Oper} {x : Operand} {a : Act} {w : World} {Q : Exit → Act → World → Prop} (hgd : op.guard = none) (ho : op.op = .load 47 x)
    (q o : Nat) (er tm : Int) (j : S3) (hx : a.eval x = .pointer (some ⟨q, o, none⟩)) (hr : w.rangeAt q o (ec er tm j))
    (h : wpList Try.prog ops Q rest (a.put op.dst (ev er tm j)) w) : wpList Try.prog ops Q (op :: rest) a w :=
  wpList_load_mid hgd 47 x ho q o hx (ec er tm j) _ hr Try.underlying47 rfl (by kernel_rfl) h
theorem qmap_in {w : World} {q : Nat} {p : Rp} (h : w.rangeAt q 0 (qc p)) : w.rangeAt q 5 (ac p.m p.u) := by
  intro j v hj
  have hl : j < 11 := (List.getElem?_eq_some_iff.1 hj).1
  have e : (ac p.m p.u)[j]? = (qc p)[5 + j]? := by
    rcases j with _ | _ | _ | _ | _ | _ | _ | _ | _ | _ | _ | j
    all_goals first | rfl | omega
  have := h (5 + j) v (e ▸ hj)
  rwa [Nat.zero_add] at this
theorem qres_in {w : World} {q : Nat} {p : Rp} (h : w.rangeAt q 0 (qc p)) : w.rangeAt q 2 (ec p.er p.tm p.j) := by
  intro j v hj
  have hl : j < 3 := (List.getElem?_eq_some_iff.1 hj).1
  have e : (ec p.er p.tm p.j)[j]? = (qc p)[2 + j]? := by
    rcases j with _ | _ | _ | j
    all_goals first | rfl | omega
  have := h (2 + j) v (e ▸ hj)
  rwa [Nat.zero_add] at this
/-- Boxes for what a function is handed, and for what it answers. -/
theorem two_new (w : World) (A B : Array Value) (t t' : TypeId) (W0 : World) (h : W0 = (w.alloc (.cells A t)).alloc (.cells B t')) :
    w.grownBy W0 none ∧ W0.heap.size = w.heap.size + 2 ∧ (∀ W, W0.grownBy W none → Cs W w.heap.size A.toList) ∧ (∀ W, W0.grownBy W none → Cs W (w.heap.size + 1) B.toList) := by
  have hq : (w.alloc (.cells A t)).heap.size = w.heap.size + 1 := by simp
  refine ⟨by rw [h]; exact grown_tr (World.grownBy_alloc _ _ none) (World.grownBy_alloc _ _ none), by rw [h]; simp, fun W g => ?_, fun W g => ?_⟩
  · rw [h] at g
    exact cs_new (grown_tr (World.grownBy_alloc _ _ none) g)
  · rw [h] at g
    have := cs_new g
    rwa [hq] at this
theorem three_new (w : World) (A B C : Array Value) (t t' t'' : TypeId) (W0 : World) (h : W0 = ((w.alloc (.cells A t)).alloc (.cells B t')).alloc (.cells C t'')) :
    w.grownBy W0 none ∧ W0.heap.size = w.heap.size + 3 ∧ (∀ W, W0.grownBy W none → Cs W w.heap.size A.toList) ∧ (∀ W, W0.grownBy W none → Cs W (w.heap.size + 1) B.toList) ∧ (∀ W, W0.grownBy W none → Cs W (w.heap.size + 2) C.toList) := by
  obtain ⟨g1, s1, a1, b1⟩ := two_new w A B t t' _ rfl
  have gg : ((w.alloc (.cells A t)).alloc (.cells B t')).grownBy W0 none := by rw [h]; exact World.grownBy_alloc _ _ none
  refine ⟨grown_tr g1 gg, by rw [h]; simp, fun W g => a1 W (grown_tr gg g), fun W g => b1 W (grown_tr gg g), fun W g => ?_⟩
  rw [h] at g
  have := cs_new g
  rwa [s1] at this

def astr (e : Int) : Bool := (e == 172) || ((e == 171) || (e == 173))
def endB (r : Wy) (p : Rp) : Bool := (p.k == 2) && (!r.f && !astr p.er)
def nxt (r : Wy) : Int := if (r.nd == r.n) = true then 1 else r.nd + 1
set_option maxRecDepth 100000 in
theorem astr_any (e : Int) (w : World) : Calls Try.prog 107 #[.int .i64 e] w fun x w' => x = .returned (.bool (astr e)) ∧ w' = w := by
  unfold astr
  cases h1 : (e == 172) with
  | true =>
    go_enter Try.func107, Try.ntmps107
    go_wp2_with fail
    go_ret
    exact ⟨by simp, rfl⟩
  | false =>
    cases h2 : (e == 171) with
    | true =>
      go_enter Try.func107, Try.ntmps107
      go_wp2_with fail
      go_ret
      exact ⟨by simp, rfl⟩
    | false =>
      go_enter Try.func107, Try.ntmps107
      go_wp2_with fail
      go_ret
      exact ⟨by simp, rfl⟩
set_option maxRecDepth 100000 in
set_option maxHeartbeats 1600000 in
theorem ends_by (r : Wy) (p : Rp) (w : World) : Calls Try.prog 96 #[rv r, qv p] w fun e w' => e = .returned (.bool (endB r p)) ∧ w.grownBy w' none := by
  have AS : Hid (∀ W, _) := fun W => astr_any p.er W
  obtain ⟨W0, hW0⟩ : ∃ W0, W0 = (w.alloc (.cells (ra r) 60)).alloc (.cells (qa p) 66) := ⟨_, rfl⟩
  obtain ⟨g0, s0, k0, k1⟩ := two_new w _ _ _ _ W0 hW0
  have G0 : Hid (w.grownBy W0 none) := g0
  have c13 : W0.cell? ⟨w.heap.size, 13, none⟩ = some (.bool r.f) := (k0 W0 (grown_refl _ _)).1 13 _ rfl
  have d0 : W0.cell? ⟨w.heap.size + 1, 0, none⟩ = some (.int .i64 p.k) := (k1 W0 (grown_refl _ _)).1 0 _ rfl
  have d2 : W0.cell? ⟨w.heap.size + 1, 2, none⟩ = some (.int .i64 p.er) := (k1 W0 (grown_refl _ _)).1 2 _ rfl
  have HW0 : Hid (W0 = _) := hW0
  clear g0 s0 k0 k1 hW0
  unfold endB
  generalize astr p.er = b3 at *
  cases h1 : (p.k == 2) with
  | false =>
    go_enter Try.func96, Try.ntmps96
    go_upto_region 1 with fail
    rw [← HW0.out]
    go_wp2_with fail
    go_ret
    exact ⟨rfl, G0.out⟩
  | true =>
    cases hf : r.f with
    | true =>
      have HF : Hid (r.f = true) := hf
      rw [hf] at c13
      clear hf
      go_enter Try.func96, Try.ntmps96
      go_upto_region 1 with fail
      rw [← HW0.out]
      go_wp2_with fail
      go_ret
      exact ⟨rfl, G0.out⟩
    | false =>
      have HF : Hid (r.f = false) := hf
      rw [hf] at c13
      clear hf
      go_enter Try.func96, Try.ntmps96
      go_upto_region 1 with fail
      rw [← HW0.out]
      go_wp2_with (go_at_call 107; (with_reducible refine (AS.out _).mono ?_); rintro e w2 ⟨rfl, e2⟩; have e2' := e2.symm; clear e2; subst e2')
      go_ret
      exact ⟨by simp, G0.out⟩
set_option maxRecDepth 100000 in
set_option maxHeartbeats 1600000 in
theorem next_by (r : Wy) (w : World) (hb : r.nd < 1000) (hc : 0 ≤ r.nd) : Calls Try.prog 108 #[rv r] w fun e w' => e = .returned (.int .i64 (nxt r)) ∧ w.grownBy w' none := by
  obtain ⟨W0, hW0⟩ : ∃ W0, W0 = w.alloc (.cells (ra r) 60) := ⟨_, rfl⟩
  have G0 : Hid (w.grownBy W0 none) := by rw [hW0]; exact World.grownBy_alloc _ _ none
  have CA : Hid (∀ W, W0.grownBy W none → W.rangeAt w.heap.size 0 (rc r)) := fun W g => by rw [hW0] at g; exact (cs_new g).1
  have c0 : W0.cell? ⟨w.heap.size, 0, none⟩ = some (.int .i64 r.n) := CA.out W0 (grown_refl _ _) 0 _ rfl
  have c14 : W0.cell? ⟨w.heap.size, 14, none⟩ = some (.int .i64 r.nd) := CA.out W0 (grown_refl _ _) 14 _ rfl
  have HW0 : Hid (W0 = _) := hW0
  clear hW0 CA
  unfold nxt
  cases h1 : (r.nd == r.n) with
  | true =>
    go_enter Try.func108, Try.ntmps108
    go_upto_region 1 with fail
    rw [← HW0.out]
    go_wp2_with fail
    go_ret
    exact ⟨rfl, G0.out⟩
  | false =>
    go_enter Try.func108, Try.ntmps108
    go_upto_region 1 with fail
    rw [← HW0.out]
    go_wp2_with fail
    go_ret
    exact ⟨by first | rfl | (simp; go_num), G0.out⟩
end Go.Proofs.Ytlolhdijadhklaa
