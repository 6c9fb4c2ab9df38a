/- Restart, New. -/
import Derived.Test.YtdpcebaggldaiaaGCopy
import Derived.Test.YtdpcebaggldaiaaGRight3
namespace Go.Proofs.Ytdpcebaggldaiaa
open Go.RowKit Trl
open Rft (Nd Mg)
set_option linter.unusedVariables false
set_option maxRecDepth 10000

theorem Rdn.restart {w : World} {r : Nd} {V : Sv} (h : Rdn w r V) : Rdn w (Rft.restart r) { V with v := nil3, n := nil3, m := nil3 } :=
  ⟨h.c, h.e, .inl ⟨rfl, rfl⟩, .inl ⟨rfl, rfl⟩, .inl ⟨rfl, rfl⟩, h.cl, h.el, rfl, rfl, rfl, h.cb, h.eb, by simp [Rft.restart], by simp [Rft.restart], by simp [Rft.restart], by simp [nil3]⟩
theorem restart_nv (r : Nd) (V : Sv) : nv (Rft.restart r) { V with v := nil3, n := nil3, m := nil3 } = .agg #[.int .i64 r.id, .slice V.c.a V.c.n V.c.c, .int .i64 r.term, .int .i64 r.vote, .int .i64 0, .int .i64 0, .int .i64 r.b, .int .i64 r.k, .slice V.e.a V.e.n V.e.c, .string r.snap, .int .i64 r.b, .int .i64 10, .int .i64 10, .slice none 0 0, .slice none 0 0, .slice none 0 0] := rfl
theorem copied_restart (r : Nd) (V : Sv) (w : World) (h : Rdn w r V) : Calls Try.prog 27 #[.agg #[.int .i64 r.id, .slice V.c.a V.c.n V.c.c, .int .i64 r.term, .int .i64 r.vote, .int .i64 0, .int .i64 0, .int .i64 r.b, .int .i64 r.k, .slice V.e.a V.e.n V.e.c, .string r.snap, .int .i64 r.b, .int .i64 10, .int .i64 10, .slice none 0 0, .slice none 0 0, .slice none 0 0]] w fun e w' => Cop w w' (Rft.restart r) e :=
  (congrArg (fun x => Calls Try.prog 27 #[x] w (fun e w' => Cop w w' (Rft.restart r) e)) (restart_nv r V)).mp (copied_any (Rft.restart r) { V with v := nil3, n := nil3, m := nil3 } w h.restart)
set_option maxRecDepth 100000 in
set_option maxHeartbeats 1600000 in
theorem Restart_any (r : Nd) (V : Sv) (w : World) (h : Rdn w r V) : Calls Try.prog 26 #[nv r V] w fun e w' => Cop w w' (Rft.restart r) e := by
  obtain ⟨r0, hr0⟩ : ∃ x, Rft.restart r = x := ⟨_, rfl⟩
  have CP : Hid (∀ W, w.grownBy W none → Calls Try.prog 27 #[.agg #[.int .i64 r.id, .slice V.c.a V.c.n V.c.c, .int .i64 r.term, .int .i64 r.vote, .int .i64 0, .int .i64 0, .int .i64 r.b, .int .i64 r.k, .slice V.e.a V.e.n V.e.c, .string r.snap, .int .i64 r.b, .int .i64 10, .int .i64 10, .slice none 0 0, .slice none 0 0, .slice none 0 0]] W fun e w' => Cop W w' r0 e) := fun W g => by
    subst hr0
    exact copied_restart r V W (h.grown g)
  rw [hr0]
  have B0 := two_nodes (grown_refl ((w.alloc (.cells #[.int .i64 r.id, .slice V.c.a V.c.n V.c.c, .int .i64 r.term, .int .i64 r.vote, .int .i64 r.role, .int .i64 r.lead, .int .i64 r.b, .int .i64 r.k, .slice V.e.a V.e.n V.e.c, .string r.snap, .int .i64 r.com, .int .i64 r.left, .int .i64 r.wait, .slice V.v.a V.v.n V.v.c, .slice V.n.a V.n.n V.n.c, .slice V.m.a V.m.n V.m.c] 28)).alloc (.cells #[.int .i64 0, .slice none 0 0, .int .i64 0, .int .i64 0, .int .i64 0, .int .i64 0, .int .i64 0, .int .i64 0, .slice none 0 0, .string ⟨#[]⟩, .int .i64 0, .int .i64 0, .int .i64 0, .slice none 0 0, .slice none 0 0, .slice none 0 0] 28)) none)
  have G0 : Hid (w.grownBy ((w.alloc (.cells #[.int .i64 r.id, .slice V.c.a V.c.n V.c.c, .int .i64 r.term, .int .i64 r.vote, .int .i64 r.role, .int .i64 r.lead, .int .i64 r.b, .int .i64 r.k, .slice V.e.a V.e.n V.e.c, .string r.snap, .int .i64 r.com, .int .i64 r.left, .int .i64 r.wait, .slice V.v.a V.v.n V.v.c, .slice V.n.a V.n.n V.n.c, .slice V.m.a V.m.n V.m.c] 28)).alloc (.cells #[.int .i64 0, .slice none 0 0, .int .i64 0, .int .i64 0, .int .i64 0, .int .i64 0, .int .i64 0, .int .i64 0, .slice none 0 0, .string ⟨#[]⟩, .int .i64 0, .int .i64 0, .int .i64 0, .slice none 0 0, .slice none 0 0, .slice none 0 0] 28)) none) := B0.2.2
  have BX : Hid (∀ {W : World}, ((w.alloc (.cells #[.int .i64 r.id, .slice V.c.a V.c.n V.c.c, .int .i64 r.term, .int .i64 r.vote, .int .i64 r.role, .int .i64 r.lead, .int .i64 r.b, .int .i64 r.k, .slice V.e.a V.e.n V.e.c, .string r.snap, .int .i64 r.com, .int .i64 r.left, .int .i64 r.wait, .slice V.v.a V.v.n V.v.c, .slice V.n.a V.n.n V.n.c, .slice V.m.a V.m.n V.m.c] 28)).alloc (.cells #[.int .i64 0, .slice none 0 0, .int .i64 0, .int .i64 0, .int .i64 0, .int .i64 0, .int .i64 0, .int .i64 0, .slice none 0 0, .string ⟨#[]⟩, .int .i64 0, .int .i64 0, .int .i64 0, .slice none 0 0, .slice none 0 0, .slice none 0 0] 28)).grownBy W none → Cs W (w.heap.size + 1) [.int .i64 0, .slice none 0 0, .int .i64 0, .int .i64 0, .int .i64 0, .int .i64 0, .int .i64 0, .int .i64 0, .slice none 0 0, .string ⟨#[]⟩, .int .i64 0, .int .i64 0, .int .i64 0, .slice none 0 0, .slice none 0 0, .slice none 0 0] ∧ w.grownBy W none) := fun {W} g => ⟨(two_nodes g).2.1, (two_nodes g).2.2⟩
  have q0 := B0.1.at_ 0 rfl
  have q1 := B0.1.at_ 1 rfl
  have q2 := B0.1.at_ 2 rfl
  have q3 := B0.1.at_ 3 rfl
  have q6 := B0.1.at_ 6 rfl
  have q7 := B0.1.at_ 7 rfl
  have q8 := B0.1.at_ 8 rfl
  have q9 := B0.1.at_ 9 rfl
  clear h B0 hr0
  go_enter Try.func26, Try.ntmps26
  go_wp2_with (first
    | (go_at_call 27; (with_reducible refine (CP.out _ G0.out).mono ?_); rintro e w1 ⟨V1, T1, rfl, o1, g1⟩; obtain ⟨Z1, H1⟩ := BX.out g1; have TH := Z1.there (n := 16) (by decide))
    | (refine store_row (ty := 28) (w.heap.size + 1) (nc r0 V1).toArray rfl rfl TH (by kernel_rfl) (by simp [Value.oneCell']) ?_; intro w6 hr6 ht6 hg6))
  have hz := G0.out.size
  have e2 : ((w.alloc (.cells #[.int .i64 r.id, .slice V.c.a V.c.n V.c.c, .int .i64 r.term, .int .i64 r.vote, .int .i64 r.role, .int .i64 r.lead, .int .i64 r.b, .int .i64 r.k, .slice V.e.a V.e.n V.e.c, .string r.snap, .int .i64 r.com, .int .i64 r.left, .int .i64 r.wait, .slice V.v.a V.v.n V.v.c, .slice V.n.a V.n.n V.n.c, .slice V.m.a V.m.n V.m.c] 28)).alloc (.cells #[.int .i64 0, .slice none 0 0, .int .i64 0, .int .i64 0, .int .i64 0, .int .i64 0, .int .i64 0, .int .i64 0, .slice none 0 0, .string ⟨#[]⟩, .int .i64 0, .int .i64 0, .int .i64 0, .slice none 0 0, .slice none 0 0, .slice none 0 0] 28)).heap.size = w.heap.size + 2 := by simp
  refine bodyPost_ret (res_row1 Try.results26 rfl hr6 Try.underlying28 rfl (by kernel_rfl)) rfl ⟨V1, T1, rfl, ?_, grown_more H1 hg6 (fun k e => .inr (by injection e with e; omega))⟩
  have ne : ∀ k, ((w.alloc (.cells #[.int .i64 r.id, .slice V.c.a V.c.n V.c.c, .int .i64 r.term, .int .i64 r.vote, .int .i64 r.role, .int .i64 r.lead, .int .i64 r.b, .int .i64 r.k, .slice V.e.a V.e.n V.e.c, .string r.snap, .int .i64 r.com, .int .i64 r.left, .int .i64 r.wait, .slice V.v.a V.v.n V.v.c, .slice V.n.a V.n.n V.n.c, .slice V.m.a V.m.n V.m.c] 28)).alloc (.cells #[.int .i64 0, .slice none 0 0, .int .i64 0, .int .i64 0, .int .i64 0, .int .i64 0, .int .i64 0, .int .i64 0, .slice none 0 0, .string ⟨#[]⟩, .int .i64 0, .int .i64 0, .int .i64 0, .slice none 0 0, .slice none 0 0, .slice none 0 0] 28)).heap.size ≤ k → k < w1.heap.size → ¬ k = w.heap.size + 1 := fun k hk _ => by omega
  have O2 := o1.kept (F := fun k => k = w.heap.size + 1) (Chg.of hg6 (fun k e => by injection e with e; exact e.symm)) ne
  exact ⟨O2.c.low hz, O2.e.low hz, O2.v.low hz, O2.n.low hz, O2.m.low hz⟩
end Go.Proofs.Ytdpcebaggldaiaa
