/- Ways held against each other: a way and its copy are the same. -/
import Derived.Test.YtlolhdijadhklaaOJobs
import Derived.Test.YtlolhdijadhklaaASame
namespace Go.Proofs.Ytlolhdijadhklaa
open Go.RowKit Atl
set_option linter.unusedVariables false
set_option linter.unusedSimpArgs false
set_option maxRecDepth 10000

theorem load_eg {ops : Array Oper} {rest : List Oper} {op : Oper} {x : Operand} {gd : Nat × Bool} {a : Act} {w : World} {Q : Exit → Act → World → Prop} (hgd : op.guard = some gd) (ho : op.op = .load 47 x)
    (q o : Nat) (er tm : Int) (j : S3) (hw : Region.wanted op (yielded ops a.tmps) = true) (hx : a.eval x = .pointer (some ⟨q, o, none⟩)) (hr : w.rangeAt q o (ec er tm j))
    (h : wpList Try.prog ops Q rest (a.put op.dst (ev er tm j)) w) : wpList Try.prog ops Q (op :: rest) a w := by
  obtain ⟨d, p, t, ps, af, g⟩ := op
  simp only at hgd ho
  subst hgd ho
  exact wanted_free hw (load_e rfl rfl q o er tm j hx hr h)
theorem wres_in {w : World} {q : Nat} {r : Wy} (h : w.rangeAt q 0 (rc r)) : w.rangeAt q 17 (ec r.er r.tm r.j) := by
  intro j v hj
  have hl : j < 3 := (List.getElem?_eq_some_iff.1 hj).1
  have e : (ec r.er r.tm r.j)[j]? = (rc r)[17 + j]? := by
    rcases j with _ | _ | _ | j
    all_goals first | rfl | omega
  have := h (17 + j) v (e ▸ hj)
  rwa [Nat.zero_add] at this
set_option maxRecDepth 100000 in
set_option maxHeartbeats 6400000 in
theorem way_same (r : Wy) (u j : S3) (l : List Jb) (w : World) (h : Rat w r.m r.u) (h' : Rat w r.m u) (k : Rdj w r.j l) (k' : Rdj w j l) : Calls Try.prog 32 #[rv (setUJ r u j), rv r] w fun e w' => e = .returned (.bool true) ∧ w.grownBy w' none := by
  have MS : Hid (∀ W, w.grownBy W none → _) := fun W g => same_any r.m u r.u W (h'.grown g) (h.grown g)
  have RS : Hid (∀ W, w.grownBy W none → _) := fun W g => res_same r.er r.tm l j r.j W (k'.grown g) (k.grown g)
  obtain ⟨W0, hW0⟩ : ∃ W0, W0 = (w.alloc (.cells (ra (setUJ r u j)) 60)).alloc (.cells (ra r) 60) := ⟨_, rfl⟩
  obtain ⟨g0, s0, k0, k1⟩ := two_new w _ _ _ _ W0 hW0
  have G0 : Hid (w.grownBy W0 none) := g0
  have KA : Hid (∀ W, W0.grownBy W none → W.rangeAt w.heap.size 0 (rc (setUJ r u j))) := fun W g => (k0 W g).1
  have KB : Hid (∀ W, W0.grownBy W none → W.rangeAt (w.heap.size + 1) 0 (rc r)) := fun W g => (k1 W g).1
  have F : Hid (∀ W, W0.grownBy W none → W.cell? ⟨w.heap.size, 13, none⟩ = some (.bool r.f) ∧ W.cell? ⟨w.heap.size, 14, none⟩ = some (.int .i64 r.nd) ∧ W.cell? ⟨w.heap.size, 15, none⟩ = some (.int .i64 r.lf) ∧ W.cell? ⟨w.heap.size, 16, none⟩ = some (.bool r.d) ∧ W.cell? ⟨w.heap.size + 1, 13, none⟩ = some (.bool r.f) ∧ W.cell? ⟨w.heap.size + 1, 14, none⟩ = some (.int .i64 r.nd) ∧ W.cell? ⟨w.heap.size + 1, 15, none⟩ = some (.int .i64 r.lf) ∧ W.cell? ⟨w.heap.size + 1, 16, none⟩ = some (.bool r.d)) := fun W g => ⟨KA.out W g 13 _ rfl, KA.out W g 14 _ rfl, KA.out W g 15 _ rfl, KA.out W g 16 _ rfl, KB.out W g 13 _ rfl, KB.out W g 14 _ rfl, KB.out W g 15 _ rfl, KB.out W g 16 _ rfl⟩
  have a0 : W0.cell? ⟨w.heap.size, 0, none⟩ = some (.int .i64 r.n) := KA.out W0 (grown_refl _ _) 0 _ rfl
  have a1 : W0.cell? ⟨w.heap.size, 1, none⟩ = some (.string r.nm) := KA.out W0 (grown_refl _ _) 1 _ rfl
  have b0 : W0.cell? ⟨w.heap.size + 1, 0, none⟩ = some (.int .i64 r.n) := KB.out W0 (grown_refl _ _) 0 _ rfl
  have b1 : W0.cell? ⟨w.heap.size + 1, 1, none⟩ = some (.string r.nm) := KB.out W0 (grown_refl _ _) 1 _ rfl
  have HW0 : Hid (W0 = _) := hW0
  have d1 : (r.n == r.n) = true := by simp
  have d2 : (r.nm.toList == r.nm.toList) = true := by simp
  have d3 : (r.f == r.f) = true := by simp
  have d4 : (r.nd == r.nd) = true := by simp
  have d5 : (r.lf == r.lf) = true := by simp
  have d6 : (r.d == r.d) = true := by simp
  clear g0 s0 k0 k1 hW0 h h' k k'
  go_enter Try.func32, Try.ntmps32
  go_upto_region 1 with fail
  rw [← HW0.out]
  go_wp2_with (first
    | (refine ld_ag rfl rfl w.heap.size 2 r.m u rfl rfl (map_in (KA.out W0 (grown_refl _ _))) ?_)
    | (refine ld_ag rfl rfl (w.heap.size + 1) 2 r.m r.u rfl rfl (map_in (KB.out W0 (grown_refl _ _))) ?_)
    | (go_at_call 16; (with_reducible refine (MS.out _ G0.out).mono ?_); rintro e w2 ⟨rfl, g2⟩; obtain ⟨x1, x2, x3, x4, y1, y2, y3, y4⟩ := F.out w2 g2; have G2 : Hid (W0.grownBy w2 none) := g2; clear g2)
    | (refine load_eg rfl rfl w.heap.size 17 r.er r.tm j rfl rfl (wres_in (KA.out w2 G2.out)) ?_)
    | (refine load_eg rfl rfl (w.heap.size + 1) 17 r.er r.tm r.j rfl rfl (wres_in (KB.out w2 G2.out)) ?_)
    | (go_at_call 35; (with_reducible refine (RS.out _ (grown_tr G0.out G2.out)).mono ?_); rintro e w3 ⟨rfl, g3⟩))
  go_ret
  exact ⟨rfl, grown_tr G0.out (grown_tr G2.out g3)⟩
end Go.Proofs.Ytlolhdijadhklaa
