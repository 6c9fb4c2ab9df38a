/- A node at work: its own numbers. -/
import Derived.Test.YtdpcebaggldaiaaGLead
import Derived.Laws.CopyRow
namespace Go.Proofs.Ytdpcebaggldaiaa
open Go.RowKit Trl
open Rft (Nd Mg)
set_option linter.unusedVariables false
set_option maxRecDepth 10000

theorem Elm.Own.set {α : Type} {E : Elm α} (h1 : E.size = 1) {w : World} {base : Nat} {v : Value} {l : List α} (h : E.Own w base v l) (hl : l.length ≤ 9223372036854775807) {i : Nat} (hi : i < l.length) (x : α) (u : Value) (hu : E.enc x = [u]) :
    ∃ g u0, (∀ W, (Instr.indexAt E.sl v (.int .i64 (i : Int))).run Try.prog W = .ok (.pointer (some ⟨g, i, none⟩)) W) ∧ w.cell? ⟨g, i, none⟩ = some u0 ∧ w.frozen? ⟨g, i, none⟩ = false ∧ v.ownBlock = some g ∧ E.Own (w.setCell ⟨g, i, none⟩ u) base v (l.set i x) := by
  obtain ⟨y, hy⟩ : ∃ y, l[i]? = some y := ⟨_, List.getElem?_eq_getElem hi⟩
  obtain ⟨g, c, rfl, h2, h3⟩ := h.at_ hy
  have hy1 := E.len y
  obtain ⟨u0, hu0⟩ : ∃ u0, (E.enc y)[0]? = some u0 := ⟨_, List.getElem?_eq_getElem (by omega)⟩
  have hc := h2 0 u0 hu0
  rw [h1, Nat.mul_one, Nat.add_zero] at hc
  refine ⟨g, u0, fun W => ?_, hc, h3 i, rfl, ?_⟩
  · have := Elm.run_at (E := E) (W := W) (g := g) (o := 0) (c := c) hi hl
    rw [h1, Nat.mul_one, Nat.zero_add] at this
    exact this
  · rcases h.2 with ⟨e, h0⟩ | ⟨g', cap, cur, e, hg, hh, k1, k2, k3, k4⟩
    · cases e
    · injection e with e1 _ e2
      injection e1 with e1
      injection e1 with e1
      subst e1 e2
      have hset := setCell_eq_setRow w g i cur E.el (0, 0) u hh
      rw [hset]
      refine ⟨by rw [Elm.cells_len], .inr ⟨g, c, cur.setIfInBounds i u, by rw [List.length_set], hg, setRow_heap w g cur _ E.el (0, 0) hh, by rw [List.length_set]; exact k1, k2, by simpa using k3, ?_⟩⟩
      rw [List.length_set]
      rw [h1, Nat.mul_one] at k4 ⊢
      have hcs : E.cells (l.set i x) = (E.cells l).set i u := by
        apply List.ext_getElem?
        intro t
        have cell1 : ∀ (m : List α) (t : Nat), (E.cells m)[t]? = (m[t]?).bind fun z => (E.enc z)[0]? := fun m t => by
          cases hm : m[t]? with
          | none =>
            rw [List.getElem?_eq_none (by rw [Elm.cells_len, h1, Nat.mul_one]; exact List.getElem?_eq_none_iff.1 hm)]
            rfl
          | some z =>
            have := Elm.cells_at E hm 0 (by omega)
            rw [h1, Nat.mul_one, Nat.add_zero] at this
            rw [this]
            rfl
        rw [cell1, List.getElem?_set, List.getElem?_set]
        by_cases e : i = t
        · subst e
          rw [if_pos rfl, if_pos hi, if_pos rfl, if_pos (by rw [Elm.cells_len, h1, Nat.mul_one]; exact hi)]
          simp [hu]
        · rw [if_neg e, if_neg e, cell1]
      rw [hcs, ← k4]
      simp only [Array.toList_setIfInBounds]
      rw [List.take_set]
theorem Oc.setN {w : World} {base b : Nat} {r : Nd} {X : List (Mg × S3)} {V : Sv} {s : S3} {T : Nat → Nat} (h : Oc w base b r X V s T) {i : Nat} (hi : i < r.next.length) (hl : r.next.length ≤ 7) (x : Int) :
    ∃ g u0, V.n.a = some ⟨g, 0, none⟩ ∧ w.cell? ⟨g, i, none⟩ = some u0 ∧ w.frozen? ⟨g, i, none⟩ = false ∧ base ≤ g ∧ g < w.heap.size ∧ g ≠ b ∧ T g = 3 ∧ Oc (w.setCell ⟨g, i, none⟩ (.int .i64 x)) base b { r with next := r.next.set i x } X V s T := by
  have hne : r.next ≠ [] := fun e => by rw [e] at hi; simp at hi
  obtain ⟨hO, hT⟩ := h.n.own hne
  obtain ⟨g, u0, _, k2, k3, k4, k5⟩ := hO.set (E := eN) rfl (by omega) hi x (.int .i64 x) rfl
  have ha : V.n.a = some ⟨g, 0, none⟩ := by
    rcases hO.2 with ⟨e, h0⟩ | ⟨g', cap, cur, e, _⟩
    · rw [h0] at hi; simp at hi
    · have e' := e
      injection e' with e1 _ _
      rw [e] at k4
      injection k4 with k4
      have k4' : g' = g := k4
      rw [e1, k4']
  have tg := hT g k4
  have hlt := hO.lt g k4
  have C : Chg (fun k => k = g) w (w.setCell ⟨g, i, none⟩ (.int .i64 x)) := chg_setb (Chg.refl _ w) g i _ rfl
  have hgb : g ≠ b := fun e => by rw [e, h.tb] at tg; cases tg
  have ne : ∀ j, j ≠ 3 → ∀ k, T k = j → base ≤ k → k < w.heap.size → ¬ k = g := fun j hj k ht _ _ e => by subst e; exact hj (ht.symm.trans tg)
  exact ⟨g, u0, ha, k2, k3, hlt.1, hlt.2, hgb, tg, h.hb, h.tb, h.cs.kept C (fun e => hgb e.symm), h.c.kept C (ne 1 (by decide)), h.e.kept C (ne 1 (by decide)), h.v.kept C (ne 2 (by decide)), .inl ⟨k5, hT⟩, h.m.kept C (ne 4 (by decide)), ⟨h.l.1.kept C (fun k hk => ne 5 (by decide) k (h.l.2 k hk) (h.l.1.lt k hk).1 (h.l.1.lt k hk).2), h.l.2⟩, fun x hx => (h.ms x hx).kept C (ne 1 (by decide))⟩
theorem Oc.setM {w : World} {base b : Nat} {r : Nd} {X : List (Mg × S3)} {V : Sv} {s : S3} {T : Nat → Nat} (h : Oc w base b r X V s T) {i : Nat} (hi : i < r.mat.length) (hl : r.mat.length ≤ 7) (x : Int) :
    ∃ g u0, V.m.a = some ⟨g, 0, none⟩ ∧ w.cell? ⟨g, i, none⟩ = some u0 ∧ w.frozen? ⟨g, i, none⟩ = false ∧ base ≤ g ∧ g < w.heap.size ∧ g ≠ b ∧ T g = 4 ∧ Oc (w.setCell ⟨g, i, none⟩ (.int .i64 x)) base b { r with mat := r.mat.set i x } X V s T := by
  have hne : r.mat ≠ [] := fun e => by rw [e] at hi; simp at hi
  obtain ⟨hO, hT⟩ := h.m.own hne
  obtain ⟨g, u0, _, k2, k3, k4, k5⟩ := hO.set (E := eN) rfl (by omega) hi x (.int .i64 x) rfl
  have ha : V.m.a = some ⟨g, 0, none⟩ := by
    rcases hO.2 with ⟨e, h0⟩ | ⟨g', cap, cur, e, _⟩
    · rw [h0] at hi; simp at hi
    · have e' := e
      injection e' with e1 _ _
      rw [e] at k4
      injection k4 with k4
      have k4' : g' = g := k4
      rw [e1, k4']
  have tg := hT g k4
  have hlt := hO.lt g k4
  have C : Chg (fun k => k = g) w (w.setCell ⟨g, i, none⟩ (.int .i64 x)) := chg_setb (Chg.refl _ w) g i _ rfl
  have hgb : g ≠ b := fun e => by rw [e, h.tb] at tg; cases tg
  have ne : ∀ j, j ≠ 4 → ∀ k, T k = j → base ≤ k → k < w.heap.size → ¬ k = g := fun j hj k ht _ _ e => by subst e; exact hj (ht.symm.trans tg)
  exact ⟨g, u0, ha, k2, k3, hlt.1, hlt.2, hgb, tg, h.hb, h.tb, h.cs.kept C (fun e => hgb e.symm), h.c.kept C (ne 1 (by decide)), h.e.kept C (ne 1 (by decide)), h.v.kept C (ne 2 (by decide)), h.n.kept C (ne 3 (by decide)), .inl ⟨k5, hT⟩, ⟨h.l.1.kept C (fun k hk => ne 5 (by decide) k (h.l.2 k hk) (h.l.1.lt k hk).1 (h.l.1.lt k hk).2), h.l.2⟩, fun x hx => (h.ms x hx).kept C (ne 1 (by decide))⟩
set_option maxRecDepth 100000 in
set_option maxHeartbeats 3200000 in
theorem keepUp_o {w : World} {base b : Nat} {r : Nd} {L : List Mg} {c : S3} (h : Ob w base b r L c) (hk : chk r.b r.k r.l = true) (hc7 : r.conf.length ≤ 7) (hm : r.mat.length = r.conf.length) (hn : r.next.length = r.conf.length) (hid : Quo.has r.conf r.id = true) :
    Calls Try.prog 66 #[.pointer (some ⟨b, 0, none⟩)] w fun e w' => e = .returned (.tuple #[]) ∧ Ob w' base b (Rft.own r) L c ∧ Kp base w w' := by
  obtain ⟨X, V, s, T, h0, hX, rfl⟩ := id h
  obtain ⟨p1, p2, p3, p4, p5, p6, p7⟩ := chk_parts hk
  have hpl := place_lt hid
  have PL := place_w r.id h0 hc7 hid
  have LA : Hid (∀ W, w.grownBy W none → _) := fun W g => last_w (h0.grown g) hk
  have hlast : r.last = r.b + (r.l.length : Int) := rfl
  have c0 := h0.cs.at_ 0 rfl
  have CC : Hid (∀ {W : World}, w.grownBy W none → W.cell? ⟨b, 14, none⟩ = some (.slice V.n.a V.n.n V.n.c) ∧ W.cell? ⟨b, 15, none⟩ = some (.slice V.m.a V.m.n V.m.c)) := fun {W} g => ⟨(h0.grown g).cs.at_ 14 rfl, (h0.grown g).cs.at_ 15 rfl⟩
  have ln := h0.n.len
  have lm := h0.m.len
  rw [hn] at ln
  rw [hm] at lm
  unfold Rft.own
  generalize Rft.place r.conf r.id = P at *
  have HH : Hid (∀ {W : World}, w.grownBy W none → ∃ g g', V.n.a = some ⟨g, 0, none⟩ ∧ V.m.a = some ⟨g', 0, none⟩ ∧ g ≠ g' ∧ (∃ u, W.cell? ⟨g, P, none⟩ = some u) ∧ (∃ u, W.cell? ⟨g', P, none⟩ = some u) ∧ W.frozen? ⟨g, P, none⟩ = false ∧ W.frozen? ⟨g', P, none⟩ = false ∧ Oc ((W.setCell ⟨g, P, none⟩ (.int .i64 (r.last + 1))).setCell ⟨g', P, none⟩ (.int .i64 r.last)) base b { r with mat := r.mat.set P r.last, next := r.next.set P (r.last + 1) } X V s T ∧ Kp base W ((W.setCell ⟨g, P, none⟩ (.int .i64 (r.last + 1))).setCell ⟨g', P, none⟩ (.int .i64 r.last))) := fun {W} g0 => by
    have h1 := h0.grown g0
    obtain ⟨g, u0, a1, a2, a3, a4, a5, a6, a7, O1⟩ := h1.setN (i := P) (by omega) (by omega) (r.last + 1)
    obtain ⟨g', u0', b1, b2, b3, b4, b5, b6, b7, O2⟩ := O1.setM (i := P) (by show P < r.mat.length; omega) (by show r.mat.length ≤ 7; omega) r.last
    have hgg : g ≠ g' := fun e => by rw [e, b7] at a7; cases a7
    refine ⟨g, g', a1, b1, hgg, ⟨u0, a2⟩, ⟨u0', ?_⟩, a3, ?_, O2, ?_⟩
    · rw [set_other (by simp)] at b2; exact b2
    · have := World.frozen?_of_block (a := ⟨g', P, none⟩) ((grown_set W ⟨g, P, none⟩ (.int .i64 (r.last + 1))).block g' (by rw [size_set] at b5; exact b5) (by simp; omega))
      rw [b3] at this
      exact this.symm
    · exact chg_setb (chg_setb (Chg.refl _ W) g P _ a4) g' P _ b4
  have HX : Hid (X.map (·.1) = L) := hX
  obtain ⟨gn, gm, ean, eam, _⟩ := HH.out (grown_refl w none)
  obtain ⟨N, hN⟩ : ∃ N, r.conf.length = N := ⟨_, rfl⟩
  rw [hN] at ln lm hpl hc7
  rw [ean, eam, ln, lm] at CC
  have wr1 : IntKind.i64.wrap (r.last + 1) = r.last + 1 := by rw [IntKind.wrap_i64]; omega
  have HG : Hid (∀ {W : World}, w.grownBy W none → (∃ u, W.cell? ⟨gn, P, none⟩ = some u) ∧ (∃ u, W.cell? ⟨gm, P, none⟩ = some u) ∧ W.frozen? ⟨gn, P, none⟩ = false ∧ W.frozen? ⟨gm, P, none⟩ = false ∧ gn ≠ gm ∧ Oc ((W.setCell ⟨gn, P, none⟩ (.int .i64 (r.last + 1))).setCell ⟨gm, P, none⟩ (.int .i64 r.last)) base b { r with mat := r.mat.set P r.last, next := r.next.set P (r.last + 1) } X V s T ∧ Kp base W ((W.setCell ⟨gn, P, none⟩ (.int .i64 (r.last + 1))).setCell ⟨gm, P, none⟩ (.int .i64 r.last))) := fun {W} g0 => by
    obtain ⟨g, g', x1, x2, x3, x4, x5, x6, x7, x8, x9⟩ := HH.out g0
    rw [ean] at x1
    rw [eam] at x2
    injection x1 with x1
    injection x1 with x1
    injection x2 with x2
    injection x2 with x2
    subst x1 x2
    exact ⟨x4, x5, x6, x7, x3, x8, x9⟩
  have hgg := (HG.out (grown_refl w none)).2.2.2.2.1
  have lb : 0 ≤ r.last ∧ r.last ≤ 1099511627776 := by omega
  clear h h0 hX hk p7 hid hm hn ln lm hN ean eam hlast
  generalize r.last = q at *
  go_enter Try.func66, Try.ntmps66
  go_upto_region 1 with (go_at_call 59; (with_reducible refine PL.mono ?_); rintro e w1 ⟨rfl, hw1⟩; subst hw1)
  obtain ⟨d14, d15⟩ := CC.out (grown_drew (grown_refl w1 none))
  have iP : (P : Int) < (N : Int) := by omega
  go_region_with (first
    | (go_at_call 57; (with_reducible refine (LA.out _ (grown_tr G2 (grown_refl _ none))).mono ?_); rintro e w3 ⟨rfl, g3⟩; have G3 := grown_tr G2 g3; obtain ⟨i14, i15⟩ := CC.out G3; obtain ⟨⟨ua, ia⟩, ⟨ub, ib⟩, fa, fb, _⟩ := HG.out G3)
    | (go_at_call 57; (with_reducible refine (LA.out _ (grown_drew (grown_refl w1 none))).mono ?_); rintro e w2 ⟨rfl, g2⟩; have G2 := grown_tr (grown_drew (grown_refl w1 none)) g2; obtain ⟨e14, e15⟩ := CC.out G2))
  all_goals
    go_wp2_with fail
    go_end0
    obtain ⟨_, _, _, _, _, O3, K3⟩ := HG.out G3
    exact ⟨rfl, ⟨X, V, s, T, O3, HX.out, rfl⟩, (Kp.of G3).trans K3⟩
end Go.Proofs.Ytdpcebaggldaiaa
