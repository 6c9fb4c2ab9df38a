/- The reference's mesh in memory: same, IsCut, Find, Packets. -/
import Derived.Test.YtffbaomaiohdiaaMCutsM
namespace Go.Proofs.Ytffbaomaiohdiaa
open Go.RowKit Msh
set_option linter.unusedVariables false
set_option maxRecDepth 10000

def eC : Elm (Int × Int) where
  el := 65
  sl := 28
  size := 2
  bytes := 16
  zero := .agg #[.int .i64 0, .int .i64 0]
  enc := fun p => [.int .i64 p.1, .int .i64 p.2]
  hu := Try.underlying28
  hi := by kernel_rfl
  hz := rfl
  hs := by decide
  len := fun _ => rfl
  one := by intro x v hv; simp at hv; rcases hv with rfl | rfl <;> rfl
  he := by kernel_rfl
  so := fun W => Try.sizeOf65 W
structure RmD (w : World) (q : Nat) (vl vc : Value) (s : Ms) : Prop where
  c0 : w.cell? ⟨q, 0, none⟩ = some vl
  c1 : w.cell? ⟨q, 1, none⟩ = some (.int .i64 (s.n : Int))
  c2 : w.cell? ⟨q, 2, none⟩ = some vc
  fr : ∀ i, w.frozen? ⟨q, i, none⟩ = false
  row : eP.Own w 0 vl s.l
  cuts : eC.Own w 0 vc s.cs
  lq : ∀ k, vl.ownBlock = some k → k ≠ q
  cq : ∀ k, vc.ownBlock = some k → k ≠ q
  lc : ∀ k, vl.ownBlock = some k → vc.ownBlock ≠ some k
  ok : Ok s
def Rm (w : World) (q : Nat) (s : Ms) (G : Nat → Prop) : Prop := ∃ vl vc, RmD w q vl vc s ∧ ∀ k, G k ↔ (k = q ∨ vl.ownBlock = some k ∨ vc.ownBlock = some k)
theorem RmD.kept {F : Nat → Prop} {w w' : World} {q : Nat} {vl vc : Value} {s : Ms} (h : RmD w q vl vc s) (g : Chg F w w') (hb : ¬ F q) (hl : ∀ k, vl.ownBlock = some k → ¬ F k) (hc : ∀ k, vc.ownBlock = some k → ¬ F k) : RmD w' q vl vc s :=
  ⟨g.cell h.c0 hb, g.cell h.c1 hb, g.cell h.c2 hb, fun i => (g.frozen (a := ⟨q, i, none⟩) (World.block_lt_of_cell? w ⟨q, 0, none⟩ h.c0) hb).trans (h.fr i), h.row.kept g hl, h.cuts.kept g hc, h.lq, h.cq, h.lc, h.ok⟩
theorem Rm.kept {F G : Nat → Prop} {w w' : World} {q : Nat} {s : Ms} (h : Rm w q s F) (g : Chg G w w') (hG : ∀ k, F k → ¬ G k) : Rm w' q s F := by
  obtain ⟨vl, vc, h1, h2⟩ := h
  exact ⟨vl, vc, h1.kept g (hG _ ((h2 _).2 (.inl rfl))) (fun k hk => hG _ ((h2 _).2 (.inr (.inl hk)))) (fun k hk => hG _ ((h2 _).2 (.inr (.inr hk)))), h2⟩
theorem RmD.grown {w w' : World} {q : Nat} {vl vc : Value} {s : Ms} (h : RmD w q vl vc s) (g : w.grownBy w' none) : RmD w' q vl vc s := h.kept (F := fun _ => False) (Chg.of g (by simp)) id (fun _ _ => id) (fun _ _ => id)
theorem Rm.grown {w w' : World} {q : Nat} {s : Ms} {F : Nat → Prop} (h : Rm w q s F) (g : w.grownBy w' none) : Rm w' q s F := h.kept (G := fun _ => False) (Chg.of g (by simp)) (fun _ _ => id)
theorem RmD.lt {w : World} {q : Nat} {vl vc : Value} {s : Ms} (h : RmD w q vl vc s) : q < w.heap.size ∧ (∀ k, vl.ownBlock = some k → k < w.heap.size) ∧ ∀ k, vc.ownBlock = some k → k < w.heap.size :=
  ⟨World.block_lt_of_cell? w _ h.c0, fun k hk => (h.row.lt k hk).2, fun k hk => (h.cuts.lt k hk).2⟩
theorem Rm.lt {w : World} {q : Nat} {s : Ms} {F : Nat → Prop} (h : Rm w q s F) : ∀ k, F k → k < w.heap.size := by
  obtain ⟨vl, vc, h1, h2⟩ := h
  intro k hk
  rcases (h2 k).1 hk with e | e | e
  · rw [e]; exact h1.lt.1
  · exact h1.lt.2.1 k e
  · exact h1.lt.2.2 k e
def RLeft (w w' : World) (q : Nat) (s' : Ms) (F : Nat → Prop) : Prop := ∃ F', Rm w' q s' F' ∧ (∀ k, F' k → F k ∨ w.heap.size ≤ k) ∧ Chg F w w'
theorem RLeft.same {w w' : World} {q : Nat} {s : Ms} {F : Nat → Prop} (h : Rm w q s F) (g : w.grownBy w' none) : RLeft w w' q s F := ⟨F, h.grown g, fun k hk => .inl hk, Chg.of g (by simp)⟩
theorem RLeft.late {w w1 w' : World} {q : Nat} {s' : Ms} {F : Nat → Prop} (h : RLeft w1 w' q s' F) (g : w.grownBy w1 none) : RLeft w w' q s' F := by
  obtain ⟨F', h1, h2, h3⟩ := h
  have := g.size
  exact ⟨F', h1, fun k hk => (h2 k hk).imp id (fun e => by omega), (Chg.of (F := F) g (by simp)).trans h3 fun k hk => .inl hk⟩
theorem RLeft.wrote {w w1 w2 w' : World} {b q : Nat} {s' : Ms} {F : Nat → Prop} (h : RLeft w1 w2 b s' F) (g1 : w.grownBy w1 none) (hq : w.heap.size ≤ q) (hq1 : q < w1.heap.size) (hF : ∀ k, F k → k < w.heap.size) (g : w2.grownBy w' (some q)) : RLeft w w' b s' F := by
  obtain ⟨F', h1, h2, h3⟩ := h.late g1
  obtain ⟨F'', k1, k2, k3⟩ := h
  refine ⟨F'', k1.kept (G := fun k => k = q) (Chg.of g fun k e => by injection e with e; exact e.symm) (fun k hk e => ?_), fun k hk => ?_, h3.grown g fun k e => .inr (by injection e with e; omega)⟩
  · subst e
    rcases k2 k hk with e | e
    · have := hF k e; omega
    · omega
  · rcases k2 k hk with e | e
    · exact .inl e
    · have := g1.size; exact .inr (by omega)
set_option maxRecDepth 100000 in
set_option maxHeartbeats 800000 in
theorem same_any (p : Int × Int) (a b : Int) (w : World) : Calls Try.prog 33 #[.agg #[.int .i64 p.1, .int .i64 p.2], .int .i64 a, .int .i64 b] w fun e w' => e = .returned (.bool (same p a b)) ∧ w.grownBy w' none := by
  obtain ⟨x, y⟩ := p
  unfold same
  simp only
  cases h1 : (x == a) <;> cases h2 : (y == b) <;> cases h3 : (x == b) <;> cases h4 : (y == a)
  all_goals
    go_enter Try.func33, Try.ntmps33
    go_wp2
    go_ret
    exact ⟨rfl, World.grownBy_alloc w _ none⟩
theorem isCut_take {cs : List (Int × Int)} {a b : Int} {k : Nat} {p : Int × Int} (h : cs[k]? = some p) : isCut (cs.take (k + 1)) a b = (isCut (cs.take k) a b || same p a b) := by
  unfold isCut
  rw [List.take_add_one, h, List.any_append]
  simp
set_option maxRecDepth 100000 in
set_option maxHeartbeats 800000 in
theorem rIsCut_any (q : Nat) (vl vc : Value) (s : Ms) (a b : Int) (w : World) (h : RmD w q vl vc s) (hl : s.cs.length ≤ 1000000) :
    Calls Try.prog 30 #[.pointer (some ⟨q, 0, none⟩), .int .i64 a, .int .i64 b] w fun e w' => e = .returned (.bool (isCut s.cs a b)) ∧ w.grownBy w' none := by
  have H : Hid (RmD w q vl vc s) := h
  have SM := fun p W => same_any p a b W
  obtain ⟨ad, cp, hv⟩ := h.cuts.rx.form
  subst hv
  obtain ⟨N, hN⟩ : ∃ N, s.cs.length = N := ⟨_, rfl⟩
  have NL : Hid (s.cs.length = N) := hN
  rw [hN] at H hl
  have HC : Hid (∀ W, w.grownBy W none → W.cell? ⟨q, 2, none⟩ = some (.slice ad N cp)) := fun W g => g.cell H.out.c2 (by simp)
  clear h hN
  have c2 := HC.out w (grown_refl _ _)
  go_enter Try.func30, Try.ntmps30
  go_wp2_with fail
  go_loopw [7] (fun i wr => ∃ j : Nat, j ≤ N ∧ i = .int .i64 (j : Int) ∧ Hid (isCut (s.cs.take j) a b = false) ∧ Hid (w.grownBy wr none)) (fun i _ => N - (intOf i).toNat)
  case atStart => exact ⟨0, by omega, rfl, (rfl : isCut (s.cs.take 0) a b = false), grown_refl _ _⟩
  case round =>
    obtain ⟨j, hj, rfl, I, G⟩ := hrel
    have c2' := HC.out wr G.out
    by_cases hlt : j < N
    · obtain ⟨p, hp⟩ : ∃ p, s.cs[j]? = some p := ⟨_, List.getElem?_eq_getElem (by rw [NL.out]; exact hlt)⟩
      obtain ⟨g, c, hv, hc, _⟩ := (H.out.grown G.out).cuts.at_ hp
      injection hv with e1 e2 e3
      subst e1
      have y0 : wr.cell? ⟨g, j * 2, none⟩ = some (.int .i64 p.1) := hc 0 _ rfl
      have y1 : wr.cell? ⟨g, j * 2 + 1, none⟩ = some (.int .i64 p.2) := hc 1 _ rfl
      have IT := isCut_take (a := a) (b := b) hp
      have SMp := SM p
      cases hs : same p a b with
      | true =>
        rw [hs] at SMp
        have FN : Hid (isCut s.cs a b = true) := by
          show isCut s.cs a b = true
          unfold isCut
          exact List.any_eq_true.2 ⟨p, List.mem_of_getElem? hp, hs⟩
        clear IT hp hc e2 e3 hs
        go_wp2_with (go_at_call 33; (with_reducible refine (SMp _).mono ?_); rintro e w2 ⟨rfl, hg2⟩)
        go_ret
        exact ⟨by rw [FN.out]; rfl, grown_tr G.out hg2⟩
      | false =>
        rw [hs] at SMp IT
        have I2 : Hid (isCut (s.cs.take (j + 1)) a b = false) := by show _ = _; rw [IT, I.out]; rfl
        clear IT hp hc e2 e3 hs
        go_wp2_with (go_at_call 33; (with_reducible refine (SMp _).mono ?_); rintro e w2 ⟨rfl, hg2⟩)
        go_roundw
        case rel => exact ⟨j + 1, by omega, by go_num, I2, grown_tr G.out hg2⟩
        case measure => simp [intOf]; omega
    · have FN : Hid (isCut s.cs a b = false) := by
        have := I.out
        rw [List.take_of_length_le (by rw [NL.out]; omega)] at this
        exact this
      go_wp2_with fail
      go_ret
      exact ⟨by rw [FN.out]; rfl, G.out⟩
def fnd (l : List Pk) (id : Int) : Int := if there l id = true then (pos l id : Int) else -1
set_option maxRecDepth 100000 in
set_option maxHeartbeats 800000 in
theorem rFind_any (q : Nat) (vl vc : Value) (s : Ms) (id : Int) (w : World) (h : RmD w q vl vc s) :
    Calls Try.prog 29 #[.pointer (some ⟨q, 0, none⟩), .int .i64 id] w fun e w' => e = .returned (.int .i64 (fnd s.l id)) ∧ w' = w := by
  have H : Hid (RmD w q vl vc s) := h
  obtain ⟨ad, cp, hv⟩ := h.row.rx.form
  subst hv
  obtain ⟨N, hN⟩ : ∃ N, s.l.length = N := ⟨_, rfl⟩
  have NL : Hid (s.l.length = N) := hN
  have hl := h.ok.len
  rw [hN] at H hl
  have c0 := H.out.c0
  clear h hN
  go_enter Try.func29, Try.ntmps29
  go_wp2_with fail
  go_loopw [5] (fun i wr => ∃ j : Nat, j ≤ N ∧ i = .int .i64 (j : Int) ∧ Hid (∀ (k : Nat) (p : Pk), k < j → s.l[k]? = some p → p.id ≠ id) ∧ wr = w) (fun i _ => N - (intOf i).toNat)
  case atStart => exact ⟨0, by omega, rfl, fun k p hk => absurd hk (Nat.not_lt_zero _), rfl⟩
  case round =>
    obtain ⟨j, hj, rfl, I, rfl⟩ := hrel
    by_cases hlt : j < N
    · obtain ⟨p, hp⟩ : ∃ p, s.l[j]? = some p := ⟨_, List.getElem?_eq_getElem (by rw [NL.out]; exact hlt)⟩
      obtain ⟨g, c, hv, hc, _⟩ := H.out.row.at_ hp
      injection hv with e1 e2 e3
      subst e1
      have y0 : wr.cell? ⟨g, j * 4, none⟩ = some (.int .i64 p.id) := hc 0 _ rfl
      by_cases hid : p.id = id
      · have eb : (p.id == id) = true := by simpa using hid
        have FN : Hid (fnd s.l id = (j : Int)) := by
          have ht : there s.l id = true := by unfold there; exact List.any_eq_true.2 ⟨p, List.mem_of_getElem? hp, eb⟩
          show fnd s.l id = _
          unfold fnd
          rw [if_pos ht, ← hid, pos_is H.out.ok.rise hp]
        clear hp hc e2 e3 hid
        go_wp2_with fail
        go_ret
        exact ⟨by rw [FN.out]; rfl, rfl⟩
      · have eb : (p.id == id) = false := by simpa using hid
        have HP : Hid (s.l[j]? = some p) := hp
        have HI : Hid (p.id ≠ id) := hid
        clear hp hc e2 e3 hid
        go_wp2_with fail
        go_roundw
        case rel =>
          refine ⟨j + 1, by omega, by go_num, fun k p' hk hp' => ?_, by first | rfl | trivial⟩
          by_cases e : k = j
          · subst e
            rw [HP.out] at hp'
            injection hp' with hp'
            rw [← hp']
            exact HI.out
          · exact I.out k p' (by omega) hp'
        case measure => simp [intOf]; omega
    · have FN : Hid (fnd s.l id = -1) := by
        have ht : there s.l id = false := by
          unfold there
          rw [List.any_eq_false]
          intro p hp hc
          obtain ⟨k, hk⟩ := List.getElem?_of_mem hp
          exact I.out k p (by have := (List.getElem?_eq_some_iff.1 hk).1; rw [NL.out] at this; omega) hk (by simpa using hc)
        show fnd s.l id = _
        unfold fnd
        rw [ht]
        rfl
      go_wp2_with fail
      go_ret
      exact ⟨by rw [FN.out]; rfl, rfl⟩
set_option maxRecDepth 100000 in
set_option maxHeartbeats 800000 in
theorem packets_any (va vb : Value) (l : List Pk) (w : World) (ha : eP.Own w 0 va l) (hb : eP.Own w 0 vb l) (hl : l.length ≤ 512) :
    Calls Try.prog 23 #[va, vb] w fun e w' => e = .returned (.bool true) ∧ w.grownBy w' none := by
  obtain ⟨a1, c1, hv⟩ := ha.rx.form
  subst hv
  obtain ⟨a2, c2, hv⟩ := hb.rx.form
  subst hv
  obtain ⟨N, hN⟩ : ∃ N, l.length = N := ⟨_, rfl⟩
  have NL : Hid (l.length = N) := hN
  rw [hN] at ha hb hl ⊢
  have HA : Hid (eP.Own w 0 (.slice a1 N c1) l) := ha
  have HB : Hid (eP.Own w 0 (.slice a2 N c2) l) := hb
  clear ha hb hN
  have hNN : ((N : Int) != (N : Int)) = false := by simp
  go_enter Try.func23, Try.ntmps23
  go_wp2_with fail
  go_loopw [5] (fun i wr => ∃ j q : Nat, j ≤ N ∧ i = .int .i64 (j : Int) ∧ wr = w.drewN q) (fun i _ => N - (intOf i).toNat)
  case atStart => exact ⟨0, 0, by omega, rfl, rfl⟩
  case round =>
    obtain ⟨j, q, hj, rfl, rfl⟩ := hrel
    by_cases hlt : j < N
    · obtain ⟨p, hp⟩ : ∃ p, l[j]? = some p := ⟨_, List.getElem?_eq_getElem (by rw [NL.out]; exact hlt)⟩
      obtain ⟨g, c, hv, hc, _⟩ := HA.out.at_ hp
      injection hv with e1 e2 e3
      subst e1
      obtain ⟨g', c', hv', hc', _⟩ := HB.out.at_ hp
      injection hv' with f1 f2 f3
      subst f1
      have y0 : w.cell? ⟨g, j * 4, none⟩ = some (.int .i64 p.id) := hc 0 _ rfl
      have y1 : w.cell? ⟨g, j * 4 + 1, none⟩ = some (.int .i64 p.fm) := hc 1 _ rfl
      have y2 : w.cell? ⟨g, j * 4 + 2, none⟩ = some (.int .i64 p.tt) := hc 2 _ rfl
      have y3 : w.cell? ⟨g, j * 4 + 3, none⟩ = some (.string p.body) := hc 3 _ rfl
      have z0 : w.cell? ⟨g', j * 4, none⟩ = some (.int .i64 p.id) := hc' 0 _ rfl
      have z1 : w.cell? ⟨g', j * 4 + 1, none⟩ = some (.int .i64 p.fm) := hc' 1 _ rfl
      have z2 : w.cell? ⟨g', j * 4 + 2, none⟩ = some (.int .i64 p.tt) := hc' 2 _ rfl
      have z3 : w.cell? ⟨g', j * 4 + 3, none⟩ = some (.string p.body) := hc' 3 _ rfl
      have NQ := neq_pk p
      clear hp hc hc' e2 e3 f2 f3
      go_upto_region 6 with fail
      refine region_still (by kernel_rfl) (by kernel_rfl) ?_
      iterate 9 still_step
      refine wpStill_nil ?_
      go_wp2_with fail
      go_roundw
      case rel => exact ⟨j + 1, q + 1, by omega, by go_num, by simp⟩
      case measure => simp [intOf]; omega
    · go_wp2_with fail
      go_ret
      exact ⟨rfl, grown_drewN (grown_refl _ _) _⟩
end Go.Proofs.Ytffbaomaiohdiaa
