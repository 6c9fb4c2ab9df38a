/- A node at work: a bundle stands for its entries. -/
import Derived.Test.YtdpcebaggldaiaaGPushB
namespace Go.Proofs.Ytdpcebaggldaiaa
open Go.RowKit Trl
open Rft (Nd Mg)
set_option linter.unusedVariables false
set_option maxRecDepth 10000

/-- What a bundle makes of a log. -/
def Rft.repl (r : Nd) (m : Mg) : Nd :=
  if r.b ≤ m.index ∧ m.index ≤ r.last ∧ tm r.b r.k r.l m.index = m.logt then { r with b := m.index, k := m.logt, l := r.l.drop (m.index - r.b).toNat, snap := m.data, com := m.index }
  else { r with b := m.index, k := m.logt, l := [], snap := m.data, com := m.index }
/-- Log, Snap and Commit are stored. -/
theorem repl_o {w w1 : World} {base b : Nat} {r : Nd} {L : List Mg} {c : S3} {l : List En} {B K x : Int} {a : Option Addr} {n cp : Nat} {d : ByteArray} (h : Ob w base b r L c) (g : w.grownBy w1 none) (hA : eE.Own w1 w.heap.size (.slice a n cp) l) :
    Ob (((((w1.setCell ⟨b, 6, none⟩ (.int .i64 B)).setCell ⟨b, 7, none⟩ (.int .i64 K)).setCell ⟨b, 8, none⟩ (.slice a n cp)).setCell ⟨b, 9, none⟩ (.string d)).setCell ⟨b, 10, none⟩ (.int .i64 x)) base b { r with b := B, k := K, l := l, snap := d, com := x } L c ∧ Chg (fun k => k = b) w (((((w1.setCell ⟨b, 6, none⟩ (.int .i64 B)).setCell ⟨b, 7, none⟩ (.int .i64 K)).setCell ⟨b, 8, none⟩ (.slice a n cp)).setCell ⟨b, 9, none⟩ (.string d)).setCell ⟨b, 10, none⟩ (.int .i64 x)) := by
  obtain ⟨X, V, s, T, h0, hX, hVc⟩ := h
  have C := chg_setb (chg_setb (chg_setb (chg_setb (chg_setb (Chg.refl (fun k => k = b) w1) b 6 (.int .i64 B) rfl) b 7 (.int .i64 K) rfl) b 8 (.slice a n cp) rfl) b 9 (.string d) rfl) b 10 (.int .i64 x) rfl
  have O1 := h0.grown g
  obtain ⟨T', O'⟩ := h0.log (r' := { r with b := B, k := K, l := l, snap := d, com := x }) (V' := { V with e := ⟨a, n, cp⟩ }) (u := ⟨a, n, cp⟩) g hA C (((((O1.cs.set 6 _).set 7 _).set 8 _).set 9 _).set 10 _) ⟨rfl, rfl⟩ rfl (.inl ⟨rfl, rfl⟩) (.inl ⟨rfl, rfl⟩) (.inl ⟨rfl, rfl⟩)
  exact ⟨⟨X, _, s, T', O', hX, hVc⟩, (Chg.of (F := fun k => k = b) g (by simp)).trans C (fun _ h => .inl h)⟩
theorem ob_snap {w : World} {base b : Nat} {r : Nd} {L : List Mg} {c : S3} (h : Ob w base b r L c) : w.cell? ⟨b, 9, none⟩ = some (.string r.snap) := by
  obtain ⟨X, V, s, T, h0, hX, hVc⟩ := h
  exact h0.cs.at_ 9 rfl
theorem two_boxes {w W : World} {g : Mg} {u : S3} (gr : ((w.alloc (.cells #[.int .i64 g.kind, .int .i64 g.fm, .int .i64 g.tt, .int .i64 g.term, .int .i64 g.index, .int .i64 g.logt, .int .i64 g.com, .bool g.yes, .slice u.a u.n u.c, .string g.data] 30)).alloc (.cells #[.int .i64 g.index, .int .i64 g.logt, .slice none 0 0] 25)).grownBy W none) : Cs W w.heap.size (mc (g, u)) ∧ Cs W (w.heap.size + 1) [.int .i64 g.index, .int .i64 g.logt, .slice none 0 0] ∧ w.grownBy W none := by
  have g1 := World.grownBy_alloc (w.alloc (.cells #[.int .i64 g.kind, .int .i64 g.fm, .int .i64 g.tt, .int .i64 g.term, .int .i64 g.index, .int .i64 g.logt, .int .i64 g.com, .bool g.yes, .slice u.a u.n u.c, .string g.data] 30)) (.cells #[.int .i64 g.index, .int .i64 g.logt, .slice none 0 0] 25) none
  have e : (w.alloc (.cells #[.int .i64 g.kind, .int .i64 g.fm, .int .i64 g.tt, .int .i64 g.term, .int .i64 g.index, .int .i64 g.logt, .int .i64 g.com, .bool g.yes, .slice u.a u.n u.c, .string g.data] 30)).heap.size = w.heap.size + 1 := by simp
  have h2 : Cs W (w.alloc (.cells #[.int .i64 g.kind, .int .i64 g.fm, .int .i64 g.tt, .int .i64 g.term, .int .i64 g.index, .int .i64 g.logt, .int .i64 g.com, .bool g.yes, .slice u.a u.n u.c, .string g.data] 30)).heap.size [.int .i64 g.index, .int .i64 g.logt, .slice none 0 0] := ⟨fun j v hv => by rw [Nat.zero_add]; exact cell_kept gr j v (by simpa using hv), fun i => frozen_kept gr i, by have := gr.size; simp at this; simp; omega⟩
  rw [e] at h2
  exact ⟨box_msg (x := (g, u)) (grown_tr g1 gr), h2, grown_tr (World.grownBy_alloc w _ none) (grown_tr g1 gr)⟩
theorem up_some {w w1 w2 : World} {q : Nat} (g : w.grownBy w1 none) (h : w1.grownBy w2 (some q)) : w.grownBy w2 (some q) :=
  ⟨h.os.trans g.os, h.tape.trans g.tape, h.output.trans g.output, Nat.le_trans g.size h.size, fun j hj hn => by
    have := g.size
    rw [h.block j (by omega) hn]
    exact g.block j hj (by simp)⟩
set_option maxRecDepth 100000 in
set_option maxHeartbeats 3200000 in
theorem replace_o {w : World} {base b : Nat} {r : Nd} {L : List Mg} {c : S3} (g : Mg) (u : S3) (h : Ob w base b r L c) (hk : chk r.b r.k r.l = true) :
    Calls Try.prog 58 #[.pointer (some ⟨b, 0, none⟩), mv g u] w fun e w' => e = .returned (.tuple #[]) ∧ Ob w' base b (Rft.repl r g) L c ∧ Chg (fun k => k = b) w w' := by
  have BX : Hid (∀ {W : World}, ((w.alloc (.cells #[.int .i64 g.kind, .int .i64 g.fm, .int .i64 g.tt, .int .i64 g.term, .int .i64 g.index, .int .i64 g.logt, .int .i64 g.com, .bool g.yes, .slice u.a u.n u.c, .string g.data] 30)).alloc (.cells #[.int .i64 g.index, .int .i64 g.logt, .slice none 0 0] 25)).grownBy W none → Cs W w.heap.size (mc (g, u)) ∧ Cs W (w.heap.size + 1) [.int .i64 g.index, .int .i64 g.logt, .slice none 0 0] ∧ w.grownBy W none) := fun {W} gr => two_boxes gr
  have hbq := h.hb
  have H : Hid (Ob w base b r L c) := h
  have RP : Hid (Rft.repl r g = if r.b ≤ g.index ∧ g.index ≤ r.last ∧ tm r.b r.k r.l g.index = g.logt then { r with b := g.index, k := g.logt, l := r.l.drop (g.index - r.b).toNat, snap := g.data, com := g.index } else { r with b := g.index, k := g.logt, l := [], snap := g.data, com := g.index }) := rfl
  obtain ⟨DD, hDD⟩ : ∃ d, decide (r.b ≤ g.index ∧ g.index ≤ r.b + (r.l.length : Int)) = d := ⟨_, rfl⟩
  obtain ⟨TM, hTM⟩ : ∃ d, tm0 r.b r.k r.l g.index = d := ⟨_, rfl⟩
  have HDD : Hid (decide (r.b ≤ g.index ∧ g.index ≤ r.b + (r.l.length : Int)) = DD) := hDD
  have HTM : Hid (tm0 r.b r.k r.l g.index = TM) := hTM
  have TE : Hid (∀ (W : World) (v : Value), Sl W v r.l → Calls Try.prog 70 #[tv r.b r.k v, .int .i64 g.index] W fun e w' => e = .returned (.tuple #[.int .i64 TM, .bool DD]) ∧ W.grownBy w' none) := fun W v hv => by rw [← hDD, ← hTM]; exact Term_any r.b r.k g.index v r.l W hv hk
  have CU : Hid (∀ (W : World) (v : Value), Sl W v r.l → r.b ≤ g.index → g.index ≤ r.b + (r.l.length : Int) → Calls Try.prog 71 #[tv r.b r.k v, .int .i64 g.index] W fun e w' => Res W w' g.index (tm r.b r.k r.l g.index) (some (r.l.drop (g.index - r.b).toNat)) e) := fun W v hv h1 h2 => Cut_any r.b r.k g.index v r.l W hv hk h1 h2
  obtain ⟨B0, B1, G0⟩ := BX.out (grown_refl _ none)
  have HG0 : Hid (w.grownBy ((w.alloc (.cells #[.int .i64 g.kind, .int .i64 g.fm, .int .i64 g.tt, .int .i64 g.term, .int .i64 g.index, .int .i64 g.logt, .int .i64 g.com, .bool g.yes, .slice u.a u.n u.c, .string g.data] 30)).alloc (.cells #[.int .i64 g.index, .int .i64 g.logt, .slice none 0 0] 25)) none) := G0
  obtain ⟨V, c6, c7, c8, c10, _, hS, fz⟩ := ob_cells (h.grown G0)
  have m4 : ((w.alloc (.cells #[.int .i64 g.kind, .int .i64 g.fm, .int .i64 g.tt, .int .i64 g.term, .int .i64 g.index, .int .i64 g.logt, .int .i64 g.com, .bool g.yes, .slice u.a u.n u.c, .string g.data] 30)).alloc (.cells #[.int .i64 g.index, .int .i64 g.logt, .slice none 0 0] 25)).cell? ⟨w.heap.size, 4, none⟩ = some (.int .i64 g.index) := B0.at_ 4 rfl
  have m5 : ((w.alloc (.cells #[.int .i64 g.kind, .int .i64 g.fm, .int .i64 g.tt, .int .i64 g.term, .int .i64 g.index, .int .i64 g.logt, .int .i64 g.com, .bool g.yes, .slice u.a u.n u.c, .string g.data] 30)).alloc (.cells #[.int .i64 g.index, .int .i64 g.logt, .slice none 0 0] 25)).cell? ⟨w.heap.size, 5, none⟩ = some (.int .i64 g.logt) := B0.at_ 5 rfl
  have e1 : (w.alloc (.cells #[.int .i64 g.kind, .int .i64 g.fm, .int .i64 g.tt, .int .i64 g.term, .int .i64 g.index, .int .i64 g.logt, .int .i64 g.com, .bool g.yes, .slice u.a u.n u.c, .string g.data] 30)).heap.size = w.heap.size + 1 := by simp
  have hqn : b ≠ w.heap.size ∧ b ≠ w.heap.size + 1 := by omega
  clear h hk B0 B1 e1 fz c10 hDD hTM
  go_enter Try.func58, Try.ntmps58
  go_upto_region 2 with fail
  generalize (w.alloc (.cells #[.int .i64 g.kind, .int .i64 g.fm, .int .i64 g.tt, .int .i64 g.term, .int .i64 g.index, .int .i64 g.logt, .int .i64 g.com, .bool g.yes, .slice u.a u.n u.c, .string g.data] 30)).alloc (.cells #[.int .i64 g.index, .int .i64 g.logt, .slice none 0 0] 25) = w0 at *
  have HS : Hid (Sl w0 (.slice V.e.a V.e.n V.e.c) r.l) := hS
  have KS : Hid (∀ W, w0.grownBy W none → w0.grownBy W none ∧ W.cell? ⟨b, 6, none⟩ = some (.int .i64 r.b) ∧ W.cell? ⟨b, 7, none⟩ = some (.int .i64 r.k) ∧ W.cell? ⟨b, 8, none⟩ = some (.slice V.e.a V.e.n V.e.c) ∧ W.cell? ⟨w.heap.size, 4, none⟩ = some (.int .i64 g.index)) := fun W gr => ⟨gr, gr.cell c6 (by simp), gr.cell c7 (by simp), gr.cell c8 (by simp), gr.cell m4 (by simp)⟩
  clear hS c6 c7 c8 m4 m5
  go_cut [5, 6] from 12 to 22 (fun t5 t6 wx => t5 = .int .i64 TM ∧ t6 = .bool DD ∧ Hid (w0.grownBy wx none))
  case first =>
    go_region_held3 (fun W => w0.grownBy W none ∧ W.cell? ⟨b, 6, none⟩ = some (.int .i64 r.b) ∧ W.cell? ⟨b, 7, none⟩ = some (.int .i64 r.k) ∧ W.cell? ⟨b, 8, none⟩ = some (.slice V.e.a V.e.n V.e.c) ∧ W.cell? ⟨w.heap.size, 4, none⟩ = some (.int .i64 g.index))
      (first | (refine KS.out _ ?_; (repeat (first | assumption | (with_reducible exact grown_refl _ _) | (with_reducible refine grown_drew ?_) | (with_reducible refine grown_alloc ?_ _) | (with_reducible exact And.left ‹_›)))))
      (first | (go_at_call 70; (with_reducible refine (TE.out _ _ (HS.out.grown (And.left ‹_›))).mono ?_); rintro e w4 ⟨rfl, g4⟩; have g5 : w0.grownBy w4 none := grown_tr (And.left ‹_›) g4))
    go_wp2_with fail
    go_meet
    exact ⟨rfl, rfl, g5⟩
  case rest =>
    obtain ⟨rfl, rfl, G1⟩ := hcut
    have BX1 := BX.out G1.out
    have n5 : wc.cell? ⟨w.heap.size, 5, none⟩ = some (.int .i64 g.logt) := BX1.1.at_ 5 rfl
    have n4 : wc.cell? ⟨w.heap.size, 4, none⟩ = some (.int .i64 g.index) := BX1.1.at_ 4 rfl
    have n9 : wc.cell? ⟨w.heap.size, 9, none⟩ = some (.string g.data) := BX1.1.at_ 9 rfl
    have B1 : Hid (Cs wc (w.heap.size + 1) [.int .i64 g.index, .int .i64 g.logt, .slice none 0 0]) := BX1.2.1
    have GW : Hid (w.grownBy wc none) := BX1.2.2
    have OW : Hid (Ob wc base b r L c) := H.out.grown BX1.2.2
    clear BX1
    go_step
    go_cut [4] from 23 to 40 (fun t4 wx => ∃ a2 n2 c2 LL, t4 = .pointer (some ⟨w.heap.size + 1, 0, none⟩) ∧ Hid (w.grownBy wx none ∧ Bo wx (w.heap.size + 1) g.index g.logt (.slice a2 n2 c2) ∧ eE.Own wx w.heap.size (.slice a2 n2 c2) LL ∧ (wx.cell? ⟨w.heap.size, 4, none⟩ = some (.int .i64 g.index) ∧ wx.cell? ⟨w.heap.size, 9, none⟩ = some (.string g.data)) ∧ Rft.repl r g = { r with b := g.index, k := g.logt, l := LL, snap := g.data, com := g.index }))
    case first =>
      by_cases hin : (r.b ≤ g.index ∧ g.index ≤ r.b + (r.l.length : Int)) ∧ tm r.b r.k r.l g.index = g.logt
      · have d1 : DD = true := HDD.out.symm.trans (decide_eq_true hin.1)
        have d2 : (TM == g.logt) = true := by rw [← HTM.out]; unfold tm0; rw [if_pos hin.1]; simpa using hin.2
        have RP1 := RP.out.trans (if_pos ⟨hin.1.1, hin.1.2, hin.2⟩)
        have CUT : Hid (∀ (W : World) (v : Value), Sl W v r.l → Calls Try.prog 71 #[tv r.b r.k v, .int .i64 g.index] W fun e w' => Res W w' g.index g.logt (some (r.l.drop (g.index - r.b).toNat)) e) := fun W v hv => by have := CU.out W v hv hin.1.1 hin.1.2; rw [hin.2] at this; exact this
        have HRP : Hid (Rft.repl r g = { r with b := g.index, k := g.logt, l := r.l.drop (g.index - r.b).toNat, snap := g.data, com := g.index }) := RP1
        generalize r.l.drop (g.index - r.b).toNat = LL at *
        subst d1
        clear RP1 RP CU TE hin KS HDD HTM HS
        obtain ⟨V1, c6, c7, c8, _, _, hS, _⟩ := ob_cells OW.out
        have HS : Hid (Sl wc (.slice V1.e.a V1.e.n V1.e.c) r.l) := hS
        have x0 := B1.out.at_ 0 rfl
        have x1 := B1.out.at_ 1 rfl
        have x2 := B1.out.at_ 2 rfl
        have y0 := B1.out.2.1 0
        have y1 := B1.out.2.1 1
        have y2 := B1.out.2.1 2
        have NM : Hid (wc.cell? ⟨w.heap.size, 4, none⟩ = some (.int .i64 g.index) ∧ wc.cell? ⟨w.heap.size, 9, none⟩ = some (.string g.data)) := ⟨n4, n9⟩
        clear hS
        go_upto_region 4 with fail
        have C1 := CUT.out wc.drew _ (HS.out.grown (grown_drew (grown_refl _ none)))
        go_region_with (go_at_call 71; (with_reducible refine C1.mono ?_); rintro e w4 ⟨B2, K2, a2, n2, c2, f2, rfl, hR2, g4⟩; obtain ⟨rfl, rfl, rfl, hA2⟩ := hR2.out; have g5 : wc.grownBy w4 none := grown_tr (grown_drew (grown_refl wc none)) g4; have B4 := B1.out.grown g5; have z0 := B4.at_ 0 rfl; have z1 := B4.at_ 1 rfl; have z2 := B4.at_ 2 rfl; have f0 := B4.2.1 0; have f1 := B4.2.1 1; have f2 := B4.2.1 2)
        all_goals
          go_wp2_with fail
          go_meet
          obtain ⟨j0, j1, j2, sg⟩ := put3 (a := .int .i64 g.index) (b := .int .i64 g.logt) (c := .slice a2 n2 c2) z0 z1 z2
          have U1 := up_some g5 sg
          exact ⟨a2, n2, c2, LL, rfl, grown_more GW.out U1 (fun k e => .inr (by injection e with e; omega)), ⟨j0, j1, j2⟩, ((hA2.low (Nat.le_refl _)).but sg (fun k hk e => by have := (hA2.lt k hk).1; injection e with e; have : wc.heap.size ≤ k := this; have := B1.out.2.2; omega)).low GW.out.size, ⟨U1.cell NM.out.1 (by simp), U1.cell NM.out.2 (by simp)⟩, HRP.out⟩
      · have d1 : (DD && (TM == g.logt)) = false := by
          rw [← HDD.out, ← HTM.out]
          unfold tm0
          by_cases h1 : r.b ≤ g.index ∧ g.index ≤ r.b + (r.l.length : Int)
          · rw [decide_eq_true h1, if_pos h1, Bool.true_and]
            have : ¬ tm r.b r.k r.l g.index = g.logt := fun e => hin ⟨h1, e⟩
            simpa using this
          · rw [decide_eq_false h1, Bool.false_and]
        have FIN : Hid (∀ {W : World}, wc.grownBy W none → ∃ a2 n2 c2 LL, (w.grownBy W none ∧ Bo W (w.heap.size + 1) g.index g.logt (.slice a2 n2 c2) ∧ eE.Own W w.heap.size (.slice a2 n2 c2) LL ∧ (W.cell? ⟨w.heap.size, 4, none⟩ = some (.int .i64 g.index) ∧ W.cell? ⟨w.heap.size, 9, none⟩ = some (.string g.data)) ∧ Rft.repl r g = { r with b := g.index, k := g.logt, l := LL, snap := g.data, com := g.index })) := fun {W} gr => by
          have B4 := B1.out.grown gr
          exact ⟨none, 0, 0, [], grown_tr GW.out gr, ⟨B4.at_ 0 rfl, B4.at_ 1 rfl, B4.at_ 2 rfl⟩, Elm.nil _ _, ⟨gr.cell n4 (by simp), gr.cell n9 (by simp)⟩, RP.out.trans (if_neg (fun e => hin ⟨⟨e.1, e.2.1⟩, e.2.2⟩))⟩
        clear n4 n9 B1 CU TE KS HS OW RP hin HDD HTM
        cases DD with
        | true =>
          rw [Bool.true_and] at d1
          go_wp2_with fail
          go_meet
          obtain ⟨a2, n2, c2, LL, hh⟩ := FIN.out (grown_refl _ none)
          exact ⟨a2, n2, c2, LL, rfl, hh⟩
        | false =>
          clear d1
          go_wp2_with fail
          go_meet
          obtain ⟨a2, n2, c2, LL, hh⟩ := FIN.out (grown_refl _ none)
          exact ⟨a2, n2, c2, LL, rfl, hh⟩
    case rest =>
      obtain ⟨a2, n2, c2, LL, rfl, CF⟩ := hcut
      rename World => wd
      have n4 : wd.cell? ⟨w.heap.size, 4, none⟩ = some (.int .i64 g.index) := CF.out.2.2.2.1.1
      have n9 : wd.cell? ⟨w.heap.size, 9, none⟩ = some (.string g.data) := CF.out.2.2.2.1.2
      obtain ⟨d0, d1, d2⟩ := CF.out.2.1
      have OD := H.out.grown CF.out.1
      obtain ⟨V9, c6, c7, c8, c10, _, _, fz⟩ := ob_cells OD
      have c9 := ob_snap OD
      have f6 := fz 6
      have f7 := fz 7
      have f8 := fz 8
      have f9 := fz 9
      have f10 := fz 10
      obtain ⟨q1, q2⟩ := hqn
      obtain ⟨oo, kk⟩ := repl_o (B := g.index) (K := g.logt) (x := g.index) (d := g.data) H.out CF.out.1 CF.out.2.2.1
      rw [← CF.out.2.2.2.2] at oo
      have OO := oo.grown (grown_drew (grown_refl _ none))
      have KK := kk.grown (grown_drew (grown_refl _ none)) (by simp)
      have FO : Hid _ := And.intro OO KK
      clear OD fz CF oo kk OO KK n5 HS KS TE CU RP HDD HTM OW B1 GW H
      go_upto_region 5 with fail
      go_region_with (fail)
      all_goals
        go_wp2_with fail
        go_end0
        with_reducible exact ⟨rfl, FO.out.1, FO.out.2⟩
end Go.Proofs.Ytdpcebaggldaiaa
