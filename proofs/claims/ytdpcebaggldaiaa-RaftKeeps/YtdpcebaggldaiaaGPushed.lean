/- A node at work: entries come. -/
import Derived.Test.YtdpcebaggldaiaaGPushB
namespace Go.Proofs.Ytdpcebaggldaiaa
open Go.RowKit Trl
open Rft (Nd Mg)
set_option linter.unusedVariables false
set_option maxRecDepth 10000

set_option maxRecDepth 100000 in
set_option maxHeartbeats 3200000 in
theorem pushed_o {w : World} {base b : Nat} {r : Nd} {L : List Mg} {c : S3} (g : Mg) (u : S3) (h : Ob w base b r L c) (hk : chk r.b r.k r.l = true) (hm : Rdk w base g u) (hrole : ¬ r.role = 2) (hidle : r.next = [] ∧ r.mat = []) (hi0 : 0 ≤ g.index) (hi1 : g.index ≤ 1099511627776) (he8 : g.es.length ≤ 8) (hL : L.length ≤ 4000) :
    Calls Try.prog 35 #[.pointer (some ⟨b, 0, none⟩), mv g u] w fun e w' => e = .returned (.tuple #[]) ∧ Ob w' base b (Rft.pushedN r g) (Rft.pushedL r g L) c ∧ Kp base w w' := by
  have G0 : Hid (w.grownBy (w.alloc (.cells #[.int .i64 g.kind, .int .i64 g.fm, .int .i64 g.tt, .int .i64 g.term, .int .i64 g.index, .int .i64 g.logt, .int .i64 g.com, .bool g.yes, .slice u.a u.n u.c, .string g.data] 30)) none) := World.grownBy_alloc w _ none
  have BX : Hid (∀ {W : World}, (w.alloc (.cells #[.int .i64 g.kind, .int .i64 g.fm, .int .i64 g.tt, .int .i64 g.term, .int .i64 g.index, .int .i64 g.logt, .int .i64 g.com, .bool g.yes, .slice u.a u.n u.c, .string g.data] 30)).grownBy W none → Cs W w.heap.size (mc (g, u)) ∧ w.grownBy W none) := fun {W} gr => ⟨box_msg gr, grown_tr (World.grownBy_alloc w _ none) gr⟩
  have hbq := h.hb
  obtain ⟨V0, _, _, _, _, c4, _, _⟩ := ob_cells (h.grown G0.out)
  have OB : Hid (∀ W, w.grownBy W none → _) := fun W gr => obey_b g.fm (h.grown gr)
  have EH : Hid (Rft.heard r g = Rft.obey r g.fm) := heard_is hidle.1 hidle.2
  have EN : Hid (Rft.pushedN r g = match Put r.b r.k r.l g.index g.logt g.es r.com with | none => Rft.heard r g | some l => let cc := Rft.mn (r.b + (l.length : Int)) (Rft.mn (g.index + (g.es.length : Int)) g.com); { Rft.heard r g with l := l, com := if r.com < cc then cc else r.com }) := rfl
  have EL : Hid (Rft.pushedL r g L = match Put r.b r.k r.l g.index g.logt g.es r.com with | none => Rft.say r L { Rft.mg0 with kind := 4, tt := g.fm, index := Rft.hint r g } | some l => Rft.say r L { Rft.mg0 with kind := 4, tt := g.fm, yes := true, index := if g.index + (g.es.length : Int) < r.b then r.b else g.index + (g.es.length : Int) }) := rfl
  obtain ⟨R, hR⟩ : ∃ R, Put r.b r.k r.l g.index g.logt g.es r.com = R := ⟨_, rfl⟩
  have PE : Hid (∀ l, R = some l → g.index + (g.es.length : Int) ≤ r.b + (l.length : Int)) := fun l e => Put_end (hR.trans e)
  have PU : Hid (∀ (W : World) (v : Value), Sl W v r.l → Kp base w W → Calls Try.prog 56 #[tv r.b r.k v, .int .i64 g.index, .int .i64 g.logt, .slice u.a u.n u.c, .int .i64 r.com] W fun e w' => Res W w' r.b r.k R e) := fun W v hv kp => by
    rw [← hR]
    exact Put_any r.b r.k g.index g.logt r.com v _ r.l g.es W hv (hm.e W kp) hm.eb
  have LA : Hid (∀ W, Ob W base b (Rft.obey r g.fm) L c → Calls Try.prog 57 #[.pointer (some ⟨b, 0, none⟩)] W fun e w' => e = .returned (.int .i64 r.last) ∧ W.grownBy w' none) := fun W hO => last_ob (r := Rft.obey r g.fm) hO hk
  have AC : Hid (∀ (W : World) (r' : Nd) (yes : Bool) (n : Int), r'.id = r.id → r'.term = r.term → Ob W base b r' L c → Calls Try.prog 51 #[.pointer (some ⟨b, 0, none⟩), .int .i64 g.fm, .bool yes, .int .i64 n] W fun e w' => e = .returned (.tuple #[]) ∧ Ob w' base b r' (Rft.say r L { Rft.mg0 with kind := 4, tt := g.fm, yes := yes, index := n }) c ∧ Kp base W w') := fun W r' yes n e1 e2 hO => by
    have := ack_o g.fm yes n hO (by omega)
    unfold sent at this
    rw [e1, e2] at this
    exact this
  rw [hR] at EN EL
  have EU : Hid (u.n = g.es.length) := hm.el
  generalize Rft.pushedN r g = RN at *
  generalize Rft.pushedL r g L = RL at *
  have B0 := BX.out (grown_refl _ none)
  have m1 : (w.alloc (.cells #[.int .i64 g.kind, .int .i64 g.fm, .int .i64 g.tt, .int .i64 g.term, .int .i64 g.index, .int .i64 g.logt, .int .i64 g.com, .bool g.yes, .slice u.a u.n u.c, .string g.data] 30)).cell? ⟨w.heap.size, 1, none⟩ = some (.int .i64 g.fm) := B0.1.at_ 1 rfl
  have er : (r.role == 2) = false := by simpa using hrole
  have HC0 : Hid (Cs (w.alloc (.cells #[.int .i64 g.kind, .int .i64 g.fm, .int .i64 g.tt, .int .i64 g.term, .int .i64 g.index, .int .i64 g.logt, .int .i64 g.com, .bool g.yes, .slice u.a u.n u.c, .string g.data] 30)) w.heap.size (mc (g, u))) := B0.1
  have hqn : b ≠ w.heap.size := by omega
  clear h hk hm hrole hidle hR B0 BX
  go_enter Try.func35, Try.ntmps35
  go_upto_region 1 with fail
  generalize w.alloc (.cells #[.int .i64 g.kind, .int .i64 g.fm, .int .i64 g.tt, .int .i64 g.term, .int .i64 g.index, .int .i64 g.logt, .int .i64 g.com, .bool g.yes, .slice u.a u.n u.c, .string g.data] 30) = w0 at *
  go_upto_region 3 with (go_at_call 55; (with_reducible refine (OB.out _ G0.out).mono ?_); rintro e w1 ⟨rfl, o1, k1⟩)
  have O1 : Hid (Ob w1 base b (Rft.obey r g.fm) L c) := o1
  have K1 : Hid (Kp base w w1) := (Kp.of G0.out).trans (k1.toKp hbq.1)
  have M1 : Hid (Cs w1 w.heap.size (mc (g, u))) := HC0.out.kept k1 (fun e => hqn e.symm)
  obtain ⟨V, c6, c7, c8, c10, _, hS, _⟩ := ob_cells o1
  have HS : Hid (Sl w1 (.slice V.e.a V.e.n V.e.c) r.l) := hS
  have n4 := M1.out.at_ 4 rfl
  have n5 := M1.out.at_ 5 rfl
  have n8 := M1.out.at_ 8 rfl
  have KS : Hid (∀ W, w1.grownBy W none → w1.grownBy W none ∧ w1.heap.size ≤ W.heap.size ∧ W.cell? ⟨b, 6, none⟩ = some (.int .i64 r.b) ∧ W.cell? ⟨b, 7, none⟩ = some (.int .i64 r.k) ∧ W.cell? ⟨b, 8, none⟩ = some (.slice V.e.a V.e.n V.e.c) ∧ W.cell? ⟨b, 10, none⟩ = some (.int .i64 r.com) ∧ W.cell? ⟨w.heap.size, 4, none⟩ = some (.int .i64 g.index) ∧ W.cell? ⟨w.heap.size, 5, none⟩ = some (.int .i64 g.logt) ∧ W.cell? ⟨w.heap.size, 8, none⟩ = some (.slice u.a u.n u.c)) := fun W gr => ⟨gr, gr.size, gr.cell c6 (by simp), gr.cell c7 (by simp), gr.cell c8 (by simp), gr.cell c10 (by simp), gr.cell n4 (by simp), gr.cell n5 (by simp), gr.cell n8 (by simp)⟩
  have YS : Hid (∀ {W : World}, ((w1.alloc (.cells #[.int .i64 0, .int .i64 0, .slice none 0 0] 25)).drew).grownBy W none → Bo W w1.heap.size 0 0 (.slice none 0 0) ∧ ∀ i, W.frozen? ⟨w1.heap.size, i, none⟩ = false) := fun {W} gr => ⟨box_kept (grown_tr (grown_drew (grown_refl _ _)) gr), frozen_kept (grown_tr (grown_drew (grown_refl _ _)) gr)⟩
  clear hS o1 k1 n4 n5 n8 m1 c4 c6 c7 c8 c10 OB HC0
  go_cut [4, 5] from 17 to 36 (fun t4 t5 wx => ∃ q2 B2 K2 a2 n2 c2 f2, t4 = .pointer (some ⟨q2, 0, none⟩) ∧ t5 = .bool f2 ∧ Hid (w1.grownBy wx none ∧ Bo wx q2 B2 K2 (.slice a2 n2 c2) ∧ Rz wx w1.heap.size r.b r.k R B2 K2 (.slice a2 n2 c2) f2))
  case first =>
    go_region_held3 (fun W => w1.grownBy W none ∧ w1.heap.size ≤ W.heap.size ∧ W.cell? ⟨b, 6, none⟩ = some (.int .i64 r.b) ∧ W.cell? ⟨b, 7, none⟩ = some (.int .i64 r.k) ∧ W.cell? ⟨b, 8, none⟩ = some (.slice V.e.a V.e.n V.e.c) ∧ W.cell? ⟨b, 10, none⟩ = some (.int .i64 r.com) ∧ W.cell? ⟨w.heap.size, 4, none⟩ = some (.int .i64 g.index) ∧ W.cell? ⟨w.heap.size, 5, none⟩ = some (.int .i64 g.logt) ∧ W.cell? ⟨w.heap.size, 8, none⟩ = some (.slice u.a u.n u.c))
      (first | (refine KS.out _ ?_; first
        | (refine keep_store (And.left ‹_›) ?_; first | (exact Nat.le_refl _) | (exact And.left (And.right ‹_›)) | (simp; exact And.left (And.right ‹_›)))
        | (repeat (first | assumption | (with_reducible exact grown_refl _ _) | (with_reducible refine grown_drew ?_) | (with_reducible refine grown_alloc ?_ _) | (with_reducible exact And.left ‹_›)))))
      (first | (go_at_call 56; (with_reducible refine (PU.out _ _ (HS.out.grown (And.left ‹_›)) (K1.out.grown (And.left ‹_›))).mono ?_); rintro e w4 ⟨B2, K2, a2, n2, c2, f2, rfl, hR2, g4⟩; have g5 : w1.grownBy w4 none := grown_tr (And.left ‹_›) g4; try (have g6 := YS.out g4; obtain ⟨⟨y0, y1, y2⟩, yf⟩ := g6; have e0 := yf 0; have e1 := yf 1; have e2 := yf 2)))
    · go_wp2_with fail
      go_meet
      exact ⟨_, B2, K2, a2, n2, c2, f2, rfl, rfl, grown_alloc g5 _, box_kept (grown_refl _ _), (hR2.out.low (Nat.le_refl _)).grown (World.grownBy_alloc w4 _ none)⟩
    · go_wp2_with fail
      go_meet
      obtain ⟨j0, j1, j2, sg⟩ := put3 (a := .int .i64 B2) (b := .int .i64 K2) (c := .slice a2 n2 c2) y0 y1 y2
      have hb3 := hR2.out.lt
      exact ⟨_, B2, K2, a2, n2, c2, f2, rfl, rfl, keep_store g5 (Nat.le_refl _), ⟨j0, j1, j2⟩, (hR2.out.low (by simp)).but sg (fun k hk e => by have := (hb3 k hk).1; injection e with e; simp at this; omega)⟩
  case rest =>
    obtain ⟨q2, B2, K2, a2, n2, c2, f2, rfl, rfl, CF⟩ := hcut
    clear KS YS PU
    have M2 := M1.out.grown CF.out.1
    have n1 : wc.cell? ⟨w.heap.size, 1, none⟩ = some (.int .i64 g.fm) := M2.at_ 1 rfl
    have n4 : wc.cell? ⟨w.heap.size, 4, none⟩ = some (.int .i64 g.index) := M2.at_ 4 rfl
    have n6 : wc.cell? ⟨w.heap.size, 6, none⟩ = some (.int .i64 g.com) := M2.at_ 6 rfl
    have n8 : wc.cell? ⟨w.heap.size, 8, none⟩ = some (.slice u.a u.n u.c) := M2.at_ 8 rfl
    have K2' : Hid (Kp base w wc) := K1.out.grown CF.out.1
    have O2 : Hid (Ob wc base b (Rft.obey r g.fm) L c) := O1.out.grown CF.out.1
    cases R with
    | none =>
      obtain ⟨rfl, rfl, _, rfl⟩ := CF.out.2.2
      have EN' : Hid (RN = Rft.obey r g.fm) := EN.out.trans EH.out
      have EL' : Hid (RL = Rft.say r L { Rft.mg0 with kind := 4, tt := g.fm, index := Rft.hint r g }) := EL.out
      have EI : Hid (min r.last (max (g.index - 1) 0) = Rft.hint r g) := min_hint _ _
      clear PE EN EL M2 CF n6 n8
      have wrp : IntKind.i64.wrap (g.index - 1) = g.index - 1 := by rw [IntKind.wrap_i64]; omega
      have n1' : ∀ {W : World}, wc.grownBy W none → W.cell? ⟨w.heap.size, 1, none⟩ = some (.int .i64 g.fm) ∧ W.cell? ⟨w.heap.size, 4, none⟩ = some (.int .i64 g.index) := fun {W} gr => ⟨gr.cell n1 (by simp), gr.cell n4 (by simp)⟩
      have NN : Hid (∀ {W : World}, wc.grownBy W none → W.cell? ⟨w.heap.size, 1, none⟩ = some (.int .i64 g.fm) ∧ W.cell? ⟨w.heap.size, 4, none⟩ = some (.int .i64 g.index)) := n1'
      clear n1'
      go_upto_region 5 with fail
      go_region_with (first
        | (go_at_call 57; (with_reducible refine (LA.out _ (by first | exact O2.out | exact O2.out.grown (grown_drew (grown_refl _ none)))).mono ?_); rintro e w5 ⟨rfl, g5⟩; have G5 : Hid (wc.grownBy w5 none) := (by first | exact g5 | exact grown_tr (grown_drew (grown_refl wc none)) g5); obtain ⟨z1, z4⟩ := NN.out G5.out)
        | (go_at_call 51; (with_reducible refine (AC.out _ (Rft.obey r g.fm) false _ rfl rfl (by first | exact O2.out.grown G5.out | exact O2.out.grown (grown_drew G5.out))).mono ?_); rintro e w6 ⟨rfl, o6, k6⟩))
      all_goals
        go_wp2_with fail
        refine bodyPost_ret (results_none rfl _ _ _) rfl ?_
        rw [EN'.out, EL'.out, ← EI.out]
        exact ⟨rfl, o6, (K2'.out.grown (by first | exact G5.out | exact grown_drew G5.out)).trans k6⟩
    | some l =>
      obtain ⟨rfl, rfl, rfl, HA⟩ := CF.out.2.2
      obtain ⟨d0, d1, d2⟩ := CF.out.2.1
      have HA : Hid (eE.Own wc w1.heap.size (.slice a2 n2 c2) l) := HA
      have GC : Hid (w1.grownBy wc none) := CF.out.1
      obtain ⟨V2, x6, x7, x8, x10, _, _, fz⟩ := ob_cells O2.out
      have f6 := fz 6
      have f7 := fz 7
      have f8 := fz 8
      obtain ⟨LO, LC⟩ := log_o (B := r.b) (K := r.k) O1.out GC.out HA.out
      have HLO : Hid (Ob (((wc.setCell ⟨b, 6, none⟩ (.int .i64 r.b)).setCell ⟨b, 7, none⟩ (.int .i64 r.k)).setCell ⟨b, 8, none⟩ (.slice a2 n2 c2)) base b { Rft.obey r g.fm with l := l } L c) := LO
      have HLC : Hid (Chg (fun k => k = b) wc (((wc.setCell ⟨b, 6, none⟩ (.int .i64 r.b)).setCell ⟨b, 7, none⟩ (.int .i64 r.k)).setCell ⟨b, 8, none⟩ (.slice a2 n2 c2))) := LC
      have EE := PE.out l rfl
      have EN1 := EN.out
      have EL1 := EL.out
      rw [EH.out] at EN1
      have EN' : Hid (RN = { Rft.obey r g.fm with l := l, com := max r.com (min g.com (g.index + (u.n : Int))) }) := EN1.trans (by rw [EU.out, max_com EE])
      have EL' : Hid (RL = Rft.say r L { Rft.mg0 with kind := 4, tt := g.fm, yes := true, index := max (g.index + (u.n : Int)) r.b }) := EL1.trans (by rw [EU.out, max_end]; try rfl)
      have hu8 : u.n ≤ 8 := by rw [EU.out]; exact he8
      obtain ⟨E, hE⟩ : ∃ E, g.index + (u.n : Int) = E := ⟨_, rfl⟩
      have wrp : IntKind.i64.wrap (g.index + (u.n : Int)) = E := by rw [IntKind.wrap_i64]; omega
      rw [hE] at EN' EL'
      have HM2 : Hid (Cs wc w.heap.size (mc (g, u))) := M2
      clear EN EL EN1 EL1 PE LA EH LO LC HA GC CF M2 fz EE hE x10
      go_upto_region 7 with fail
      generalize hW3 : ((wc.setCell ⟨b, 6, none⟩ (.int .i64 r.b)).setCell ⟨b, 7, none⟩ (.int .i64 r.k)).setCell ⟨b, 8, none⟩ (.slice a2 n2 c2) = w3 at *
      have M3 := HM2.out.kept HLC.out (fun e => hqn e.symm)
      have HM3 : Hid (Cs w3 w.heap.size (mc (g, u))) := M3
      have n1 : w3.cell? ⟨w.heap.size, 1, none⟩ = some (.int .i64 g.fm) := M3.at_ 1 rfl
      have n4 : w3.cell? ⟨w.heap.size, 4, none⟩ = some (.int .i64 g.index) := M3.at_ 4 rfl
      have n6 : w3.cell? ⟨w.heap.size, 6, none⟩ = some (.int .i64 g.com) := M3.at_ 6 rfl
      have n8 : w3.cell? ⟨w.heap.size, 8, none⟩ = some (.slice u.a u.n u.c) := M3.at_ 8 rfl
      obtain ⟨V3, x6, x7, x8, x10, _, _, fz⟩ := ob_cells HLO.out
      replace x10 : w3.cell? ⟨b, 10, none⟩ = some (.int .i64 r.com) := x10
      have f10 := fz 10
      clear hW3 M3 fz x7 x8 d0 d1 d2 f6 f7 f8
      go_upto_region 8 with fail
      refine region_tail 14 (by kernel_rfl) (by kernel_rfl) ?_
      simp only [List.take_succ_cons, List.take_zero, List.drop_succ_cons, List.drop_zero]
      iterate 14 still_step
      refine wpStill_nil ?_
      obtain ⟨CO, CK⟩ := com_o (max r.com (min g.com E)) HLO.out
      have HCO : Hid (Ob (w3.setCell ⟨b, 10, none⟩ (.int .i64 (max r.com (min g.com E)))) base b { Rft.obey r g.fm with l := l, com := max r.com (min g.com E) } L c) := CO
      have HCK : Hid (Kp base w (w3.setCell ⟨b, 10, none⟩ (.int .i64 (max r.com (min g.com E))))) := (K2'.out.trans (HLC.out.toKp hbq.1)).trans CK
      have HC4 : Hid (Chg (fun k => k = b) w3 (w3.setCell ⟨b, 10, none⟩ (.int .i64 (max r.com (min g.com E))))) := chg_setb (Chg.refl _ w3) b 10 _ rfl
      clear CO CK
      go_upto_region 9 with fail
      generalize w3.setCell ⟨b, 10, none⟩ (.int .i64 (max r.com (min g.com E))) = w4 at *
      have n1 : w4.cell? ⟨w.heap.size, 1, none⟩ = some (.int .i64 g.fm) := (HM3.out.kept HC4.out (fun e => hqn e.symm)).at_ 1 rfl
      obtain ⟨V4, y6, _, _, _, _, _, _⟩ := ob_cells HCO.out
      replace y6 : w4.cell? ⟨b, 6, none⟩ = some (.int .i64 r.b) := y6
      have A1 := AC.out w4.drew.drew { Rft.obey r g.fm with l := l, com := max r.com (min g.com E) } true (max E r.b) rfl rfl (HCO.out.grown (grown_drew (grown_drew (grown_refl _ none))))
      rw [← EN'.out, ← EL'.out] at A1
      clear HCO x6 x10 f10 n4 n6 n8
      refine region_tail 11 (by kernel_rfl) (by kernel_rfl) ?_
      simp only [List.take_succ_cons, List.take_zero, List.drop_succ_cons, List.drop_zero]
      iterate 11 still_step
      refine wpStill_nil ?_
      go_wp2_with (go_at_call 51; (with_reducible refine A1.mono ?_); rintro e w6 ⟨rfl, o6, k6⟩)
      go_end0
      exact ⟨rfl, o6, (HCK.out.grown (grown_drew (grown_drew (grown_refl _ none)))).trans k6⟩
end Go.Proofs.Ytdpcebaggldaiaa
