/- A node at work: an answer to a push comes. -/
import Derived.Test.YtdpcebaggldaiaaGPushB
import Derived.Test.YtdpcebaggldaiaaGOwn
import Derived.Test.YtdpcebaggldaiaaGLead3
namespace Go.Proofs.Ytdpcebaggldaiaa
open Go.RowKit Trl
open Rft (Nd Mg)
set_option linter.unusedVariables false
set_option maxRecDepth 10000

theorem ack_next (i n m : Int) : max (min (i + 1) (n - 1)) (m + 1) = (if (if i + 1 < n - 1 then i + 1 else n - 1) < m + 1 then m + 1 else (if i + 1 < n - 1 then i + 1 else n - 1)) := by
  simp only [Int.max_def, Int.min_def]
  grind
theorem ack_mat (m i : Int) : max m i = if m < i then i else m := by
  simp only [Int.max_def]
  grind
/-- A leader's numbers. -/
structure Lnum (r : Nd) : Prop where
  n : r.next.length = r.conf.length
  m : r.mat.length = r.conf.length
  e : ∀ i, i < r.conf.length → 0 ≤ Rft.at0 r.mat i ∧ Rft.at0 r.mat i ≤ r.last ∧ Rft.at0 r.mat i < Rft.at0 r.next i ∧ Rft.at0 r.next i ≤ r.last + 1
/-- The numbers of the node at a place, as they lie. -/
theorem ob_nums {w : World} {base b : Nat} {r : Nd} {L : List Mg} {c : S3} (h : Ob w base b r L c) {P : Nat} (hn : P < r.next.length) (hm : P < r.mat.length) (h7 : r.next.length ≤ 7) (h7' : r.mat.length ≤ 7) :
    ∃ gn gm cn cm, w.cell? ⟨b, 14, none⟩ = some (.slice (some ⟨gn, 0, none⟩) r.next.length cn) ∧ w.cell? ⟨b, 15, none⟩ = some (.slice (some ⟨gm, 0, none⟩) r.mat.length cm) ∧ w.cell? ⟨gn, P, none⟩ = some (.int .i64 (Rft.at0 r.next P)) ∧ w.cell? ⟨gm, P, none⟩ = some (.int .i64 (Rft.at0 r.mat P)) ∧ w.frozen? ⟨gn, P, none⟩ = false ∧ w.frozen? ⟨gm, P, none⟩ = false ∧ gn ≠ b ∧ gm ≠ b ∧ gn ≠ gm ∧
      (∀ x : Int, Ob (w.setCell ⟨gn, P, none⟩ (.int .i64 x)) base b { r with next := r.next.set P x } L c ∧ Chg (fun k => k = gn) w (w.setCell ⟨gn, P, none⟩ (.int .i64 x)) ∧ Kp base w (w.setCell ⟨gn, P, none⟩ (.int .i64 x))) ∧
      (∀ x : Int, Ob (w.setCell ⟨gm, P, none⟩ (.int .i64 x)) base b { r with mat := r.mat.set P x } L c ∧ Chg (fun k => k = gm) w (w.setCell ⟨gm, P, none⟩ (.int .i64 x)) ∧ Kp base w (w.setCell ⟨gm, P, none⟩ (.int .i64 x))) ∧ gn < w.heap.size ∧ gm < w.heap.size := by
  obtain ⟨X, V, s, T, h0, hX, hVc⟩ := h
  obtain ⟨gn, u0, a1, a2, a3, a4, a5, a6, a7, _⟩ := h0.setN (i := P) hn h7 0
  obtain ⟨gm, u1, b1, b2, b3, b4, b5, b6, b7, _⟩ := h0.setM (i := P) hm h7' 0
  have hgg : gn ≠ gm := fun e => by rw [e, b7] at a7; cases a7
  obtain ⟨g1, o1, e1, y1⟩ := at_n h0.n.rx (at0_is hn)
  obtain ⟨g2, o2, e2, y2⟩ := at_n h0.m.rx (at0_is hm)
  rw [a1] at e1
  rw [b1] at e2
  injection e1 with e1
  injection e1 with e1 e1'
  injection e2 with e2
  injection e2 with e2 e2'
  subst e1 e1' e2 e2'
  rw [Nat.zero_add] at y1 y2
  have c14 := h0.cs.at_ 14 rfl
  have c15 := h0.cs.at_ 15 rfl
  rw [a1, h0.n.len] at c14
  rw [b1, h0.m.len] at c15
  refine ⟨gn, gm, V.n.c, V.m.c, c14, c15, y1, y2, a3, b3, a6, b6, hgg, fun x => ?_, fun x => ?_, a5, b5⟩
  · obtain ⟨gn', _, a1', _, _, _, _, _, _, O1⟩ := h0.setN (i := P) hn h7 x
    rw [a1] at a1'
    injection a1' with a1'
    injection a1' with a1'
    subst a1'
    have C : Chg (fun k => k = gn) w (w.setCell ⟨gn, P, none⟩ (.int .i64 x)) := chg_setb (Chg.refl _ w) gn P _ rfl
    exact ⟨⟨X, V, s, T, O1, hX, hVc⟩, C, C.wide (fun k e => by subst e; exact a4)⟩
  · obtain ⟨gm', _, b1', _, _, _, _, _, _, O1⟩ := h0.setM (i := P) hm h7' x
    rw [b1] at b1'
    injection b1' with b1'
    injection b1' with b1'
    subst b1'
    have C : Chg (fun k => k = gm) w (w.setCell ⟨gm, P, none⟩ (.int .i64 x)) := chg_setb (Chg.refl _ w) gm P _ rfl
    exact ⟨⟨X, V, s, T, O1, hX, hVc⟩, C, C.wide (fun k e => by subst e; exact b4)⟩
theorem place_ob {w : World} {base b : Nat} {r : Nd} {L : List Mg} {c : S3} (x : Int) (h : Ob w base b r L c) (hl : r.conf.length ≤ 7) (hx : Quo.has r.conf x = true) :
    Calls Try.prog 59 #[.pointer (some ⟨b, 0, none⟩), .int .i64 x] w fun e w' => e = .returned (.int .i64 (Rft.place r.conf x : Nat)) ∧ w' = w := by
  obtain ⟨X, V, s, T, h0, hX, hVc⟩ := h
  exact place_w x h0 hl hx
theorem ob_role {w : World} {base b : Nat} {r : Nd} {L : List Mg} {c : S3} (h : Ob w base b r L c) : w.cell? ⟨b, 4, none⟩ = some (.int .i64 r.role) := by
  obtain ⟨X, V, s, T, h0, hX, hVc⟩ := h
  exact h0.cs.at_ 4 rfl
set_option maxRecDepth 100000 in
set_option maxHeartbeats 3200000 in
theorem acked_o {w : World} {base b : Nat} {r : Nd} {L : List Mg} {c : S3} (g : Mg) (u : S3) (h : Ob w base b r L c) (hk : chk r.b r.k r.l = true) (hc7 : r.conf.length ≤ 7) (ht : 1 ≤ r.term) (hf : Quo.has r.conf g.fm = true) (hrole : r.role = 2) (hN : Lnum r) (hi0 : 0 ≤ g.index) (hi1 : g.index ≤ 1099511627776) (hL : L.length ≤ 4000) :
    Calls Try.prog 37 #[.pointer (some ⟨b, 0, none⟩), mv g u] w fun e w' => e = .returned (.tuple #[]) ∧ Ob w' base b (Rft.ackedN r g) (Rft.ackedL r g L) c ∧ Kp base w w' := by
  have G0 : Hid (w.grownBy (w.alloc (.cells #[.int .i64 g.kind, .int .i64 g.fm, .int .i64 g.tt, .int .i64 g.term, .int .i64 g.index, .int .i64 g.logt, .int .i64 g.com, .bool g.yes, .slice u.a u.n u.c, .string g.data] 30)) none) := World.grownBy_alloc w _ none
  have hbq := h.hb
  obtain ⟨p1, p2, p3, p4, p5, p6, p7⟩ := chk_parts hk
  have hlast : r.last = r.b + (r.l.length : Int) := rfl
  have hpl := place_lt hf
  have HE := hN.e _ hpl
  have hn1 := hN.n
  have hm1 := hN.m
  have LA : Hid (∀ W, w.grownBy W none → Calls Try.prog 57 #[.pointer (some ⟨b, 0, none⟩)] W fun e w' => e = .returned (.int .i64 r.last) ∧ W.grownBy w' none) := fun W gr => last_ob (h.grown gr) hk
  have PL : Hid (∀ W, w.grownBy W none → _) := fun W gr => place_ob g.fm (h.grown gr) hc7 hf
  have AN : Hid (Rft.ackedN r g = if r.last < g.index then r else if g.yes then Rft.ackY r g else Rft.ackF r g) := rfl
  have AL : Hid (Rft.ackedL r g L = if r.last < g.index then L else if g.yes then (if Rft.at0 (Rft.ackY r g).next (Rft.place r.conf g.fm) ≤ r.last then Rft.push (Rft.ackY r g) L (Rft.place r.conf g.fm) else L) else Rft.push (Rft.ackF r g) L (Rft.place r.conf g.fm)) := rfl
  have H : Hid (∀ {W : World}, w.grownBy W none → Ob W base b r L c) := fun {W} gr => h.grown gr
  generalize Rft.ackedN r g = RN at *
  generalize Rft.ackedL r g L = RL at *
  have B0 : Hid (∀ {W : World}, (w.alloc (.cells #[.int .i64 g.kind, .int .i64 g.fm, .int .i64 g.tt, .int .i64 g.term, .int .i64 g.index, .int .i64 g.logt, .int .i64 g.com, .bool g.yes, .slice u.a u.n u.c, .string g.data] 30)).grownBy W none → Cs W w.heap.size (mc (g, u))) := fun {W} gr => box_msg (x := (g, u)) gr
  have hqn : b ≠ w.heap.size := by omega
  have c4 := ob_role (h.grown G0.out)
  rw [hrole] at c4
  have m4 : (w.alloc (.cells #[.int .i64 g.kind, .int .i64 g.fm, .int .i64 g.tt, .int .i64 g.term, .int .i64 g.index, .int .i64 g.logt, .int .i64 g.com, .bool g.yes, .slice u.a u.n u.c, .string g.data] 30)).cell? ⟨w.heap.size, 4, none⟩ = some (.int .i64 g.index) := (B0.out (grown_refl _ none)).at_ 4 rfl
  have KS : Hid (∀ W, (w.alloc (.cells #[.int .i64 g.kind, .int .i64 g.fm, .int .i64 g.tt, .int .i64 g.term, .int .i64 g.index, .int .i64 g.logt, .int .i64 g.com, .bool g.yes, .slice u.a u.n u.c, .string g.data] 30)).grownBy W none → (w.alloc (.cells #[.int .i64 g.kind, .int .i64 g.fm, .int .i64 g.tt, .int .i64 g.term, .int .i64 g.index, .int .i64 g.logt, .int .i64 g.com, .bool g.yes, .slice u.a u.n u.c, .string g.data] 30)).grownBy W none ∧ W.cell? ⟨b, 4, none⟩ = some (.int .i64 2) ∧ W.cell? ⟨w.heap.size, 4, none⟩ = some (.int .i64 g.index)) := fun W gr => ⟨gr, gr.cell c4 (by simp), gr.cell m4 (by simp)⟩
  have HLast : 0 ≤ r.last ∧ r.last ≤ 1099511627776 := by omega
  clear h p7 hrole c4 m4 hlast
  go_enter Try.func37, Try.ntmps37
  go_upto_region 1 with fail
  generalize w.alloc (.cells #[.int .i64 g.kind, .int .i64 g.fm, .int .i64 g.tt, .int .i64 g.term, .int .i64 g.index, .int .i64 g.logt, .int .i64 g.com, .bool g.yes, .slice u.a u.n u.c, .string g.data] 30) = w0 at *
  go_cut [17] from 18 to 18 (fun t17 wx => t17 = .bool (decide (r.last < g.index)) ∧ Hid (w0.grownBy wx none))
  case first =>
    go_region_held3 (fun W => w0.grownBy W none ∧ W.cell? ⟨b, 4, none⟩ = some (.int .i64 2) ∧ W.cell? ⟨w.heap.size, 4, none⟩ = some (.int .i64 g.index))
      (first | (refine KS.out _ ?_; (repeat (first | assumption | (with_reducible exact grown_refl _ _) | (with_reducible refine grown_drew ?_) | (with_reducible refine grown_alloc ?_ _) | (with_reducible exact And.left ‹_›)))))
      (first | (go_at_call 57; (with_reducible refine (LA.out _ (grown_tr G0.out (And.left ‹_›))).mono ?_); rintro e w4 ⟨rfl, g4⟩; have g5 : w0.grownBy w4 none := grown_tr (And.left ‹_›) g4))
    go_wp2_with fail
    go_meet
    exact ⟨rfl, g5⟩
  case rest =>
    obtain ⟨rfl, G1⟩ := hcut
    have GW : Hid (w.grownBy wc none) := grown_tr G0.out G1.out
    have O1 : Hid (Ob wc base b r L c) := H.out GW.out
    have M1 : Hid (Cs wc w.heap.size (mc (g, u))) := B0.out G1.out
    have n1 : wc.cell? ⟨w.heap.size, 1, none⟩ = some (.int .i64 g.fm) := M1.out.at_ 1 rfl
    have n4 : wc.cell? ⟨w.heap.size, 4, none⟩ = some (.int .i64 g.index) := M1.out.at_ 4 rfl
    have n7 : wc.cell? ⟨w.heap.size, 7, none⟩ = some (.bool g.yes) := M1.out.at_ 7 rfl
    by_cases hlt : r.last < g.index
    · have d1 : decide (r.last < g.index) = true := decide_eq_true hlt
      have EN' : Hid (RN = r) := AN.out.trans (if_pos hlt)
      have EL' : Hid (RL = L) := AL.out.trans (if_pos hlt)
      go_wp2_with fail
      refine bodyPost_ret (results_none rfl _ _ _) rfl ?_
      exact ⟨rfl, by rw [EN'.out, EL'.out]; exact O1.out, Kp.of GW.out⟩
    have d1 : decide (r.last < g.index) = false := decide_eq_false hlt
    have EN1 := AN.out.trans (if_neg hlt)
    have EL1 := AL.out.trans (if_neg hlt)
    have P1 := PL.out wc GW.out
    obtain ⟨P, hP⟩ : ∃ P, Rft.place r.conf g.fm = P := ⟨_, rfl⟩
    rw [hP] at P1 hpl HE EL1
    have EF : Rft.ackF r g = { r with next := r.next.set P (max (min (g.index + 1) (Rft.at0 r.next P - 1)) (Rft.at0 r.mat P + 1)) } := by
      unfold Rft.ackF Rft.ackNext
      rw [hP, ack_next]
    have EY : Rft.ackY r g = Rft.agree { r with mat := r.mat.set P (max (Rft.at0 r.mat P) g.index), next := r.next.set P (max (Rft.at0 r.mat P) g.index + 1) } := by
      unfold Rft.ackY
      rw [hP, ack_mat]
    obtain ⟨gn, gm, cn, cm, c14, c15, yn, ym, fn, fm, bn, bm, nm, SN, SM, ln, lm⟩ := ob_nums O1.out (P := P) (by omega) (by omega) (by omega) (by omega)
    rw [hn1] at c14
    rw [hm1] at c15
    obtain ⟨N, hNN⟩ : ∃ N, r.conf.length = N := ⟨_, rfl⟩
    have CL : Hid (r.conf.length = N) := hNN
    rw [hNN] at c14 c15 hpl
    have iP : (P : Int) < (N : Int) := by omega
    have HN1 : Hid (r.next.length = N) := hn1.trans hNN
    have HM1 : Hid (r.mat.length = N) := hm1.trans hNN
    have HC7 : Hid (N ≤ 7) := by rw [← hNN]; exact hc7
    have HK : Hid (chk r.b r.k r.l = true) := hk
    obtain ⟨nx, hnx⟩ : ∃ x, Rft.at0 r.next P = x := ⟨_, rfl⟩
    obtain ⟨mt, hmt⟩ : ∃ x, Rft.at0 r.mat P = x := ⟨_, rfl⟩
    rw [hnx, hmt] at EF HE
    rw [hmt] at EY
    rw [hnx] at yn
    rw [hmt] at ym
    have HEF : Hid (Rft.ackF r g = { r with next := r.next.set P (max (min (g.index + 1) (nx - 1)) (mt + 1)) }) := EF
    have HEY : Hid (Rft.ackY r g = Rft.agree { r with mat := r.mat.set P (max mt g.index), next := r.next.set P (max mt g.index + 1) }) := EY
    have HSN : Hid (∀ x : Int, Ob (wc.setCell ⟨gn, P, none⟩ (.int .i64 x)) base b { r with next := r.next.set P x } L c ∧ Chg (fun k => k = gn) wc (wc.setCell ⟨gn, P, none⟩ (.int .i64 x)) ∧ Kp base wc (wc.setCell ⟨gn, P, none⟩ (.int .i64 x))) := SN
    have HSM : Hid (∀ x : Int, Ob (wc.setCell ⟨gm, P, none⟩ (.int .i64 x)) base b { r with mat := r.mat.set P x } L c ∧ Chg (fun k => k = gm) wc (wc.setCell ⟨gm, P, none⟩ (.int .i64 x)) ∧ Kp base wc (wc.setCell ⟨gm, P, none⟩ (.int .i64 x))) := SM
    have HEN : Hid (RN = if g.yes = true then Rft.ackY r g else Rft.ackF r g) := EN1
    have HEL : Hid (RL = if g.yes = true then (if Rft.at0 (Rft.ackY r g).next P ≤ r.last then Rft.push (Rft.ackY r g) L P else L) else Rft.push (Rft.ackF r g) L P) := EL1
    obtain ⟨h1, h2, h3, h4⟩ := HE
    have w1 : IntKind.i64.wrap (g.index + 1) = g.index + 1 := by rw [IntKind.wrap_i64]; omega
    have w2 : IntKind.i64.wrap (nx - 1) = nx - 1 := by rw [IntKind.wrap_i64]; omega
    have w3 : IntKind.i64.wrap (mt + 1) = mt + 1 := by rw [IntKind.wrap_i64]; omega
    clear EF EY SN SM EN1 EL1 hnx hmt hNN hn1 hm1 hP AN AL KS PL LA hc7 hk hN hf
    cases hy : g.yes with
    | false =>
      rw [hy] at n7
      have EN' : Hid (RN = Rft.ackF r g) := HEN.out.trans (if_neg (by rw [hy]; simp))
      have EL' : Hid (RL = Rft.push (Rft.ackF r g) L P) := HEL.out.trans (if_neg (by rw [hy]; simp))
      clear HEN HEL HEY HSM
      go_upto_region 4 with (go_at_call 59; (with_reducible refine P1.mono ?_); rintro e w5 ⟨rfl, hw5⟩; subst hw5)
      have hxb : 0 ≤ max (min (g.index + 1) (nx - 1)) (mt + 1) ∧ max (min (g.index + 1) (nx - 1)) (mt + 1) ≤ r.last + 1 := by
        simp only [Int.max_def, Int.min_def]
        split <;> split <;> omega
      refine region_tail 30 (by kernel_rfl) (by kernel_rfl) ?_
      simp only [List.take_succ_cons, List.take_zero, List.drop_succ_cons, List.drop_zero]
      iterate 30 still_step
      refine wpStill_nil ?_
      go_upto_region 5 with fail
      generalize max (min (g.index + 1) (nx - 1)) (mt + 1) = x at *
      obtain ⟨O5, C5, K5⟩ := HSN.out x
      rw [← HEF.out] at O5
      have F0 : Hid ((Rft.ackF r g).conf.length = N ∧ (Rft.ackF r g).next.length = N ∧ Rft.at0 (Rft.ackF r g).next P = x ∧ (Rft.ackF r g).last = r.last ∧ chk (Rft.ackF r g).b (Rft.ackF r g).k (Rft.ackF r g).l = true) := by
        rw [HEF.out]
        refine ⟨CL.out, by show (r.next.set P _).length = N; rw [List.length_set]; exact HN1.out, ?_, rfl, HK.out⟩
        show Rft.at0 (r.next.set P _) P = x
        rw [at0_set (by rw [HN1.out]; exact hpl), if_pos rfl]
      generalize Rft.ackF r g = rf at *
      have O6 := O5.grown (grown_drew (grown_refl _ none))
      have K6 : Hid (Kp base w (w5.setCell ⟨gn, P, none⟩ (.int .i64 x)).drew) := ((Kp.of GW.out).trans K5).grown (grown_drew (grown_refl _ none))
      have PS := push_o P O6 F0.out.2.2.2.2 (by rw [F0.out.1]; exact hpl) (by rw [F0.out.1, F0.out.2.1]) (by rw [F0.out.1]; exact HC7.out) (by rw [F0.out.2.2.1, F0.out.2.2.2.1]; exact hxb.2) (by rw [F0.out.2.2.1]; exact hxb.1) (by omega)
      rw [← EL'.out] at PS
      clear O5 C5 K5 O6 c14 c15 yn ym
      go_wp2_with (go_at_call 60; (with_reducible refine PS.mono ?_); rintro e w6 ⟨rfl, o6, k6⟩)
      refine bodyPost_ret (results_none rfl _ _ _) rfl ?_
      exact ⟨rfl, by rw [EN'.out]; exact o6, K6.out.trans k6⟩
    | true =>
      rw [hy] at n7
      have EN' : Hid (RN = Rft.ackY r g) := HEN.out.trans (if_pos hy)
      have EL' : Hid (RL = if Rft.at0 (Rft.ackY r g).next P ≤ r.last then Rft.push (Rft.ackY r g) L P else L) := HEL.out.trans (if_pos hy)
      clear HEN HEL HEF HSN
      go_upto_region 6 with (go_at_call 59; (with_reducible refine P1.mono ?_); rintro e w5 ⟨rfl, hw5⟩; subst hw5)
      have hxb : 0 ≤ max mt g.index ∧ max mt g.index ≤ r.last := by
        simp only [Int.max_def]
        split <;> omega
      refine region_tail 18 (by kernel_rfl) (by kernel_rfl) ?_
      simp only [List.take_succ_cons, List.take_zero, List.drop_succ_cons, List.drop_zero]
      iterate 18 still_step
      refine wpStill_nil ?_
      go_upto_region 7 with fail
      generalize max mt g.index = x at *
      obtain ⟨O5, C5, K5⟩ := HSM.out x
      have O6 : Hid (Ob (w5.setCell ⟨gm, P, none⟩ (.int .i64 x)).drew base b { r with mat := r.mat.set P x } L c) := O5.grown (grown_drew (grown_refl _ none))
      have K6 : Hid (Kp base w (w5.setCell ⟨gm, P, none⟩ (.int .i64 x)).drew) := ((Kp.of GW.out).trans K5).grown (grown_drew (grown_refl _ none))
      clear O5 C5 K5 HSM c14 c15 yn ym fn fm n1 n4 n7 M1 O1 GW G1
      generalize (w5.setCell ⟨gm, P, none⟩ (.int .i64 x)).drew = w6 at *
      obtain ⟨g7, gk, cn7, cm7, c14, c15, yn, ym, fn, fm, bn7, bm7, nm7, SN, _, ln7, lm7⟩ := ob_nums O6.out (P := P) (by show P < r.next.length; rw [HN1.out]; exact hpl) (by show P < (r.mat.set P x).length; rw [List.length_set, HM1.out]; exact hpl) (by show r.next.length ≤ 7; rw [HN1.out]; exact HC7.out) (by show (r.mat.set P x).length ≤ 7; rw [List.length_set, HM1.out]; exact HC7.out)
      replace c14 : w6.cell? ⟨b, 14, none⟩ = some (.slice (some ⟨g7, 0, none⟩) N cn7) := by rw [← HN1.out]; exact c14
      replace c15 : w6.cell? ⟨b, 15, none⟩ = some (.slice (some ⟨gk, 0, none⟩) N cm7) := by have h := c15; rw [List.length_set, HM1.out] at h; exact h
      replace ym : w6.cell? ⟨gk, P, none⟩ = some (.int .i64 x) := by
        have h : w6.cell? ⟨gk, P, none⟩ = some (.int .i64 (Rft.at0 (r.mat.set P x) P)) := ym
        rw [at0_set (by rw [HM1.out]; exact hpl), if_pos rfl] at h
        exact h
      have HSN : Hid (∀ y : Int, Ob (w6.setCell ⟨g7, P, none⟩ (.int .i64 y)) base b { r with mat := r.mat.set P x, next := r.next.set P y } L c ∧ Kp base w6 (w6.setCell ⟨g7, P, none⟩ (.int .i64 y))) := fun y => ⟨(SN y).1, (SN y).2.2⟩
      have w4 : IntKind.i64.wrap (x + 1) = x + 1 := by rw [IntKind.wrap_i64]; omega
      clear SN nm bn bm ln lm
      refine region_tail 16 (by kernel_rfl) (by kernel_rfl) ?_
      simp only [List.take_succ_cons, List.take_zero, List.drop_succ_cons, List.drop_zero]
      iterate 16 still_step
      refine wpStill_nil ?_
      go_upto_region 8 with fail
      obtain ⟨O7, K7⟩ := HSN.out (x + 1)
      have O8 : Hid (Ob (w6.setCell ⟨g7, P, none⟩ (.int .i64 (x + 1))).drew base b { r with mat := r.mat.set P x, next := r.next.set P (x + 1) } L c) := O7.grown (grown_drew (grown_refl _ none))
      have K8 : Hid (Kp base w (w6.setCell ⟨g7, P, none⟩ (.int .i64 (x + 1))).drew) := (K6.out.trans K7).grown (grown_drew (grown_refl _ none))
      clear O7 K7 HSN c14 c15 yn ym fn fm O6 K6
      generalize (w6.setCell ⟨g7, P, none⟩ (.int .i64 (x + 1))).drew = w8 at *
      have A1 := agree_o O8.out HK.out (by show r.conf.length ≤ 7; rw [CL.out]; exact HC7.out) (by show (r.mat.set P x).length = r.conf.length; rw [List.length_set, HM1.out, CL.out]) ht
      rw [← HEY.out] at A1
      have F0 : Hid ((Rft.ackY r g).conf.length = N ∧ (Rft.ackY r g).next.length = N ∧ Rft.at0 (Rft.ackY r g).next P = x + 1 ∧ (Rft.ackY r g).last = r.last ∧ chk (Rft.ackY r g).b (Rft.ackY r g).k (Rft.ackY r g).l = true ∧ (Rft.ackY r g).mat.length = N) := by
        rw [HEY.out]
        obtain ⟨cc, ec⟩ := agree_com { r with mat := r.mat.set P x, next := r.next.set P (x + 1) }
        rw [ec]
        refine ⟨CL.out, by show (r.next.set P _).length = N; rw [List.length_set]; exact HN1.out, ?_, rfl, HK.out, by show (r.mat.set P _).length = N; rw [List.length_set]; exact HM1.out⟩
        show Rft.at0 (r.next.set P _) P = x + 1
        rw [at0_set (by rw [HN1.out]; exact hpl), if_pos rfl]
      generalize Rft.ackY r g = ry at *
      clear HEY O8
      go_upto_region 9 with (go_at_call 61; (with_reducible refine A1.mono ?_); rintro e w9 ⟨rfl, o9, k9⟩)
      have O9 : Hid (Ob w9 base b ry L c) := o9
      have K9 : Hid (Kp base w w9) := K8.out.trans k9
      have LA9 : Hid (∀ W, w9.grownBy W none → Calls Try.prog 57 #[.pointer (some ⟨b, 0, none⟩)] W fun e w' => e = .returned (.int .i64 r.last) ∧ W.grownBy w' none) := fun W gr => by rw [← F0.out.2.2.2.1]; exact last_ob (O9.out.grown gr) F0.out.2.2.2.2.1
      obtain ⟨gk, _, ck, _, c14, _, yn, _⟩ := ob_nums o9 (P := P) (by rw [F0.out.2.1]; exact hpl) (by rw [F0.out.2.2.2.2.2]; exact hpl) (by rw [F0.out.2.1]; exact HC7.out) (by rw [F0.out.2.2.2.2.2]; exact HC7.out)
      rw [F0.out.2.1] at c14
      rw [F0.out.2.2.1] at yn
      have KS : Hid (∀ W, w9.grownBy W none → w9.grownBy W none ∧ W.cell? ⟨b, 14, none⟩ = some (.slice (some ⟨gk, 0, none⟩) N ck) ∧ W.cell? ⟨gk, P, none⟩ = some (.int .i64 (x + 1))) := fun W gr => ⟨gr, gr.cell c14 (by simp), gr.cell yn (by simp)⟩
      clear o9 k9 c14 yn K8 A1
      have DL : Hid (Rft.at0 ry.next P = x + 1) := F0.out.2.2.1
      go_cut [104] from 94 to 103 (fun t104 wx => t104 = .bool (decide (x + 1 ≤ r.last)) ∧ Hid (w9.grownBy wx none))
      case first =>
        go_region_held3 (fun W => w9.grownBy W none ∧ W.cell? ⟨b, 14, none⟩ = some (.slice (some ⟨gk, 0, none⟩) N ck) ∧ W.cell? ⟨gk, P, none⟩ = some (.int .i64 (x + 1)))
          (first | (refine KS.out _ ?_; (repeat (first | assumption | (with_reducible exact grown_refl _ _) | (with_reducible refine grown_drew ?_) | (with_reducible refine grown_alloc ?_ _) | (with_reducible exact And.left ‹_›)))))
          (first | (go_at_call 57; (with_reducible refine (LA9.out _ (And.left ‹_›)).mono ?_); rintro e wl ⟨rfl, gl⟩; have gl5 : w9.grownBy wl none := grown_tr (And.left ‹_›) gl))
        go_wp2_with fail
        go_meet
        exact ⟨rfl, gl5⟩
      case rest =>
        obtain ⟨rfl, GX⟩ := hcut
        rename World => wx
        have OX : Hid (Ob wx base b ry L c) := O9.out.grown GX.out
        have KX : Hid (Kp base w wx) := K9.out.grown GX.out
        by_cases hle : x + 1 ≤ r.last
        · have d2 : decide (x + 1 ≤ r.last) = true := decide_eq_true hle
          have EL2 : Hid (RL = Rft.push ry L P) := EL'.out.trans (if_pos (by rw [DL.out]; exact hle))
          have PS := push_o P OX.out F0.out.2.2.2.2.1 (by rw [F0.out.1]; exact hpl) (by rw [F0.out.1, F0.out.2.1]) (by rw [F0.out.1]; exact HC7.out) (by rw [F0.out.2.2.1, F0.out.2.2.2.1]; omega) (by rw [F0.out.2.2.1]; omega) (by omega)
          rw [← EL2.out] at PS
          clear KS LA9 EL'
          go_wp2_with (go_at_call 60; (with_reducible refine PS.mono ?_); rintro e wz ⟨rfl, o6, k6⟩)
          go_end0
          exact ⟨rfl, by rw [EN'.out]; exact o6, KX.out.trans k6⟩
        · have d2 : decide (x + 1 ≤ r.last) = false := decide_eq_false hle
          have EL2 : Hid (RL = L) := EL'.out.trans (if_neg (by rw [DL.out]; exact hle))
          clear KS LA9 EL'
          go_wp2_with fail
          go_end0
          exact ⟨rfl, by rw [EN'.out, EL2.out]; exact OX.out, KX.out⟩
end Go.Proofs.Ytdpcebaggldaiaa
