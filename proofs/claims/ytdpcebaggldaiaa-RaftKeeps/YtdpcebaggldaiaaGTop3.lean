/- Handle: what is answered, of any message. -/
import Derived.Test.YtdpcebaggldaiaaGTop2
import Derived.Test.YtdpcebaggldaiaaGHandle3
namespace Go.Proofs.Ytdpcebaggldaiaa
open Go.RowKit Trl
open Rft (Nd Mg)
set_option linter.unusedVariables false
set_option maxRecDepth 10000

theorem takes_kind {r : Nd} {g : Mg} (h : Rft.takes r g = true) (hk : ¬ (g.kind = 1 ∨ g.kind = 2)) : g.kind = 3 ∨ g.kind = 4 ∨ g.kind = 5 := by
  unfold Rft.takes at h
  simp only [Bool.and_eq_true, decide_eq_true_eq] at h
  have := h.1.1.1.1.1.1.1
  have := h.1.1.1.1.1.1.2
  omega
theorem takes_more {r : Nd} {g : Mg} (h : Rft.takes r g = true) : Quo.has r.conf g.fm = true ∧ 0 ≤ g.index ∧ g.index ≤ 1099511627776 ∧ g.es.length ≤ 8 := by
  unfold Rft.takes at h
  simp only [Bool.and_eq_true, decide_eq_true_eq] at h
  exact ⟨h.1.1.1.2, h.1.1.2.1.1.1.1.1.2, h.1.1.2.1.1.1.1.2, h.1.2.1.1⟩
theorem ok_idle {r : Nd} (h : Rft.ok r = true) : ¬ r.role = 2 → r.next = [] ∧ r.mat = [] := fun h2 => by
  rw [ok_is] at h
  simp only [Bool.and_eq_true] at h
  have hr := h.2.2
  unfold Rft.roleOk at hr
  split at hr
  · simp only [Bool.and_eq_true, decide_eq_true_eq] at hr
    exact ⟨List.eq_nil_of_length_eq_zero hr.2.1, List.eq_nil_of_length_eq_zero hr.2.2⟩
  · split at hr
    · simp only [Bool.and_eq_true, decide_eq_true_eq] at hr
      exact ⟨List.eq_nil_of_length_eq_zero hr.2.1, List.eq_nil_of_length_eq_zero hr.2.2⟩
    · first | cases hr | (rw [if_neg h2] at hr; cases hr)
theorem ok_lnum {r : Nd} (h : Rft.ok r = true) : r.role = 2 → Lnum r := fun h2 => by
  obtain ⟨hp, hm, he⟩ := (ok_parts h).2.1 h2
  exact ⟨hp.len, hm, fun i hi => ⟨(he i hi).1, (he i hi).2.1, (he i hi).2.2, (hp.next i hi).2⟩⟩
set_option maxRecDepth 100000 in
set_option maxHeartbeats 12800000 in
theorem Handle345_any (r : Nd) (V : Sv) (g : Mg) (u : S3) (w : World) (h : Rdn w r V) (hm : Rdm w g u) (hk : ¬ (g.kind = 1 ∨ g.kind = 2)) : Calls Try.prog 7 #[nv r V, mv g u] w fun e w' => Ans w w' (Rft.handN r g) (Rft.handL r g) e := by
  have TA : Hid (∀ W, w.grownBy W none → _) := fun W gr => takes_any r V g u W (h.grown gr) (hm.grown gr)
  have vb := h.vb
  have BE : Hid (∀ W, w.grownBy W none → _) := fun W g => begin_any r V W (h.grown g)
  have CH : Hid (∀ W, w.grownBy W none → _) := fun W g => Check_any r V W (h.grown g)
  have BX : Hid (∀ {W : World}, (((w.alloc (.cells #[.int .i64 r.id, .slice V.c.a V.c.n V.c.c, .int .i64 r.term, .int .i64 r.vote, .int .i64 r.role, .int .i64 r.lead, .int .i64 r.b, .int .i64 r.k, .slice V.e.a V.e.n V.e.c, .string r.snap, .int .i64 r.com, .int .i64 r.left, .int .i64 r.wait, .slice V.v.a V.v.n V.v.c, .slice V.n.a V.n.n V.n.c, .slice V.m.a V.m.n V.m.c] 28)).alloc (.cells #[.int .i64 g.kind, .int .i64 g.fm, .int .i64 g.tt, .int .i64 g.term, .int .i64 g.index, .int .i64 g.logt, .int .i64 g.com, .bool g.yes, .slice u.a u.n u.c, .string g.data] 30)).alloc (.cells #[.int .i64 0, .slice none 0 0, .int .i64 0, .int .i64 0, .int .i64 0, .int .i64 0, .int .i64 0, .int .i64 0, .slice none 0 0, .string ⟨#[]⟩, .int .i64 0, .int .i64 0, .int .i64 0, .slice none 0 0, .slice none 0 0, .slice none 0 0] 28)).grownBy W none → Cs W w.heap.size (nc r V) ∧ Cs W (w.heap.size + 1) (mc (g, u)) ∧ Cs W (w.heap.size + 2) [.int .i64 0, .slice none 0 0, .int .i64 0, .int .i64 0, .int .i64 0, .int .i64 0, .int .i64 0, .int .i64 0, .slice none 0 0, .string ⟨#[]⟩, .int .i64 0, .int .i64 0, .int .i64 0, .slice none 0 0, .slice none 0 0, .slice none 0 0] ∧ w.grownBy W none) := fun {W} gr => three_nodes gr
  have B0 := BX.out (grown_refl _ none)
  have G0 : Hid (w.grownBy (((w.alloc (.cells #[.int .i64 r.id, .slice V.c.a V.c.n V.c.c, .int .i64 r.term, .int .i64 r.vote, .int .i64 r.role, .int .i64 r.lead, .int .i64 r.b, .int .i64 r.k, .slice V.e.a V.e.n V.e.c, .string r.snap, .int .i64 r.com, .int .i64 r.left, .int .i64 r.wait, .slice V.v.a V.v.n V.v.c, .slice V.n.a V.n.n V.n.c, .slice V.m.a V.m.n V.m.c] 28)).alloc (.cells #[.int .i64 g.kind, .int .i64 g.fm, .int .i64 g.tt, .int .i64 g.term, .int .i64 g.index, .int .i64 g.logt, .int .i64 g.com, .bool g.yes, .slice u.a u.n u.c, .string g.data] 30)).alloc (.cells #[.int .i64 0, .slice none 0 0, .int .i64 0, .int .i64 0, .int .i64 0, .int .i64 0, .int .i64 0, .int .i64 0, .slice none 0 0, .string ⟨#[]⟩, .int .i64 0, .int .i64 0, .int .i64 0, .slice none 0 0, .slice none 0 0, .slice none 0 0] 28)) none) := B0.2.2.2
  have q0 := B0.1.at_ 0 rfl
  have q1 := B0.1.at_ 1 rfl
  have q2 := B0.1.at_ 2 rfl
  have q3 := B0.1.at_ 3 rfl
  have q4 := B0.1.at_ 4 rfl
  have q5 := B0.1.at_ 5 rfl
  have q6 := B0.1.at_ 6 rfl
  have q7 := B0.1.at_ 7 rfl
  have q8 := B0.1.at_ 8 rfl
  have q9 := B0.1.at_ 9 rfl
  have q10 := B0.1.at_ 10 rfl
  have q11 := B0.1.at_ 11 rfl
  have q12 := B0.1.at_ 12 rfl
  have q13 := B0.1.at_ 13 rfl
  have q14 := B0.1.at_ 14 rfl
  have q15 := B0.1.at_ 15 rfl
  have TI : Hid (∀ (W : World) (b base : Nat) (c : S3), Rft.ok r = true → Rft.takes r g = true → Ob W base b r [] c → w.grownBy W none → w.heap.size ≤ base → _) := fun W b base c ho htk hO gW hb => handle345_o (L := []) g u hO (ok_parts ho).1 (takes_term htk).1 (takes_term htk).2 (ok_votes ho) vb (takes_kind htk hk) (takes_more htk).1 ⟨fun W' k' => hm.e.grown (kp_grown gW k' hb), hm.el, hm.eb⟩ (ok_idle ho) (ok_lnum ho) (takes_more htk).2.1 (takes_more htk).2.2.1 (takes_more htk).2.2.2 (by simp)
  have RES : Hid (∃ r' L', (Rft.handN r g = r' ∧ Rft.handL r g = L') ∧ ((Rft.ok r = false ∧ r' = r ∧ L' = []) ∨ (Rft.ok r = true ∧ Rft.takes r g = false ∧ r' = r ∧ L' = []) ∨ (Rft.ok r = true ∧ Rft.takes r g = true ∧ r' = Rft.handW r g ∧ L' = Rft.handM r [] g))) := by
    refine ⟨_, _, ⟨rfl, rfl⟩, ?_⟩
    unfold Rft.handN Rft.handL Rft.handW Rft.handM Rft.refuseL
    cases hk : Rft.ok r with
    | false => exact .inl ⟨rfl, rfl, rfl⟩
    | true =>
      cases ht : Rft.takes r g with
      | false => exact .inr (.inl ⟨rfl, rfl, rfl, rfl⟩)
      | true => exact .inr (.inr ⟨rfl, rfl, rfl, rfl⟩)
  obtain ⟨r', L', ⟨e1, e2⟩, hcase⟩ := RES.out
  rw [e1, e2]
  have HC : Hid _ := hcase
  clear RES e1 e2 h hm B0 hk hcase vb
  have E2 : (((w.alloc (.cells #[.int .i64 r.id, .slice V.c.a V.c.n V.c.c, .int .i64 r.term, .int .i64 r.vote, .int .i64 r.role, .int .i64 r.lead, .int .i64 r.b, .int .i64 r.k, .slice V.e.a V.e.n V.e.c, .string r.snap, .int .i64 r.com, .int .i64 r.left, .int .i64 r.wait, .slice V.v.a V.v.n V.v.c, .slice V.n.a V.n.n V.n.c, .slice V.m.a V.m.n V.m.c] 28)).alloc (.cells #[.int .i64 g.kind, .int .i64 g.fm, .int .i64 g.tt, .int .i64 g.term, .int .i64 g.index, .int .i64 g.logt, .int .i64 g.com, .bool g.yes, .slice u.a u.n u.c, .string g.data] 30)).alloc (.cells #[.int .i64 0, .slice none 0 0, .int .i64 0, .int .i64 0, .int .i64 0, .int .i64 0, .int .i64 0, .int .i64 0, .slice none 0 0, .string ⟨#[]⟩, .int .i64 0, .int .i64 0, .int .i64 0, .slice none 0 0, .slice none 0 0, .slice none 0 0] 28)).heap.size = w.heap.size + 3 := by simp
  have ZS : Hid (w.heap.size ≤ (((w.alloc (.cells #[.int .i64 r.id, .slice V.c.a V.c.n V.c.c, .int .i64 r.term, .int .i64 r.vote, .int .i64 r.role, .int .i64 r.lead, .int .i64 r.b, .int .i64 r.k, .slice V.e.a V.e.n V.e.c, .string r.snap, .int .i64 r.com, .int .i64 r.left, .int .i64 r.wait, .slice V.v.a V.v.n V.v.c, .slice V.n.a V.n.n V.n.c, .slice V.m.a V.m.n V.m.c] 28)).alloc (.cells #[.int .i64 g.kind, .int .i64 g.fm, .int .i64 g.tt, .int .i64 g.term, .int .i64 g.index, .int .i64 g.logt, .int .i64 g.com, .bool g.yes, .slice u.a u.n u.c, .string g.data] 30)).alloc (.cells #[.int .i64 0, .slice none 0 0, .int .i64 0, .int .i64 0, .int .i64 0, .int .i64 0, .int .i64 0, .int .i64 0, .slice none 0 0, .string ⟨#[]⟩, .int .i64 0, .int .i64 0, .int .i64 0, .slice none 0 0, .slice none 0 0, .slice none 0 0] 28)).heap.size ∧ w.heap.size + 2 < (((w.alloc (.cells #[.int .i64 r.id, .slice V.c.a V.c.n V.c.c, .int .i64 r.term, .int .i64 r.vote, .int .i64 r.role, .int .i64 r.lead, .int .i64 r.b, .int .i64 r.k, .slice V.e.a V.e.n V.e.c, .string r.snap, .int .i64 r.com, .int .i64 r.left, .int .i64 r.wait, .slice V.v.a V.v.n V.v.c, .slice V.n.a V.n.n V.n.c, .slice V.m.a V.m.n V.m.c] 28)).alloc (.cells #[.int .i64 g.kind, .int .i64 g.fm, .int .i64 g.tt, .int .i64 g.term, .int .i64 g.index, .int .i64 g.logt, .int .i64 g.com, .bool g.yes, .slice u.a u.n u.c, .string g.data] 30)).alloc (.cells #[.int .i64 0, .slice none 0 0, .int .i64 0, .int .i64 0, .int .i64 0, .int .i64 0, .int .i64 0, .int .i64 0, .slice none 0 0, .string ⟨#[]⟩, .int .i64 0, .int .i64 0, .int .i64 0, .slice none 0 0, .slice none 0 0, .slice none 0 0] 28)).heap.size) := by rw [E2]; constructor <;> omega
  clear E2
  go_enter Try.func7, Try.ntmps7
  go_upto_region 1 with fail
  generalize hw0 : ((w.alloc (.cells #[.int .i64 r.id, .slice V.c.a V.c.n V.c.c, .int .i64 r.term, .int .i64 r.vote, .int .i64 r.role, .int .i64 r.lead, .int .i64 r.b, .int .i64 r.k, .slice V.e.a V.e.n V.e.c, .string r.snap, .int .i64 r.com, .int .i64 r.left, .int .i64 r.wait, .slice V.v.a V.v.n V.v.c, .slice V.n.a V.n.n V.n.c, .slice V.m.a V.m.n V.m.c] 28)).alloc (.cells #[.int .i64 g.kind, .int .i64 g.fm, .int .i64 g.tt, .int .i64 g.term, .int .i64 g.index, .int .i64 g.logt, .int .i64 g.com, .bool g.yes, .slice u.a u.n u.c, .string g.data] 30)).alloc (.cells #[.int .i64 0, .slice none 0 0, .int .i64 0, .int .i64 0, .int .i64 0, .int .i64 0, .int .i64 0, .int .i64 0, .slice none 0 0, .string ⟨#[]⟩, .int .i64 0, .int .i64 0, .int .i64 0, .slice none 0 0, .slice none 0 0, .slice none 0 0] 28) = w0 at *
  go_cut [6] from 7 to 8 (fun t6 wx => ∃ b : Nat, t6 = .pointer (some ⟨b, 0, none⟩) ∧ Hid (∃ c, Ob wx w0.heap.size b r [] c) ∧ Hid (w0.grownBy wx none))
  case first =>
    as_aux_lemma =>
      go_wp2_with (go_at_call 13; (with_reducible refine (BE.out _ G0.out).mono ?_); rintro e w1 ⟨b, c, rfl, o1, g1⟩)
      go_meet
      exact ⟨b, rfl, ⟨c, o1⟩, g1⟩
  case rest =>
    obtain ⟨b, rfl, OB, GB⟩ := hcut
    obtain ⟨c, o1⟩ := OB.out
    have O1 : Hid (Ob wc w0.heap.size b r [] c) := o1
    obtain ⟨B1, M1, Z1, G1⟩ := BX.out GB.out
    have HZ1 : Hid (Cs wc (w.heap.size + 2) [.int .i64 0, .slice none 0 0, .int .i64 0, .int .i64 0, .int .i64 0, .int .i64 0, .int .i64 0, .int .i64 0, .slice none 0 0, .string ⟨#[]⟩, .int .i64 0, .int .i64 0, .int .i64 0, .slice none 0 0, .slice none 0 0, .slice none 0 0]) := Z1
    have HG1 : Hid (w.grownBy wc none) := G1
    have x0 := B1.at_ 0 rfl
    have x1 := B1.at_ 1 rfl
    have x2 := B1.at_ 2 rfl
    have x3 := B1.at_ 3 rfl
    have x4 := B1.at_ 4 rfl
    have x5 := B1.at_ 5 rfl
    have x6 := B1.at_ 6 rfl
    have x7 := B1.at_ 7 rfl
    have x8 := B1.at_ 8 rfl
    have x9 := B1.at_ 9 rfl
    have x10 := B1.at_ 10 rfl
    have x11 := B1.at_ 11 rfl
    have x12 := B1.at_ 12 rfl
    have x13 := B1.at_ 13 rfl
    have x14 := B1.at_ 14 rfl
    have x15 := B1.at_ 15 rfl
    clear q0 q1 q2 q3 q4 q5 q6 q7 q8 q9 q10 q11 q12 q13 q14 q15
    clear B1 M1 Z1 o1 OB BE
    go_step
    go_step
    go_cut [9] from 10 to 18 (fun _ wx => Hid (Ob wx w0.heap.size b r' L' c ∧ Kp w0.heap.size wc wx))
    case first =>
      as_aux_lemma =>
        have C1 := CH.out _ HG1.out
        have QQ : Hid (∀ {W : World}, wc.grownBy W none → (W.cell? ⟨w.heap.size, 0, none⟩ = some (.int .i64 r.id) ∧ W.cell? ⟨w.heap.size, 1, none⟩ = some (.slice V.c.a V.c.n V.c.c) ∧ W.cell? ⟨w.heap.size, 2, none⟩ = some (.int .i64 r.term) ∧ W.cell? ⟨w.heap.size, 3, none⟩ = some (.int .i64 r.vote) ∧ W.cell? ⟨w.heap.size, 4, none⟩ = some (.int .i64 r.role) ∧ W.cell? ⟨w.heap.size, 5, none⟩ = some (.int .i64 r.lead) ∧ W.cell? ⟨w.heap.size, 6, none⟩ = some (.int .i64 r.b) ∧ W.cell? ⟨w.heap.size, 7, none⟩ = some (.int .i64 r.k) ∧ W.cell? ⟨w.heap.size, 8, none⟩ = some (.slice V.e.a V.e.n V.e.c) ∧ W.cell? ⟨w.heap.size, 9, none⟩ = some (.string r.snap) ∧ W.cell? ⟨w.heap.size, 10, none⟩ = some (.int .i64 r.com) ∧ W.cell? ⟨w.heap.size, 11, none⟩ = some (.int .i64 r.left) ∧ W.cell? ⟨w.heap.size, 12, none⟩ = some (.int .i64 r.wait) ∧ W.cell? ⟨w.heap.size, 13, none⟩ = some (.slice V.v.a V.v.n V.v.c) ∧ W.cell? ⟨w.heap.size, 14, none⟩ = some (.slice V.n.a V.n.n V.n.c) ∧ W.cell? ⟨w.heap.size, 15, none⟩ = some (.slice V.m.a V.m.n V.m.c)) ∧ (W.cell? ⟨w.heap.size + 1, 0, none⟩ = some (.int .i64 g.kind) ∧ W.cell? ⟨w.heap.size + 1, 1, none⟩ = some (.int .i64 g.fm) ∧ W.cell? ⟨w.heap.size + 1, 2, none⟩ = some (.int .i64 g.tt) ∧ W.cell? ⟨w.heap.size + 1, 3, none⟩ = some (.int .i64 g.term) ∧ W.cell? ⟨w.heap.size + 1, 4, none⟩ = some (.int .i64 g.index) ∧ W.cell? ⟨w.heap.size + 1, 5, none⟩ = some (.int .i64 g.logt) ∧ W.cell? ⟨w.heap.size + 1, 6, none⟩ = some (.int .i64 g.com) ∧ W.cell? ⟨w.heap.size + 1, 7, none⟩ = some (.bool g.yes) ∧ W.cell? ⟨w.heap.size + 1, 8, none⟩ = some (.slice u.a u.n u.c) ∧ W.cell? ⟨w.heap.size + 1, 9, none⟩ = some (.string g.data)) ∧ w.grownBy W none) := fun {W} gr => by
          obtain ⟨hc, hm, _, hg⟩ := BX.out (grown_tr GB.out gr)
          exact ⟨⟨hc.at_ 0 rfl, hc.at_ 1 rfl, hc.at_ 2 rfl, hc.at_ 3 rfl, hc.at_ 4 rfl, hc.at_ 5 rfl, hc.at_ 6 rfl, hc.at_ 7 rfl, hc.at_ 8 rfl, hc.at_ 9 rfl, hc.at_ 10 rfl, hc.at_ 11 rfl, hc.at_ 12 rfl, hc.at_ 13 rfl, hc.at_ 14 rfl, hc.at_ 15 rfl⟩, ⟨hm.at_ 0 rfl, hm.at_ 1 rfl, hm.at_ 2 rfl, hm.at_ 3 rfl, hm.at_ 4 rfl, hm.at_ 5 rfl, hm.at_ 6 rfl, hm.at_ 7 rfl, hm.at_ 8 rfl, hm.at_ 9 rfl⟩, hg⟩
        rcases HC.out with ⟨hok, er, eL⟩ | ⟨hok, htk, er, eL⟩ | ⟨hok, htk, er, eL⟩
        · rw [hok] at C1
          have HE : Hid (r' = r ∧ L' = []) := ⟨er, eL⟩
          clear er eL hok TI CH TA QQ
          go_wp2_with (go_at_call 11; (with_reducible refine C1.mono ?_); rintro e w2 ⟨rfl, g2⟩)
          go_meet
          have hh : Ob w2 w0.heap.size b r' L' c ∧ Kp w0.heap.size wc w2 := by rw [HE.out.1, HE.out.2]; exact ⟨O1.out.grown g2, Kp.of g2⟩
          exact hh
        · rw [hok] at C1
          rw [htk] at TA
          have HE : Hid (r' = r ∧ L' = []) := ⟨er, eL⟩
          clear er eL hok htk TI CH
          go_wp2_with (first
            | (go_at_call 11; (with_reducible refine C1.mono ?_); rintro e w2 ⟨rfl, g2⟩; obtain ⟨⟨a0, a1, a2, a3, a4, a5, a6, a7, a8, a9, a10, a11, a12, a13, a14, a15⟩, ⟨n0, n1, n2, n3, n4, n5, n6, n7, n8, n9⟩, G2⟩ := QQ.out g2)
            | (go_at_call 14; (with_reducible refine (TA.out _ G2).mono ?_); rintro e w3 ⟨rfl, g3⟩; have g23 := grown_tr g2 g3))
          go_meet
          have hh : Ob w3 w0.heap.size b r' L' c ∧ Kp w0.heap.size wc w3 := by rw [HE.out.1, HE.out.2]; exact ⟨O1.out.grown g23, Kp.of g23⟩
          exact hh
        · rw [hok] at C1
          rw [htk] at TA
          have T1 : Hid (∀ W, wc.grownBy W none → _) := fun W g => TI.out W b _ c hok htk (O1.out.grown g) (grown_tr HG1.out g) ZS.out.1
          rw [← er, ← eL] at T1
          clear er eL hok htk TI CH
          go_wp2_with (first
            | (go_at_call 11; (with_reducible refine C1.mono ?_); rintro e w2 ⟨rfl, g2⟩; obtain ⟨⟨a0, a1, a2, a3, a4, a5, a6, a7, a8, a9, a10, a11, a12, a13, a14, a15⟩, ⟨n0, n1, n2, n3, n4, n5, n6, n7, n8, n9⟩, G2⟩ := QQ.out g2)
            | (go_at_call 14; (with_reducible refine (TA.out _ G2).mono ?_); rintro e w3 ⟨rfl, g3⟩; have g23 := grown_tr g2 g3; obtain ⟨_, ⟨l0, l1, l2, l3, l4, l5, l6, l7, l8, l9⟩, _⟩ := QQ.out g23)
            | (go_at_call 15; (with_reducible refine (T1.out _ g23).mono ?_); rintro e w4 ⟨rfl, o4, k4⟩))
          go_meet
          have hh : Ob w4 w0.heap.size b r' L' c ∧ Kp w0.heap.size wc w4 := ⟨o4, (Kp.of g23).trans k4⟩
          exact hh
    case rest =>
      rename World => wd
      have hsz : w.heap.size + 2 < w0.heap.size ∧ w.heap.size ≤ w0.heap.size := ⟨ZS.out.2, ZS.out.1⟩
      obtain ⟨HO, HK⟩ := hcut.out
      obtain ⟨X, V2, s2, T2, h0, hX, hVc⟩ := HO
      have Z2 := HZ1.out.kept HK (by omega)
      have GD : w.grownBy wd none := kp_grown HG1.out HK hsz.2
      have hbn : b ≠ w.heap.size + 2 := by have := h0.hb; omega
      have ZC := ((((((((((((((((Z2.set 0 (.int .i64 r'.id)).set 1 (.slice V2.c.a V2.c.n V2.c.c)).set 2 (.int .i64 r'.term)).set 3 (.int .i64 r'.vote)).set 4 (.int .i64 r'.role)).set 5 (.int .i64 r'.lead)).set 6 (.int .i64 r'.b)).set 7 (.int .i64 r'.k)).set 8 (.slice V2.e.a V2.e.n V2.e.c)).set 9 (.string r'.snap)).set 10 (.int .i64 r'.com)).set 11 (.int .i64 r'.left)).set 12 (.int .i64 r'.wait)).set 13 (.slice V2.v.a V2.v.n V2.v.c)).set 14 (.slice V2.n.a V2.n.n V2.n.c)).set 15 (.slice V2.m.a V2.m.n V2.m.c))
      have ZG := (chg_setb (chg_setb (chg_setb (chg_setb (chg_setb (chg_setb (chg_setb (chg_setb (chg_setb (chg_setb (chg_setb (chg_setb (chg_setb (chg_setb (chg_setb (chg_setb (Chg.refl (fun k => k = w.heap.size + 2) wd) (w.heap.size + 2) 0 (.int .i64 r'.id) rfl) (w.heap.size + 2) 1 (.slice V2.c.a V2.c.n V2.c.c) rfl) (w.heap.size + 2) 2 (.int .i64 r'.term) rfl) (w.heap.size + 2) 3 (.int .i64 r'.vote) rfl) (w.heap.size + 2) 4 (.int .i64 r'.role) rfl) (w.heap.size + 2) 5 (.int .i64 r'.lead) rfl) (w.heap.size + 2) 6 (.int .i64 r'.b) rfl) (w.heap.size + 2) 7 (.int .i64 r'.k) rfl) (w.heap.size + 2) 8 (.slice V2.e.a V2.e.n V2.e.c) rfl) (w.heap.size + 2) 9 (.string r'.snap) rfl) (w.heap.size + 2) 10 (.int .i64 r'.com) rfl) (w.heap.size + 2) 11 (.int .i64 r'.left) rfl) (w.heap.size + 2) 12 (.int .i64 r'.wait) rfl) (w.heap.size + 2) 13 (.slice V2.v.a V2.v.n V2.v.c) rfl) (w.heap.size + 2) 14 (.slice V2.n.a V2.n.n V2.n.c) rfl) (w.heap.size + 2) 15 (.slice V2.m.a V2.m.n V2.m.c) rfl)
      obtain ⟨WF, hWF⟩ : ∃ x, ((((((((((((((((wd.setCell ⟨w.heap.size + 2, 0, none⟩ (.int .i64 r'.id)).setCell ⟨w.heap.size + 2, 1, none⟩ (.slice V2.c.a V2.c.n V2.c.c)).setCell ⟨w.heap.size + 2, 2, none⟩ (.int .i64 r'.term)).setCell ⟨w.heap.size + 2, 3, none⟩ (.int .i64 r'.vote)).setCell ⟨w.heap.size + 2, 4, none⟩ (.int .i64 r'.role)).setCell ⟨w.heap.size + 2, 5, none⟩ (.int .i64 r'.lead)).setCell ⟨w.heap.size + 2, 6, none⟩ (.int .i64 r'.b)).setCell ⟨w.heap.size + 2, 7, none⟩ (.int .i64 r'.k)).setCell ⟨w.heap.size + 2, 8, none⟩ (.slice V2.e.a V2.e.n V2.e.c)).setCell ⟨w.heap.size + 2, 9, none⟩ (.string r'.snap)).setCell ⟨w.heap.size + 2, 10, none⟩ (.int .i64 r'.com)).setCell ⟨w.heap.size + 2, 11, none⟩ (.int .i64 r'.left)).setCell ⟨w.heap.size + 2, 12, none⟩ (.int .i64 r'.wait)).setCell ⟨w.heap.size + 2, 13, none⟩ (.slice V2.v.a V2.v.n V2.v.c)).setCell ⟨w.heap.size + 2, 14, none⟩ (.slice V2.n.a V2.n.n V2.n.c)).setCell ⟨w.heap.size + 2, 15, none⟩ (.slice V2.m.a V2.m.n V2.m.c)) = x := ⟨_, rfl⟩
      rw [hWF] at ZC ZG
      have HWF : Hid (((((((((((((((((wd.setCell ⟨w.heap.size + 2, 0, none⟩ (.int .i64 r'.id)).setCell ⟨w.heap.size + 2, 1, none⟩ (.slice V2.c.a V2.c.n V2.c.c)).setCell ⟨w.heap.size + 2, 2, none⟩ (.int .i64 r'.term)).setCell ⟨w.heap.size + 2, 3, none⟩ (.int .i64 r'.vote)).setCell ⟨w.heap.size + 2, 4, none⟩ (.int .i64 r'.role)).setCell ⟨w.heap.size + 2, 5, none⟩ (.int .i64 r'.lead)).setCell ⟨w.heap.size + 2, 6, none⟩ (.int .i64 r'.b)).setCell ⟨w.heap.size + 2, 7, none⟩ (.int .i64 r'.k)).setCell ⟨w.heap.size + 2, 8, none⟩ (.slice V2.e.a V2.e.n V2.e.c)).setCell ⟨w.heap.size + 2, 9, none⟩ (.string r'.snap)).setCell ⟨w.heap.size + 2, 10, none⟩ (.int .i64 r'.com)).setCell ⟨w.heap.size + 2, 11, none⟩ (.int .i64 r'.left)).setCell ⟨w.heap.size + 2, 12, none⟩ (.int .i64 r'.wait)).setCell ⟨w.heap.size + 2, 13, none⟩ (.slice V2.v.a V2.v.n V2.v.c)).setCell ⟨w.heap.size + 2, 14, none⟩ (.slice V2.n.a V2.n.n V2.n.c)).setCell ⟨w.heap.size + 2, 15, none⟩ (.slice V2.m.a V2.m.n V2.m.c)) = WF) := hWF
      clear hWF
      have FIN : Hid (WF.drew.rangeAt (w.heap.size + 2) 0 (nc r' V2) ∧ Ans w WF.drew r' L' (.returned (.tuple #[nv r' V2, .slice s2.a s2.n s2.c]))) := by
        have ZC1 : WF.rangeAt (w.heap.size + 2) 0 (nc r' V2) := ZC.1
        refine ⟨(World.rangeAt_drew WF _ _ _).2 ZC1, ?_⟩
        have hne : ∀ x, w0.heap.size ≤ x → x < wd.heap.size → ¬ x = w.heap.size + 2 := fun x hx _ => by omega
        have O2 := (h0.kept ZG hne).grown (grown_drew (grown_refl _ none))
        refine ⟨V2, s2, X, T2, rfl, ⟨O2.c.low hsz.2, O2.e.low hsz.2, O2.v.low hsz.2, O2.n.low hsz.2, O2.m.low hsz.2⟩, O2.l.1.low hsz.2, fun x hx => (O2.ms x hx).low hsz.2, hX, ?_⟩
        refine grown_drew (Chg.none (Chg.trans (F := fun _ => False) (Chg.of GD (by simp)) ZG (fun x hx => .inr (by omega))))
      have y0 := h0.cs.at_ 0 rfl
      have z0 := Z2.at_ 0 rfl
      have f0 := Z2.2.1 0
      have y1 := h0.cs.at_ 1 rfl
      have z1 := Z2.at_ 1 rfl
      have f1 := Z2.2.1 1
      have y2 := h0.cs.at_ 2 rfl
      have z2 := Z2.at_ 2 rfl
      have f2 := Z2.2.1 2
      have y3 := h0.cs.at_ 3 rfl
      have z3 := Z2.at_ 3 rfl
      have f3 := Z2.2.1 3
      have y4 := h0.cs.at_ 4 rfl
      have z4 := Z2.at_ 4 rfl
      have f4 := Z2.2.1 4
      have y5 := h0.cs.at_ 5 rfl
      have z5 := Z2.at_ 5 rfl
      have f5 := Z2.2.1 5
      have y6 := h0.cs.at_ 6 rfl
      have z6 := Z2.at_ 6 rfl
      have f6 := Z2.2.1 6
      have y7 := h0.cs.at_ 7 rfl
      have z7 := Z2.at_ 7 rfl
      have f7 := Z2.2.1 7
      have y8 := h0.cs.at_ 8 rfl
      have z8 := Z2.at_ 8 rfl
      have f8 := Z2.2.1 8
      have y9 := h0.cs.at_ 9 rfl
      have z9 := Z2.at_ 9 rfl
      have f9 := Z2.2.1 9
      have y10 := h0.cs.at_ 10 rfl
      have z10 := Z2.at_ 10 rfl
      have f10 := Z2.2.1 10
      have y11 := h0.cs.at_ 11 rfl
      have z11 := Z2.at_ 11 rfl
      have f11 := Z2.2.1 11
      have y12 := h0.cs.at_ 12 rfl
      have z12 := Z2.at_ 12 rfl
      have f12 := Z2.2.1 12
      have y13 := h0.cs.at_ 13 rfl
      have z13 := Z2.at_ 13 rfl
      have f13 := Z2.2.1 13
      have y14 := h0.cs.at_ 14 rfl
      have z14 := Z2.at_ 14 rfl
      have f14 := Z2.2.1 14
      have y15 := h0.cs.at_ 15 rfl
      have z15 := Z2.at_ 15 rfl
      have f15 := Z2.2.1 15
      have y16 := h0.cs.at_ 16 rfl
      clear h0 Z2 ZC ZG hcut HK GD hX hVc x0 x1 x2 x3 x4 x5 x6 x7 x8 x9 x10 x11 x12 x13 x14 x15
      clear O1 HZ1 HG1 HC BX G0 GB CH TI TA hw0 ZS
      go_upto_region 4 with fail
      go_region_with (fail)
      all_goals
        go_wp2_with fail
        rw [HWF.out]
        refine bodyPost_ret (res_row2 Try.results7 rfl FIN.out.1 Try.underlying28 rfl (by kernel_rfl)) rfl ?_
        exact FIN.out.2
theorem Handle_any (r : Nd) (V : Sv) (g : Mg) (u : S3) (w : World) (h : Rdn w r V) (hm : Rdm w g u) : Calls Try.prog 7 #[nv r V, mv g u] w fun e w' => Ans w w' (Rft.handN r g) (Rft.handL r g) e := by
  by_cases hk : g.kind = 1 ∨ g.kind = 2
  · exact Handle12_any r V g u w h hm hk
  · exact Handle345_any r V g u w h hm hk
end Go.Proofs.Ytdpcebaggldaiaa
