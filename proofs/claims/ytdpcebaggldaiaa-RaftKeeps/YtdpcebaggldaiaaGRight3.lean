/- Which nodes are right: the role; Check. -/
import Derived.Test.YtdpcebaggldaiaaGRight2
import Derived.Deep.CutRange
import Derived.Deep.CutBlock
namespace Go.Proofs.Ytdpcebaggldaiaa
open Go.RowKit Trl
open Rft (Nd Mg)
set_option linter.unusedVariables false
set_option maxRecDepth 10000

theorem eq0 (n : Nat) : ((n : Int) == 0) = decide (n = 0) := by
  by_cases h : n = 0
  · rw [decide_eq_true h, h]; rfl
  · rw [decide_eq_false h]; simp; exact h
set_option maxRecDepth 100000 in
set_option maxHeartbeats 3200000 in
theorem rightRole_any (r : Nd) (V : Sv) (w : World) (h : Rdn w r V) (hk : chk r.b r.k r.l = true) : Calls Try.prog 25 #[nv r V] w fun e w' => e = .returned (.bool (Rft.roleOk r)) ∧ w.grownBy w' none := by
  have RV : Hid (∀ W, w.grownBy W none → _) := fun W g => rightVotes_any r V W (h.grown g)
  have RP : Hid (∀ W, w.grownBy W none → _) := fun W g => rightPlaces_any r V W (h.grown g) hk
  have C0 := (box_node (grown_refl (w.alloc (.cells #[.int .i64 r.id, .slice V.c.a V.c.n V.c.c, .int .i64 r.term, .int .i64 r.vote, .int .i64 r.role, .int .i64 r.lead, .int .i64 r.b, .int .i64 r.k, .slice V.e.a V.e.n V.e.c, .string r.snap, .int .i64 r.com, .int .i64 r.left, .int .i64 r.wait, .slice V.v.a V.v.n V.v.c, .slice V.n.a V.n.n V.n.c, .slice V.m.a V.m.n V.m.c] 28)) none)).1
  have G0 := World.grownBy_alloc w (.cells #[.int .i64 r.id, .slice V.c.a V.c.n V.c.c, .int .i64 r.term, .int .i64 r.vote, .int .i64 r.role, .int .i64 r.lead, .int .i64 r.b, .int .i64 r.k, .slice V.e.a V.e.n V.e.c, .string r.snap, .int .i64 r.com, .int .i64 r.left, .int .i64 r.wait, .slice V.v.a V.v.n V.v.c, .slice V.n.a V.n.n V.n.c, .slice V.m.a V.m.n V.m.c] 28) none
  have hR : Hid (Rft.roleOk r = if r.role = 0 then decide (r.votes.length = 0) && (decide (r.next.length = 0) && decide (r.mat.length = 0)) else if r.role = 1 then decide (r.vote = r.id) && Rft.votesOk r && (decide (r.next.length = 0) && decide (r.mat.length = 0)) else if r.role = 2 then decide (r.vote = r.id) && decide (r.lead = r.id) && decide (r.votes.length = 0) && Rft.placesOk r else false) := rfl
  rw [← h.nl, ← h.ml, ← h.vl] at hR
  generalize Rft.roleOk r = R at *
  have d0 := C0.at_ 0 rfl
  have d3 := C0.at_ 3 rfl
  have d4 := C0.at_ 4 rfl
  have d5 := C0.at_ 5 rfl
  have d13 := C0.at_ 13 rfl
  have d14 := C0.at_ 14 rfl
  have d15 := C0.at_ 15 rfl
  have CW : Hid (Cs (w.alloc (.cells #[.int .i64 r.id, .slice V.c.a V.c.n V.c.c, .int .i64 r.term, .int .i64 r.vote, .int .i64 r.role, .int .i64 r.lead, .int .i64 r.b, .int .i64 r.k, .slice V.e.a V.e.n V.e.c, .string r.snap, .int .i64 r.com, .int .i64 r.left, .int .i64 r.wait, .slice V.v.a V.v.n V.v.c, .slice V.n.a V.n.n V.n.c, .slice V.m.a V.m.n V.m.c] 28)) w.heap.size (nc r V)) := C0
  have HG0 : Hid (w.grownBy (w.alloc (.cells #[.int .i64 r.id, .slice V.c.a V.c.n V.c.c, .int .i64 r.term, .int .i64 r.vote, .int .i64 r.role, .int .i64 r.lead, .int .i64 r.b, .int .i64 r.k, .slice V.e.a V.e.n V.e.c, .string r.snap, .int .i64 r.com, .int .i64 r.left, .int .i64 r.wait, .slice V.v.a V.v.n V.v.c, .slice V.n.a V.n.n V.n.c, .slice V.m.a V.m.n V.m.c] 28)) none) := G0
  have en := eq0 V.n.n
  have em := eq0 V.m.n
  have ev := eq0 V.v.n
  generalize decide (V.n.n = 0) = A at *
  generalize decide (V.m.n = 0) = B at *
  generalize decide (V.v.n = 0) = C at *
  generalize Rft.votesOk r = E at *
  generalize Rft.placesOk r = P at *
  clear h hk C0 G0
  go_enter Try.func25, Try.ntmps25
  go_upto_region 1 with fail
  have q0 := CW.out.at_ 0 rfl
  have q1 := CW.out.at_ 1 rfl
  have q2 := CW.out.at_ 2 rfl
  have q6 := CW.out.at_ 6 rfl
  have q7 := CW.out.at_ 7 rfl
  have q8 := CW.out.at_ 8 rfl
  have q9 := CW.out.at_ 9 rfl
  have q10 := CW.out.at_ 10 rfl
  have q11 := CW.out.at_ 11 rfl
  have q12 := CW.out.at_ 12 rfl
  clear CW
  generalize w.alloc (.cells #[.int .i64 r.id, .slice V.c.a V.c.n V.c.c, .int .i64 r.term, .int .i64 r.vote, .int .i64 r.role, .int .i64 r.lead, .int .i64 r.b, .int .i64 r.k, .slice V.e.a V.e.n V.e.c, .string r.snap, .int .i64 r.com, .int .i64 r.left, .int .i64 r.wait, .slice V.v.a V.v.n V.v.c, .slice V.n.a V.n.n V.n.c, .slice V.m.a V.m.n V.m.c] 28) = w0 at *
  generalize w.heap.size = z at *
  go_cut [3] from 4 to 13 (fun t3 wx => t3 = .bool (A && B) ∧ wx = w0)
  case first =>
    cases A <;> cases B
    all_goals
      go_wp2_with fail
      go_meet
      exact ⟨rfl, rfl⟩
  case rest =>
    obtain ⟨rfl, hwc⟩ := hcut
    subst hwc
    generalize (A && B) = I at *
    clear en em
    by_cases h0 : r.role = 0
    · have e0 : (r.role == 0) = true := by simpa using h0
      have hR' : Hid (R = (C && I)) := by have := hR.out; rw [if_pos h0] at this; exact this
      cases C
      all_goals
        go_wp2_with fail
        go_ret
        exact ⟨by rw [hR'.out]; rfl, HG0.out⟩
    have e0 : (r.role == 0) = false := by simpa using h0
    by_cases h1 : r.role = 1
    · have e1 : (r.role == 1) = true := by simpa using h1
      have hR1 : Hid (R = (decide (r.vote = r.id) && E && I)) := by have := hR.out; rw [if_neg h0, if_pos h1] at this; exact this
      have V1 := RV.out _ HG0.out
      by_cases hv : r.vote = r.id
      · have ev1 : (r.vote == r.id) = true := by simpa using hv
        have hR' : Hid (R = (E && I)) := hR1.out.trans (by rw [decide_eq_true hv]; rfl)
        clear RV RP hR hR1 hv h1
        cases E
        all_goals
          go_wp2_with (go_at_call 45; (with_reducible refine V1.mono ?_); rintro e w3 ⟨rfl, g3⟩)
          go_ret
          exact ⟨by rw [hR'.out]; rfl, grown_tr HG0.out g3⟩
      · have ev1 : (r.vote == r.id) = false := by simpa using hv
        have hR' : Hid (R = false) := hR1.out.trans (by rw [decide_eq_false hv]; rfl)
        clear RV RP hR hR1 V1
        go_wp2_with fail
        go_ret
        exact ⟨by rw [hR'.out]; rfl, HG0.out⟩
    have e1 : (r.role == 1) = false := by simpa using h1
    by_cases h2 : r.role = 2
    · have e2 : (r.role == 2) = true := by simpa using h2
      have hR1 : Hid (R = (decide (r.vote = r.id) && decide (r.lead = r.id) && C && P)) := by have := hR.out; rw [if_neg h0, if_neg h1, if_pos h2] at this; exact this
      have P1 := RP.out _ HG0.out
      by_cases hv : r.vote = r.id
      · have ev1 : (r.vote == r.id) = true := by simpa using hv
        by_cases hl : r.lead = r.id
        · have ev2 : (r.lead == r.id) = true := by simpa using hl
          have hR' : Hid (R = (C && P)) := hR1.out.trans (by rw [decide_eq_true hv, decide_eq_true hl]; rfl)
          clear RV RP hR hR1 hv hl h2
          cases C
          · clear P1
            go_wp2_with fail
            go_ret
            exact ⟨by rw [hR'.out]; rfl, HG0.out⟩
          · go_wp2_with (go_at_call 46; (with_reducible refine P1.mono ?_); rintro e w3 ⟨rfl, g3⟩)
            go_ret
            exact ⟨by rw [hR'.out]; rfl, grown_tr HG0.out g3⟩
        · have ev2 : (r.lead == r.id) = false := by simpa using hl
          have hR' : Hid (R = false) := hR1.out.trans (by rw [decide_eq_false hl]; simp)
          clear RV RP hR hR1 P1
          go_wp2_with fail
          go_ret
          exact ⟨by rw [hR'.out]; rfl, HG0.out⟩
      · have ev1 : (r.vote == r.id) = false := by simpa using hv
        have hR' : Hid (R = false) := hR1.out.trans (by rw [decide_eq_false hv]; rfl)
        clear RV RP hR hR1 P1
        go_wp2_with fail
        go_ret
        exact ⟨by rw [hR'.out]; rfl, HG0.out⟩
    have e2 : (r.role == 2) = false := by simpa using h2
    have hR' : Hid (R = false) := by have := hR.out; rw [if_neg h0, if_neg h1, if_neg h2] at this; exact this
    clear RV RP hR
    go_wp2_with fail
    go_ret
    exact ⟨by rw [hR'.out]; rfl, HG0.out⟩
set_option maxRecDepth 100000 in
set_option maxHeartbeats 1600000 in
theorem Check_any (r : Nd) (V : Sv) (w : World) (h : Rdn w r V) : Calls Try.prog 11 #[nv r V] w fun e w' => e = .returned (.bool (Rft.ok r)) ∧ w.grownBy w' none := by
  have cb := h.cb
  have QC : Hid (∀ W, w.grownBy W none → _) := fun W g => qcheck_any _ r.conf W (h.c.grown g) (by omega)
  have CO : Hid (∀ W, w.grownBy W none → _) := fun W g => contains_any _ r.conf r.id W (h.c.grown g) (by omega)
  have RK : Hid (∀ W, w.grownBy W none → _) := fun W g => rightKept_any r V W (h.grown g)
  have RR : Hid (Rft.keptOk r = true → ∀ W, w.grownBy W none → _) := fun hk W g => rightRest_any r V W (h.grown g) (by unfold Rft.keptOk at hk; simp only [Bool.and_eq_true] at hk; exact hk.2.1)
  have RO : Hid (Rft.keptOk r = true → ∀ W, w.grownBy W none → _) := fun hk W g => rightRole_any r V W (h.grown g) (by unfold Rft.keptOk at hk; simp only [Bool.and_eq_true] at hk; exact hk.2.1)
  have hR : Hid _ := ok_is r
  have BX : Hid (∀ {W : World}, (w.alloc (.cells #[.int .i64 r.id, .slice V.c.a V.c.n V.c.c, .int .i64 r.term, .int .i64 r.vote, .int .i64 r.role, .int .i64 r.lead, .int .i64 r.b, .int .i64 r.k, .slice V.e.a V.e.n V.e.c, .string r.snap, .int .i64 r.com, .int .i64 r.left, .int .i64 r.wait, .slice V.v.a V.v.n V.v.c, .slice V.n.a V.n.n V.n.c, .slice V.m.a V.m.n V.m.c] 28)).grownBy W none → Cs W w.heap.size (nc r V) ∧ w.grownBy W none) := fun {W} g => box_node g
  have G0 : Hid (w.grownBy (w.alloc (.cells #[.int .i64 r.id, .slice V.c.a V.c.n V.c.c, .int .i64 r.term, .int .i64 r.vote, .int .i64 r.role, .int .i64 r.lead, .int .i64 r.b, .int .i64 r.k, .slice V.e.a V.e.n V.e.c, .string r.snap, .int .i64 r.com, .int .i64 r.left, .int .i64 r.wait, .slice V.v.a V.v.n V.v.c, .slice V.n.a V.n.n V.n.c, .slice V.m.a V.m.n V.m.c] 28)) none) := World.grownBy_alloc w _ none
  generalize Rft.ok r = R at *
  generalize Quo.chk r.conf = A at *
  generalize Quo.has r.conf r.id = B at *
  generalize hC : Rft.keptOk r = C at *
  generalize Rft.restOk r = D at *
  generalize Rft.roleOk r = E at *
  have H0 := BX.out (grown_refl _ none)
  have HC0 : Hid (Cs (w.alloc (.cells #[.int .i64 r.id, .slice V.c.a V.c.n V.c.c, .int .i64 r.term, .int .i64 r.vote, .int .i64 r.role, .int .i64 r.lead, .int .i64 r.b, .int .i64 r.k, .slice V.e.a V.e.n V.e.c, .string r.snap, .int .i64 r.com, .int .i64 r.left, .int .i64 r.wait, .slice V.v.a V.v.n V.v.c, .slice V.n.a V.n.n V.n.c, .slice V.m.a V.m.n V.m.c] 28)) w.heap.size (nc r V)) := H0.1
  clear h cb hC H0
  cases A with
  | false =>
    go_enter Try.func11, Try.ntmps11
    go_wp2_with (go_at_call 21; (with_reducible refine (QC.out _ G0.out).mono ?_); rintro e w1 ⟨rfl, h1⟩; subst h1)
    go_ret
    exact ⟨by rw [hR.out]; rfl, G0.out⟩
  | true =>
  cases B with
  | false =>
    go_enter Try.func11, Try.ntmps11
    go_wp2_with (first
      | (go_at_call 21; (with_reducible refine (QC.out _ G0.out).mono ?_); rintro e w1 ⟨rfl, h1⟩; subst h1)
      | (go_at_call 22; (with_reducible refine (CO.out _ G0.out).mono ?_); rintro e w1 ⟨rfl, h1⟩; subst h1))
    go_ret
    exact ⟨by rw [hR.out]; rfl, G0.out⟩
  | true =>
  cases C with
  | false =>
    go_enter Try.func11, Try.ntmps11
    go_wp2_with (first
      | (go_at_call 21; (with_reducible refine (QC.out _ G0.out).mono ?_); rintro e w1 ⟨rfl, h1⟩; subst h1)
      | (go_at_call 22; (with_reducible refine (CO.out _ G0.out).mono ?_); rintro e w1 ⟨rfl, h1⟩; subst h1)
      | (go_at_call 23; (with_reducible refine (RK.out _ G0.out).mono ?_); rintro e w2 ⟨rfl, g2⟩))
    go_ret
    exact ⟨by rw [hR.out]; rfl, grown_tr G0.out g2⟩
  | true =>
  have RR' : Hid _ := RR.out rfl
  have RO' : Hid _ := RO.out rfl
  have Q : Hid (∀ {W : World}, (w.alloc (.cells #[.int .i64 r.id, .slice V.c.a V.c.n V.c.c, .int .i64 r.term, .int .i64 r.vote, .int .i64 r.role, .int .i64 r.lead, .int .i64 r.b, .int .i64 r.k, .slice V.e.a V.e.n V.e.c, .string r.snap, .int .i64 r.com, .int .i64 r.left, .int .i64 r.wait, .slice V.v.a V.v.n V.v.c, .slice V.n.a V.n.n V.n.c, .slice V.m.a V.m.n V.m.c] 28)).grownBy W none → w.grownBy W none ∧ W.cell? ⟨w.heap.size, 0, none⟩ = some (.int .i64 r.id) ∧ W.cell? ⟨w.heap.size, 1, none⟩ = some (.slice V.c.a V.c.n V.c.c) ∧ W.cell? ⟨w.heap.size, 2, none⟩ = some (.int .i64 r.term) ∧ W.cell? ⟨w.heap.size, 3, none⟩ = some (.int .i64 r.vote) ∧ W.cell? ⟨w.heap.size, 4, none⟩ = some (.int .i64 r.role) ∧ W.cell? ⟨w.heap.size, 5, none⟩ = some (.int .i64 r.lead) ∧ W.cell? ⟨w.heap.size, 6, none⟩ = some (.int .i64 r.b) ∧ W.cell? ⟨w.heap.size, 7, none⟩ = some (.int .i64 r.k) ∧ W.cell? ⟨w.heap.size, 8, none⟩ = some (.slice V.e.a V.e.n V.e.c) ∧ W.cell? ⟨w.heap.size, 9, none⟩ = some (.string r.snap) ∧ W.cell? ⟨w.heap.size, 10, none⟩ = some (.int .i64 r.com) ∧ W.cell? ⟨w.heap.size, 11, none⟩ = some (.int .i64 r.left) ∧ W.cell? ⟨w.heap.size, 12, none⟩ = some (.int .i64 r.wait) ∧ W.cell? ⟨w.heap.size, 13, none⟩ = some (.slice V.v.a V.v.n V.v.c) ∧ W.cell? ⟨w.heap.size, 14, none⟩ = some (.slice V.n.a V.n.n V.n.c) ∧ W.cell? ⟨w.heap.size, 15, none⟩ = some (.slice V.m.a V.m.n V.m.c)) := fun {W} g => by
    obtain ⟨hc, hg⟩ := BX.out g
    exact ⟨hg, hc.at_ 0 rfl, hc.at_ 1 rfl, hc.at_ 2 rfl, hc.at_ 3 rfl, hc.at_ 4 rfl, hc.at_ 5 rfl, hc.at_ 6 rfl, hc.at_ 7 rfl, hc.at_ 8 rfl, hc.at_ 9 rfl, hc.at_ 10 rfl, hc.at_ 11 rfl, hc.at_ 12 rfl, hc.at_ 13 rfl, hc.at_ 14 rfl, hc.at_ 15 rfl⟩
  clear RR RO BX HC0
  cases D with
  | false =>
    go_enter Try.func11, Try.ntmps11
    go_wp2_with (first
      | (go_at_call 21; (with_reducible refine (QC.out _ G0.out).mono ?_); rintro e w1 ⟨rfl, h1⟩; subst h1)
      | (go_at_call 22; (with_reducible refine (CO.out _ G0.out).mono ?_); rintro e w1 ⟨rfl, h1⟩; subst h1)
      | (go_at_call 23; (with_reducible refine (RK.out _ G0.out).mono ?_); rintro e w2 ⟨rfl, g2⟩; obtain ⟨G2, x0, x1, x2, x3, x4, x5, x6, x7, x8, x9, x10, x11, x12, x13, x14, x15⟩ := Q.out g2)
      | (go_at_call 24; (with_reducible refine (RR'.out _ G2).mono ?_); rintro e w3 ⟨rfl, g3⟩))
    go_ret
    exact ⟨by rw [hR.out]; rfl, grown_tr G2 g3⟩
  | true =>
    go_enter Try.func11, Try.ntmps11
    go_wp2_with (first
      | (go_at_call 21; (with_reducible refine (QC.out _ G0.out).mono ?_); rintro e w1 ⟨rfl, h1⟩; subst h1)
      | (go_at_call 22; (with_reducible refine (CO.out _ G0.out).mono ?_); rintro e w1 ⟨rfl, h1⟩; subst h1)
      | (go_at_call 23; (with_reducible refine (RK.out _ G0.out).mono ?_); rintro e w2 ⟨rfl, g2⟩; obtain ⟨G2, x0, x1, x2, x3, x4, x5, x6, x7, x8, x9, x10, x11, x12, x13, x14, x15⟩ := Q.out g2)
      | (go_at_call 24; (with_reducible refine (RR'.out _ G2).mono ?_); rintro e w3 ⟨rfl, g3⟩; have g23 := grown_tr g2 g3; obtain ⟨G3, y0, y1, y2, y3, y4, y5, y6, y7, y8, y9, y10, y11, y12, y13, y14, y15⟩ := Q.out g23)
      | (go_at_call 25; (with_reducible refine (RO'.out _ G3).mono ?_); rintro e w4 ⟨rfl, g4⟩))
    go_ret
    exact ⟨by rw [hR.out]; rfl, grown_tr G3 g4⟩
end Go.Proofs.Ytdpcebaggldaiaa
