/- A node at work: a vote comes. -/
import Derived.Test.YtdpcebaggldaiaaGHand
namespace Go.Proofs.Ytdpcebaggldaiaa
open Go.RowKit Trl
open Rft (Nd Mg)
set_option linter.unusedVariables false
set_option maxRecDepth 10000

/-- A vote more. -/
theorem Oc.voted {w w2 w3 : World} {base b : Nat} {r : Nd} {X : List (Mg × S3)} {V : Sv} {s : S3} {T : Nat → Nat} {x : Int} {a2 : Option Addr} {n2 c2 : Nat} (h : Oc w base b r X V s T) (ht : ∀ k, (Value.slice V.v.a V.v.n V.v.c).ownBlock = some k → T k = 2) (hO : eK.Own w2 base (.slice a2 n2 c2) (r.votes ++ [x])) (hg : Chg (fun k => (Value.slice V.v.a V.v.n V.v.c).ownBlock = some k) w w2)
    (hl : (Value.slice a2 n2 c2).ownBlock = (Value.slice V.v.a V.v.n V.v.c).ownBlock ∨ ∃ k, (Value.slice a2 n2 c2).ownBlock = some k ∧ w.heap.size ≤ k) (e3 : w3 = w2.setCell ⟨b, 13, none⟩ (.slice a2 n2 c2)) :
    ∃ T', Oc w3 base b { r with votes := r.votes ++ [x] } X { V with v := ⟨a2, n2, c2⟩ } s T' := by
  subst e3
  have G3 := grown_set w2 ⟨b, 13, none⟩ (.slice a2 n2 c2)
  have C3 : Chg (fun k => k = b ∨ (Value.slice V.v.a V.v.n V.v.c).ownBlock = some k) w (w2.setCell ⟨b, 13, none⟩ (.slice a2 n2 c2)) := (hg.wide (fun k e => .inr e)).grown G3 (fun k e => .inl (.inl (by injection e with e; exact e.symm)))
  have hblt := h.cs.2.2
  obtain ⟨T', hT'⟩ : ∃ T' : Nat → Nat, T' = fun k => if k < w.heap.size then T k else 2 := ⟨_, rfl⟩
  have hTT : ∀ k, k < w.heap.size → T' k = T k := fun k hk => by rw [hT']; exact if_pos hk
  have O2 := h.retag hTT
  have hc2 : Cs w2 b (oc r V s) := h.cs.kept hg (fun e => by have h1 := ht b e; rw [h.tb] at h1; cases h1)
  have tv2 : ∀ k, (Value.slice V.v.a V.v.n V.v.c).ownBlock = some k → k < w.heap.size → T' k = 2 := fun k hk hlt => (hTT k hlt).trans (ht k hk)
  have hne : ∀ i, i ≠ 0 → i ≠ 2 → ∀ k, T' k = i → base ≤ k → k < w.heap.size → ¬ (k = b ∨ (Value.slice V.v.a V.v.n V.v.c).ownBlock = some k) := fun i h0 h2 k htk _ hlt e => by
    rcases e with e | e
    · subst e; rw [O2.tb] at htk; exact h0 htk.symm
    · rw [tv2 k e hlt] at htk; exact h2 htk.symm
  refine ⟨T', O2.hb, O2.tb, hc2.set 13 _, O2.c.kept C3 (hne 1 (by decide) (by decide)), O2.e.kept C3 (hne 1 (by decide) (by decide)), .inl ⟨hO.but G3 (fun k hk e => ?_), fun k hk => ?_⟩, O2.n.kept C3 (hne 3 (by decide) (by decide)), O2.m.kept C3 (hne 4 (by decide) (by decide)), ⟨O2.l.1.kept C3 (fun k hk => hne 5 (by decide) (by decide) k (O2.l.2 k hk) (O2.l.1.lt k hk).1 (O2.l.1.lt k hk).2), O2.l.2⟩, fun y hy => (O2.ms y hy).kept C3 (hne 1 (by decide) (by decide))⟩
  · injection e with e
    have e : b = k := e
    subst e
    rcases hl with e | ⟨k', e, hk'⟩
    · rw [e] at hk; have h1 := ht b hk; rw [h.tb] at h1; cases h1
    · rw [hk] at e; injection e with e; omega
  · rcases hl with e | ⟨k', e, hk'⟩
    · rw [e] at hk
      by_cases hlt : k < w.heap.size
      · exact tv2 k hk hlt
      · rw [hT']; exact if_neg hlt
    · rw [hk] at e; injection e with e; subst e; rw [hT']; exact if_neg (by omega)
set_option maxRecDepth 100000 in
set_option maxHeartbeats 3200000 in
theorem granted_o {w : World} {base b : Nat} {r : Nd} {L : List Mg} {c : S3} (g : Mg) (u : S3) (h : Ob w base b r L c) (hr : Nok r) (ht : 1 ≤ r.term) (hv : r.role = 1 → r.votes ≠ []) (hvl : r.votes.length * 8 ≤ 140737488351232) (hL : L.length ≤ 4000) :
    Calls Try.prog 34 #[.pointer (some ⟨b, 0, none⟩), mv g u] w fun e w' => e = .returned (.tuple #[]) ∧ Ob w' base b (Rft.grantN r g) (Rft.grantL r g L) c ∧ Kp base w w' := by
  have G0 : Hid (w.grownBy (w.alloc (.cells #[.int .i64 g.kind, .int .i64 g.fm, .int .i64 g.tt, .int .i64 g.term, .int .i64 g.index, .int .i64 g.logt, .int .i64 g.com, .bool g.yes, .slice u.a u.n u.c, .string g.data] 30)) none) := World.grownBy_alloc w _ none
  have BX : Hid (∀ {W : World}, (w.alloc (.cells #[.int .i64 g.kind, .int .i64 g.fm, .int .i64 g.tt, .int .i64 g.term, .int .i64 g.index, .int .i64 g.logt, .int .i64 g.com, .bool g.yes, .slice u.a u.n u.c, .string g.data] 30)).grownBy W none → Cs W w.heap.size (mc (g, u)) ∧ w.grownBy W none) := fun {W} gr => ⟨box_msg gr, grown_tr (World.grownBy_alloc w _ none) gr⟩
  have hc7 := hr.c7
  obtain ⟨X, V, s, T, h0, hX, rfl⟩ := id h
  have H0 : Hid (∀ {W : World}, w.grownBy W none → Oc W base b r X V s T) := fun {W} gr => h0.grown gr
  have HX : Hid (X.map (·.1) = L) := hX
  have CO : Hid (∀ W, w.grownBy W none → _) := fun W gr => contains_any _ r.votes g.fm W (H0.out gr).v.rx (by omega)
  have hbq : b < w.heap.size := h0.cs.2.2
  have B0 := BX.out (grown_refl _ none)
  have m1 : (w.alloc (.cells #[.int .i64 g.kind, .int .i64 g.fm, .int .i64 g.tt, .int .i64 g.term, .int .i64 g.index, .int .i64 g.logt, .int .i64 g.com, .bool g.yes, .slice u.a u.n u.c, .string g.data] 30)).cell? ⟨w.heap.size, 1, none⟩ = some (.int .i64 g.fm) := B0.1.at_ 1 rfl
  have m7 : (w.alloc (.cells #[.int .i64 g.kind, .int .i64 g.fm, .int .i64 g.tt, .int .i64 g.term, .int .i64 g.index, .int .i64 g.logt, .int .i64 g.com, .bool g.yes, .slice u.a u.n u.c, .string g.data] 30)).cell? ⟨w.heap.size, 7, none⟩ = some (.bool g.yes) := B0.1.at_ 7 rfl
  have C0 := (H0.out G0.out).cs
  have c4 := C0.at_ 4 rfl
  have c13 := C0.at_ 13 rfl
  have eN_ : Hid (Rft.grantN r g = if Rft.grants r g then (if Quo.wins r.conf (r.votes ++ [g.fm]) then Rft.leadN (Rft.voted r g) else Rft.voted r g) else r) := rfl
  have eL_ : Hid (Rft.grantL r g L = if Rft.grants r g then (if Quo.wins r.conf (r.votes ++ [g.fm]) then Rft.leadL (Rft.voted r g) L else L) else L) := rfl
  have eg : Hid (Rft.grants r g = (decide (r.role = 1) && g.yes && !Quo.has r.votes g.fm)) := rfl
  generalize Rft.grantN r g = RN at *
  generalize Rft.grantL r g L = RL at *
  have HH : Hid (Ob w base b r L V.c) := h
  have LE : Hid (∀ W, Ob W base b (Rft.voted r g) L V.c → _) := fun W hO => lead_o (r := Rft.voted r g) hO hr.log hc7 hr.id ht hL
  clear h h0 hX B0 C0
  have NO : Rft.grants r g = false → Hid (RN = r ∧ RL = L) := fun e => ⟨eN_.out.trans (by rw [e]; rfl), eL_.out.trans (by rw [e]; rfl)⟩
  go_enter Try.func34, Try.ntmps34
  go_upto_region 1 with fail
  generalize w.alloc (.cells #[.int .i64 g.kind, .int .i64 g.fm, .int .i64 g.tt, .int .i64 g.term, .int .i64 g.index, .int .i64 g.logt, .int .i64 g.com, .bool g.yes, .slice u.a u.n u.c, .string g.data] 30) = w0 at *
  have NB_ : (!true) = false := rfl
  have hnot := not_run
  by_cases h1 : ¬ r.role = 1
  · have e1 : (r.role != 1) = true := by simpa using h1
    have N1 := NO (by rw [eg.out, decide_eq_false h1]; rfl)
    clear CO
    go_quiet (fail)
    go_wp2_with fail
    refine bodyPost_ret (results_none rfl _ _ _) rfl ?_
    exact ⟨rfl, by rw [N1.out.1, N1.out.2]; exact HH.out.grown (grown_drewN G0.out _), Kp.of (grown_drewN G0.out _)⟩
  replace h1 : r.role = 1 := Decidable.of_not_not h1
  have e1 : (r.role != 1) = false := by simpa using h1
  have hv1 := hv h1
  cases hy : g.yes with
  | false =>
    have N1 := NO (by rw [eg.out, hy]; simp)
    rw [hy] at m7
    clear CO h1 hv
    go_quiet (fail)
    go_wp2_with fail
    refine bodyPost_ret (results_none rfl _ _ _) rfl ?_
    exact ⟨rfl, by rw [N1.out.1, N1.out.2]; exact HH.out.grown (grown_drewN G0.out _), Kp.of (grown_drewN G0.out _)⟩
  | true =>
  rw [hy] at m7
  have C1 : ∀ k, Calls Try.prog 22 #[.slice V.v.a V.v.n V.v.c, .int .i64 g.fm] (w0.drewN k) fun e w' => e = .returned (.bool (Quo.has r.votes g.fm)) ∧ w' = w0.drewN k := fun k => CO.out _ (grown_drewN G0.out k)
  cases hB : Quo.has r.votes g.fm with
  | true =>
    have N1 := NO (by rw [eg.out, hB]; simp)
    rw [hB] at C1
    clear CO h1 hv
    go_quiet ((go_at_call 22; with_reducible refine Calls.quiet_of_same (C1 _)))
    go_wp2_with fail
    refine bodyPost_ret (results_none rfl _ _ _) rfl ?_
    exact ⟨rfl, by rw [N1.out.1, N1.out.2]; exact HH.out.grown (grown_drewN G0.out _), Kp.of (grown_drewN G0.out _)⟩
  | false =>
  have EG : Hid (Rft.grants r g = true) := by show _ = _; rw [eg.out, decide_eq_true h1, hy, hB]; rfl
  rw [hB] at C1
  clear CO h1 hv NO
  go_quiet ((go_at_call 22; with_reducible refine Calls.quiet_of_same (C1 _)))
  clear C1
  have GX : Hid (w.grownBy (w0.drewN nq) none) := grown_drewN G0.out nq
  have p1 : (w0.drewN nq).cell? ⟨w.heap.size, 1, none⟩ = some (.int .i64 g.fm) := m1
  generalize w0.drewN nq = w1 at *
  clear m1 m7 c4 c13 BX G0
  have O1 := H0.out GX.out
  obtain ⟨ov, tv_⟩ := O1.v.own hv1
  have y13 : w1.cell? ⟨b, 13, none⟩ = some (.slice V.v.a V.v.n V.v.c) := O1.cs.at_ 13 rfl
  have y13' : ∀ o, (w1.alloc o).cell? ⟨b, 13, none⟩ = some (.slice V.v.a V.v.n V.v.c) := fun o => (World.grownBy_alloc w1 o none).cell y13 (by simp)
  have D1 : Hid (∀ o, w1.grownBy (w1.alloc o).drew none) := fun o => grown_drew (World.grownBy_alloc w1 o none)
  have OWN : Hid (∀ o, eK.Own (w1.alloc o).drew base (.slice V.v.a V.v.n V.v.c) r.votes) := fun o => ov.grown (D1.out o)
  have RX : Hid (eK.Rx (w1.alloc (.cells #[.int .i64 g.fm] 3)).drew (.slice (some ⟨w1.heap.size, 0, none⟩) 1 1) [g.fm]) := Elm.rx_one (E := eK) fun j x hx => new_at w1 rfl (by rw [← hx]; simp [eK])
  have zb : Hid (base ≤ w1.heap.size) := by have := O1.hb; have := O1.cs.2.2; show _ ≤ _; omega
  have KB : Hid (∀ o w2, (w1.alloc o).drew.grownBy w2 (Value.slice V.v.a V.v.n V.v.c).ownBlock → w2.cell? ⟨b, 13, none⟩ = some (.slice V.v.a V.v.n V.v.c) ∧ w2.frozen? ⟨b, 13, none⟩ = false) := fun o w2 hg => by
    have hc : Cs w2 b (oc r V s) := (O1.cs.grown (D1.out o)).kept (F := fun k => (Value.slice V.v.a V.v.n V.v.c).ownBlock = some k) (Chg.of hg (fun k e => e)) (fun e => by have h1 := tv_ b e; rw [O1.tb] at h1; cases h1)
    exact ⟨hc.at_ 13 rfl, hc.2.1 13⟩
  have FIN : Hid (∀ (a2 : Option Addr) (n2 c2 : Nat) (o : Obj) (w2 : World), eK.Own w2 base (.slice a2 n2 c2) (r.votes ++ [g.fm]) → (w1.alloc o).drew.grownBy w2 (Value.slice V.v.a V.v.n V.v.c).ownBlock → ((Value.slice a2 n2 c2).ownBlock = (Value.slice V.v.a V.v.n V.v.c).ownBlock ∨ (Value.slice a2 n2 c2).ownBlock = some (w1.alloc o).drew.heap.size) →
      Ob (w2.setCell ⟨b, 13, none⟩ (.slice a2 n2 c2)) base b (Rft.voted r g) L V.c ∧ Kp base w1 (w2.setCell ⟨b, 13, none⟩ (.slice a2 n2 c2))) := fun a2 n2 c2 o w2 hO2 hg2 hl2 => by
    have C2 : Chg (fun k => (Value.slice V.v.a V.v.n V.v.c).ownBlock = some k) w1 w2 := (Chg.of (D1.out o) (by simp)).grown hg2 (fun k e => .inl e)
    have hsz : (w1.alloc o).drew.heap.size = w1.heap.size + 1 := by show (w1.alloc o).heap.size = _; simp
    obtain ⟨T', O'⟩ := O1.voted tv_ hO2 C2 (hl2.imp id (fun e => ⟨_, e, by omega⟩)) rfl
    refine ⟨⟨X, _, s, T', O', HX.out, rfl⟩, (C2.wide (fun k e => (ov.lt k e).1)).grown (grown_set w2 ⟨b, 13, none⟩ (.slice a2 n2 c2)) (fun k e => .inl (by injection e with e; have := O1.hb; simp at e; omega))⟩
  have VL : Hid (r.votes.length * 8 ≤ 140737488351232) := hvl
  clear O1 ov tv_ hv1 hvl H0 HX HH
  go_upto_region 2 with fail
  go_cut [25] from 26 to 37 (fun _ wx => Hid (Ob wx base b (Rft.voted r g) L V.c ∧ Kp base w1 wx))
  case first =>
    go_region_law (refine step_of rfl (Elm.wp_append (E := eK) (.tmp 30) (.tmp 33) rfl base (.slice V.v.a V.v.n V.v.c) r.votes rfl (OWN.out _) _ [g.fm] rfl RX.out (by have := VL.out; simp; omega) (by have := VL.out; simp [eK]; omega) (by have := zb.out; simp; omega) ?_); intro a2 n2 c2 w2 hO2 hg2 hl2; obtain ⟨k0, kf⟩ := KB.out _ _ hg2)
    all_goals
      go_wp2_with fail
      go_meet
      exact FIN.out _ _ _ _ _ hO2 hg2 hl2
  case rest =>
    clear FIN KB RX OWN D1 y13 y13' p1
    rename World => wd
    have O2 : Hid (Ob wd base b (Rft.voted r g) L V.c) := hcut.out.1
    have K2 : Hid (Kp base w wd) := (Kp.of GX.out).trans hcut.out.2
    have hV : ∃ x : S3, wd.cell? ⟨b, 13, none⟩ = some (.slice x.a x.n x.c) ∧ eK.Rx wd (.slice x.a x.n x.c) (r.votes ++ [g.fm]) ∧ wd.cell? ⟨b, 1, none⟩ = some (.slice V.c.a V.c.n V.c.c) ∧ eK.Rx wd (.slice V.c.a V.c.n V.c.c) r.conf := by
      obtain ⟨X, V2, s, T, h0, hX, e⟩ := O2.out
      rw [← e]
      exact ⟨V2.v, h0.cs.at_ 13 rfl, h0.v.rx, h0.cs.at_ 1 rfl, h0.c.rx⟩
    obtain ⟨x, x13, hx, x1, hcx⟩ := hV
    have WA := wins_any (.slice V.c.a V.c.n V.c.c) (.slice x.a x.n x.c) r.conf (r.votes ++ [g.fm]) wd.drew (hcx.grown (grown_drew (grown_refl wd none))) (by omega) (hx.grown (grown_drew (grown_refl wd none))) (by have := VL.out; rw [List.length_append]; simp; omega)
    have L1 := LE.out wd.drew (O2.out.grown (grown_drew (grown_refl wd none)))
    have K3 : Hid (Kp base w wd.drew) := K2.out.grown (grown_drew (grown_refl wd none))
    have O3 : Hid (Ob wd.drew base b (Rft.voted r g) L V.c) := O2.out.grown (grown_drew (grown_refl wd none))
    have EN := eN_.out
    have EL := eL_.out
    rw [EG.out, if_pos rfl] at EN EL
    clear hx hcx LE hcut eN_ eL_ eg
    go_upto_region 3 with fail
    cases hw : Quo.wins r.conf (r.votes ++ [g.fm]) with
    | false =>
      rw [hw] at WA EN EL
      have EN' : Hid (RN = Rft.voted r g) := EN.trans (if_neg (by simp))
      have EL' : Hid (RL = L) := EL.trans (if_neg (by simp))
      clear EN EL L1
      refine region_tail 10 (by kernel_rfl) (by kernel_rfl) ?_
      simp only [List.take_succ_cons, List.take_zero, List.drop_succ_cons, List.drop_zero]
      iterate 10 still_step
      refine wpStill_nil ?_
      go_wp2_with (go_at_call 53; (with_reducible refine WA.mono ?_); rintro e w3 ⟨rfl, hw3⟩; subst hw3)
      go_end0
      exact ⟨rfl, by rw [EN'.out, EL'.out]; exact O3.out, K3.out⟩
    | true =>
      rw [hw] at WA EN EL
      rw [if_pos rfl] at EN EL
      rw [← EN, ← EL] at L1
      clear EN EL
      refine region_tail 10 (by kernel_rfl) (by kernel_rfl) ?_
      simp only [List.take_succ_cons, List.take_zero, List.drop_succ_cons, List.drop_zero]
      iterate 10 still_step
      refine wpStill_nil ?_
      go_wp2_with (first
        | (go_at_call 53; (with_reducible refine WA.mono ?_); rintro e w3 ⟨rfl, hw3⟩; subst hw3)
        | (go_at_call 54; (with_reducible refine L1.mono ?_); rintro e w4 ⟨rfl, o4, k4⟩))
      go_end0
      exact ⟨rfl, o4, K3.out.trans k4⟩
end Go.Proofs.Ytdpcebaggldaiaa
