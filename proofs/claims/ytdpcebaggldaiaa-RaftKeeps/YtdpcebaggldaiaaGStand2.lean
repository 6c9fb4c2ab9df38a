/- A node at work: it stands (the walk). -/
import Derived.Test.YtdpcebaggldaiaaGStand
namespace Go.Proofs.Ytdpcebaggldaiaa
open Go.RowKit Trl
open Rft (Nd Mg)
set_option linter.unusedVariables false
set_option maxRecDepth 10000

/-- A node of a group whose log is right. -/
structure Nok (r : Nd) : Prop where
  conf : Quo.chk r.conf = true
  id : Quo.has r.conf r.id = true
  log : chk r.b r.k r.l = true
  t0 : 0 ≤ r.term
  t1 : r.term ≤ 1099511627776
theorem Nok.c7 {r : Nd} (h : Nok r) : r.conf.length ≤ 7 := conf_len h.conf
set_option maxRecDepth 100000 in
set_option maxHeartbeats 6400000 in
theorem stand_o {w : World} {base b : Nat} {r : Nd} {L : List Mg} {c : S3} (d : Int) (h : Ob w base b r L c) (hr : Nok r) (hd1 : -9223372036854775808 ≤ d) (hd2 : d ≤ 9223372036854775807) (hL : L.length ≤ 4000) :
    Calls Try.prog 39 #[.pointer (some ⟨b, 0, none⟩), .int .i64 d] w fun e w' => e = .returned (.tuple #[]) ∧ Ob w' base b (Rft.standN r d) (Rft.standL r L d) c ∧ Kp base w w' := by
  have c2 : w.cell? ⟨b, 2, none⟩ = some (.int .i64 r.term) := by obtain ⟨X, V, s, T, h0, hX, rfl⟩ := id h; exact h0.cs.at_ 2 rfl
  have t0 := hr.t0
  have t1 := hr.t1
  unfold Rft.standN Rft.standL
  by_cases ht : r.term = 1099511627776
  · rw [if_pos ht, if_pos ht]
    have H : Hid (Ob w base b r L c) := h
    have ht2 : (r.term == 1099511627776) = true := by simpa using ht
    clear h hr
    go_enter Try.func39, Try.ntmps39
    go_wp2_with fail
    refine bodyPost_ret (results_none rfl _ _ _) rfl ?_
    exact ⟨rfl, H.out, Kp.refl _ _⟩
  rw [if_neg ht, if_neg ht]
  obtain ⟨RN, hRN⟩ : ∃ x, (if r.conf.length = 1 then Rft.leadN (Rft.stand0 r d) else Rft.stand0 r d) = x := ⟨_, rfl⟩
  obtain ⟨RL, hRL⟩ : ∃ x, (if r.conf.length = 1 then Rft.leadL (Rft.stand0 r d) L else Rft.askTo (Rft.stand0 r d) L r.conf.length) = x := ⟨_, rfl⟩
  rw [hRN, hRL]
  have HRN : Hid (_ = RN) := hRN
  have HRL : Hid (_ = RL) := hRL
  clear hRN hRL
  have ht2 : (r.term == 1099511627776) = false := by simpa using ht
  have EN := enter_o (r.term + 1) h
  have wr1 : IntKind.i64.wrap (r.term + 1) = r.term + 1 := by rw [IntKind.wrap_i64]; omega
  have hc7 := hr.c7
  have WI := wins_one hr.conf r.id hr.id
  have LE : Hid (∀ W, Ob W base b (Rft.stand0 r d) L c → Calls Try.prog 54 #[.pointer (some ⟨b, 0, none⟩)] W fun e w' => e = .returned (.tuple #[]) ∧ Ob w' base b (Rft.leadN (Rft.stand0 r d)) (Rft.leadL (Rft.stand0 r d) L) c ∧ Kp base W w') := fun W hO => lead_o hO hr.log hc7 hr.id (by show 1 ≤ r.term + 1; omega) hL
  have D1 := drawn_in d
  have HR : Hid (Nok r) := hr
  have ED : Hid (Rft.stand0 r d = { Rft.ent r (r.term + 1) with role := 1, vote := r.id, votes := [r.id], wait := Rft.drawn d, left := Rft.drawn d }) := rfl
  clear h hr
  go_enter Try.func39, Try.ntmps39
  go_upto_region 2 with (go_at_call 31; (with_reducible refine EN.mono ?_); rintro e w1 ⟨rfl, o1, k1⟩)
  have HK1 : Hid (Kp base w w1) := k1
  obtain ⟨X, V, s, T, h0, hX, hVc⟩ := id o1
  have HX : Hid (X.map (·.1) = L) := hX
  have H0 : Hid (Oc w1 base b (Rft.ent r (r.term + 1)) X V s T) := h0
  have x0 : w1.cell? ⟨b, 0, none⟩ = some (.int .i64 r.id) := h0.cs.at_ 0 rfl
  have HVc : Hid (V.c = c) := hVc
  have O3 : ∀ o, Oc (w1.alloc o) base b (Rft.ent r (r.term + 1)) X V s T := fun o => h0.grown (World.grownBy_alloc w1 o none)
  have x0' : ∀ o, (w1.alloc o).cell? ⟨b, 0, none⟩ = some (.int .i64 r.id) := fun o => (O3 o).cs.at_ 0 rfl
  have x3 : ∀ o, (w1.alloc o).cell? ⟨b, 3, none⟩ = some (.int .i64 0) := fun o => (O3 o).cs.at_ 3 rfl
  have x4 : ∀ o, (w1.alloc o).cell? ⟨b, 4, none⟩ = some (.int .i64 0) := fun o => (O3 o).cs.at_ 4 rfl
  have x13 : ∀ o, (w1.alloc o).cell? ⟨b, 13, none⟩ = some (.slice V.v.a V.v.n V.v.c) := fun o => (O3 o).cs.at_ 13 rfl
  have y3 : ∀ o, (w1.alloc o).frozen? ⟨b, 3, none⟩ = false := fun o => (O3 o).cs.2.1 3
  have y4 : ∀ o, (w1.alloc o).frozen? ⟨b, 4, none⟩ = false := fun o => (O3 o).cs.2.1 4
  have y13 : ∀ o, (w1.alloc o).frozen? ⟨b, 13, none⟩ = false := fun o => (O3 o).cs.2.1 13
  have k3 : w1.cell? ⟨b, 3, none⟩ = some (.int .i64 0) := h0.cs.at_ 3 rfl
  have k4 : w1.cell? ⟨b, 4, none⟩ = some (.int .i64 0) := h0.cs.at_ 4 rfl
  have l3 : w1.frozen? ⟨b, 3, none⟩ = false := h0.cs.2.1 3
  have l4 : w1.frozen? ⟨b, 4, none⟩ = false := h0.cs.2.1 4
  have CB : ∀ v o, Cs ((w1.setCell ⟨b, 4, none⟩ v).alloc o) b ((oc (Rft.ent r (r.term + 1)) V s).set 4 v) := fun v o => (h0.cs.set 4 v).grown (World.grownBy_alloc _ o none)
  have CC : ∀ v v' o, Cs (((w1.setCell ⟨b, 4, none⟩ v).setCell ⟨b, 3, none⟩ v').alloc o) b (((oc (Rft.ent r (r.term + 1)) V s).set 4 v).set 3 v') := fun v v' o => ((h0.cs.set 4 v).set 3 v').grown (World.grownBy_alloc _ o none)
  have b0 : ∀ v o, ((w1.setCell ⟨b, 4, none⟩ v).alloc o).cell? ⟨b, 0, none⟩ = some (.int .i64 r.id) := fun v o => (CB v o).at_ 0 rfl
  have b3 : ∀ v o, ((w1.setCell ⟨b, 4, none⟩ v).alloc o).cell? ⟨b, 3, none⟩ = some (.int .i64 0) := fun v o => (CB v o).at_ 3 rfl
  have b13 : ∀ v o, ((w1.setCell ⟨b, 4, none⟩ v).alloc o).cell? ⟨b, 13, none⟩ = some (.slice V.v.a V.v.n V.v.c) := fun v o => (CB v o).at_ 13 rfl
  have bf3 : ∀ v o, ((w1.setCell ⟨b, 4, none⟩ v).alloc o).frozen? ⟨b, 3, none⟩ = false := fun v o => (CB v o).2.1 3
  have bf13 : ∀ v o, ((w1.setCell ⟨b, 4, none⟩ v).alloc o).frozen? ⟨b, 13, none⟩ = false := fun v o => (CB v o).2.1 13
  have d13 : ∀ v v' o, (((w1.setCell ⟨b, 4, none⟩ v).setCell ⟨b, 3, none⟩ v').alloc o).cell? ⟨b, 13, none⟩ = some (.slice V.v.a V.v.n V.v.c) := fun v v' o => (CC v v' o).at_ 13 rfl
  have df13 : ∀ v v' o, (((w1.setCell ⟨b, 4, none⟩ v).setCell ⟨b, 3, none⟩ v').alloc o).frozen? ⟨b, 13, none⟩ = false := fun v v' o => (CC v v' o).2.1 13
  have GA := World.grownBy_alloc w1 (.cells #[.int .i64 r.id] 3) none
  have OW := own_one w1 r.id rfl
  have hbb := h0.hb
  have FIN : ∀ W, Chg (fun k => k = b) (w1.alloc (.cells #[.int .i64 r.id] 3)) W → Cs W b (oc { Rft.ent r (r.term + 1) with role := 1, vote := r.id, votes := [r.id] } { V with v := ⟨some ⟨w1.heap.size, 0, none⟩, 1, 1⟩ } s) → Hid (Ob W.drew base b { Rft.ent r (r.term + 1) with role := 1, vote := r.id, votes := [r.id] } L c ∧ Kp base w1 W.drew) := fun W C hc => by
    obtain ⟨T', O'⟩ := h0.votes (r' := { Rft.ent r (r.term + 1) with role := 1, vote := r.id, votes := [r.id] }) (V' := { V with v := ⟨some ⟨w1.heap.size, 0, none⟩, 1, 1⟩ }) (u := ⟨some ⟨w1.heap.size, 0, none⟩, 1, 1⟩) GA OW C hc ⟨rfl, rfl⟩ ⟨rfl, rfl⟩ rfl ⟨rfl, rfl⟩ ⟨rfl, rfl⟩
    exact ⟨⟨X, _, s, T', O'.grown (grown_drew (grown_refl W none)), hX, hVc⟩, ((Kp.of GA).trans (C.toKp hbb)).grown (grown_drew (grown_refl W none))⟩
  have FA := FIN _ (chg_setb (chg_setb (chg_setb (Chg.refl (fun k => k = b) _) b 4 (.int .i64 1) rfl) b 3 (.int .i64 r.id) rfl) b 13 (.slice (some ⟨w1.heap.size, 0, none⟩) 1 1) rfl) ((((O3 _).cs.set 4 _).set 3 _).set 13 _)
  have FB := FIN _ (chg_setb (chg_setb (chg_set_alloc w1 b 4 (.int .i64 1) _) b 3 (.int .i64 r.id) rfl) b 13 (.slice (some ⟨w1.heap.size, 0, none⟩) 1 1) rfl) (((CB _ _).set 3 _).set 13 _)
  have FC := FIN _ (chg_setb ((chg_set_alloc w1 b 4 (.int .i64 1) _).trans (chg_set_alloc (w1.setCell ⟨b, 4, none⟩ (.int .i64 1)) b 3 (.int .i64 r.id) _) (fun _ h => .inl h)) b 13 (.slice (some ⟨w1.heap.size, 0, none⟩) 1 1) rfl) ((CC _ _ _).set 13 _)
  clear c2 EN hVc hX O3 h0 o1 k1 CB CC FIN GA OW hbb
  go_cut [22] from 23 to 44 (fun t22 wx => t22 = .pointer (some ⟨b, 0, none⟩) ∧ Hid (Ob wx base b { Rft.ent r (r.term + 1) with role := 1, vote := r.id, votes := [r.id] } L c ∧ Kp base w1 wx))
  case first =>
    go_region_with (fail)
    all_goals
      go_wp2_with fail
      go_meet
      first | exact ⟨rfl, FA⟩ | exact ⟨rfl, FB⟩ | exact ⟨rfl, FC⟩
  case rest =>
    obtain ⟨rfl, CF⟩ := hcut
    clear FA FB FC x0 x0' x3 x4 x13 y3 y4 y13 k3 k4 l3 l4 b0 b3 b13 bf3 bf13 d13 df13 H0 HX HVc
    have KW2 : Hid (Kp base w wc) := HK1.out.trans CF.out.2
    have O2 : Hid (Ob wc base b { Rft.ent r (r.term + 1) with role := 1, vote := r.id, votes := [r.id] } L c) := CF.out.1
    clear CF HK1
    obtain ⟨X, V, s, T, h0, hX, hVc⟩ := id O2.out
    have H0 : Hid (Oc wc base b { Rft.ent r (r.term + 1) with role := 1, vote := r.id, votes := [r.id] } X V s T) := h0
    have HX : Hid (X.map (·.1) = L) := hX
    have x12 : wc.cell? ⟨b, 12, none⟩ = some (.int .i64 r.wait) := h0.cs.at_ 12 rfl
    have f12 : wc.frozen? ⟨b, 12, none⟩ = false := h0.cs.2.1 12
    have x11 : wc.cell? ⟨b, 11, none⟩ = some (.int .i64 r.left) := h0.cs.at_ 11 rfl
    have f11 : wc.frozen? ⟨b, 11, none⟩ = false := h0.cs.2.1 11
    have x1 : wc.cell? ⟨b, 1, none⟩ = some (.slice c.a c.n c.c) := by have := h0.cs.at_ 1 rfl; rw [hVc] at this; exact this
    have x13 : wc.cell? ⟨b, 13, none⟩ = some (.slice V.v.a V.v.n V.v.c) := h0.cs.at_ 13 rfl
    clear h0 hX O2
    have HVc : Hid (V.c = c) := hVc
    clear hVc
    have FD : Hid (∀ y, y = Rft.drawn d → Ob ((wc.setCell ⟨b, 12, none⟩ (.int .i64 y)).setCell ⟨b, 11, none⟩ (.int .i64 y)) base b (Rft.stand0 r d) L c ∧ Kp base wc ((wc.setCell ⟨b, 12, none⟩ (.int .i64 y)).setCell ⟨b, 11, none⟩ (.int .i64 y))) := fun y hy => by
      have C := chg_setb (chg_setb (Chg.refl (fun k => k = b) wc) b 12 (.int .i64 y) rfl) b 11 (.int .i64 y) rfl
      rw [ED.out, ← hy]
      exact ⟨⟨X, V, s, T, H0.out.turn C ((H0.out.cs.set 12 _).set 11 _) ⟨rfl, rfl⟩ (.inl ⟨rfl, rfl⟩) (.inl ⟨rfl, rfl⟩) (.inl ⟨rfl, rfl⟩) (.inl ⟨rfl, rfl⟩), HX.out, HVc.out⟩, C.toKp H0.out.hb⟩
    clear x1 x13
    obtain ⟨x, hx⟩ : ∃ x, (if d < 0 then 0 - (d + 1) else d) = x := ⟨_, rfl⟩
    have ex : Rft.drawn d = 10 + x.tmod 10 := by unfold Rft.drawn; rw [hx]
    have e3 : IntKind.i64.wrap (10 + x.tmod 10) = 10 + x.tmod 10 := by rw [← ex, IntKind.wrap_i64]; omega
    have tb : 0 ≤ x.tmod 10 ∧ x.tmod 10 ≤ 9 := by omega
    have EX : Hid (Rft.drawn d = 10 + x.tmod 10) := ex
    clear ex D1
    go_step
    go_step
    go_cut [1] from 45 to 49 (fun t1 wx => t1 = .int .i64 x ∧ wx = wc)
    case first =>
      by_cases hd : d < 0
      · rw [if_pos hd] at hx
        have e1 : IntKind.i64.wrap (d + 1) = d + 1 := by rw [IntKind.wrap_i64]; omega
        have e2 : IntKind.i64.wrap (-(d + 1)) = -(d + 1) := by rw [IntKind.wrap_i64]; omega
        have HXx : Hid (0 - (d + 1) = x) := hx
        clear hx
        go_wp2_with fail
        go_meet
        exact ⟨by rw [← HXx.out, show 0 - (d + 1) = -(d + 1) by omega], rfl⟩
      · rw [if_neg hd] at hx
        have HXx : Hid (d = x) := hx
        clear hx
        go_wp2_with fail
        go_meet
        exact ⟨by rw [← HXx.out], rfl⟩
    case rest =>
      obtain ⟨rfl, hwc⟩ := hcut
      subst hwc
      clear hx
      have FD2 := FD.out (10 + x.tmod 10) (by rw [EX.out])
      have HFD : Hid _ := FD2
      clear FD FD2
      go_upto_region 7 with fail
      generalize (wc.setCell ⟨b, 12, none⟩ (.int .i64 (10 + x.tmod 10))).setCell ⟨b, 11, none⟩ (.int .i64 (10 + x.tmod 10)) = wd at *
      have O3 : Hid (Ob wd base b (Rft.stand0 r d) L c) := HFD.out.1
      have KW3 : Hid (Kp base w wd) := KW2.out.trans HFD.out.2
      clear HFD x12 f12 x11 f11 H0 HX HVc KW2 tb e3
      have hC : Hid (∀ {W : World} {L' : List Mg}, Ob W base b (Rft.stand0 r d) L' c → eK.Rx W (.slice c.a c.n c.c) r.conf ∧ c.n = r.conf.length ∧ W.cell? ⟨b, 0, none⟩ = some (.int .i64 r.id) ∧ W.cell? ⟨b, 1, none⟩ = some (.slice c.a c.n c.c) ∧ W.cell? ⟨b, 6, none⟩ = some (.int .i64 r.b) ∧ W.cell? ⟨b, 7, none⟩ = some (.int .i64 r.k) ∧ ∃ e : S3, W.cell? ⟨b, 8, none⟩ = some (.slice e.a e.n e.c) ∧ Sl W (.slice e.a e.n e.c) r.l) := fun {W L'} h => by
        obtain ⟨X, V, s, T, h0, hX, rfl⟩ := h
        exact ⟨h0.c.rx, h0.c.len, h0.cs.at_ 0 rfl, h0.cs.at_ 1 rfl, h0.cs.at_ 6 rfl, h0.cs.at_ 7 rfl, V.e, h0.cs.at_ 8 rfl, Sl.row h0.e⟩
      have hV : ∃ u : S3, wd.cell? ⟨b, 13, none⟩ = some (.slice u.a u.n u.c) ∧ eK.Rx wd (.slice u.a u.n u.c) [r.id] := by
        obtain ⟨X, V, s, T, h0, hX, rfl⟩ := O3.out
        exact ⟨V.v, h0.cs.at_ 13 rfl, h0.v.rx⟩
      obtain ⟨u, x13, hu⟩ := hV
      obtain ⟨hrx, cn, x0, x1, x6, x7, u8, x8, s8⟩ := hC.out O3.out
      have WA := wins_any (.slice c.a c.n c.c) (.slice u.a u.n u.c) r.conf [r.id] wd.drew (hrx.grown (grown_drew (grown_refl wd none))) (by omega) (hu.grown (grown_drew (grown_refl wd none))) (by simp)
      rw [WI] at WA
      by_cases h1 : r.conf.length = 1
      · have RN1 := HRN.out
        have RL1 := HRL.out
        rw [if_pos h1] at RN1 RL1
        rw [decide_eq_true h1] at WA
        have L1 := LE.out wd.drew (O3.out.grown (grown_drew (grown_refl wd none)))
        rw [RN1, RL1] at L1
        clear RN1 RL1
        have KW4 : Hid (Kp base w wd.drew) := KW3.out.grown (grown_drew (grown_refl wd none))
        clear hrx hu s8 hC LE WI HR cn h1
        refine region_tail 10 (by kernel_rfl) (by kernel_rfl) ?_
        simp only [List.take_succ_cons, List.take_zero, List.drop_succ_cons, List.drop_zero]
        iterate 10 still_step
        refine wpStill_nil ?_
        go_wp2_with (first
          | (go_at_call 53; (with_reducible refine WA.mono ?_); rintro e w3 ⟨rfl, hw3⟩; subst hw3)
          | (go_at_call 54; (with_reducible refine L1.mono ?_); rintro e w4 ⟨rfl, o4, k4⟩))
        refine bodyPost_ret (results_none rfl _ _ _) rfl ?_
        exact ⟨rfl, o4, KW4.out.trans k4⟩
      · have RN1 := HRN.out
        have RL1 := HRL.out
        rw [if_neg h1] at RN1 RL1
        have RN2 : Hid _ := RN1
        have RL2 : Hid _ := RL1
        clear RN1 RL1 HRN HRL
        rw [decide_eq_false h1] at WA
        have LA := last_any r.b r.k _ r.l wd.drew (s8.grown (grown_drew (grown_refl wd none))) HR.out.log
        rw [show r.b + (r.l.length : Int) = (Rft.stand0 r d).last from rfl, show lastT r.k r.l = (Rft.stand0 r d).lastt from rfl] at LA
        have SE : Hid (∀ (W : World) (L' : List Mg) (x : Int), Ob W base b (Rft.stand0 r d) L' c → L'.length ≤ 4096 → Calls Try.prog 50 #[.pointer (some ⟨b, 0, none⟩), .int .i64 x, .agg #[.int .i64 1, .int .i64 0, .int .i64 0, .int .i64 0, .int .i64 (Rft.stand0 r d).last, .int .i64 (Rft.stand0 r d).lastt, .int .i64 0, .bool false, .slice none 0 0, .string ⟨#[]⟩]] W fun e w' => e = .returned (.tuple #[]) ∧ Ob w' base b (Rft.stand0 r d) (Rft.say (Rft.stand0 r d) L' { Rft.mg0 with kind := 1, tt := x, index := (Rft.stand0 r d).last, logt := (Rft.stand0 r d).lastt }) c ∧ Kp base W w') := fun W L' x hO hl => send_o { Rft.mg0 with kind := 1, index := (Rft.stand0 r d).last, logt := (Rft.stand0 r d).lastt } x hO rfl hl
        have AS : Hid (∀ j, Rft.askTo (Rft.stand0 r d) L (j + 1) = if Rft.at0 r.conf j = r.id then Rft.askTo (Rft.stand0 r d) L j else Rft.say (Rft.stand0 r d) (Rft.askTo (Rft.stand0 r d) L j) { Rft.mg0 with kind := 1, tt := Rft.at0 r.conf j, index := (Rft.stand0 r d).last, logt := (Rft.stand0 r d).lastt }) := fun j => rfl
        have PL : Hid (∀ j, (Rft.askTo (Rft.stand0 r d) L j).length ≤ L.length + j) := askTo_len _ L
        have OD : Hid (Ob wd.drew base b (Rft.stand0 r d) L c) := O3.out.grown (grown_drew (grown_refl wd none))
        have KW4 : Hid (Kp base w wd.drew) := KW3.out.grown (grown_drew (grown_refl wd none))
        obtain ⟨N, hN⟩ : ∃ N, r.conf.length = N := ⟨_, rfl⟩
        have NL : Hid (r.conf.length = N) := hN
        rw [hN] at cn hc7 h1 RL2
        have CN : Hid (c.n = N) := cn
        have A0 : Hid (Rft.askTo (Rft.stand0 r d) L 0 = L) := rfl
        have KS : Hid (∀ {W : World}, wd.drew.grownBy W none → W.cell? ⟨b, 1, none⟩ = some (.slice c.a N c.c)) := fun {W} g => by rw [← CN.out]; exact g.cell (a := ⟨b, 1, none⟩) x1 (by simp)
        generalize (Rft.stand0 r d).last = ql at *
        generalize (Rft.stand0 r d).lastt = qt at *
        generalize Rft.stand0 r d = r' at *
        clear hrx hu s8 LE WI HR hN cn ED EX O3 KW3
        refine region_tail 10 (by kernel_rfl) (by kernel_rfl) ?_
        simp only [List.take_succ_cons, List.take_zero, List.drop_succ_cons, List.drop_zero]
        iterate 10 still_step
        refine wpStill_nil ?_
        go_wp2_with (first
          | (go_at_call 53; (with_reducible refine WA.mono ?_); rintro e w3 ⟨rfl, hw3⟩; subst hw3)
          | (go_at_call 43; (with_reducible refine LA.mono ?_); rintro e w4 ⟨rfl, g4⟩; have z1 := KS.out g4))
        have O4 : Hid (Ob w4 base b r' L c) := OD.out.grown g4
        have K4 : Hid (Kp base w w4) := KW4.out.grown g4
        clear g4 z1 WA LA x0 x1 x6 x7 x8 x13 OD KW4 KS
        go_loopw [7, 94] (fun _ i wr => ∃ j : Nat, j ≤ N ∧ i = .int .i64 (j : Int) ∧ Hid (Ob wr base b r' (Rft.askTo r' L j) c) ∧ Hid (Kp base w wr)) (fun _ i _ => N - (intOf i).toNat)
        case atStart => exact ⟨0, by omega, rfl, by rw [A0.out]; exact O4, K4.out⟩
        case round =>
          obtain ⟨j, hj, rfl, O, K⟩ := hrel
          by_cases hlt : j < N
          · have hh := hC.out O.out
            have hrx := hh.1
            have y0 := hh.2.2.1
            clear hh
            rw [CN.out] at hrx
            obtain ⟨g, o, eq, y1⟩ := at_k hrx (at0_is (l := r.conf) (i := j) (by rw [NL.out]; exact hlt))
            rw [eq]
            have A1 := AS.out j
            by_cases hidj : Rft.at0 r.conf j = r.id
            · rw [if_pos hidj] at A1
              have A1' : Hid _ := A1
              have hid2 : (Rft.at0 r.conf j != r.id) = false := by simpa using hidj
              generalize Rft.at0 r.conf j = x at *
              clear hrx A1
              go_wp2_with fail
              go_roundw
              case rel => exact ⟨j + 1, by omega, by go_num, by rw [A1'.out]; exact O, K⟩
              case measure => simp [intOf]; omega
            · rw [if_neg hidj] at A1
              have hid2 : (Rft.at0 r.conf j != r.id) = true := by simpa using hidj
              have S1 := SE.out wr _ (Rft.at0 r.conf j) O.out (by have := PL.out j; omega)
              rw [← A1] at S1
              generalize Rft.at0 r.conf j = x at *
              clear hrx A1
              go_wp2_with (go_at_call 50; (with_reducible refine S1.mono ?_); rintro e w5 ⟨rfl, o5, k5⟩)
              go_roundw
              case rel => exact ⟨j + 1, by omega, by go_num, o5, K.out.trans k5⟩
              case measure => simp [intOf]; omega
          · have E : Hid (j = N) := by show _ = _; omega
            go_wp2_with fail
            go_end0
            exact ⟨rfl, by rw [← RN2.out, ← RL2.out, ← E.out]; exact O.out, K.out⟩
end Go.Proofs.Ytdpcebaggldaiaa
