/- A node at work: it refuses, is asked. -/
import Derived.Test.YtdpcebaggldaiaaGTick
import Derived.Test.YtdpcebaggldaiaaGTakes
namespace Go.Proofs.Ytdpcebaggldaiaa
open Go.RowKit Trl
open Rft (Nd Mg)
set_option linter.unusedVariables false
set_option maxRecDepth 10000

/-- What is answered to an older term. -/
def Rft.refuseL (r : Nd) (L : List Mg) (m : Mg) : List Mg := if m.kind = 1 then Rft.say r L { Rft.mg0 with kind := 2, tt := m.fm } else if m.kind = 3 ∨ m.kind = 5 then Rft.say r L { Rft.mg0 with kind := 4, tt := m.fm } else L
set_option maxRecDepth 100000 in
set_option maxHeartbeats 1600000 in
theorem refuse_o {w : World} {base b : Nat} {r : Nd} {L : List Mg} {c : S3} (g : Mg) (u : S3) (h : Ob w base b r L c) (hL : L.length ≤ 4000) :
    Calls Try.prog 32 #[.pointer (some ⟨b, 0, none⟩), mv g u] w fun e w' => e = .returned (.tuple #[]) ∧ Ob w' base b r (Rft.refuseL r L g) c ∧ Kp base w w' := by
  have G0 : Hid (w.grownBy (w.alloc (.cells #[.int .i64 g.kind, .int .i64 g.fm, .int .i64 g.tt, .int .i64 g.term, .int .i64 g.index, .int .i64 g.logt, .int .i64 g.com, .bool g.yes, .slice u.a u.n u.c, .string g.data] 30)) none) := World.grownBy_alloc w _ none
  have SE : Hid (∀ W, w.grownBy W none → Calls Try.prog 50 #[.pointer (some ⟨b, 0, none⟩), .int .i64 g.fm, .agg #[.int .i64 2, .int .i64 0, .int .i64 0, .int .i64 0, .int .i64 0, .int .i64 0, .int .i64 0, .bool false, .slice none 0 0, .string ⟨#[]⟩]] W fun e w' => e = .returned (.tuple #[]) ∧ Ob w' base b r (Rft.say r L { Rft.mg0 with kind := 2, tt := g.fm }) c ∧ Kp base W w') := fun W gr => send_o { Rft.mg0 with kind := 2 } g.fm (h.grown gr) rfl (by omega)
  have AC : Hid (∀ W, w.grownBy W none → Calls Try.prog 51 #[.pointer (some ⟨b, 0, none⟩), .int .i64 g.fm, .bool false, .int .i64 0] W fun e w' => e = .returned (.tuple #[]) ∧ Ob w' base b r (Rft.say r L { Rft.mg0 with kind := 4, tt := g.fm }) c ∧ Kp base W w') := fun W gr => ack_o g.fm false 0 (h.grown gr) (by omega)
  have H : Hid (Ob w base b r L c) := h
  have hR : Hid (Rft.refuseL r L g = if g.kind = 1 then Rft.say r L { Rft.mg0 with kind := 2, tt := g.fm } else if g.kind = 3 ∨ g.kind = 5 then Rft.say r L { Rft.mg0 with kind := 4, tt := g.fm } else L) := rfl
  generalize Rft.refuseL r L g = R at *
  clear h
  by_cases h1 : g.kind = 1
  · have e1 : (g.kind == 1) = true := by simpa using h1
    have hR' := hR.out
    rw [if_pos h1] at hR'
    rw [← hR'] at SE
    clear hR hR' AC h1
    go_enter Try.func32, Try.ntmps32
    go_wp2_with (go_at_call 50; (with_reducible refine (SE.out _ G0.out).mono ?_); rintro e w1 ⟨rfl, o1, k1⟩)
    go_end0
    exact ⟨rfl, o1, (Kp.of G0.out).trans k1⟩
  have e1 : (g.kind == 1) = false := by simpa using h1
  by_cases h3 : g.kind = 3
  · have e3 : (g.kind == 3) = true := by simpa using h3
    have hR' := hR.out
    rw [if_neg h1, if_pos (.inl h3)] at hR'
    rw [← hR'] at AC
    clear hR hR' SE h3
    go_enter Try.func32, Try.ntmps32
    go_wp2_with (go_at_call 51; (with_reducible refine (AC.out _ G0.out).mono ?_); rintro e w1 ⟨rfl, o1, k1⟩)
    go_end0
    exact ⟨rfl, o1, (Kp.of G0.out).trans k1⟩
  have e3 : (g.kind == 3) = false := by simpa using h3
  by_cases h5 : g.kind = 5
  · have e5 : (g.kind == 5) = true := by simpa using h5
    have hR' := hR.out
    rw [if_neg h1, if_pos (.inr h5)] at hR'
    rw [← hR'] at AC
    clear hR hR' SE h5
    go_enter Try.func32, Try.ntmps32
    go_wp2_with (go_at_call 51; (with_reducible refine (AC.out _ G0.out).mono ?_); rintro e w1 ⟨rfl, o1, k1⟩)
    go_end0
    exact ⟨rfl, o1, (Kp.of G0.out).trans k1⟩
  have e5 : (g.kind == 5) = false := by simpa using h5
  have hR' := hR.out
  rw [if_neg h1, if_neg (by omega)] at hR'
  have HR : Hid (R = L) := hR'
  clear hR hR' SE AC
  go_enter Try.func32, Try.ntmps32
  go_wp2_with fail
  go_end0
  exact ⟨rfl, by rw [HR.out]; exact H.out.grown G0.out, Kp.of G0.out⟩
/-- A vote is given. -/
theorem vote_o {w : World} {base b : Nat} {r : Nd} {L : List Mg} {c : S3} (x y : Int) (h : Ob w base b r L c) : Ob ((w.setCell ⟨b, 3, none⟩ (.int .i64 x)).setCell ⟨b, 11, none⟩ (.int .i64 y)) base b { r with vote := x, left := y } L c ∧ Kp base w ((w.setCell ⟨b, 3, none⟩ (.int .i64 x)).setCell ⟨b, 11, none⟩ (.int .i64 y)) := by
  obtain ⟨X, V, s, T, h0, hX, hVc⟩ := h
  have C := chg_setb (chg_setb (Chg.refl (fun k => k = b) w) b 3 (.int .i64 x) rfl) b 11 (.int .i64 y) rfl
  exact ⟨⟨X, V, s, T, h0.turn C ((h0.cs.set 3 _).set 11 _) ⟨rfl, rfl⟩ (.inl ⟨rfl, rfl⟩) (.inl ⟨rfl, rfl⟩) (.inl ⟨rfl, rfl⟩) (.inl ⟨rfl, rfl⟩), hX, hVc⟩, C.toKp h0.hb⟩
set_option maxRecDepth 100000 in
set_option maxHeartbeats 3200000 in
theorem asked_o {w : World} {base b : Nat} {r : Nd} {L : List Mg} {c : S3} (g : Mg) (u : S3) (h : Ob w base b r L c) (hk : chk r.b r.k r.l = true) (hL : L.length ≤ 4000) :
    Calls Try.prog 33 #[.pointer (some ⟨b, 0, none⟩), mv g u] w fun e w' => e = .returned (.tuple #[]) ∧ Ob w' base b (Rft.askN r g) (Rft.askL r g L) c ∧ Kp base w w' := by
  have G0 : Hid (w.grownBy (w.alloc (.cells #[.int .i64 g.kind, .int .i64 g.fm, .int .i64 g.tt, .int .i64 g.term, .int .i64 g.index, .int .i64 g.logt, .int .i64 g.com, .bool g.yes, .slice u.a u.n u.c, .string g.data] 30)) none) := World.grownBy_alloc w _ none
  have SE : Hid (∀ (W : World) (r' : Nd) (yes : Bool), r'.id = r.id → r'.term = r.term → Ob W base b r' L c → Calls Try.prog 50 #[.pointer (some ⟨b, 0, none⟩), .int .i64 g.fm, .agg #[.int .i64 2, .int .i64 0, .int .i64 0, .int .i64 0, .int .i64 0, .int .i64 0, .int .i64 0, .bool yes, .slice none 0 0, .string ⟨#[]⟩]] W fun e w' => e = .returned (.tuple #[]) ∧ Ob w' base b r' (Rft.say r L { Rft.mg0 with kind := 2, tt := g.fm, yes := yes }) c ∧ Kp base W w') := fun W r' yes e1 e2 hO => by
    have := send_o { Rft.mg0 with kind := 2, yes := yes } g.fm hO rfl (by omega)
    unfold sent at this
    rw [e1, e2] at this
    exact this
  have BX : Hid (∀ {W : World}, (w.alloc (.cells #[.int .i64 g.kind, .int .i64 g.fm, .int .i64 g.tt, .int .i64 g.term, .int .i64 g.index, .int .i64 g.logt, .int .i64 g.com, .bool g.yes, .slice u.a u.n u.c, .string g.data] 30)).grownBy W none → Cs W w.heap.size (mc (g, u)) ∧ w.grownBy W none) := fun {W} gr => ⟨box_msg gr, grown_tr (World.grownBy_alloc w _ none) gr⟩
  have HH : Hid (∀ {W : World}, w.grownBy W none → Ob W base b r L c) := fun {W} gr => h.grown gr
  obtain ⟨X, V, s, T, h0, hX, hVc⟩ := id h
  have NW : Hid (∀ W, w.grownBy W none → _) := fun W gr => newer_any r.b r.k g.index g.logt _ r.l W (Sl.row (h0.grown gr).e) hk
  have CC : Hid (∀ {W : World}, w.grownBy W none → Cs W b (oc r V s)) := fun {W} gr => (h0.grown gr).cs
  have hbq : b < w.heap.size := h0.cs.2.2
  have ea : Hid (Rft.askN r g = if Rft.asks r g then { r with vote := g.fm, left := r.wait } else r) := rfl
  have el : Hid (Rft.askL r g L = Rft.say r L { Rft.mg0 with kind := 2, tt := g.fm, yes := Rft.asks r g }) := rfl
  have es : Hid (Rft.asks r g = ((decide (r.vote = 0) || decide (r.vote = g.fm)) && decide (r.role = 0) && new r.b r.k r.l g.index g.logt)) := rfl
  generalize new r.b r.k r.l g.index g.logt = NB at *
  obtain ⟨Y, hY⟩ : ∃ Y, Rft.asks r g = Y := ⟨_, rfl⟩
  rw [hY] at ea el es
  generalize Rft.askN r g = RN at *
  generalize Rft.askL r g L = RL at *
  have B0 := BX.out (grown_refl _ none)
  have m1 : (w.alloc (.cells #[.int .i64 g.kind, .int .i64 g.fm, .int .i64 g.tt, .int .i64 g.term, .int .i64 g.index, .int .i64 g.logt, .int .i64 g.com, .bool g.yes, .slice u.a u.n u.c, .string g.data] 30)).cell? ⟨w.heap.size, 1, none⟩ = some (.int .i64 g.fm) := B0.1.at_ 1 rfl
  have m4 : (w.alloc (.cells #[.int .i64 g.kind, .int .i64 g.fm, .int .i64 g.tt, .int .i64 g.term, .int .i64 g.index, .int .i64 g.logt, .int .i64 g.com, .bool g.yes, .slice u.a u.n u.c, .string g.data] 30)).cell? ⟨w.heap.size, 4, none⟩ = some (.int .i64 g.index) := B0.1.at_ 4 rfl
  have m5 : (w.alloc (.cells #[.int .i64 g.kind, .int .i64 g.fm, .int .i64 g.tt, .int .i64 g.term, .int .i64 g.index, .int .i64 g.logt, .int .i64 g.com, .bool g.yes, .slice u.a u.n u.c, .string g.data] 30)).cell? ⟨w.heap.size, 5, none⟩ = some (.int .i64 g.logt) := B0.1.at_ 5 rfl
  have C0 := CC.out G0.out
  have c3 := C0.at_ 3 rfl
  have c4 := C0.at_ 4 rfl
  have c6 := C0.at_ 6 rfl
  have c7 := C0.at_ 7 rfl
  have c8 := C0.at_ 8 rfl
  clear h h0 hX hVc hk hY B0 C0
  go_enter Try.func33, Try.ntmps33
  go_upto_region 1 with fail
  generalize w.alloc (.cells #[.int .i64 g.kind, .int .i64 g.fm, .int .i64 g.tt, .int .i64 g.term, .int .i64 g.index, .int .i64 g.logt, .int .i64 g.com, .bool g.yes, .slice u.a u.n u.c, .string g.data] 30) = w0 at *
  go_cut [4] from 6 to 21 (fun t4 wx => t4 = .bool (decide (r.vote = 0) || decide (r.vote = g.fm)) ∧ Hid (w0.grownBy wx none))
  case first =>
    by_cases h1 : r.vote = 0
    · have e1 : (r.vote == 0) = true := by simpa using h1
      have E1 : Hid (decide (r.vote = 0) = true) := decide_eq_true h1
      clear h1
      go_quiet (fail)
      go_wp2_with fail
      go_meet
      exact ⟨by rw [E1.out]; rfl, grown_drewN (grown_refl _ none) _⟩
    · have e1 : (r.vote == 0) = false := by simpa using h1
      have E1 : Hid (decide (r.vote = 0) = false) := decide_eq_false h1
      have E2 : Hid ((r.vote == g.fm) = decide (r.vote = g.fm)) := by show _ = _; by_cases h : r.vote = g.fm; simp [h]; simp [h]
      go_quiet (fail)
      go_wp2_with fail
      go_meet
      exact ⟨by rw [E1.out, Bool.false_or, ← E2.out], grown_drewN (grown_refl _ none) _⟩
  case rest =>
    obtain ⟨rfl, GW⟩ := hcut
    have GC : Hid (w.grownBy wc none) := grown_tr G0.out GW.out
    have M1 := (BX.out GW.out).1
    have n4 : wc.cell? ⟨w.heap.size, 4, none⟩ = some (.int .i64 g.index) := M1.at_ 4 rfl
    have n5 : wc.cell? ⟨w.heap.size, 5, none⟩ = some (.int .i64 g.logt) := M1.at_ 5 rfl
    have C1 := CC.out GC.out
    have d4 := C1.at_ 4 rfl
    have d6 := C1.at_ 6 rfl
    have d7 := C1.at_ 7 rfl
    have d8 := C1.at_ 8 rfl
    have N1 := NW.out wc.drew (grown_drew GC.out)
    clear M1 C1 m1 m4 m5 c3 c4 c6 c7 c8 NW
    generalize (decide (r.vote = 0) || decide (r.vote = g.fm)) = FR at *
    go_upto_region 2 with fail
    go_cut [5] from 22 to 42 (fun t5 wx => t5 = .bool Y ∧ Hid (wc.grownBy wx none))
    case first =>
      cases FR with
      | false =>
        have EY : Hid (Y = false) := es.out.trans rfl
        clear N1
        go_quiet (fail)
        go_wp2_with fail
        go_meet
        exact ⟨by rw [EY.out], grown_drewN (grown_refl _ none) _⟩
      | true =>
      by_cases hr0 : r.role = 0
      · have e0 : (r.role == 0) = true := by simpa using hr0
        have EY : Hid (Y = NB) := es.out.trans (by rw [decide_eq_true hr0]; rfl)
        clear hr0
        refine region_tail 19 (by kernel_rfl) (by kernel_rfl) ?_
        simp only [List.take_succ_cons, List.take_zero, List.drop_succ_cons, List.drop_zero]
        iterate 19 still_step
        refine wpStill_nil ?_
        go_wp2_with (go_at_call 52; (with_reducible refine N1.mono ?_); rintro e w2 ⟨rfl, g2⟩)
        go_meet
        exact ⟨by rw [EY.out], grown_tr (grown_drew (grown_refl wc none)) g2⟩
      · have e0 : (r.role == 0) = false := by simpa using hr0
        have EY : Hid (Y = false) := es.out.trans (by rw [decide_eq_false hr0]; rfl)
        clear N1
        go_quiet (fail)
        go_wp2_with fail
        go_meet
        exact ⟨by rw [EY.out], grown_drewN (grown_refl _ none) _⟩
    case rest =>
      obtain ⟨rfl, GW2⟩ := hcut
      rename World => wd
      have GD : Hid (w.grownBy wd none) := grown_tr GC.out GW2.out
      have M2 := (BX.out (grown_tr GW.out GW2.out)).1
      have p1 : wd.cell? ⟨w.heap.size, 1, none⟩ = some (.int .i64 g.fm) := M2.at_ 1 rfl
      have C2 := CC.out GD.out
      have t3 := C2.at_ 3 rfl
      have t11 := C2.at_ 11 rfl
      have t12 := C2.at_ 12 rfl
      have f3 := C2.2.1 3
      have f11 := C2.2.1 11
      have hqn : b ≠ w.heap.size := by omega
      clear M2 C2 n4 n5 d4 d6 d7 d8 N1
      cases Y with
      | false =>
        have S1 := SE.out wd r false rfl rfl (HH.out GD.out)
        have EN : Hid (RN = r) := ea.out.trans (if_neg (by simp))
        rw [← el.out] at S1
        go_wp2_with (go_at_call 50; (with_reducible refine S1.mono ?_); rintro e w3 ⟨rfl, o3, k3⟩)
        go_end0
        exact ⟨rfl, by rw [EN.out]; exact o3, (Kp.of GD.out).trans k3⟩
      | true =>
        obtain ⟨vo, vk⟩ := vote_o g.fm r.wait (HH.out GD.out)
        have EN : Hid (RN = { r with vote := g.fm, left := r.wait }) := ea.out.trans (if_pos rfl)
        have S1 := SE.out _ { r with vote := g.fm, left := r.wait } true rfl rfl (vo.grown (grown_drew (grown_refl _ none)))
        have VK : Hid (Kp base wd ((wd.setCell ⟨b, 3, none⟩ (.int .i64 g.fm)).setCell ⟨b, 11, none⟩ (.int .i64 r.wait)).drew) := vk.grown (grown_drew (grown_refl _ none))
        rw [← el.out, ← EN.out] at S1
        have p1' : ((wd.setCell ⟨b, 3, none⟩ (.int .i64 g.fm)).setCell ⟨b, 11, none⟩ (.int .i64 r.wait)).cell? ⟨w.heap.size, 1, none⟩ = some (.int .i64 g.fm) := by rw [set_other (by simp), set_other (by simp)]; exact p1
        clear vo vk
        go_upto_region 4 with fail
        go_region_with (fail)
        all_goals
          go_wp2_with (go_at_call 50; (with_reducible refine S1.mono ?_); rintro e w3 ⟨rfl, o3, k3⟩)
          go_end0
          exact ⟨rfl, o3, ((Kp.of GD.out).trans VK.out).trans k3⟩
end Go.Proofs.Ytdpcebaggldaiaa
