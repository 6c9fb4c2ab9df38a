/- Every script: the statement's walk. -/
import Derived.Test.YthpeeldpalmakaaQRef8
namespace Go.Proofs.Ythpeeldpalmakaa
open Go.RowKit Dsk
set_option linter.unusedVariables false

def Jr (W w : World) (b q : Nat) (j : Nat) : Prop := ∃ s N L F G, s.m ≤ (j : Int) ∧ L.length ≤ j ∧ Jh W w b q s N L F G ∧ Re s N L
theorem jr_start {W w1 w2 : World} {b : Nat} {F : Nat → Prop} {ob : Obj} (K1 : W.grownBy w1 none) (h2 : Dk w2 b newS F) (f2 : ∀ k, F k → w1.heap.size ≤ k) (H2 : w1.grownBy w2 none) (hob : ob = Obj.cells #[.slice none 0 0, .slice none 0 0] 30) : Jr W (w2.alloc ob) b w2.heap.size 0 := by
  have g := World.grownBy_alloc w2 ob none
  have z1 := K1.size
  have z2 := H2.size
  have c0 : (w2.alloc ob).cell? ⟨w2.heap.size, 0, none⟩ = some (.slice none 0 0) := by rw [hob]; exact new_at w2 rfl rfl
  have c1 : (w2.alloc ob).cell? ⟨w2.heap.size, 1, none⟩ = some (.slice none 0 0) := by rw [hob]; exact new_at w2 rfl rfl
  refine ⟨newS, [], [], F, fun k => k = w2.heap.size, by simp [newS], by simp, ⟨⟨h2.grown g, fun k hk => by have := f2 k hk; omega, grown_below (grown_more (grown_more K1 H2 (by simp)) g (by simp))⟩, ⟨.slice none 0 0, .slice none 0 0, ⟨c0, c1, fun i => ?_, Elm.nil _ _, Elm.nil _ _, by simp [Value.ownBlock], by simp [Value.ownBlock], by simp [Value.ownBlock]⟩, rfl, by simp [Value.ownBlock], by simp [Value.ownBlock], fun k hk => by rw [hk]; simp⟩, fun k hk => by omega, fun k hk c => ?_⟩, [], rel_new⟩
  · have hh : (w2.alloc ob).heap[w2.heap.size]? = some ob := by show (w2.heap.push ob)[w2.heap.size]? = some ob; simp
    unfold World.frozen?
    simp only
    rw [hh, hob]
    simp
  · have := h2.lt k hk; omega
theorem jx_box {W w : World} {b q : Nat} {s : St} {N : List (List UInt8)} {L : List Rw} {F G : Nat → Prop} {o : Dd} {ob : Obj} (h : Jh W w b q s N L F G) (hob : ob = Obj.cells #[.int .i64 o.kd, .string o.nm, o.v, .int .i64 o.keep, .int .i64 o.torn] 33) : Jx W (w.alloc ob) b q s N L w.heap.size o := by
  refine ⟨F, G, h.grown (World.grownBy_alloc w ob none), by rw [hob]; exact ⟨new_at w rfl rfl, new_at w rfl rfl, new_at w rfl rfl, new_at w rfl rfl, new_at w rfl rfl⟩, fun c => ?_, fun c => ?_⟩
  · have := h.1.1.lt _ c; omega
  · obtain ⟨_, _, _, _, _, _, e⟩ := h.2.1
    have := e _ c; omega
theorem Jx.cells {W w : World} {b q : Nat} {s : St} {N : List (List UInt8)} {L : List Rw} {P : Nat} {o : Dd} (h : Jx W w b q s N L P o) : Cells5 w P o := by
  obtain ⟨F, G, h1, c, _⟩ := h
  exact c
set_option maxRecDepth 100000 in
set_option maxHeartbeats 12800000 in
theorem scripts_ok (a0 : Option Addr) (cp0 : Nat) (os : List Dd) (w : World) (hS : Sc w (.slice a0 os.length cp0) os) :
    Calls Try.prog 3 #[.slice a0 os.length cp0] w fun e w' => e = .returned (.bool true) ∧ Below w.heap.size w w' := by
  have AW := awake_any
  have NO := new_ok
  obtain ⟨_, hlen, hat⟩ := hS.at_
  have HS : Hid (∀ (i : Nat) (o : Dd), os[i]? = some o → ∃ g q, (∀ W', (Instr.indexAt 22 (.slice a0 os.length cp0) (.int .i64 (i : Int))).run Try.prog W' = .ok (.pointer (some ⟨g, q, none⟩)) W') ∧ DoAt w g q o) := hat
  clear hat hS
  go_enter Try.func3, Try.ntmps3
  go_upto_block 0 with (first
    | (go_at_call 8; (with_reducible refine (AW _).mono ?_); rintro e w1 ⟨rfl, K1⟩)
    | (go_at_call 9; (with_reducible refine (NO w1).mono ?_); rintro e w2 ⟨b, F1, rfl, h2, f2, H2⟩))
  have J0 := jr_start (ob := Obj.cells #[.slice none 0 0, .slice none 0 0] 30) K1 h2 f2 H2 rfl
  obtain ⟨w3, hw3⟩ : ∃ w3, w3 = w2.alloc (Obj.cells #[.slice none 0 0, .slice none 0 0] 30) := ⟨_, rfl⟩
  obtain ⟨q, hq⟩ : ∃ q, q = w2.heap.size := ⟨_, rfl⟩
  rw [← hw3, ← hq] at J0 ⊢
  clear hw3 hq K1 h2 f2 H2 AW NO
  go_cut [5, 6, 7, 8, 9, 10, 11, 12] from 23 to 103 (fun _ _ _ _ _ _ _ _ wx => Jr w wx b q 200)
  case first =>
    go_wp2_with fail
    go_loopw [5] (fun i wr => ∃ j : Nat, j ≤ os.length ∧ j ≤ 200 ∧ i = .int .i64 j ∧ Jr w wr b q j) (fun i _ => (500 - intOf i).toNat)
    case atStart => exact ⟨0, by omega, by omega, rfl, J0⟩
    case round =>
      obtain ⟨j, hj1, hj2, rfl, hJr⟩ := hrel
      clear J0
      by_cases hgo : j < os.length ∧ j < 200
      · obtain ⟨hlt, h4⟩ := hgo
        obtain ⟨s, N, L, F, G, hm, hl, hJ, hR⟩ := hJr
        obtain ⟨o, hoj⟩ : ∃ o, os[j]? = some o := ⟨_, List.getElem?_eq_getElem hlt⟩
        obtain ⟨g, u, hix, hA⟩ := HS.out j o hoj
        obtain ⟨va, vc, hv⟩ := hA.rx.form
        obtain ⟨kd, nm, v, bb, kp, tn⟩ := o
        simp only at hv
        subst hv
        have hA' := hA.low hJ.1.2.2
        have x0 := hA'.c0
        have x1 := hA'.c1
        have x2 := hA'.c2
        have x3 := hA'.c3
        have x4 := hA'.c4
        simp only at x0 x1 x2 x3 x4
        have HX : Hid (Jx w (wr.alloc (Obj.cells #[.int .i64 kd, .string nm, .slice va bb.length vc, .int .i64 kp, .int .i64 tn] 33)) b q s N L wr.heap.size ⟨kd, nm, .slice va bb.length vc, bb, kp, tn⟩) := jx_box hJ rfl
        have HDA : Hid (DoAt w g u ⟨kd, nm, .slice va bb.length vc, bb, kp, tn⟩) := hA
        have HR : Hid (Re s N L) := hR
        clear hA' hA hJ hR hoj
        go_upto_block 2 with fail
        obtain ⟨wa, hwa⟩ : ∃ wa, wa = wr.alloc (Obj.cells #[.int .i64 kd, .string nm, .slice va bb.length vc, .int .i64 kp, .int .i64 tn] 33) := ⟨_, rfl⟩
        obtain ⟨P, hP⟩ : ∃ P, P = wr.heap.size := ⟨_, rfl⟩
        rw [← hwa, ← hP] at HX ⊢
        clear hwa hP x0 x1 x2 x3 x4
        obtain ⟨z0, z1, z2, z3, z4⟩ := HX.out.cells
        simp only at z0 z1 z2 z3 z4
        go_cut [7] from 29 to 64 (fun f wx => f = .int .i64 (stepE s ⟨kd, nm, .slice va bb.length vc, bb, kp, tn⟩) ∧ ∃ N' L', L'.length ≤ L.length + 1 ∧ Jx w wx b q s N' L' P ⟨kd, nm, .slice va bb.length vc, bb, kp, tn⟩ ∧ Re (stepS s ⟨kd, nm, .slice va bb.length vc, bb, kp, tn⟩) N' L')
        case first =>
          clear HS
          by_cases k0 : kd = 0
          · subst k0
            have CC := j_app HX.out HR.out (by omega) HDA.out
            have HE : Hid (stepE s ⟨0, nm, .slice va bb.length vc, bb, kp, tn⟩ = appE s.l nm.data.toList bb.length) := if_pos rfl
            have HSS : Hid (stepS s ⟨0, nm, .slice va bb.length vc, bb, kp, tn⟩ = appS s nm.data.toList bb) := if_pos rfl
            simp only at CC
            clear HX
            go_wp2_with (go_at_call 10; (with_reducible refine CC.mono ?_); rintro e w4 ⟨rfl, N', L', J4, l4, R4⟩)
            go_meet
            exact ⟨by rw [HE.out], N', L', l4, J4, by rw [HSS.out]; exact R4⟩
          · have q0 : (kd == 0) = false := by simpa using k0
            by_cases k1 : kd = 1
            · subst k1
              have CC := j_sync HX.out HR.out (by omega)
              have HE : Hid (stepE s ⟨1, nm, .slice va bb.length vc, bb, kp, tn⟩ = hasE s.l nm.data.toList) := (if_neg (show ¬ (1 : Int) = 0 by decide)).trans (if_pos rfl)
              have HSS : Hid (stepS s ⟨1, nm, .slice va bb.length vc, bb, kp, tn⟩ = syncS s nm.data.toList) := (if_neg (show ¬ (1 : Int) = 0 by decide)).trans (if_pos rfl)
              simp only at CC
              clear HX
              go_wp2_with (go_at_call 11; (with_reducible refine CC.mono ?_); rintro e w4 ⟨rfl, N', L', J4, l4, R4⟩)
              go_meet
              exact ⟨by rw [HE.out], N', L', l4, J4, by rw [HSS.out]; exact R4⟩
            · have q1 : (kd == 1) = false := by simpa using k1
              by_cases k2 : kd = 2
              · subst k2
                have CC := j_rem HX.out HR.out (by omega)
                have HE : Hid (stepE s ⟨2, nm, .slice va bb.length vc, bb, kp, tn⟩ = hasE s.l nm.data.toList) := (if_neg (show ¬ (2 : Int) = 0 by decide)).trans ((if_neg (show ¬ (2 : Int) = 1 by decide)).trans (if_pos rfl))
                have HSS : Hid (stepS s ⟨2, nm, .slice va bb.length vc, bb, kp, tn⟩ = remS s nm.data.toList) := (if_neg (show ¬ (2 : Int) = 0 by decide)).trans ((if_neg (show ¬ (2 : Int) = 1 by decide)).trans (if_pos rfl))
                simp only at CC
                clear HX
                go_wp2_with (go_at_call 12; (with_reducible refine CC.mono ?_); rintro e w4 ⟨rfl, N', L', J4, l4, R4⟩)
                go_meet
                exact ⟨by rw [HE.out], N', L', l4, J4, by rw [HSS.out]; exact R4⟩
              · have q2 : (kd == 2) = false := by simpa using k2
                have CC := j_crash HX.out HR.out (by omega)
                have HE : Hid (stepE s ⟨kd, nm, .slice va bb.length vc, bb, kp, tn⟩ = 0) := (if_neg k0).trans ((if_neg k1).trans (if_neg k2))
                have HSS : Hid (stepS s ⟨kd, nm, .slice va bb.length vc, bb, kp, tn⟩ = crashS s kp tn) := (if_neg k0).trans ((if_neg k1).trans (if_neg k2))
                simp only at CC
                clear HX
                go_wp2_with (go_at_call 13; (with_reducible refine CC.mono ?_); rintro e w4 ⟨rfl, N', L', J4, l4, R4⟩)
                go_meet
                exact ⟨by rw [HE.out], N', L', l4, J4, by rw [HSS.out]; exact R4⟩
        case rest =>
          obtain ⟨rfl, N', L', l4, J4, R4⟩ := hcut
          have hn : nm.size ≤ 140737488351232 := HDA.out.hn
          have DO := j_does J4 (by omega) HDA.out
          have HMs : Hid ((stepS s ⟨kd, nm, .slice va bb.length vc, bb, kp, tn⟩).m ≤ s.m + 1) := step_m s _
          obtain ⟨y0, y1, y2, y3, y4⟩ := J4.cells
          simp only at y0 y1 y2 y3 y4 DO
          generalize stepS s ⟨kd, nm, .slice va bb.length vc, bb, kp, tn⟩ = s' at DO HMs R4
          generalize stepE s ⟨kd, nm, .slice va bb.length vc, bb, kp, tn⟩ = e' at DO ⊢
          have RD : ∀ {w5}, Jx w w5 b q s' N' L' P ⟨kd, nm, .slice va bb.length vc, bb, kp, tn⟩ → Calls Try.prog 15 #[.pointer (some ⟨b, 0, none⟩), .string nm] w5 fun e w' => ∃ ad n c, e = .returned (.tuple #[.slice ad n c, .int .i64 (hasE s'.l nm.data.toList)]) ∧ eB.Own w' w5.heap.size (.slice ad n c) (rdB s'.l nm.data.toList) ∧ w5.grownBy w' none := fun {w5} J => by
            obtain ⟨F5, G5, hj, _⟩ := J
            exact j_read hj nm hn
          have RR : ∀ {w5}, Jx w w5 b q s' N' L' P ⟨kd, nm, .slice va bb.length vc, bb, kp, tn⟩ → Calls Try.prog 16 #[.pointer (some ⟨q, 0, none⟩), .string nm] w5 fun e w' => ∃ ad n c, e = .returned (.tuple #[.slice ad n c, .int .i64 (hasE s'.l nm.data.toList)]) ∧ eB.Own w' w5.heap.size (.slice ad n c) (rdB s'.l nm.data.toList) ∧ w5.grownBy w' none := fun {w5} J => by
            obtain ⟨F5, G5, hj, _⟩ := J
            exact j_rread hj R4 (by omega) nm
          have WT : ∀ {w5}, Jx w w5 b q s' N' L' P ⟨kd, nm, .slice va bb.length vc, bb, kp, tn⟩ → Calls Try.prog 17 #[.pointer (some ⟨b, 0, none⟩)] w5 fun e w' => e = .returned (.int .i64 (wait s'.l : Int)) ∧ w5.grownBy w' none := fun {w5} J => by
            obtain ⟨F5, G5, hj, _⟩ := J
            exact j_wait hj (by have := HMs.out; omega)
          have WR : ∀ {w5}, Jx w w5 b q s' N' L' P ⟨kd, nm, .slice va bb.length vc, bb, kp, tn⟩ → Calls Try.prog 18 #[.pointer (some ⟨q, 0, none⟩)] w5 fun e w' => e = .returned (.int .i64 (wait s'.l : Int)) ∧ w' = w5 := fun {w5} J => by
            obtain ⟨F5, G5, hj, _⟩ := J
            exact j_rwait hj R4 (by omega)
          generalize rdB s'.l nm.data.toList = rb at RD RR
          generalize hasE s'.l nm.data.toList = he at RD RR
          generalize (wait s'.l : Int) = wt at WT WR
          have FIN : Hid (∀ {w5}, Jx w w5 b q s' N' L' P ⟨kd, nm, .slice va bb.length vc, bb, kp, tn⟩ → Jr w w5 b q (j + 1)) := fun {w5} J => by
            obtain ⟨F5, G5, hj, _⟩ := J
            exact ⟨s', N', L', F5, G5, by have := HMs.out; omega, by omega, hj, R4⟩
          clear HX HR HDA J4 R4 HS z0 z1 z2 z3 z4
          go_wp2_with (first
            | (go_at_call 14; (with_reducible refine DO.mono ?_); rintro e w5 ⟨rfl, J5⟩; have v1 := J5.cells.2.1; clear y0 y1 y2 y3 y4)
            | (go_at_call 15; (with_reducible refine (RD J5).mono ?_); rintro e w6 ⟨a6, n6, c6, rfl, O6, G6⟩; have J6 := J5.grown G6; have v2 := J6.cells.2.1)
            | (go_at_call 16; (with_reducible refine (RR J6).mono ?_); rintro e w7 ⟨a7, n7, c7, rfl, O7, G7⟩; have J7 := J6.grown G7; have y6 := run_string (O6.grown G7).rx; have y7 := run_string O7.rx)
            | (go_at_call 17; (with_reducible refine (WT J7).mono ?_); rintro e w8 ⟨rfl, G8⟩; have J8 := J7.grown G8)
            | (go_at_call 18; (with_reducible refine (WR J8).mono ?_); rintro e w9 ⟨rfl, e9⟩; have e9' := e9.symm; clear e9; subst e9'))
          go_roundw
          case rel => exact ⟨j + 1, by omega, by omega, by go_num, FIN.out J8⟩
          case measure => simp [intOf]; omega
      · have gg : (¬ j < os.length) ∨ (j < os.length ∧ ¬ j < 200) := by omega
        clear hgo
        rcases gg with g0 | ⟨g0, g1⟩
        all_goals
          go_wp2_with fail
          go_meet
          obtain ⟨s, N, L, F, G, hm, hl, hJ, hR⟩ := hJr
          exact ⟨s, N, L, F, G, by omega, by omega, hJ, hR⟩
  case rest =>
    obtain ⟨wb, rfl⟩ : ∃ wb, wb = wc := ⟨_, rfl⟩
    obtain ⟨s, N, L, F, G, hm, hl, hJ, hR⟩ := hcut
    clear HS J0 hlen
    obtain ⟨A, rel⟩ := id hR
    have ok := hJ.1.1.ok
    have hkl : N.length ≤ 64 := by rw [len_rel rel]; exact ok.len
    have HKS : Hid (∀ x ∈ N, x.length ≤ 16) := by rw [rel.hN]; exact keys_short ok
    obtain ⟨vN, vL, hf, _⟩ := id hJ.2.1
    obtain ⟨aN, cN, rfl⟩ := Elm.form hf.oN
    have HF : Hid (RfD wb q (.slice aN N.length cN) vL N L) := hf
    have c0 := hf.c0
    have HJ : Hid (Jh w wb b q s N L F G) := hJ
    have HR : Hid (Re s N L) := hR
    have NM : ∀ {w5}, wb.grownBy w5 none → Calls Try.prog 20 #[.pointer (some ⟨b, 0, none⟩)] w5 fun e w' => ∃ ad n c, e = .returned (.slice ad n c) ∧ wb.grownBy w' none ∧ w'.cell? ⟨q, 0, none⟩ = some (.slice aN N.length cN) ∧ (Calls Try.prog 19 #[.slice ad n c, .slice aN N.length cN] w' fun e w'' => e = .returned (.bool true) ∧ wb.grownBy w'' none) := fun {w5} g5 => by
      refine (names_any b s F w5 (HJ.out.grown g5).1.1).mono ?_
      rintro e w' ⟨ad, n, c, rfl, O, g⟩
      rw [← rel.hN] at O
      have g' : wb.grownBy w' none := grown_more g5 g (by simp)
      refine ⟨ad, n, c, rfl, g', g'.cell c0 (by simp), (texts_same _ _ N (by omega) w' O.rx (HF.out.oN.grown g').rx).mono ?_⟩
      rintro e w'' ⟨rfl, g2⟩
      exact ⟨rfl, grown_more g' g2 (by simp)⟩
    clear rel ok hf hJ hR
    go_upto_region 23 with fail
    go_cut [111] from 104 to 111 (fun t wx => t = .bool false ∧ wb.grownBy wx none)
    case first =>
      have c0d : wb.drew.cell? ⟨q, 0, none⟩ = some (.slice aN N.length cN) := c0
      go_region_with (first
        | (go_at_call 20; (with_reducible refine (NM ?_).mono ?_); (first | exact grown_drewN (grown_refl _ none) _ | exact grown_drew (grown_refl _ none)); rintro e w6 ⟨a6, n6, c6, rfl, G6, k6, TX⟩)
        | (go_at_call 19; (with_reducible refine TX.mono ?_); rintro e w7 ⟨rfl, G7⟩))
      all_goals (try go_wp2_with fail)
      all_goals
        go_meet
        exact ⟨rfl, G7⟩
    case rest =>
      obtain ⟨rfl, hgx⟩ := hcut
      clear NM
      go_wp2_with fail
      go_loopw [13] (fun i wr => ∃ k : Nat, k ≤ N.length ∧ i = .int .i64 k ∧ wb.grownBy wr none) (fun i _ => N.length - (intOf i).toNat)
      case atStart => exact ⟨0, by omega, rfl, hgx⟩
      case round =>
        obtain ⟨k, hk, rfl, hg⟩ := hrel
        clear hgx
        have c0r := hg.cell c0 (by simp)
        by_cases hlt : k < N.length
        · obtain ⟨y, hy⟩ : ∃ y, N[k]? = some y := ⟨_, List.getElem?_eq_getElem hlt⟩
          obtain ⟨g, o, h1, h2, _⟩ := (HF.out.grown hg).oN.idx (by omega) hy
          have h1' : ∀ W, (Instr.indexAt 27 (.slice aN N.length cN) (.int .i64 (k : Int))).run Try.prog W = .ok (.pointer (some ⟨g, o, none⟩)) W := h1
          have z0 : wr.cell? ⟨g, o, none⟩ = some (.string ⟨y.toArray⟩) := h2 0 _ rfl
          have hyl : y.length ≤ 16 := HKS.out y (List.mem_of_getElem? hy)
          have RD := j_read (HJ.out.grown hg) ⟨y.toArray⟩ (by show y.toArray.size ≤ _; simp; omega)
          have RR : ∀ {w6}, wr.grownBy w6 none → Calls Try.prog 16 #[.pointer (some ⟨q, 0, none⟩), .string ⟨y.toArray⟩] w6 fun e w' => ∃ ad n c, e = .returned (.tuple #[.slice ad n c, .int .i64 (hasE s.l (⟨y.toArray⟩ : ByteArray).data.toList)]) ∧ eB.Own w' w6.heap.size (.slice ad n c) (rdB s.l (⟨y.toArray⟩ : ByteArray).data.toList) ∧ w6.grownBy w' none := fun {w6} g6 => j_rread ((HJ.out.grown hg).grown g6) HR.out (by omega) ⟨y.toArray⟩
          generalize rdB s.l (⟨y.toArray⟩ : ByteArray).data.toList = rb at RD RR
          generalize hasE s.l (⟨y.toArray⟩ : ByteArray).data.toList = he at RD RR
          clear h1 h2 hy hyl
          go_wp2_with (first
            | (go_at_call 15; (with_reducible refine RD.mono ?_); rintro e w6 ⟨a6, n6, c6, rfl, O6, G6⟩; have c06 := G6.cell c0r (by simp); have z06 := G6.cell z0 (by simp))
            | (go_at_call 16; (with_reducible refine (RR G6).mono ?_); rintro e w7 ⟨a7, n7, c7, rfl, O7, G7⟩; have y6 := run_string (O6.grown G7).rx; have y7 := run_string O7.rx))
          go_roundw
          case rel => exact ⟨k + 1, by omega, by go_num, grown_more (grown_more hg G6 (by simp)) G7 (by simp)⟩
          case measure => simp [intOf]; omega
        · have HB : Hid (Below w.heap.size w wr) := (HJ.out.grown hg).1.2.2
          go_wp2_with fail
          go_ret
          exact ⟨rfl, HB.out⟩
theorem diskScripts.walk (W : World) (v1 : Value) (o1 : ∃ os, Sc W v1 os) :
    Calls Try.prog 3 #[v1] W fun e W' => e = .returned (.bool true) ∧ Below W.heap.size W W' := by
  obtain ⟨os, hS⟩ := o1
  obtain ⟨a, c, rfl, h⟩ := id hS
  exact scripts_ok a c os W hS
end Go.Proofs.Ythpeeldpalmakaa
