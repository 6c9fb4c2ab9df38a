/- 'WalScripts', walked. -/
import Derived.Test.YtapdhkgeolcogaaGreatDoorHn
import Derived.Deep.CutBlock
import Derived.Deep.CutRange
import Derived.Deep.RegionHeld3
namespace Go.Proofs.YtapdhkgeolcogaaGreatDoor
open Go.RowKit Dsk Lg
set_option linter.unusedVariables false

namespace walScripts
set_option maxRecDepth 100000 in
set_option maxHeartbeats 25600000 in
theorem walk (w : World) (G : Gv w) (v0 : Value) (h0 : ∃ os, Sc w v0 os) :
    Calls Tryz.prog 3 #[v0] w fun e w' => e = .returned (.bool true) ∧ Below w.heap.size w w' := by
  obtain ⟨os, a0, c0, rfl, hol, hos⟩ := h0
  have AW := awake_any w G
  have NW : ∀ {w1}, Below w.heap.size w w1 → Calls Tryz.prog 9 #[] w1 fun e w' => ∃ b F, e = .returned (.pointer (some ⟨b, 0, none⟩)) ∧ Dk w' b newS F ∧ (∀ k, F k → w.heap.size ≤ k) ∧ Below w.heap.size w w' := fun {w1} g =>
    (new_ok w1).mono fun e w' ⟨b, F, h1, h2, h3, h4⟩ => ⟨b, F, h1, h2, fun k hk => Nat.le_trans g.size (h3 k hk), grown_low g h4⟩
  obtain ⟨s1, hs1, hL1, hm1⟩ := open_new
  have BS : ∀ {w2 b F}, Dk w2 b newS F → (∀ k, F k → w.heap.size ≤ k) → Below w.heap.size w w2 → _ := fun {w2 b F} hd lo bel => bs_start (W := w) (w2 := w2) hd lo bel G hs1
  have BR : ∀ {w3 b wb F q G'}, Bs w w3 b wb s1 F 1 1 0 q newS G' 0 → _ := fun {w3 b wb F q G'} h => bs_ropen h (by omega) hs1
  have HOS : Hid (∀ (i : Nat) (o : Dd), os[i]? = some o → ∃ g q, (∀ W', (Instr.indexAt 22 (.slice a0 os.length c0) (.int .i64 (i : Int))).run Tryz.prog W' = .ok (.pointer (some ⟨g, q, none⟩)) W') ∧ DoAt w g q o) := hos
  have HB0 : Hid (∀ c', c' ≤ 0 + ([] : List By).length + 1 → Bb s1 1 1 0 c' 0) := fun c' hc => ⟨by omega, by omega, by omega, hL1.lk.has, by rw [hm1]; simp, by simpa using hc, by omega⟩
  clear hos hL1 hm1 hs1
  go_enter Tryz.func3, Tryz.ntmps3
  go_wp2_with (first
    | (go_at_call 8; (with_reducible refine AW.mono ?_); rintro e w1 ⟨rfl, B1⟩)
    | (go_at_call 9; (with_reducible refine (NW B1).mono ?_); rintro e w2 ⟨b, F, rfl, hd2, lo2, B2⟩)
    | (go_at_call 10; (with_reducible refine (BS hd2 lo2 B2).mono ?_); rintro e w3 ⟨ad3, cp3, wb3, F3, rfl, hB3⟩)
    | (go_at_call 11; (with_reducible refine (BR hB3).mono ?_); rintro e w4 ⟨rb4, c4, G4, rfl, hc4, hB4⟩))
  obtain ⟨q, hq⟩ : ∃ q, q = w2.heap.size := ⟨_, rfl⟩
  rw [← hq] at hB4 ⊢
  have HB4 : Hid (Bo w w4 b wb3 s1 F3 1 1 0 q rb4 s1 G4 c4 1 1 0) := hB4
  have HBb : Hid (Bb s1 1 1 0 c4 0) := HB0.out c4 hc4
  clear AW NW BS BR hd2 lo2 B1 B2 hq hB3 hB4 HB0 hc4
  go_loopw [5, 7, 8, 9, 10, 11, 12, 13, 14, 15, 16, 17, 18, 19, 20] (fun x5 x7 x8 x9 i _ _ _ _ _ _ _ _ _ _ wr => ∃ (k wb rb : Nat) (s : St) (n last cnt c : Nat) (F G : Nat → Prop), k ≤ os.length ∧ k ≤ 100 ∧ i = .int .i64 (k : Int) ∧ x5 = .pointer (some ⟨wb, 0, none⟩) ∧ x7 = .int .i64 0 ∧ x8 = .pointer (some ⟨rb, 0, none⟩) ∧ x9 = .int .i64 0 ∧ Hid (Bo w wr b wb s F n last cnt q rb s G c n last cnt) ∧ Hid (Bb s n last cnt c k)) (fun _ _ _ _ i _ _ _ _ _ _ _ _ _ _ _ => 100 - (intOf i).toNat)
  case atStart => exact ⟨0, wb3, rb4, s1, 1, 1, 0, c4, F3, G4, Nat.zero_le _, by omega, rfl, rfl, rfl, rfl, rfl, HB4, HBb⟩
  case round =>
    clear HB4 HBb
    obtain ⟨k, wb, rb, s, n, last, cnt, c, F5, G5, hk1, hk2, rfl, rfl, rfl, rfl, rfl, HB, HBb⟩ := hrel
    by_cases hlt : k < os.length ∧ k < 100
    · obtain ⟨hl1, hl2⟩ := hlt
      have hl1i : (k : Int) < (os.length : Int) := by omega
      have hl2i : (k : Int) < 100 := by omega
      obtain ⟨o, ho⟩ : ∃ o, os[k]? = some o := ⟨_, List.getElem?_eq_getElem hl1⟩
      obtain ⟨g, u, hidx, hD⟩ := HOS.out k o ho
      have lift : ∀ {i : Nat} {u : Value}, w.cell? ⟨g, i, none⟩ = some u → wr.cell? ⟨g, i, none⟩ = some u := fun {i u} hu => (HB.out.wl.bel.cell (p := ⟨g, i, none⟩) (World.block_lt_of_cell? w _ hu)).trans hu
      have e0 := lift hD.c0
      have e1 := lift hD.c1
      have e2 := lift hD.c2
      have e3 := lift hD.c3
      have e4 := lift hD.c4
      have e5 := lift hD.c5
      obtain ⟨lo1, c1', hlo1⟩ := hD.rx.form
      obtain ⟨lo2, c2', hlo2⟩ := hD.rl.form
      obtain ⟨kd, v, b', vs, ls', kp, tn, nmm⟩ := o
      simp only at e0 e1 e2 e3 e4 e5 hlo1 hlo2
      subst hlo1 hlo2
      have HRX : Hid (eB.Rx w (.slice lo1 b'.length c1') b' ∧ b'.length ≤ rch) := ⟨hD.rx, hD.hb⟩
      have HRL : Hid (Rl w (.slice lo2 ls'.length c2') ls' (fun k => k < w.heap.size)) := hD.rl
      have HNM : Hid (nmm.size ≤ rch ∧ kp ≤ 9223372036854775807) := ⟨hD.hn, hD.hk⟩
      have hll := hD.hll
      simp only at hll
      have HBP : Hid (Bp w (wr.alloc (.cells #[.int .i64 kd, .slice lo1 b'.length c1', .slice lo2 ls'.length c2', .int .i64 kp, .int .i64 tn, .string nmm] 41)) b wb s n last cnt q rb s c n last cnt wr.heap.size #[.int .i64 kd, .slice lo1 b'.length c1', .slice lo2 ls'.length c2', .int .i64 kp, .int .i64 tn, .string nmm]) := HB.out.box _ _
      clear lift ho hD HB HOS
      by_cases hbig : 100 < ls'.length
      · have hbigi : (100 : Int) < (ls'.length : Int) := by omega
        have hbd : decide ((100 : Int) < (ls'.length : Int)) = true := decide_eq_true hbigi
        go_wp2_with fail
        go_ret
        exact ⟨rfl, HBP.out.bel⟩
      · have hbigi : ¬ (100 : Int) < (ls'.length : Int) := by omega
        have hbd : decide ((100 : Int) < (ls'.length : Int)) = false := decide_eq_false hbigi
        go_upto_block 2 with fail
        obtain ⟨wa, hwa⟩ : ∃ wa, wa = wr.alloc (.cells #[.int .i64 kd, .slice lo1 b'.length c1', .slice lo2 ls'.length c2', .int .i64 kp, .int .i64 tn, .string nmm] 41) := ⟨_, rfl⟩
        obtain ⟨P, hP⟩ : ∃ P, P = wr.heap.size := ⟨_, rfl⟩
        rw [← hwa, ← hP] at HBP ⊢
        clear hwa hP e0 e1 e2 e3 e4 e5 hidx
        obtain ⟨C, hC⟩ : ∃ C : Array Value, C = #[.int .i64 kd, .slice lo1 b'.length c1', .slice lo2 ls'.length c2', .int .i64 kp, .int .i64 tn, .string nmm] := ⟨_, rfl⟩
        rw [← hC] at HBP
        have HC : Hid (C = #[.int .i64 kd, .slice lo1 b'.length c1', .slice lo2 ls'.length c2', .int .i64 kp, .int .i64 tn, .string nmm]) := hC
        have CL : Hid (∀ {W wb' s' n' num' cnt' rb' t' c' m' last' rc'}, Bp w W b wb' s' n' num' cnt' q rb' t' c' m' last' rc' P C → W.cell? ⟨P, 0, none⟩ = some (.int .i64 kd) ∧ W.cell? ⟨P, 1, none⟩ = some (.slice lo1 b'.length c1') ∧ W.cell? ⟨P, 2, none⟩ = some (.slice lo2 ls'.length c2') ∧ W.cell? ⟨P, 3, none⟩ = some (.int .i64 kp) ∧ W.cell? ⟨P, 4, none⟩ = some (.int .i64 tn) ∧ W.cell? ⟨P, 5, none⟩ = some (.string nmm)) := fun h => ⟨h.cell (by rw [HC.out]; rfl), h.cell (by rw [HC.out]; rfl), h.cell (by rw [HC.out]; rfl), h.cell (by rw [HC.out]; rfl), h.cell (by rw [HC.out]; rfl), h.cell (by rw [HC.out]; rfl)⟩
        clear hC
        go_cut [5, 7, 8, 9, 12, 13, 14, 15, 16] from 75 to 172 (fun x5 x7 x8 x9 _ _ _ _ _ wx => ∃ E : Int, x7 = .int .i64 E ∧ x9 = .int .i64 E ∧ ((E = 3 ∧ Hid (Below w.heap.size w wx)) ∨ (E = 0 ∧ ∃ (wb rb : Nat) (s : St) (n last cnt c : Nat), x5 = .pointer (some ⟨wb, 0, none⟩) ∧ x8 = .pointer (some ⟨rb, 0, none⟩) ∧ Hid (Bp w wx b wb s n last cnt q rb s c n last cnt P C) ∧ Hid (Bb s n last cnt c (k + 1)))))
        case first =>
          obtain ⟨z0, z1, z2, z3, z4, z5⟩ := CL.out HBP.out
          have hn1 := HBb.out.n1
          have hnl := HBb.out.nl
          have hl9 := HBb.out.l9
          have hm := HBb.out.m
          have hc := HBb.out.c
          have hcn := HBb.out.cnt
          have HBD : Hid (Bp w wa.drew b wb s n last cnt q rb s c n last cnt P C) := HBP.out.grown (grown_drew (grown_refl _ none))
          by_cases k0 : kd = 0
          · subst k0
            as_aux_lemma =>
              have AP := bp_append HBD.out (by omega) (by omega) (by omega) _ b' HRX.out.1 HRX.out.2
              have AR : ∀ {W cnt' s'}, Bp w W b wb s' n last cnt' q rb s c n last cnt P C → _ := fun {W cnt' s'} h => bp_rappend h (by omega) (by omega) (by omega) (by omega) lo1 c1' b' HRX.out.1
              have BN : Hid (∀ c', c' ≤ c + 1 → Bb (putS s (nm n) b') n last (if putE s (nm n) b' = 0 then cnt + 1 else cnt) c' (k + 1)) := fun c' h => HBb.out.put hl2 b' h
              generalize (if putE s (nm n) b' = 0 then cnt + 1 else cnt) = cnt2 at *
              generalize putE s (nm n) b' = PE at *
              generalize putS s (nm n) b' = s2 at *
              have pe : (PE != PE) = false := by simp
              have y1 : wa.drew.cell? ⟨P, 1, none⟩ = some (.slice lo1 b'.length c1') := (CL.out HBD.out).2.1
              clear HBD HBP HBb HRL HNM
              go_upto_region 17 with fail
              go_region_held3 (fun W => W.cell? ⟨P, 1, none⟩ = some (.slice lo1 b'.length c1'))
                (first | (exact y1) | (exact y4) | (exact y5))
                (first | (go_at_call 12; (with_reducible refine AP.mono ?_); rintro e w4 ⟨rfl, B4⟩; have y4 := (CL.out B4).2.1) | (go_at_call 13; (with_reducible refine (AR B4).mono ?_); rintro e w5 ⟨rfl, c5, hc5, B5⟩; have y5 := (CL.out B5).2.1))
              all_goals
                go_wp2_with fail
                go_meet
                exact ⟨0, rfl, rfl, .inr ⟨rfl, wb, rb, s2, n, last, cnt2, c5, rfl, rfl, B5, BN.out c5 hc5⟩⟩
          · have q0 : (kd == 0) = false := by simpa using k0
            by_cases k1 : kd = 1
            · subst k1
              as_aux_lemma =>
                have SP := bp_sync HBP.out (by omega) HBb.out.has
                have SR : ∀ {W s'}, Bp w W b wb s' n last cnt q rb s c n last cnt P C → _ := fun {W s'} h => bp_rsync h (by omega) (by omega) (by omega) HBb.out.has
                have BN : Hid (Bb (syncS s (nm n)) n last cnt c (k + 1)) := HBb.out.sync hl2
                generalize syncS s (nm n) = s2 at *
                clear HBD HBP HBb HRL HNM HRX
                go_wp2_with (first
                  | (go_at_call 14; (with_reducible refine SP.mono ?_); rintro e w4 ⟨rfl, B4⟩)
                  | (go_at_call 15; (with_reducible refine (SR B4).mono ?_); rintro e w5 ⟨rfl, B5⟩))
                go_meet
                exact ⟨0, rfl, rfl, .inr ⟨rfl, wb, rb, s2, n, last, cnt, c, rfl, rfl, B5, BN⟩⟩
            · have q1 : (kd == 1) = false := by simpa using k1
              by_cases k2 : kd = 2
              · subst k2
                as_aux_lemma =>
                  cases hLg : long ls' with
                  | true =>
                    have SP := bp_reset_long HBP.out _ ls' HRL.out (by omega) hLg
                    have SR : ∀ {W s'}, Bp w W b wb s' n last cnt q rb s c n last cnt P C → _ := fun {W s'} h => bp_rlay_long h _ ls' HRL.out (by omega) hLg
                    have BN : Hid (Bb s n last cnt c (k + 1)) := HBb.out.same
                    clear HBD HBP HBb HNM HRX HRL
                    go_wp2_with (first
                      | (go_at_call 16; (with_reducible refine SP.mono ?_); rintro e w4 ⟨rfl, B4⟩; have y4 := (CL.out B4).2.2.1)
                      | (go_at_call 17; (with_reducible refine (SR B4).mono ?_); rintro e w5 ⟨rfl, B5⟩))
                    go_meet
                    exact ⟨0, rfl, rfl, .inr ⟨rfl, wb, rb, s, n, last, cnt, c, rfl, rfl, B5, BN⟩⟩
                  | false =>
                    by_cases hF : last = 999999999 ∨ (layS s (nm (last + 1)) ls').2 = false
                    · have SP := bp_reset_full HBP.out _ ls' HRL.out (by omega) hLg (by omega) hl9 hF
                      have SR : ∀ {W s'}, Bp w W b wb s' n last cnt q rb s c n last cnt P C → _ := fun {W s'} h => bp_rlay_full h _ ls' HRL.out (by omega) hLg (by omega) hl9 (by omega) hF
                      clear HBD HBP HBb HNM HRX HRL hF
                      go_wp2_with (first
                        | (go_at_call 16; (with_reducible refine SP.mono ?_); rintro e w4 ⟨rfl, s4, B4⟩; have y4 := (CL.out B4).2.2.1)
                        | (go_at_call 17; (with_reducible refine (SR B4).mono ?_); rintro e w5 ⟨rfl, B5⟩))
                      go_meet
                      exact ⟨3, rfl, rfl, .inl ⟨rfl, B5⟩⟩
                    · have hla : last < 999999999 := by have : ¬ last = 999999999 := fun e => hF (.inl e); omega
                      have hS : (layS s (nm (last + 1)) ls').2 = true := by
                        cases hh : (layS s (nm (last + 1)) ls').2 with
                        | true => rfl
                        | false => exact absurd (.inr hh) hF
                      have SP := bp_reset_ok HBP.out _ ls' HRL.out (by omega) hLg (by omega) (by omega) hla hS
                      have SR : ∀ {W s' n' num' cnt'}, Bp w W b wb s' n' num' cnt' q rb s c n last cnt P C → _ := fun {W s' n' num' cnt'} h => bp_rlay_ok h _ ls' HRL.out (by omega) hLg (by omega) hla (by omega) (by omega) hS
                      have BN : Hid (Bb (remS (layS s (nm (last + 1)) ls').1 (nm n)) (last + 1) (last + 1) ls'.length (c + ls'.length + 1) (k + 1)) := HBb.out.lay hl2 (by omega) hla hS
                      generalize remS (layS s (nm (last + 1)) ls').1 (nm n) = s2 at *
                      clear HBD HBP HBb HNM HRX HRL hF hS
                      go_wp2_with (first
                        | (go_at_call 16; (with_reducible refine SP.mono ?_); rintro e w4 ⟨rfl, B4⟩; have y4 := (CL.out B4).2.2.1)
                        | (go_at_call 17; (with_reducible refine (SR B4).mono ?_); rintro e w5 ⟨rfl, B5⟩))
                      go_meet
                      exact ⟨0, rfl, rfl, .inr ⟨rfl, wb, rb, s2, last + 1, last + 1, ls'.length, c + ls'.length + 1, rfl, rfl, B5, BN⟩⟩
              · have q2 : (kd == 2) = false := by simpa using k2
                by_cases k3 : kd = 3
                · subst k3
                  as_aux_lemma =>
                    have CP := bp_crash HBP.out (by omega) kp tn HNM.out.2
                    have CR : ∀ {W s'}, Bp w W b wb s' n last cnt q rb s c n last cnt P C → _ := fun {W s'} h => bp_rcrash h (by omega) kp tn
                    have hcm : (crashS s kp tn).m = s.m := rfl
                    have HBB : Hid (Bb s n last cnt c k) := HBb
                    have HOK : Hid (Ok (crashS s kp tn)) := ok_crash (bp_ok HBP.out) kp tn
                    generalize crashS s kp tn = s1' at *
                    cases hO : openR s1' with
                    | none =>
                      have OP : ∀ {W}, Bp w W b wb s1' n last cnt q rb s1' c n last cnt P C → _ := fun {W} h => bp_open_none h (by omega) hO
                      have OR : ∀ {W}, Bd w W q s1' c → _ := fun {W} h => bd_ropen h (by omega) hO
                      clear HBD HBP HBb HNM HRX HRL HBB hO hcm
                      go_wp2_with (first
                        | (go_at_call 18; (with_reducible refine CP.mono ?_); rintro e w4 ⟨rfl, B4⟩; obtain ⟨_, _, _, y3, y4, _⟩ := CL.out B4)
                        | (go_at_call 19; (with_reducible refine (CR B4).mono ?_); rintro e w5 ⟨rfl, B5⟩)
                        | (go_at_call 10; (with_reducible refine (OP B5).mono ?_); rintro e w6 ⟨rfl, B6⟩)
                        | (go_at_call 11; (with_reducible refine (OR B6).mono ?_); rintro e w7 ⟨rfl, B7⟩))
                      go_meet
                      exact ⟨3, rfl, rfl, .inl ⟨rfl, B7⟩⟩
                    | some r =>
                      obtain ⟨s2, file, last2, ls2⟩ := r
                      obtain ⟨n2, rfl, _, _, _, _⟩ := open_any HOK.out hO
                      obtain ⟨hl3, hl4⟩ := open_len HOK.out hO
                      have OP : ∀ {W}, Bp w W b wb s1' n last cnt q rb s1' c n last cnt P C → _ := fun {W} h => bp_open h (by omega) hO
                      have OR : ∀ {W wb' v'}, Bl w W b wb' s2 n2 last2 ls2.length q rb s1' c n last cnt P C v' ls2 → _ := fun {W wb' v'} h => bl_ropen h (by omega) hO
                      have LS : ∀ {W v1 v2}, Rl W v1 ls2 (fun _ => True) → Rl W v2 ls2 (fun _ => True) → Calls Tryz.prog 20 #[v1, v2] W fun e w' => e = .returned (.bool true) ∧ W.grownBy w' none := fun {W v1 v2} r1 r2 => (lists_any v1 v2 ls2 ls2 W r1 r2 (by omega) (by omega) (fun l hl => by have := hl4 l hl; omega) (fun l hl => by have := hl4 l hl; omega)).mono fun e w' ⟨g1, g2⟩ => ⟨by rw [g1]; simp, g2⟩
                      have BN : Hid (∀ c', c' ≤ c + ls2.length + 1 → Bb s2 n2 last2 ls2.length c' (k + 1)) := fun c' h => HBB.out.open hl2 hcm HOK.out hO h
                      clear HBD HBP HBb HNM HRX HRL HBB hO hcm HOK hl4
                      go_wp2_with (first
                        | (go_at_call 18; (with_reducible refine CP.mono ?_); rintro e w4 ⟨rfl, B4⟩; obtain ⟨_, _, _, y3, y4, _⟩ := CL.out B4)
                        | (go_at_call 19; (with_reducible refine (CR B4).mono ?_); rintro e w5 ⟨rfl, B5⟩)
                        | (go_at_call 10; (with_reducible refine (OP B5).mono ?_); rintro e w6 ⟨ad6, cp6, wb6, rfl, B6⟩)
                        | (go_at_call 11; (with_reducible refine (OR B6).mono ?_); rintro e w7 ⟨rb7, c7, rfl, hc7, B7, R7, u7, y7, R8⟩)
                        | (go_at_call 20; (with_reducible refine (LS R7 R8).mono ?_); rintro e w8 ⟨rfl, hg8⟩))
                      go_meet
                      exact ⟨0, rfl, rfl, .inr ⟨rfl, wb6, rb7, s2, n2, last2, ls2.length, c7, rfl, rfl, B7.grown hg8, BN.out c7 hc7⟩⟩
                · have q3 : (kd == 3) = false := by simpa using k3
                  as_aux_lemma =>
                    have AP := bp_write HBD.out (by omega) nmm HNM.out.1 _ b' HRX.out.1 HRX.out.2
                    have AR : ∀ {W s'}, Bp w W b wb s' n last cnt q rb s c n last cnt P C → _ := fun {W s'} h => bp_rwrite h (by omega) nmm HNM.out.1 (.slice lo1 b'.length c1') b' HRX.out.1 HRX.out.2
                    have BN : Hid (Bb (appS s nmm.data.toList b') n last cnt (c + 1) (k + 1)) := HBb.out.write hl2 _ b'
                    generalize appE s.l nmm.data.toList b'.length = PE at *
                    generalize appS s nmm.data.toList b' = s2 at *
                    have pe : (PE != PE) = false := by simp
                    have y1 : wa.drew.cell? ⟨P, 1, none⟩ = some (.slice lo1 b'.length c1') := (CL.out HBD.out).2.1
                    have y2 : wa.drew.cell? ⟨P, 5, none⟩ = some (.string nmm) := (CL.out HBD.out).2.2.2.2.2
                    clear HBD HBP HBb HRL HNM
                    go_upto_region 14 with fail
                    go_region_held3 (fun W => W.cell? ⟨P, 1, none⟩ = some (.slice lo1 b'.length c1') ∧ W.cell? ⟨P, 5, none⟩ = some (.string nmm))
                      (first | (exact ⟨y1, y2⟩) | (exact ⟨y4, y4'⟩) | (exact ⟨y5, y5'⟩))
                      (first | (go_at_call 21; (with_reducible refine AP.mono ?_); rintro e w4 ⟨rfl, B4⟩; have y4 := (CL.out B4).2.1; have y4' := (CL.out B4).2.2.2.2.2) | (go_at_call 22; (with_reducible refine (AR B4).mono ?_); rintro e w5 ⟨rfl, B5⟩; have y5 := (CL.out B5).2.1; have y5' := (CL.out B5).2.2.2.2.2))
                    all_goals
                      go_wp2_with fail
                      go_meet
                      exact ⟨0, rfl, rfl, .inr ⟨rfl, wb, rb, s2, n, last, cnt, c + 1, rfl, rfl, B5, BN⟩⟩
        case rest =>
          clear HBP HBb HRX HRL HNM HC
          obtain ⟨E, rfl, rfl, hE⟩ := hcut
          rcases hE with ⟨rfl, BL⟩ | ⟨rfl, wb5, rb5, s5, n5, last5, cnt5, c5, rfl, rfl, B, BB⟩
          · clear CL
            go_wp2_with fail
            go_ret
            exact ⟨rfl, BL.out⟩
          · have b1 := BB.out.n1
            have b3 := BB.out.nle
            have b5 := BB.out.has
            have b6 : c5 ≤ 999999999 := BB.out.cle (by omega)
            have HRD : Hid ((rdB s5.l (nm n5)).length ≤ 1048576) := rd_len (bp_ok B.out) _
            have GB : Hid (∀ W, wc.grownBy W none → Bp w W b wb5 s5 n5 last5 cnt5 q rb5 s5 c5 n5 last5 cnt5 P C) := fun W g => B.out.grown g
            have FI : ∀ W, wc.grownBy W none → _ := fun W g => bp_file (GB.out W g)
            have CO : ∀ W, wc.grownBy W none → _ := fun W g => bp_count (GB.out W g)
            have NM : ∀ W, wc.grownBy W none → _ := fun W g => bp_names (GB.out W g)
            have RD : ∀ W, wc.grownBy W none → _ := fun W g => bp_read (GB.out W g) b3 b5
            have RR : ∀ W, wc.grownBy W none → _ := fun W g => bp_rread (GB.out W g) b6 b5
            have NA := rname_any n5 b1 (Nat.le_trans b3 (by decide))
            have g0 : wc.grownBy wc none := grown_refl _ _
            obtain ⟨z1, ⟨aL, cL, z2⟩, aF, cF, z3⟩ := bp_cells B.out
            obtain ⟨z0, _⟩ := CL.out B.out
            have CELLS : Hid (∀ W, wc.grownBy W none → W.cell? ⟨rb5, 1, none⟩ = some (.int .i64 (n5 : Int)) ∧ W.cell? ⟨rb5, 3, none⟩ = some (.slice aL cnt5 cL) ∧ W.cell? ⟨q, 0, none⟩ = some (.slice aF s5.l.length cF) ∧ W.cell? ⟨P, 0, none⟩ = some (.int .i64 kd)) := fun W g => ⟨g.cell z1 (by simp), g.cell z2 (by simp), g.cell z3 (by simp), g.cell z0 (by simp)⟩
            clear b5 CL
            generalize hRB : rdB s5.l (nm n5) = RB at *
            clear hRB
            generalize hRL : RB.length = RL at *
            have HRLE : Hid (RB.length = RL) := hRL
            clear hRL
            generalize s5.l.length = SL at *
            go_upto_region 45 with (first
              | (go_at_call 24; (with_reducible refine (FI _ g0).mono ?_); rintro e w4 ⟨rfl, e4⟩; obtain rfl := e4.symm; clear e4)
              | (go_at_call 23; (with_reducible refine (RD _ g0).mono ?_); rintro e w5 ⟨ax, cx, rfl, hX, g1⟩; obtain ⟨y1, y2, y3, y0⟩ := CELLS.out w5 g1)
              | (go_at_call 26; (with_reducible refine (NA _).mono ?_); rintro e w6 ⟨rfl, g2⟩; have g12 := grown_tr g1 g2; have hX2 := hX.grown g2)
              | (go_at_call 25; (with_reducible refine (RR _ g12).mono ?_); rintro e w7 ⟨ay, cy, rfl, hY, g3⟩; have g13 := grown_tr g12 g3; have hX3 := hX2.grown g3))
            clear y0 y1 y2 y3 g12 g1 g2 g3 hX hX2 z0 z1 z2 z3 RD RR
            obtain ⟨XS, hXS⟩ : ∃ XS, XS = Cd.Code.ofB (bI RB) := ⟨_, rfl⟩
            have SW : Hid (∀ W, w7.grownBy W none → W.cell? ⟨rb5, 1, none⟩ = some (.int .i64 (n5 : Int)) ∧ W.cell? ⟨rb5, 3, none⟩ = some (.slice aL cnt5 cL) ∧ W.cell? ⟨q, 0, none⟩ = some (.slice aF SL cF) ∧ W.cell? ⟨P, 0, none⟩ = some (.int .i64 kd) ∧ (convert 39 9 (.slice ax RL cx)).run Tryz.prog W = .ok (.string XS) W ∧ (convert 39 9 (.slice ay RL cy)).run Tryz.prog W = .ok (.string XS) W) := fun W gW => by
              obtain ⟨d1, d2, d3, d4⟩ := CELLS.out W (grown_tr g13 gW)
              rw [hXS]
              exact ⟨d1, d2, d3, d4, str_run (p := (ax, RL, cx)) (hX3.grown gW) (by rw [HRLE.out]; have := HRD.out; omega), str_run (p := (ay, RL, cy)) (hY.grown gW) (by rw [HRLE.out]; have := HRD.out; omega)⟩
            clear hXS
            have gA : w7.grownBy w7.drew none := grown_drew (grown_refl _ none)
            have gA' := grown_tr g13 gA
            have kA := SW.out w7.drew gA
            clear CELLS hX3 hY HRLE HRD
            by_cases k4 : kd = 4
            · subst k4
              as_aux_lemma =>
                refine wp_region_held_drew (S := (fun W => W.cell? ⟨rb5, 1, none⟩ = some (.int .i64 (n5 : Int)) ∧ W.cell? ⟨rb5, 3, none⟩ = some (.slice aL cnt5 cL) ∧ W.cell? ⟨q, 0, none⟩ = some (.slice aF SL cF) ∧ W.cell? ⟨P, 0, none⟩ = some (.int .i64 4) ∧ (convert 39 9 (.slice ax RL cx)).run Tryz.prog W = .ok (.string XS) W ∧ (convert 39 9 (.slice ay RL cy)).run Tryz.prog W = .ok (.string XS) W)) (by kernel_rfl) kA (fun hHeld => ?_)
                refine wpAnyH_take (i := 0) (oi := { dst := some 192, op := Op.move (Operand.tmp 5), type := 31, pos := "law.go:95", after := #[], guard := none }) (v := ?v0) rfl (by kernel_rfl) (by kernel_rfl) (by kernel_rfl) (fun _ _ _ h => h) (Or.inl ⟨by rfl, ?y0⟩) (by assumption) ?r0
                case y0 => (intro w hSw; (try dsimp only at hSw); go_simp; try with_reducible rfl)
                try simp only [Act.put, List.setIfInBounds_toArray, List.set_cons_zero, List.set_cons_succ]
                refine wpAnyH_take (i := 2) (oi := { dst := some 194, op := Op.move (Operand.tmp 8), type := 36, pos := "law.go:95", after := #[], guard := none }) (v := ?v2) rfl (by kernel_rfl) (by kernel_rfl) (by kernel_rfl) (fun _ _ _ h => h) (Or.inl ⟨by rfl, ?y2⟩) (by assumption) ?r2
                case y2 => (intro w hSw; (try dsimp only at hSw); go_simp; try with_reducible rfl)
                try simp only [Act.put, List.setIfInBounds_toArray, List.set_cons_zero, List.set_cons_succ]
                refine wpAnyH_take (i := 3) (oi := { dst := some 195, op := Op.nilCheck (Operand.tmp 194), type := 0, pos := "law.go:95", after := #[{ on := 2, ground := Ground.data }], guard := none }) (v := ?v3) rfl (by kernel_rfl) (by kernel_rfl) (by kernel_rfl) (fun _ _ _ h => h) (Or.inl ⟨by rfl, ?y3⟩) (by assumption) ?r3
                case y3 => (intro w hSw; (try dsimp only at hSw); go_simp; try with_reducible rfl)
                try simp only [Act.put, List.setIfInBounds_toArray, List.set_cons_zero, List.set_cons_succ]
                refine wpAnyH_take (i := 4) (oi := { dst := some 196, op := Op.fieldAddr 48 (Operand.tmp 195) 1, type := 0, pos := "law.go:95", after := #[{ on := 3, ground := Ground.data }], guard := none }) (v := ?v4) rfl (by kernel_rfl) (by kernel_rfl) (by kernel_rfl) (fun _ _ _ h => h) (Or.inl ⟨by rfl, ?y4⟩) (by assumption) ?r4
                case y4 => (intro w hSw; (try dsimp only at hSw); go_simp; try with_reducible rfl)
                try simp only [Act.put, List.setIfInBounds_toArray, List.set_cons_zero, List.set_cons_succ]
                refine wpAnyH_take (i := 5) (oi := { dst := some 197, op := Op.load 3 (Operand.tmp 196), type := 3, pos := "law.go:95", after := #[{ on := 4, ground := Ground.data }], guard := none }) (v := ?v5) rfl (by kernel_rfl) (by kernel_rfl) (by kernel_rfl) (fun _ _ _ h => h) (Or.inl ⟨by rfl, ?y5⟩) (by assumption) ?r5
                case y5 => (intro w hSw; (try dsimp only at hSw); go_simp; try with_reducible rfl)
                try simp only [Act.put, List.setIfInBounds_toArray, List.set_cons_zero, List.set_cons_succ]
                refine wpAnyH_ready (rs := [1]) (by kernel_rfl) (by simp) ?_
                refine AllReadyH.cons (o := { dst := some 193, op := Op.call { callee := Callee.value (Operand.func 24), args := #[Operand.tmp 192], argTypes := #[31] }, type := 9, pos := "law.go:95", after := #[{ on := 0, ground := Ground.data }], guard := none }) rfl (fun K hK => ?_) AllReadyH.nil
                go_simp
                go_at_call 24; (with_reducible refine (FI _ gA').mono ?_); rintro e w8 ⟨rfl, e8⟩; obtain rfl := e8.symm; clear e8
                go_wp2_with fail
                refine hK.out _ _ kA (fun hHeld => ?_)
                clear hK K
                try simp only [Act.put, List.setIfInBounds_toArray, List.set_cons_zero, List.set_cons_succ]
                refine wpAnyH_ready (rs := [6]) (by kernel_rfl) (by simp) ?_
                refine AllReadyH.cons (o := { dst := some 198, op := Op.call { callee := Callee.value (Operand.func 26), args := #[Operand.tmp 197], argTypes := #[3] }, type := 9, pos := "law.go:95", after := #[{ on := 5, ground := Ground.data }, { on := 1, ground := Ground.chain }], guard := none }) rfl (fun K hK => ?_) AllReadyH.nil
                go_simp
                go_at_call 26; (with_reducible refine (NA _).mono ?_); rintro e w9 ⟨rfl, g9⟩; have gB := grown_tr gA g9; have kB := SW.out w9 gB; have gB' := grown_tr g13 gB
                go_wp2_with fail
                refine hK.out _ _ kB (fun hHeld => ?_)
                clear hK K
                try simp only [Act.put, List.setIfInBounds_toArray, List.set_cons_zero, List.set_cons_succ]
                refine wpAnyH_take (i := 7) (oi := { dst := some 199, op := Op.binOp BinOp.neq 9 (Operand.tmp 193) (Operand.tmp 198) 9, type := 4, pos := "law.go:95", after := #[{ on := 1, ground := Ground.data }, { on := 6, ground := Ground.data }], guard := none }) (v := ?v7) rfl (by kernel_rfl) (by kernel_rfl) (by kernel_rfl) (fun _ _ _ h => h) (Or.inl ⟨by rfl, ?y7⟩) (by assumption) ?r7
                case y7 => (intro w hSw; (try dsimp only at hSw); go_simp; try with_reducible rfl)
                try simp only [Act.put, List.setIfInBounds_toArray, List.set_cons_zero, List.set_cons_succ]
                refine wpAnyH_take (i := 8) (oi := { dst := some 200, op := Op.move (Operand.tmp 199), type := 4, pos := "law.go:95", after := #[{ on := 7, ground := Ground.data }, { on := 6, ground := Ground.chain }], guard := none }) (v := ?v8) rfl (by kernel_rfl) (by kernel_rfl) (by kernel_rfl) (fun _ _ _ h => h) (Or.inl ⟨by rfl, ?y8⟩) (by assumption) ?r8
                case y8 => (intro w hSw; (try dsimp only at hSw); go_simp; try with_reducible rfl)
                try simp only [Act.put, List.setIfInBounds_toArray, List.set_cons_zero, List.set_cons_succ]
                refine wpAnyH_take (i := 9) (oi := { dst := some 201, op := Op.fieldAddr 41 (Operand.tmp 11) 0, type := 0, pos := "law.go:95", after := #[{ on := 8, ground := Ground.guard }], guard := some (8, false) }) (v := ?v9) rfl (by kernel_rfl) (by kernel_rfl) (by kernel_rfl) (fun _ _ _ h => h) (Or.inl ⟨by rfl, ?y9⟩) (by assumption) ?r9
                case y9 => (intro w hSw; (try dsimp only at hSw); go_simp; try with_reducible rfl)
                try simp only [Act.put, List.setIfInBounds_toArray, List.set_cons_zero, List.set_cons_succ]
                refine wpAnyH_take (i := 10) (oi := { dst := some 202, op := Op.load 3 (Operand.tmp 201), type := 3, pos := "law.go:95", after := #[{ on := 9, ground := Ground.data }, { on := 8, ground := Ground.guard }], guard := some (8, false) }) (v := ?v10) rfl (by kernel_rfl) (by kernel_rfl) (by kernel_rfl) (fun _ _ _ h => h) (Or.inl ⟨by rfl, ?y10⟩) (by assumption) ?r10
                case y10 => (intro w hSw; (try dsimp only at hSw); go_simp; try with_reducible rfl)
                try simp only [Act.put, List.setIfInBounds_toArray, List.set_cons_zero, List.set_cons_succ]
                refine wpAnyH_take (i := 11) (oi := { dst := some 203, op := Op.binOp BinOp.neq 3 (Operand.tmp 202) (Operand.const (Value.int IntKind.i64 4)) 3, type := 4, pos := "law.go:95", after := #[{ on := 10, ground := Ground.data }, { on := 8, ground := Ground.guard }], guard := some (8, false) }) (v := ?v11) rfl (by kernel_rfl) (by kernel_rfl) (by kernel_rfl) (fun _ _ _ h => h) (Or.inl ⟨by rfl, ?y11⟩) (by assumption) ?r11
                case y11 => (intro w hSw; (try dsimp only at hSw); go_simp; try with_reducible rfl)
                try simp only [Act.put, List.setIfInBounds_toArray, List.set_cons_zero, List.set_cons_succ]
                refine wpAnyH_take (i := 12) (oi := { dst := some 204, op := Op.move (Operand.tmp 203), type := 4, pos := "law.go:95", after := #[{ on := 11, ground := Ground.data }, { on := 8, ground := Ground.chain }, { on := 8, ground := Ground.guard }], guard := some (8, false) }) (v := ?v12) rfl (by kernel_rfl) (by kernel_rfl) (by kernel_rfl) (fun _ _ _ h => h) (Or.inl ⟨by rfl, ?y12⟩) (by assumption) ?r12
                case y12 => (intro w hSw; (try dsimp only at hSw); go_simp; try with_reducible rfl)
                try simp only [Act.put, List.setIfInBounds_toArray, List.set_cons_zero, List.set_cons_succ]
                refine wpAnyH_take (i := 13) (oi := { dst := some 205, op := Op.move (Operand.tmp 5), type := 31, pos := "law.go:95", after := #[{ on := 12, ground := Ground.guard }], guard := some (12, true) }) (v := undef) rfl (by kernel_rfl) (by kernel_rfl) (by kernel_rfl) (fun _ _ _ h => h) (Or.inr ⟨by rfl, rfl⟩) (by assumption) ?_
                try simp only [Act.put, List.setIfInBounds_toArray, List.set_cons_zero, List.set_cons_succ]
                refine wpAnyH_take (i := 14) (oi := { dst := some 206, op := Op.call { callee := Callee.value (Operand.func 27), args := #[Operand.tmp 205], argTypes := #[31] }, type := 3, pos := "law.go:95", after := #[{ on := 13, ground := Ground.data }, { on := 12, ground := Ground.chain }, { on := 12, ground := Ground.guard }], guard := some (12, true) }) (v := undef) rfl (by kernel_rfl) (by kernel_rfl) (by kernel_rfl) (fun _ _ _ h => h) (Or.inr ⟨by rfl, rfl⟩) (by assumption) ?_
                try simp only [Act.put, List.setIfInBounds_toArray, List.set_cons_zero, List.set_cons_succ]
                refine wpAnyH_take (i := 15) (oi := { dst := some 207, op := Op.move (Operand.tmp 8), type := 36, pos := "law.go:95", after := #[{ on := 12, ground := Ground.guard }], guard := some (12, true) }) (v := undef) rfl (by kernel_rfl) (by kernel_rfl) (by kernel_rfl) (fun _ _ _ h => h) (Or.inr ⟨by rfl, rfl⟩) (by assumption) ?_
                try simp only [Act.put, List.setIfInBounds_toArray, List.set_cons_zero, List.set_cons_succ]
                refine wpAnyH_take (i := 16) (oi := { dst := some 208, op := Op.nilCheck (Operand.tmp 207), type := 0, pos := "law.go:95", after := #[{ on := 15, ground := Ground.data }, { on := 12, ground := Ground.guard }], guard := some (12, true) }) (v := undef) rfl (by kernel_rfl) (by kernel_rfl) (by kernel_rfl) (fun _ _ _ h => h) (Or.inr ⟨by rfl, rfl⟩) (by assumption) ?_
                try simp only [Act.put, List.setIfInBounds_toArray, List.set_cons_zero, List.set_cons_succ]
                refine wpAnyH_take (i := 17) (oi := { dst := some 209, op := Op.fieldAddr 48 (Operand.tmp 208) 3, type := 0, pos := "law.go:95", after := #[{ on := 16, ground := Ground.data }, { on := 12, ground := Ground.guard }], guard := some (12, true) }) (v := undef) rfl (by kernel_rfl) (by kernel_rfl) (by kernel_rfl) (fun _ _ _ h => h) (Or.inr ⟨by rfl, rfl⟩) (by assumption) ?_
                try simp only [Act.put, List.setIfInBounds_toArray, List.set_cons_zero, List.set_cons_succ]
                refine wpAnyH_take (i := 18) (oi := { dst := some 210, op := Op.load 32 (Operand.tmp 209), type := 32, pos := "law.go:95", after := #[{ on := 17, ground := Ground.data }, { on := 12, ground := Ground.guard }], guard := some (12, true) }) (v := undef) rfl (by kernel_rfl) (by kernel_rfl) (by kernel_rfl) (fun _ _ _ h => h) (Or.inr ⟨by rfl, rfl⟩) (by assumption) ?_
                try simp only [Act.put, List.setIfInBounds_toArray, List.set_cons_zero, List.set_cons_succ]
                refine wpAnyH_take (i := 19) (oi := { dst := some 211, op := Op.call { callee := Callee.builtin Builtin.len, args := #[Operand.tmp 210], argTypes := #[32] }, type := 3, pos := "law.go:95", after := #[{ on := 18, ground := Ground.data }, { on := 12, ground := Ground.guard }], guard := some (12, true) }) (v := undef) rfl (by kernel_rfl) (by kernel_rfl) (by kernel_rfl) (fun _ _ _ h => h) (Or.inr ⟨by rfl, rfl⟩) (by assumption) ?_
                try simp only [Act.put, List.setIfInBounds_toArray, List.set_cons_zero, List.set_cons_succ]
                refine wpAnyH_take (i := 20) (oi := { dst := some 212, op := Op.binOp BinOp.neq 3 (Operand.tmp 206) (Operand.tmp 211) 3, type := 4, pos := "law.go:95", after := #[{ on := 14, ground := Ground.data }, { on := 19, ground := Ground.data }, { on := 12, ground := Ground.guard }], guard := some (12, true) }) (v := undef) rfl (by kernel_rfl) (by kernel_rfl) (by kernel_rfl) (fun _ _ _ h => h) (Or.inr ⟨by rfl, rfl⟩) (by assumption) ?_
                try simp only [Act.put, List.setIfInBounds_toArray, List.set_cons_zero, List.set_cons_succ]
                refine wpAnyH_take (i := 21) (oi := { dst := some 213, op := Op.pick (Operand.tmp 204) (Operand.tmp 212) (Operand.const (Value.bool false)), type := 4, pos := "law.go:95", after := #[{ on := 12, ground := Ground.data }, { on := 20, ground := Ground.data }, { on := 8, ground := Ground.guard }], guard := some (8, false) }) (v := ?v21) rfl (by kernel_rfl) (by kernel_rfl) (by kernel_rfl) (fun _ _ _ h => h) (Or.inl ⟨by rfl, ?y21⟩) (by assumption) ?r21
                case y21 => (intro w hSw; (try dsimp only at hSw); go_simp; try with_reducible rfl)
                try simp only [Act.put, List.setIfInBounds_toArray, List.set_cons_zero, List.set_cons_succ]
                refine wpAnyH_take (i := 22) (oi := { dst := some 214, op := Op.pick (Operand.tmp 200) (Operand.const (Value.bool true)) (Operand.tmp 213), type := 4, pos := "law.go:95", after := #[{ on := 8, ground := Ground.data }, { on := 21, ground := Ground.data }], guard := none }) (v := ?v22) rfl (by kernel_rfl) (by kernel_rfl) (by kernel_rfl) (fun _ _ _ h => h) (Or.inl ⟨by rfl, ?y22⟩) (by assumption) ?r22
                case y22 => (intro w hSw; (try dsimp only at hSw); go_simp; try with_reducible rfl)
                try simp only [Act.put, List.setIfInBounds_toArray, List.set_cons_zero, List.set_cons_succ]
                refine wpAnyH_take (i := 23) (oi := { dst := some 215, op := Op.move (Operand.tmp 214), type := 4, pos := "law.go:95", after := #[{ on := 22, ground := Ground.data }, { on := 14, ground := Ground.chain }], guard := none }) (v := ?v23) rfl (by kernel_rfl) (by kernel_rfl) (by kernel_rfl) (fun _ _ _ h => h) (Or.inl ⟨by rfl, ?y23⟩) (by assumption) ?r23
                case y23 => (intro w hSw; (try dsimp only at hSw); go_simp; try with_reducible rfl)
                try simp only [Act.put, List.setIfInBounds_toArray, List.set_cons_zero, List.set_cons_succ]
                refine wpAnyH_take (i := 24) (oi := { dst := some 216, op := Op.move (Operand.tmp 17), type := 39, pos := "law.go:95", after := #[{ on := 23, ground := Ground.guard }], guard := some (23, false) }) (v := ?v24) rfl (by kernel_rfl) (by kernel_rfl) (by kernel_rfl) (fun _ _ _ h => h) (Or.inl ⟨by rfl, ?y24⟩) (by assumption) ?r24
                case y24 => (intro w hSw; (try dsimp only at hSw); go_simp; try with_reducible rfl)
                try simp only [Act.put, List.setIfInBounds_toArray, List.set_cons_zero, List.set_cons_succ]
                refine wpAnyH_take (i := 25) (oi := { dst := some 217, op := Op.convert 39 9 (Operand.tmp 216), type := 9, pos := "law.go:95", after := #[{ on := 24, ground := Ground.data }, { on := 23, ground := Ground.guard }], guard := some (23, false) }) (v := ?v25) rfl (by kernel_rfl) (by kernel_rfl) (by kernel_rfl) (fun _ _ _ h => h) (Or.inl ⟨by rfl, ?y25⟩) (by assumption) ?r25
                case y25 => (intro w hSw; (try dsimp only at hSw); go_simp; try with_reducible rfl)
                try simp only [Act.put, List.setIfInBounds_toArray, List.set_cons_zero, List.set_cons_succ]
                refine wpAnyH_take (i := 26) (oi := { dst := some 218, op := Op.move (Operand.tmp 19), type := 39, pos := "law.go:95", after := #[{ on := 23, ground := Ground.guard }], guard := some (23, false) }) (v := ?v26) rfl (by kernel_rfl) (by kernel_rfl) (by kernel_rfl) (fun _ _ _ h => h) (Or.inl ⟨by rfl, ?y26⟩) (by assumption) ?r26
                case y26 => (intro w hSw; (try dsimp only at hSw); go_simp; try with_reducible rfl)
                try simp only [Act.put, List.setIfInBounds_toArray, List.set_cons_zero, List.set_cons_succ]
                refine wpAnyH_take (i := 27) (oi := { dst := some 219, op := Op.convert 39 9 (Operand.tmp 218), type := 9, pos := "law.go:95", after := #[{ on := 26, ground := Ground.data }, { on := 23, ground := Ground.guard }], guard := some (23, false) }) (v := ?v27) rfl (by kernel_rfl) (by kernel_rfl) (by kernel_rfl) (fun _ _ _ h => h) (Or.inl ⟨by rfl, ?y27⟩) (by assumption) ?r27
                case y27 => (intro w hSw; (try dsimp only at hSw); go_simp; try with_reducible rfl)
                try simp only [Act.put, List.setIfInBounds_toArray, List.set_cons_zero, List.set_cons_succ]
                refine wpAnyH_take (i := 28) (oi := { dst := some 220, op := Op.binOp BinOp.neq 9 (Operand.tmp 217) (Operand.tmp 219) 9, type := 4, pos := "law.go:95", after := #[{ on := 25, ground := Ground.data }, { on := 27, ground := Ground.data }, { on := 23, ground := Ground.guard }], guard := some (23, false) }) (v := ?v28) rfl (by kernel_rfl) (by kernel_rfl) (by kernel_rfl) (fun _ _ _ h => h) (Or.inl ⟨by rfl, ?y28⟩) (by assumption) ?r28
                case y28 => (intro w hSw; (try dsimp only at hSw); go_simp; try with_reducible rfl)
                try simp only [Act.put, List.setIfInBounds_toArray, List.set_cons_zero, List.set_cons_succ]
                refine wpAnyH_take (i := 29) (oi := { dst := some 221, op := Op.pick (Operand.tmp 215) (Operand.const (Value.bool true)) (Operand.tmp 220), type := 4, pos := "law.go:95", after := #[{ on := 23, ground := Ground.data }, { on := 28, ground := Ground.data }], guard := none }) (v := ?v29) rfl (by kernel_rfl) (by kernel_rfl) (by kernel_rfl) (fun _ _ _ h => h) (Or.inl ⟨by rfl, ?y29⟩) (by assumption) ?r29
                case y29 => (intro w hSw; (try dsimp only at hSw); go_simp; try with_reducible rfl)
                try simp only [Act.put, List.setIfInBounds_toArray, List.set_cons_zero, List.set_cons_succ]
                refine wpAnyH_take (i := 30) (oi := { dst := some 222, op := Op.move (Operand.tmp 221), type := 4, pos := "law.go:95", after := #[{ on := 29, ground := Ground.data }, { on := 23, ground := Ground.chain }], guard := none }) (v := ?v30) rfl (by kernel_rfl) (by kernel_rfl) (by kernel_rfl) (fun _ _ _ h => h) (Or.inl ⟨by rfl, ?y30⟩) (by assumption) ?r30
                case y30 => (intro w hSw; (try dsimp only at hSw); go_simp; try with_reducible rfl)
                try simp only [Act.put, List.setIfInBounds_toArray, List.set_cons_zero, List.set_cons_succ]
                refine wpAnyH_take (i := 31) (oi := { dst := some 223, op := Op.move (Operand.tmp 3), type := 24, pos := "law.go:95", after := #[{ on := 30, ground := Ground.guard }], guard := some (30, false) }) (v := ?v31) rfl (by kernel_rfl) (by kernel_rfl) (by kernel_rfl) (fun _ _ _ h => h) (Or.inl ⟨by rfl, ?y31⟩) (by assumption) ?r31
                case y31 => (intro w hSw; (try dsimp only at hSw); go_simp; try with_reducible rfl)
                try simp only [Act.put, List.setIfInBounds_toArray, List.set_cons_zero, List.set_cons_succ]
                refine wpAnyH_take (i := 34) (oi := { dst := some 226, op := Op.move (Operand.tmp 4), type := 26, pos := "law.go:95", after := #[{ on := 30, ground := Ground.guard }], guard := some (30, false) }) (v := ?v34) rfl (by kernel_rfl) (by kernel_rfl) (by kernel_rfl) (fun _ _ _ h => h) (Or.inl ⟨by rfl, ?y34⟩) (by assumption) ?r34
                case y34 => (intro w hSw; (try dsimp only at hSw); go_simp; try with_reducible rfl)
                try simp only [Act.put, List.setIfInBounds_toArray, List.set_cons_zero, List.set_cons_succ]
                refine wpAnyH_take (i := 35) (oi := { dst := some 227, op := Op.nilCheck (Operand.tmp 226), type := 0, pos := "law.go:95", after := #[{ on := 34, ground := Ground.data }, { on := 30, ground := Ground.guard }], guard := some (30, false) }) (v := ?v35) rfl (by kernel_rfl) (by kernel_rfl) (by kernel_rfl) (fun _ _ _ h => h) (Or.inl ⟨by rfl, ?y35⟩) (by assumption) ?r35
                case y35 => (intro w hSw; (try dsimp only at hSw); go_simp; try with_reducible rfl)
                try simp only [Act.put, List.setIfInBounds_toArray, List.set_cons_zero, List.set_cons_succ]
                refine wpAnyH_take (i := 36) (oi := { dst := some 228, op := Op.fieldAddr 30 (Operand.tmp 227) 0, type := 0, pos := "law.go:95", after := #[{ on := 35, ground := Ground.data }, { on := 30, ground := Ground.guard }], guard := some (30, false) }) (v := ?v36) rfl (by kernel_rfl) (by kernel_rfl) (by kernel_rfl) (fun _ _ _ h => h) (Or.inl ⟨by rfl, ?y36⟩) (by assumption) ?r36
                case y36 => (intro w hSw; (try dsimp only at hSw); go_simp; try with_reducible rfl)
                try simp only [Act.put, List.setIfInBounds_toArray, List.set_cons_zero, List.set_cons_succ]
                refine wpAnyH_take (i := 37) (oi := { dst := some 229, op := Op.load 27 (Operand.tmp 228), type := 27, pos := "law.go:95", after := #[{ on := 36, ground := Ground.data }, { on := 30, ground := Ground.guard }], guard := some (30, false) }) (v := ?v37) rfl (by kernel_rfl) (by kernel_rfl) (by kernel_rfl) (fun _ _ _ h => h) (Or.inl ⟨by rfl, ?y37⟩) (by assumption) ?r37
                case y37 => (intro w hSw; (try dsimp only at hSw); go_simp; try with_reducible rfl)
                try simp only [Act.put, List.setIfInBounds_toArray, List.set_cons_zero, List.set_cons_succ]
                refine wpAnyH_take (i := 38) (oi := { dst := some 230, op := Op.call { callee := Callee.builtin Builtin.len, args := #[Operand.tmp 229], argTypes := #[27] }, type := 3, pos := "law.go:95", after := #[{ on := 37, ground := Ground.data }, { on := 30, ground := Ground.guard }], guard := some (30, false) }) (v := ?v38) rfl (by kernel_rfl) (by kernel_rfl) (by kernel_rfl) (fun _ _ _ h => h) (Or.inl ⟨by rfl, ?y38⟩) (by assumption) ?r38
                case y38 => (intro w hSw; (try dsimp only at hSw); go_simp; try with_reducible rfl)
                try simp only [Act.put, List.setIfInBounds_toArray, List.set_cons_zero, List.set_cons_succ]
                refine wpAnyH_ready (rs := [32]) (by kernel_rfl) (by simp) ?_
                refine AllReadyH.cons (o := { dst := some 224, op := Op.call { callee := Callee.value (Operand.func 28), args := #[Operand.tmp 223], argTypes := #[24] }, type := 27, pos := "law.go:95", after := #[{ on := 31, ground := Ground.data }, { on := 30, ground := Ground.chain }, { on := 30, ground := Ground.guard }], guard := some (30, false) }) rfl (fun K hK => ?_) AllReadyH.nil
                go_simp
                go_at_call 28; (with_reducible refine (NM _ gB').mono ?_); rintro e w11 ⟨a11, c11, rfl, g11⟩; have gC := grown_tr gB g11; have kC := SW.out w11 gC; have gC' := grown_tr g13 gC
                go_wp2_with fail
                refine hK.out _ _ kC (fun hHeld => ?_)
                clear hK K
                try simp only [Act.put, List.setIfInBounds_toArray, List.set_cons_zero, List.set_cons_succ]
                refine wpAnyH_take (i := 33) (oi := { dst := some 225, op := Op.call { callee := Callee.builtin Builtin.len, args := #[Operand.tmp 224], argTypes := #[27] }, type := 3, pos := "law.go:95", after := #[{ on := 32, ground := Ground.data }, { on := 30, ground := Ground.guard }], guard := some (30, false) }) (v := ?v33) rfl (by kernel_rfl) (by kernel_rfl) (by kernel_rfl) (fun _ _ _ h => h) (Or.inl ⟨by rfl, ?y33⟩) (by assumption) ?r33
                case y33 => (intro w hSw; (try dsimp only at hSw); go_simp; try with_reducible rfl)
                try simp only [Act.put, List.setIfInBounds_toArray, List.set_cons_zero, List.set_cons_succ]
                refine wpAnyH_take (i := 39) (oi := { dst := some 231, op := Op.binOp BinOp.neq 3 (Operand.tmp 225) (Operand.tmp 230) 3, type := 4, pos := "law.go:95", after := #[{ on := 33, ground := Ground.data }, { on := 38, ground := Ground.data }, { on := 30, ground := Ground.guard }], guard := some (30, false) }) (v := ?v39) rfl (by kernel_rfl) (by kernel_rfl) (by kernel_rfl) (fun _ _ _ h => h) (Or.inl ⟨by rfl, ?y39⟩) (by assumption) ?r39
                case y39 => (intro w hSw; (try dsimp only at hSw); go_simp; try with_reducible rfl)
                try simp only [Act.put, List.setIfInBounds_toArray, List.set_cons_zero, List.set_cons_succ]
                refine wpAnyH_take (i := 40) (oi := { dst := some 232, op := Op.pick (Operand.tmp 222) (Operand.const (Value.bool true)) (Operand.tmp 231), type := 4, pos := "law.go:95", after := #[{ on := 30, ground := Ground.data }, { on := 39, ground := Ground.data }], guard := none }) (v := ?v40) rfl (by kernel_rfl) (by kernel_rfl) (by kernel_rfl) (fun _ _ _ h => h) (Or.inl ⟨by rfl, ?y40⟩) (by assumption) ?r40
                case y40 => (intro w hSw; (try dsimp only at hSw); go_simp; try with_reducible rfl)
                try simp only [Act.put, List.setIfInBounds_toArray, List.set_cons_zero, List.set_cons_succ]
                refine wpAnyH_done (by kernel_rfl) ?_ _
                go_wp2_with fail
                go_roundw
                case rel => obtain ⟨F9, G9, B9⟩ := bp_out (GB.out w11 gC'); exact ⟨k + 1, wb5, rb5, s5, n5, last5, cnt5, c5, F9, G9, by omega, by omega, by go_num, rfl, rfl, rfl, rfl, B9, BB⟩
                case measure => simp [intOf]; omega
            · have q4 : (kd != 4) = true := by simpa using k4
              as_aux_lemma =>
                have q4' : (kd == 4) = false := by simpa using k4
                go_region_held3 (fun W => W.cell? ⟨rb5, 1, none⟩ = some (.int .i64 (n5 : Int)) ∧ W.cell? ⟨rb5, 3, none⟩ = some (.slice aL cnt5 cL) ∧ W.cell? ⟨q, 0, none⟩ = some (.slice aF SL cF) ∧ W.cell? ⟨P, 0, none⟩ = some (.int .i64 kd) ∧ (convert 39 9 (.slice ax RL cx)).run Tryz.prog W = .ok (.string XS) W ∧ (convert 39 9 (.slice ay RL cy)).run Tryz.prog W = .ok (.string XS) W)
                  (first | (exact kA) | (exact kB) | (exact kC))
                  (first
                    | (go_at_call 24; (with_reducible refine (FI _ gA').mono ?_); rintro e w8 ⟨rfl, e8⟩; obtain rfl := e8.symm; clear e8)
                    | (go_at_call 26; (with_reducible refine (NA _).mono ?_); rintro e w9 ⟨rfl, g9⟩; have gB := grown_tr gA g9; have kB := SW.out w9 gB; have gB' := grown_tr g13 gB)
                    | (go_at_call 27; (with_reducible refine (CO _ gB').mono ?_); rintro e w10 ⟨rfl, e10⟩; obtain rfl := e10.symm; clear e10)
                    | (go_at_call 28; (with_reducible refine (NM _ gB').mono ?_); rintro e w11 ⟨a11, c11, rfl, g11⟩; have gC := grown_tr gB g11; have kC := SW.out w11 gC; have gC' := grown_tr g13 gC))
                go_wp2_with fail
                go_roundw
                case rel => obtain ⟨F9, G9, B9⟩ := bp_out (GB.out w11 gC'); exact ⟨k + 1, wb5, rb5, s5, n5, last5, cnt5, c5, F9, G9, by omega, by omega, by go_num, rfl, rfl, rfl, rfl, B9, BB⟩
                case measure => simp [intOf]; omega
    · have BL := HB.out.wl.bel
      clear HB HBb HOS
      by_cases hx : k < os.length
      · have hx2 : ¬ k < 100 := fun c => hlt ⟨hx, c⟩
        have hxd : decide ((k : Int) < 100) = false := decide_eq_false (by omega)
        have hxi : (k : Int) < (os.length : Int) := by omega
        go_wp2_with fail
        go_ret
        exact ⟨rfl, BL⟩
      · have hxd : decide ((k : Int) < (os.length : Int)) = false := decide_eq_false (by omega)
        go_wp2_with fail
        go_ret
        exact ⟨rfl, BL⟩
end walScripts
end Go.Proofs.YtapdhkgeolcogaaGreatDoor
