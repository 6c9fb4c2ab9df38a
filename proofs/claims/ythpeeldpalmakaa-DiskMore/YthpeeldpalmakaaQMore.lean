/- A crash that keeps more leaves what one that keeps less leaves: the statement's walk. -/
import Derived.Test.YthpeeldpalmakaaQDuo
namespace Go.Proofs.Ythpeeldpalmakaa
open Go.RowKit Dsk
set_option linter.unusedVariables false

set_option maxRecDepth 100000 in
set_option maxHeartbeats 12800000 in
theorem more_ok (a0 : Option Addr) (cp0 : Nat) (os : List Dd) (keep torn : Int) (hk : keep ≤ 9223372036854775807) (w : World) (hS : Sc w (.slice a0 os.length cp0) os) :
    Calls Try.prog 6 #[.slice a0 os.length cp0, .int .i64 keep, .int .i64 torn] w fun e w' => e = .returned (.bool true) ∧ Below w.heap.size w w' := by
  have AW := awake_any
  have NO := new_ok
  obtain ⟨_, hlen, hat⟩ := hS.at_
  have HS : Hid (∀ (i : Nat) (o : Dd), os[i]? = some o → ∃ g q, (∀ W', (Instr.indexAt 22 (.slice a0 os.length cp0) (.int .i64 (i : Int))).run Try.prog W' = .ok (.pointer (some ⟨g, q, none⟩)) W') ∧ DoAt w g q o) := hat
  clear hat hS
  go_enter Try.func6, Try.ntmps6
  go_upto_block 0 with (first
    | (go_at_call 8; (with_reducible refine (AW _).mono ?_); rintro e w1 ⟨rfl, K1⟩)
    | (go_at_call 9; (with_reducible refine (NO w1).mono ?_); rintro e w2 ⟨b1, F1, rfl, h2, f2, H2⟩)
    | (go_at_call 9; (with_reducible refine (NO w2).mono ?_); rintro e w3 ⟨b2, F2, rfl, h3, f3, H3⟩))
  obtain ⟨S0, D0⟩ := Du.start K1 h2 f2 H2 h3 f3 H3
  clear h2 f2 H2 h3 f3 H3 NO AW K1
  go_cut [9] from 20 to 56 (fun i wx => ∃ s S, s.m ≤ 200 ∧ Du w S wx b1 b2 s s)
  case first =>
    go_wp2_with fail
    go_loopw [9] (fun i wr => ∃ (j : Nat) (s : St) (S : Nat → Prop), j ≤ os.length ∧ j ≤ 200 ∧ i = .int .i64 j ∧ s.m ≤ j ∧ Du w S wr b1 b2 s s) (fun i _ => (500 - intOf i).toNat)
    case atStart => exact ⟨0, newS, S0, by omega, by omega, rfl, by simp [newS], D0⟩
    case round =>
      obtain ⟨j, s, S, hj1, hj2, rfl, hm, hD⟩ := hrel
      clear D0
      by_cases hgo : j < os.length ∧ j < 200
      · obtain ⟨hlt, h4⟩ := hgo
        obtain ⟨o, hoj⟩ : ∃ o, os[j]? = some o := ⟨_, List.getElem?_eq_getElem hlt⟩
        obtain ⟨g, q, hix, hA⟩ := HS.out j o hoj
        have hA' := hA.low hD.below
        have x0 := hA'.c0
        have HAT : Hid (DoAt w g q o) := hA
        by_cases hkd : o.kd = 0 ∨ o.kd = 1
        · have x1 := hA'.c1
          have x2 := hA'.c2
          have x3 := hA'.c3
          have x4 := hA'.c4
          have CL : ∀ {w4}, Chg S wr w4 → w4.cell? ⟨g, q, none⟩ = some (.int .i64 o.kd) ∧ w4.cell? ⟨g, q + 1, none⟩ = some (.string o.nm) ∧ w4.cell? ⟨g, q + 2, none⟩ = some o.v ∧ w4.cell? ⟨g, q + 3, none⟩ = some (.int .i64 o.keep) ∧ w4.cell? ⟨g, q + 4, none⟩ = some (.int .i64 o.torn) := fun {w4} C => by
            have hA4 := HAT.out.low (Chg.low hD.below C hD.low)
            exact ⟨hA4.c0, hA4.c1, hA4.c2, hA4.c3, hA4.c4⟩
          have D1 : ∀ v, wr.grownBy v none → Calls Try.prog 14 #[.pointer (some ⟨b1, 0, none⟩), .agg #[.int .i64 o.kd, .string o.nm, o.v, .int .i64 o.keep, .int .i64 o.torn]] v fun e w' => e = .returned (.int .i64 (stepE s o)) ∧ DuOut w S b1 b2 (stepS s o) s wr w' := fun v g => (du_does (hD.grown g) (by omega) hA).mono fun e w' ⟨he, S', a, f, C⟩ => ⟨he, S', a, fun k hk => (f k hk).imp id (fun e => by have := g.size; omega), (Chg.of (F := S) g (by simp)).trans C fun k hk => .inl hk⟩
          have D2 : ∀ {S' v}, Du w S' v b1 b2 (stepS s o) s → Calls Try.prog 14 #[.pointer (some ⟨b2, 0, none⟩), .agg #[.int .i64 o.kd, .string o.nm, o.v, .int .i64 o.keep, .int .i64 o.torn]] v fun e w' => e = .returned (.int .i64 (stepE s o)) ∧ DuOut w S' b2 b1 (stepS s o) (stepS s o) v w' := fun h => du_does h.symm (by omega) HAT.out
          have HMs : Hid ((stepS s o).m ≤ s.m + 1) := step_m s o
          have HD : Hid (Du w S wr b1 b2 s s) := hD
          clear hoj hA hA' hD
          generalize stepS s o = s' at D1 D2 HMs
          generalize stepE s o = e' at D1 D2
          have kk : ((o.kd == 0) = true) ∨ ((o.kd == 0) = false ∧ (o.kd == 1) = true) := by
            rcases hkd with k0 | k0
            · exact .inl (by rw [k0]; rfl)
            · exact .inr ⟨by rw [k0]; rfl, by rw [k0]; rfl⟩
          clear hkd
          rcases kk with k0 | ⟨k0, k1⟩
          all_goals
            go_upto_region 9 with fail
            go_region_with (first
              | (go_at_call_of 14 (Value.pointer (some ⟨b1, 0, none⟩)); (with_reducible refine (D1 _ ?_).mono ?_); (first | exact grown_drewN (grown_refl _ none) _ | exact grown_drew (grown_refl _ none)); rintro e w4 ⟨rfl, S4, D4, f4, C4⟩; obtain ⟨y0, y1, y2, y3, y4⟩ := CL C4)
              | (go_at_call_of 14 (Value.pointer (some ⟨b2, 0, none⟩)); (with_reducible refine (D2 D4).mono ?_); rintro e w5 ⟨rfl, S5, D5, f5, C5⟩))
            all_goals
              go_wp2_with fail
              go_roundw
              case rel => exact ⟨j + 1, s', S5, by omega, by omega, by go_num, by have := HMs.out; omega, D5.symm⟩
              case measure => simp [intOf]; omega
        · have k0 : (o.kd == 0) = false := by simp; omega
          have k1 : (o.kd == 1) = false := by simp; omega
          have HD : Hid (Du w S wr b1 b2 s s) := hD
          clear hoj hA hA' hD
          go_wp2_with fail
          go_roundw
          case rel => exact ⟨j + 1, s, S, by omega, by omega, by go_num, by omega, HD.out⟩
          case measure => simp [intOf]; omega
      · have gg : (¬ j < os.length) ∨ (j < os.length ∧ ¬ j < 200) := by omega
        clear hgo
        rcases gg with g0 | ⟨g0, g1⟩
        all_goals
          go_wp2_with fail
          go_meet
          exact ⟨s, S, by omega, hD⟩
  case rest =>
    obtain ⟨s, S, hm, hD⟩ := hcut
    clear HS D0 hlen
    have hok := hD.ok
    go_step
    go_step
    go_cut [1] from 57 to 62 (fun v wx => ∃ K : Int, v = .int .i64 K ∧ -1000 ≤ K ∧ K ≤ 1000 ∧ Du w S wx b1 b2 s s)
    case first =>
      by_cases c1 : 1000 < keep
      · go_wp2_with fail
        go_meet
        exact ⟨0, rfl, by omega, by omega, hD⟩
      · by_cases c2 : keep < -1000
        · have d1 : decide (1000 < keep) = false := decide_eq_false c1
          go_wp2_with fail
          go_meet
          exact ⟨0, rfl, by omega, by omega, hD⟩
        · have d1 : decide (1000 < keep) = false := decide_eq_false c1
          have d2 : decide (keep < -1000) = false := decide_eq_false c2
          go_wp2_with fail
          go_meet
          exact ⟨keep, rfl, by omega, by omega, hD⟩
    case rest =>
      obtain ⟨K, rfl, k0, k1, hD⟩ := hcut
      have CA := du_crash hD (by omega) K torn (by omega)
      have CB : ∀ {S' v s1}, Du w S' v b1 b2 s1 s → Calls Try.prog 21 #[.pointer (some ⟨b2, 0, none⟩), .int .i64 (K + 1), .int .i64 torn] v fun e w' => e = .returned (.tuple #[]) ∧ DuOut w S' b2 b1 (crashS s (K + 1) torn) s1 v w' := fun h => du_crash h.symm (by omega) (K + 1) torn (by omega)
      have HMO : Hid (∀ x ∈ s.l.map (·.1), (rdB (crashS s K torn).l x).length ≤ (rdB (crashS s (K + 1) torn).l x).length ∧ (rdB (crashS s (K + 1) torn).l x).take (rdB (crashS s K torn).l x).length = rdB (crashS s K torn).l x ∧ (rdB (crashS s (K + 1) torn).l x).length ≤ 1048576 ∧ hasE (crashS s K torn).l x = 0 ∧ hasE (crashS s (K + 1) torn).l x = 0) := fun x hx => by
        obtain ⟨m1, m2⟩ := crash_more hok K torn hx
        refine ⟨m1, m2, ?_, hasE_mem (by rw [keys_crash]; exact hx), hasE_mem (by rw [keys_crash]; exact hx)⟩
        obtain ⟨⟨y, f⟩, hf, e⟩ := List.mem_map.1 hx
        simp only at e
        subst e
        rw [rdB_crash hok (K + 1) torn hf, List.length_take]
        have h1 := mem_tot hf
        have h2 := hok.tot
        simp only at h1
        omega
      have N1 : ∀ {S' v s2}, Du w S' v b1 b2 (crashS s K torn) s2 → Calls Try.prog 20 #[.pointer (some ⟨b1, 0, none⟩)] v fun e w' => ∃ ad n c, e = .returned (.slice ad n c) ∧ eS.Own w' v.heap.size (.slice ad n c) (srtS (s.l.map (·.1))) ∧ v.grownBy w' none := fun {S' v s2} h => by
        have := du_names h
        rw [keys_crash] at this
        exact this
      have N2 : ∀ {S' v s1}, Du w S' v b1 b2 s1 (crashS s (K + 1) torn) → Calls Try.prog 20 #[.pointer (some ⟨b2, 0, none⟩)] v fun e w' => ∃ ad n c, e = .returned (.slice ad n c) ∧ eS.Own w' v.heap.size (.slice ad n c) (srtS (s.l.map (·.1))) ∧ v.grownBy w' none := fun {S' v s2} h => by
        have := du_names h.symm
        rw [keys_crash] at this
        exact this
      have hks := keys_short hok
      have hkl : (srtS (s.l.map (·.1))).length ≤ 64 := by rw [srtS_len]; simpa using hok.len
      have hmem : ∀ x ∈ srtS (s.l.map (·.1)), x ∈ s.l.map (·.1) := fun x hx => mem_srtS.1 hx
      obtain ⟨L, hLL⟩ : ∃ L, L = srtS (s.l.map (·.1)) := ⟨_, rfl⟩
      simp only [← hLL] at N1 N2
      rw [← hLL] at hks hkl hmem
      have HKS : Hid (∀ x ∈ L, x.length ≤ 16) := hks
      have HME : Hid (∀ x ∈ L, x ∈ s.l.map (·.1)) := hmem
      clear hLL hks hmem hok hD
      generalize crashS s K torn = sa at *
      generalize crashS s (K + 1) torn = sb at *
      go_upto_block 2 with (first
        | (go_at_call 21; (with_reducible refine CA.mono ?_); rintro e w4 ⟨rfl, S4, D4, _, _⟩; clear CA)
        | (go_at_call 21; (with_reducible refine (CB D4).mono ?_); rintro e w5 ⟨rfl, S5, D5', _, _⟩; have D5 := D5'.symm; clear CB D4 D5')
        | (go_at_call 20; (with_reducible refine (N1 D5).mono ?_); rintro e w6 ⟨a6, n6, c6, rfl, O6, G6⟩; have D6 := D5.grown G6; have hn6 := O6.len; subst hn6; clear N1 D5)
        | (go_at_call 20; (with_reducible refine (N2 D6).mono ?_); rintro e w7 ⟨a7, n7, c7, rfl, O7, G7⟩; have D7 := D6.grown G7; have R7 := O6.grown G7; have TX := texts_same (.slice a6 L.length c6) (.slice a7 n7 c7) L (by omega) w7 R7.rx O7.rx; clear N2 D6 O6)
        | (go_at_call 19; (with_reducible refine TX.mono ?_); rintro e w8 ⟨rfl, G8⟩; have D8 := D7.grown G8; have R8 := (R7.grown G8).rx; clear TX D7 R7))
      go_wp2_with fail
      go_loopw [11, 12, 13, 14, 15] (fun i _ _ _ _ wr => ∃ (j : Nat), j ≤ L.length ∧ i = .int .i64 j ∧ w8.grownBy wr none) (fun i _ _ _ _ _ => L.length - (intOf i).toNat)
      case atStart => exact ⟨0, by omega, rfl, grown_refl _ _⟩
      case round =>
        obtain ⟨j, hj, rfl, hg⟩ := hrel
        by_cases hlt : j < L.length
        · obtain ⟨x, hx⟩ : ∃ x, L[j]? = some x := ⟨_, List.getElem?_eq_getElem hlt⟩
          have hxL := List.mem_of_getElem? hx
          have hx16 := HKS.out x hxL
          obtain ⟨o1, o2, o3, o4, o5⟩ := HMO.out x (HME.out x hxL)
          have RA := du_read (D8.grown hg) x (by omega)
          have RB : ∀ {v}, wr.grownBy v none → Calls Try.prog 15 #[.pointer (some ⟨b2, 0, none⟩), .string ⟨x.toArray⟩] v fun e w' => ∃ ad n c, e = .returned (.tuple #[.slice ad n c, .int .i64 0]) ∧ eB.Own w' v.heap.size (.slice ad n c) (rdB sb.l x) ∧ v.grownBy w' none := fun {v} g => by
            have := du_read ((D8.grown hg).grown g).symm x (by omega)
            rw [o5] at this
            exact this
          rw [o4] at RA
          obtain ⟨g, q, hix, hcl, _⟩ := (R8.grown hg).idx (by omega) hx
          have hix' : ∀ W, (Instr.indexAt 27 (.slice a6 L.length c6) (.int .i64 (j : Int))).run Try.prog W = .ok (.pointer (some ⟨g, q, none⟩)) W := hix
          have z0 : wr.cell? ⟨g, q, none⟩ = some (.string ⟨x.toArray⟩) := hcl 0 _ rfl
          generalize rdB sa.l x = X at *
          generalize rdB sb.l x = Y at *
          have HO2 : Hid (Y.take X.length = X) := o2
          clear hix hcl hx hxL o2 o4 o5
          go_upto_region 23 with (first
            | (go_at_call 15; (with_reducible refine RA.mono ?_); rintro e w9 ⟨a9, n9, c9, rfl, O9, G9⟩; have hn9 := O9.len; subst hn9; have z9 := G9.cell z0 (by simp))
            | (go_at_call 15; (with_reducible refine (RB G9).mono ?_); rintro e w10 ⟨a10, n10, c10, rfl, O10, G10⟩; have hn10 := O10.len; subst hn10))
          obtain ⟨a11, c11, hsl, hO11, _⟩ := Elm.upto O10 o1
          have hsl' : ∀ W, (Instr.slice 31 (.slice a10 Y.length c10) none (some (.int .i64 (X.length : Int))) none).run Try.prog W = .ok (.slice a11 X.length c11) W := fun W => by
            rw [← run_sliceAt_slice W 31 _ _ _ _ (by kernel_rfl)]
            exact hsl W
          rw [HO2.out] at hO11
          have y9 : (convert 31 9 (.slice a9 X.length c9)).run Try.prog w10.drew = .ok (.string ⟨X.toArray⟩) w10.drew := run_string (w := w10.drew) (O9.grown G10).rx
          have y11 : (convert 31 9 (.slice a11 X.length c11)).run Try.prog w10.drew = .ok (.string ⟨X.toArray⟩) w10.drew := run_string (w := w10.drew) hO11.rx
          have d1 : decide ((Y.length : Int) < (X.length : Int)) = false := decide_eq_false (by omega)
          have d2 : ¬ ((Y.length : Int) < (X.length : Int)) := by omega
          have G10' := grown_drew G10
          clear hsl hO11 O9 O10 G10
          refine region_still (by kernel_rfl) (by kernel_rfl) ?_
          iterate 23 still_step
          refine wpStill_nil ?_
          go_wp2_with fail
          go_roundw
          case rel => exact ⟨j + 1, by omega, by go_num, grown_more hg (grown_more G9 G10' (by simp)) (by simp)⟩
          case measure => simp [intOf]; omega
        · go_wp2_with fail
          go_ret
          exact ⟨rfl, grown_low D8.below hg⟩
theorem diskMore.walk (W : World) (v1 : Value) (o1 : ∃ os, Sc W v1 os) (keep : Int) (hk : Lit.wf (.int .i64 keep) = true) (torn : Int) (ht : Lit.wf (.int .i64 torn) = true) :
    Calls Try.prog 6 #[v1, .int .i64 keep, .int .i64 torn] W fun e W' => e = .returned (.bool true) ∧ Below W.heap.size W W' := by
  obtain ⟨os, hS⟩ := o1
  obtain ⟨a, c, rfl, h⟩ := id hS
  exact more_ok a c os keep torn (i64_of hk).2 W hS
end Go.Proofs.Ythpeeldpalmakaa
