/- When all files are synced a crash takes nothing: the statement's walk. -/
import Derived.Test.YthpeeldpalmakaaQLaw
namespace Go.Proofs.Ythpeeldpalmakaa
open Go.RowKit Dsk
set_option linter.unusedVariables false

set_option maxRecDepth 100000 in
set_option maxHeartbeats 12800000 in
theorem synced_ok (a0 : Option Addr) (cp0 : Nat) (os : List Dd) (keep torn : Int) (hk : keep ≤ 9223372036854775807) (w : World) (hS : Sc w (.slice a0 os.length cp0) os) :
    Calls Try.prog 7 #[.slice a0 os.length cp0, .int .i64 keep, .int .i64 torn] w fun e w' => e = .returned (.bool true) ∧ Below w.heap.size w w' := by
  have AW := awake_any
  have NO := new_ok
  obtain ⟨_, hlen, hat⟩ := hS.at_
  have HS : Hid (∀ (i : Nat) (o : Dd), os[i]? = some o → ∃ g q, (∀ W', (Instr.indexAt 22 (.slice a0 os.length cp0) (.int .i64 (i : Int))).run Try.prog W' = .ok (.pointer (some ⟨g, q, none⟩)) W') ∧ DoAt w g q o) := hat
  clear hat hS
  go_enter Try.func7, Try.ntmps7
  go_upto_block 0 with (first
    | (go_at_call 8; (with_reducible refine (AW _).mono ?_); rintro e w1 ⟨rfl, K1⟩)
    | (go_at_call 9; (with_reducible refine (NO w1).mono ?_); rintro e w2 ⟨b, F1, rfl, h2, f2, H2⟩))
  have L0 : Lv w w2 b newS F1 := ⟨h2, fun k hk => by have := f2 k hk; have := K1.size; omega, grown_below (grown_more K1 H2 (by simp))⟩
  clear h2 f2 H2 NO AW K1
  go_cut [8] from 20 to 35 (fun i wx => ∃ s F, s.m ≤ 200 ∧ Lv w wx b s F)
  case first =>
    go_wp2_with fail
    go_loopw [8] (fun i wr => ∃ (j : Nat) (s : St) (F : Nat → Prop), j ≤ os.length ∧ j ≤ 200 ∧ i = .int .i64 j ∧ s.m ≤ j ∧ Lv w wr b s F) (fun i _ => (500 - intOf i).toNat)
    case atStart => exact ⟨0, newS, F1, by omega, by omega, rfl, by simp [newS], L0⟩
    case round =>
      obtain ⟨j, s, F, hj1, hj2, rfl, hm, hL⟩ := hrel
      clear L0
      by_cases hgo : j < os.length ∧ j < 200
      · obtain ⟨hlt, h4⟩ := hgo
        obtain ⟨o, hoj⟩ : ∃ o, os[j]? = some o := ⟨_, List.getElem?_eq_getElem hlt⟩
        obtain ⟨g, q, hix, hD⟩ := HS.out j o hoj
        have hD' := hD.low hL.2.2
        have x0 := hD'.c0
        have x1 := hD'.c1
        have x2 := hD'.c2
        have x3 := hD'.c3
        have x4 := hD'.c4
        have DO := does_lv hL (by omega) hD
        have HMs : Hid ((stepS s o).m ≤ s.m + 1) := step_m s o
        clear hoj hD hD' hL
        generalize stepS s o = s' at DO HMs
        generalize stepE s o = e' at DO
        go_wp2_with (go_at_call 14; (with_reducible refine DO.mono ?_); rintro e w4 ⟨rfl, F4, L4, _, _⟩)
        go_roundw
        case rel => exact ⟨j + 1, s', F4, by omega, by omega, by go_num, by have := HMs.out; omega, L4⟩
        case measure => simp [intOf]; omega
      · have gg : (¬ j < os.length) ∨ (j < os.length ∧ ¬ j < 200) := by omega
        clear hgo
        rcases gg with g0 | ⟨g0, g1⟩
        all_goals
          go_wp2_with fail
          go_meet
          exact ⟨s, F, by omega, hL⟩
  case rest =>
    obtain ⟨s, F, hm, hL⟩ := hcut
    clear HS L0 hlen
    have hok := hL.1.ok
    have NM := names_any b s F _ hL.1
    have hks := keys_short hok
    have hkl : (srtS (s.l.map (·.1))).length ≤ 64 := by rw [srtS_len]; simpa using hok.len
    have hmem : ∀ x ∈ srtS (s.l.map (·.1)), x ∈ s.l.map (·.1) := fun x hx => mem_srtS.1 hx
    have hall : ∀ x ∈ s.l.map (·.1), x ∈ srtS (s.l.map (·.1)) := fun x hx => mem_srtS.2 hx
    obtain ⟨L, hLL⟩ : ∃ L, L = srtS (s.l.map (·.1)) := ⟨_, rfl⟩
    rw [← hLL] at NM hks hkl hmem hall
    have HLL : Hid (L = srtS (s.l.map (·.1))) := hLL
    have HKS : Hid (∀ x ∈ L, x.length ≤ 16) := hks
    have HME : Hid (∀ x ∈ L, x ∈ s.l.map (·.1)) := hmem
    have HAL : Hid (∀ x ∈ s.l.map (·.1), x ∈ L) := hall
    clear hLL hks hmem hall hok
    go_upto_block 2 with (go_at_call 20; (with_reducible refine NM.mono ?_); rintro e w5 ⟨a5, n5, c5, rfl, O5, G5⟩; have hn5 := O5.len; subst hn5)
    have L5 := hL.grown G5
    have A5 : ∀ k, (Value.slice a5 L.length c5).ownBlock = some k → ¬ F k := fun k hk c => by
      have := (O5.lt k hk).1
      have := hL.1.lt k c
      omega
    have R5 : eS.Own w5 0 (.slice a5 L.length c5) L := O5.low (Nat.zero_le _)
    clear NM O5 G5 hL
    obtain ⟨B, hB⟩ : ∃ B, B = w5.heap.size := ⟨_, rfl⟩
    have R5lt : ∀ k, (Value.slice a5 L.length c5).ownBlock = some k → k < B := fun k hk => by rw [hB]; exact (R5.lt k hk).2
    have hwB : w.heap.size ≤ B := by rw [hB]; exact L5.2.2.size
    go_cut [10, 11, 12, 13] from 38 to 64 (fun v i _ _ wx => ∃ ad n c F, v = .slice ad n c ∧ Lv w wx b (syncAll s L) F ∧ eS.Own wx 0 (.slice a5 L.length c5) L ∧ (∀ k, (Value.slice a5 L.length c5).ownBlock = some k → ¬ F k) ∧ eS.Own wx B (.slice ad n c) (L.map (rdB s.l)) ∧ (∀ k, (Value.slice ad n c).ownBlock = some k → ¬ F k))
    case first =>
      go_wp2_with fail
      go_loopw [10, 11, 12, 13] (fun v i _ _ wr => ∃ (j : Nat) (ad : Option Addr) (n c : Nat) (F : Nat → Prop), j ≤ L.length ∧ i = .int .i64 j ∧ v = .slice ad n c ∧ Lv w wr b (syncAll s (L.take j)) F ∧ eS.Own wr 0 (.slice a5 L.length c5) L ∧ (∀ k, (Value.slice a5 L.length c5).ownBlock = some k → ¬ F k) ∧ eS.Own wr B (.slice ad n c) ((L.take j).map (rdB s.l)) ∧ (∀ k, (Value.slice ad n c).ownBlock = some k → ¬ F k) ∧ B ≤ wr.heap.size) (fun _ i _ _ _ => L.length - (intOf i).toNat)
      case atStart => exact ⟨0, none, 0, 0, F, by omega, rfl, rfl, L5, R5, A5, Elm.nil _ _, by simp [Value.ownBlock], Nat.le_of_eq hB⟩
      case round =>
        obtain ⟨j, ad, n, c, F', hj, rfl, rfl, hL', hR, hA, hW, hAW, hBw⟩ := hrel
        clear L5 R5 A5 hB
        by_cases hlt : j < L.length
        · obtain ⟨x, hx⟩ : ∃ x, L[j]? = some x := ⟨_, List.getElem?_eq_getElem hlt⟩
          have hxL := List.mem_of_getElem? hx
          have hx16 := HKS.out x hxL
          obtain ⟨s1, s2, s3, s4⟩ := syncAll_facts s _ (L.take j) rfl
          have hE : hasE (syncAll s (L.take j)).l x = 0 := hasE_mem (by rw [s2]; exact HME.out x hxL)
          have RD := read_l hL' x (by omega)
          rw [hE, s3] at RD
          obtain ⟨sj1, hs1⟩ : ∃ sj1, sj1 = syncAll s (L.take (j + 1)) := ⟨_, rfl⟩
          have HS1 : Hid (sj1 = syncAll s (L.take (j + 1))) := hs1
          have SY : ∀ {v}, Lv w v b (syncAll s (L.take j)) F' → Calls Try.prog 22 #[.pointer (some ⟨b, 0, none⟩), .string ⟨x.toArray⟩] v fun e w' => e = .returned (.int .i64 0) ∧ ∃ F'', Lv w w' b sj1 F'' ∧ (∀ k, F'' k → F' k ∨ v.heap.size ≤ k) ∧ Chg F' v w' := fun {v} h => by
            have := sync_l h x (by omega)
            rw [hE, ← syncAll_next s hx, ← hs1] at this
            exact this
          obtain ⟨g, q, hix, hcl, _, hgo⟩ := hR.idx (by omega) hx
          have hgB := R5lt g hgo
          have hix' : ∀ W, (Instr.indexAt 27 (.slice a5 L.length c5) (.int .i64 (j : Int))).run Try.prog W = .ok (.pointer (some ⟨g, q, none⟩)) W := hix
          have z0 : wr.cell? ⟨g, q, none⟩ = some (.string ⟨x.toArray⟩) := hcl 0 _ rfl
          have HTK : Hid ((L.take (j + 1)).map (rdB s.l) = (L.take j).map (rdB s.l) ++ [rdB s.l x]) := by
            show _ = _
            rw [List.take_add_one, hx]
            simp
          have hwl : ((L.take j).map (rdB s.l)).length ≤ 64 := by simp; omega
          obtain ⟨rd, hrd⟩ : ∃ rd, rd = rdB s.l x := ⟨_, rfl⟩
          rw [← hrd] at RD HTK
          generalize (L.take j).map (rdB s.l) = lw at hW HTK hwl
          have ol : ∀ k, (Value.slice ad n c).ownBlock = some k → B ≤ k ∧ k < wr.heap.size := hW.lt
          have rl : ∀ k, (Value.slice a5 L.length c5).ownBlock = some k → k < wr.heap.size := fun k hk => (hR.lt k hk).2
          clear s1 s2 s3 s4 hE hix hcl hx hxL hrd
          generalize syncAll s (L.take j) = sj at *
          clear hs1
          have HL' : Hid (Lv w wr b sj F') := hL'
          have HW : Hid (eS.Own wr B (.slice ad n c) lw) := hW
          have HR : Hid (eS.Own wr 0 (.slice a5 L.length c5) L) := hR
          clear hL' hW hR
          go_wp2_with (first
            | (go_at_call 15; (with_reducible refine RD.mono ?_); rintro e w6 ⟨a6, n6, c6, rfl, O6, G6⟩; have y6 := run_string O6.rx; have X6 : ∀ o, o = Obj.cells #[.string ⟨rd.toArray⟩] 9 → eS.Rx (w6.alloc o) (.slice (some ⟨w6.heap.size, 0, none⟩) 1 1) [rd] := (fun o ho => Elm.rx_one fun j u hu => (by match j, hu with | 0, hu => (injection hu with hu; rw [← hu, ho]; exact new_at w6 rfl rfl))); have W6 : ∀ o, eS.Own (w6.alloc o) B (.slice ad n c) lw := (fun o => (HW.out.grown G6).grown (World.grownBy_alloc w6 o none)); have GA6 : ∀ o, wr.grownBy (w6.alloc o) none := (fun o => grown_alloc G6 o); have zb6 : ∀ o, B ≤ (w6.alloc o).heap.size := (fun o => (by have := (GA6 o).size; omega)))
            | (at_builtin; refine Elm.wpList_append (E := eS) rfl (.tmp 53) (.tmp 56) rfl B (.slice ad n c) lw rfl (W6 _) _ [rd] rfl (X6 _ rfl) (by simp; omega) (by show (lw.length + 1) * 16 ≤ _; omega) (zb6 _) ?_; intro a7 n7 c7 w7 O7 G7 l7; have K7 : wr.grownBy w7 (Value.slice ad n c).ownBlock := grown_more ((GA6 _).but _) G7 (fun _ e => .inl e); have C7 : Chg (fun k => (Value.slice ad n c).ownBlock = some k) wr w7 := Chg.of K7 (fun _ e => e); have D7 : Lv w w7 b sj F' := ⟨HL'.out.1.kept C7 (fun k hk e => hAW k e hk), HL'.out.2.1, Chg.low HL'.out.2.2 C7 (fun k e => by have := (ol k e).1; omega)⟩; have z7 : w7.cell? ⟨g, q, none⟩ = some (.string ⟨x.toArray⟩) := C7.cell z0 (fun e => by have := (ol g e).1; omega))
            | (go_at_call 22; (with_reducible refine (SY D7).mono ?_); rintro e w8 ⟨rfl, F8, L8, f8, C8⟩))
          have ne7 : ∀ k, (Value.slice a5 L.length c5).ownBlock = some k → ¬ (Value.slice ad n c).ownBlock = some k := fun k hk e => by have := R5lt k hk; have := (ol k e).1; omega
          have R7 : eS.Own w7 0 (.slice a5 L.length c5) L := HR.out.kept C7 ne7
          have A7 : ∀ k, (Value.slice a7 n7 c7).ownBlock = some k → ¬ F' k := fun k hk c7' => by
            rcases l7 with e | e
            · exact hAW k (by rw [← e]; exact hk) c7'
            · rw [e] at hk
              injection hk with hk
              have h1 := HL'.out.1.lt k c7'
              have h2 := G6.size
              simp at hk
              omega
          go_roundw
          case rel => exact ⟨j + 1, a7, n7, c7, F8, by omega, by go_num, rfl, by rw [← HS1.out]; exact L8, R7.kept C8 hA, apart_next R7 hA f8, by rw [HTK.out]; exact O7.kept C8 A7, apart_next O7 A7 f8, by have := C8.size; have := C7.size; omega⟩
          case measure => simp [intOf]; omega
        · have htk : L.take j = L := List.take_of_length_le (by omega)
          rw [htk] at hL' hW
          clear htk
          go_wp2_with fail
          go_meet
          exact ⟨ad, n, c, F', rfl, hL', hR, hA, hW, hAW⟩
    case rest =>
      obtain ⟨ad, n, c, F6, rfl, L6, R6, A6, W6, AW6⟩ := hcut
      clear L5 R5 A5 hB
      obtain ⟨s1, s2, s3, s4⟩ := syncAll_facts s _ L rfl
      have calm : ∀ p ∈ (syncAll s L).l, p.2.ws = [] := fun p hp => s4 p hp (HAL.out p.1 (by rw [← s2]; exact List.mem_map.2 ⟨p, hp, rfl⟩))
      obtain ⟨k1, k2⟩ := crash_calm _ calm keep torn
      have WT := waiting_any b (syncAll s L) F6 _ L6.1 (by rw [s1]; omega)
      rw [k2] at WT
      have CR : ∀ {v}, Lv w v b (syncAll s L) F6 → Calls Try.prog 21 #[.pointer (some ⟨b, 0, none⟩), .int .i64 keep, .int .i64 torn] v fun e w' => e = .returned (.tuple #[]) ∧ ∃ F', Lv w w' b (syncAll s L) F' ∧ (∀ k, F' k → F6 k ∨ v.heap.size ≤ k) ∧ Chg F6 v w' := fun {v} h => by
        have := crash_any b (syncAll s L) F6 keep torn hk v h.1 (by rw [s1]; omega)
        rw [k1] at this
        exact this.mono fun e w' ⟨he, ou⟩ => ⟨he, h.out ou⟩
      have HE : Hid (∀ x ∈ L, hasE (syncAll s L).l x = 0) := fun x hx => hasE_mem (by rw [s2]; exact HME.out x hx)
      have HRD : Hid (∀ x, rdB (syncAll s L).l x = rdB s.l x) := s3
      have HK2 : Hid (srtS ((syncAll s L).l.map (·.1)) = L) := by
        show _ = _
        rw [s2]; exact HLL.out.symm
      clear calm k1 k2 s1 s2 s3 s4
      generalize syncAll s L = sL at *
      have HL6 : Hid (Lv w _ b sL F6) := L6
      clear L6
      go_upto_block 4 with (first
        | (go_at_call 17; (with_reducible refine WT.mono ?_); rintro e w9 ⟨rfl, G9⟩; have L9 := HL6.out.grown G9; have R9 := R6.grown G9; have W9 := W6.grown G9)
        | (go_at_call 21; (with_reducible refine (CR L9).mono ?_); rintro e w10 ⟨rfl, F10, L10, f10, C10⟩; have R10 := R9.kept C10 A6; have A10 := apart_next R9 A6 f10; have W10 := W9.kept C10 AW6))
      have hwl : n = L.length := by have := W10.len; simpa using this
      subst hwl
      clear R6 A6 W6 AW6 HL6 WT CR L9 R9 W9
      go_wp2_with fail
      go_loopw [14, 15, 16] (fun i _ _ wr => ∃ (j : Nat), j ≤ L.length ∧ i = .int .i64 j ∧ w10.grownBy wr none) (fun i _ _ _ => L.length - (intOf i).toNat)
      case atStart => exact ⟨0, by omega, rfl, grown_refl _ _⟩
      case round =>
        obtain ⟨j, hj, rfl, hg⟩ := hrel
        by_cases hlt : j < L.length
        · obtain ⟨x, hx⟩ : ∃ x, L[j]? = some x := ⟨_, List.getElem?_eq_getElem hlt⟩
          have hxL := List.mem_of_getElem? hx
          have hx16 := HKS.out x hxL
          have RD := read_l (L10.grown hg) x (by omega)
          rw [HE.out x hxL, HRD.out] at RD
          obtain ⟨g, q, hix, hcl, _, _⟩ := (R10.grown hg).idx (by omega) hx
          have hix' : ∀ W, (Instr.indexAt 27 (.slice a5 L.length c5) (.int .i64 (j : Int))).run Try.prog W = .ok (.pointer (some ⟨g, q, none⟩)) W := hix
          have z0 : wr.cell? ⟨g, q, none⟩ = some (.string ⟨x.toArray⟩) := hcl 0 _ rfl
          have hx2 : (L.map (rdB s.l))[j]? = some (rdB s.l x) := by rw [List.getElem?_map, hx]; rfl
          obtain ⟨g2, q2, hix2, hcl2, _, _⟩ := (W10.grown hg).idx (by simp; omega) hx2
          have hix2' : ∀ W, (Instr.indexAt 27 (.slice ad L.length c) (.int .i64 (j : Int))).run Try.prog W = .ok (.pointer (some ⟨g2, q2, none⟩)) W := hix2
          have z2 : wr.cell? ⟨g2, q2, none⟩ = some (.string ⟨(rdB s.l x).toArray⟩) := hcl2 0 _ rfl
          obtain ⟨rd, hrd⟩ : ∃ rd, rd = rdB s.l x := ⟨_, rfl⟩
          rw [← hrd] at RD z2
          clear hix hcl hix2 hcl2 hx2 hx hxL hrd
          go_upto_region 24 with (go_at_call 15; (with_reducible refine RD.mono ?_); rintro e w11 ⟨a11, n11, c11, rfl, O11, G11⟩; have y11 := run_string O11.rx; have z11 := G11.cell z2 (by simp))
          have y11' : (convert 31 9 (.slice a11 n11 c11)).run Try.prog w11.drew = .ok (.string ⟨rd.toArray⟩) w11.drew := run_string (w := w11.drew) O11.rx
          refine region_still (by kernel_rfl) (by kernel_rfl) ?_
          iterate 11 still_step
          refine wpStill_nil ?_
          go_wp2_with fail
          go_roundw
          case rel => exact ⟨j + 1, by omega, by go_num, grown_more hg (grown_drew G11) (by simp)⟩
          case measure => simp [intOf]; omega
        · have NM2 := names_any b sL F10 _ (L10.grown hg).1
          rw [HK2.out] at NM2
          have RR := (R10.grown hg).rx
          clear R10 W10 A10
          go_wp2_with (first
            | (go_at_call 20; (with_reducible refine NM2.mono ?_); rintro e w12 ⟨a12, n12, c12, rfl, O12, G12⟩; have TX := texts_same (.slice a5 L.length c5) (.slice a12 n12 c12) L (by omega) w12 (RR.grown G12) O12.rx)
            | (go_at_call 19; (with_reducible refine TX.mono ?_); rintro e w13 ⟨rfl, G13⟩))
          go_ret
          exact ⟨rfl, grown_low (grown_low (grown_low L10.2.2 hg) G12) G13⟩
theorem diskSynced.walk (W : World) (v1 : Value) (o1 : ∃ os, Sc W v1 os) (keep : Int) (hk : Lit.wf (.int .i64 keep) = true) (torn : Int) (ht : Lit.wf (.int .i64 torn) = true) :
    Calls Try.prog 7 #[v1, .int .i64 keep, .int .i64 torn] W fun e W' => e = .returned (.bool true) ∧ Below W.heap.size W W' := by
  obtain ⟨os, hS⟩ := o1
  obtain ⟨a, c, rfl, h⟩ := id hS
  exact synced_ok a c os keep torn (i64_of hk).2 W hS
end Go.Proofs.Ythpeeldpalmakaa
