/- 'WalAgain', walked. -/
import Derived.Test.YtapdhkgeolcogaaGreatDoorHb
namespace Go.Proofs.YtapdhkgeolcogaaGreatDoor
open Go.RowKit Dsk Lg
set_option linter.unusedVariables false

set_option maxRecDepth 100000 in
/-- What is written last stands ahead of the next opening's list: all that the last line reads. -/
theorem end_ok {W w9 : World} {S1 S2 S3 base : Nat} {F1 F2 F3 : Nat → Prop} {an al ab ac a3 : Option Addr} {cn cl cb cc c3 L bl xl : Nat} {ls : List By} {mo B0 f : By} (hn : Apt W w9 S1 F1 (.slice an (L + 1) cn) (ls ++ [mo])) (hl : Apt W w9 S2 F2 (.slice al L cl) ls) (hL : ls.length = L) (hL2 : L ≤ 1048576) (hf : ∀ l ∈ ls, l.length ≤ 65536) (hmo : eB.Rx w9 (.slice a3 mo.length c3) mo) (hmol : mo.length ≤ 9223372036854775807) (hb : Byt w9 S3 F3 (.slice ab bl cb) B0) (hc : eB.Own w9 base (.slice ac xl cc) (B0 ++ f)) (hbl : B0.length = bl) (hbl2 : bl ≤ 9223372036854775807) :
    ∃ ad7 c7 g q pa pn pc ad8 c8, (∀ W' : World, (Instr.slice 32 (.slice an (L + 1) cn) none (some (.int .i64 (L : Int))) none).run Tryz.prog W' = .ok (.slice ad7 L c7) W') ∧
      (∀ k, Calls Tryz.prog 20 #[.slice ad7 L c7, .slice al L cl] (w9.drewN k) fun e w'' => e = .returned (.bool true) ∧ ∃ m, w'' = w9.drewN m) ∧
      (∀ W' : World, (Instr.indexAt 32 (.slice an (L + 1) cn) (.int .i64 (L : Int))).run Tryz.prog W' = .ok (.pointer (some ⟨g, q, none⟩)) W') ∧ w9.cell? ⟨g, q, none⟩ = some (.slice pa pn pc) ∧
      (∀ k, (convert 39 9 (.slice pa pn pc)).run Tryz.prog (w9.drewN k) = .ok (.string (Cd.Code.ofB (bI mo))) (w9.drewN k)) ∧
      (∀ k, (convert 39 9 (.slice a3 mo.length c3)).run Tryz.prog (w9.drewN k) = .ok (.string (Cd.Code.ofB (bI mo))) (w9.drewN k)) ∧
      (∀ W' : World, (Instr.slice 39 (.slice ac xl cc) none (some (.int .i64 (bl : Int))) none).run Tryz.prog W' = .ok (.slice ad8 bl c8) W') ∧
      (∀ k, (convert 39 9 (.slice ad8 bl c8)).run Tryz.prog (w9.drewN k) = .ok (.string (Cd.Code.ofB (bI B0))) (w9.drewN k)) ∧
      (∀ k, (convert 39 9 (.slice ab bl cb)).run Tryz.prog (w9.drewN k) = .ok (.string (Cd.Code.ofB (bI B0))) (w9.drewN k)) := by
  obtain ⟨ad7, c7, h1, h2⟩ := hn.upto (k := L) (by simp; omega)
  rw [show (ls ++ [mo]).take L = ls by rw [← hL]; simp] at h2
  obtain ⟨g, q, u, q1, q2, q3⟩ := hn.at_ (k := L) (l := mo) (by rw [← hL]; simp) (by simp; omega)
  obtain ⟨ua, uc, rfl⟩ := q3.form
  obtain ⟨ad8, c8, k1, k2, _⟩ := Elm.upto hc (k := bl) (by simp; omega)
  rw [show (B0 ++ f).take bl = B0 by rw [← hbl]; simp] at k2
  have gd : ∀ k, w9.grownBy (w9.drewN k) none := fun k => grown_drewN (grown_refl w9 none) k
  have hf' : ∀ l ∈ ls, l.length ≤ 9223372036854775807 := fun l hl => by have := hf l hl; omega
  refine ⟨ad7, c7, g, q, ua, mo.length, uc, ad8, c8, h1, fun k => ?_, q1, q2, fun k => str_run (p := (ua, mo.length, uc)) (q3.grown (gd k)) hmol, fun k => str_run (p := (a3, mo.length, c3)) (hmo.grown (gd k)) hmol, fun W' => ?_, fun k => str_run (p := (ad8, bl, c8)) (k2.rx.grown (gd k)) (by omega), fun k => hb.str (by omega) k⟩
  · refine (lists_quiet _ _ ls (w9.drewN k) (h2.grown (gd k)).rl (hl.grown (gd k)).rl (by omega) hf').mono ?_
    rintro e w'' ⟨rfl, m, rfl⟩
    exact ⟨rfl, k + m, by simp⟩
  · have h9 : (Instr.sliceAt 39 (.slice ac xl cc) none (some (.int .i64 (bl : Int))) none).run Tryz.prog W' = .ok (.slice ad8 bl c8) W' := k1 W'
    rw [run_sliceAt_slice W' 39 _ _ _ _ Tryz.underlying39] at h9
    exact h9
theorem Byt.past {w w' : World} {S L wb : Nat} {F F' : Nat → Prop} {v : Value} {l : By} (h : Byt w S F v l) (hlo : ∀ j, v.ownBlock = some j → L ≤ j) (hwb : wb < L) (g : Chg (fun j => F j ∨ j = wb) w w') (hF : ∀ k, F' k → F k ∨ S ≤ k) : Byt w' S F' v l := by
  refine ⟨h.rx.kept' g fun h0 k hk e => ?_, fun h0 j hj => ⟨fun e => ?_, (h.own h0 j hj).2⟩⟩
  · rcases e with e | e
    · exact (h.own h0 k hk).1 e
    · have := hlo k hk; omega
  · rcases hF j e with e | e
    · exact (h.own h0 j hj).1 e
    · have := (h.own h0 j hj).2; omega
set_option maxRecDepth 100000 in
set_option maxHeartbeats 12800000 in
theorem walAgain.walk (w : World) (G : Gv w) (v0 : Value) (h0 : ∃ os, Sc w v0 os) (v1 : Value) (h1 : ∃ b, eB.Rx w v1 b ∧ b.length ≤ rch) :
    Calls Tryz.prog 5 #[v0, v1] w fun e w' => e = .returned (.bool true) ∧ Below w.heap.size w w' := by
  obtain ⟨os, a0, c0, rfl, hol, hos⟩ := h0
  obtain ⟨mo, hmx, hml⟩ := h1
  obtain ⟨a3, c3, rfl⟩ := hmx.form
  have AW := awake_any w G
  have NW : ∀ {w1}, Below w.heap.size w w1 → Calls Tryz.prog 9 #[] w1 fun e w' => ∃ b F, e = .returned (.pointer (some ⟨b, 0, none⟩)) ∧ Dk w' b newS F ∧ (∀ k, F k → w.heap.size ≤ k) ∧ Below w.heap.size w w' := fun {w1} g =>
    (new_ok w1).mono fun e w' ⟨b, F, h1, h2, h3, h4⟩ => ⟨b, F, h1, h2, fun k hk => Nat.le_trans g.size (h3 k hk), grown_low g h4⟩
  have HOS : Hid (∀ (i : Nat) (o : Dd), os[i]? = some o → ∃ g q, (∀ W', (Instr.indexAt 22 (.slice a0 os.length c0) (.int .i64 (i : Int))).run Tryz.prog W' = .ok (.pointer (some ⟨g, q, none⟩)) W') ∧ DoAt w g q o) := hos
  have HMX : Hid (eB.Rx w (.slice a3 mo.length c3) mo ∧ mo.length ≤ rch) := ⟨hmx, hml⟩
  have hnm : newS.m = 0 := rfl
  clear hos hmx hml
  go_enter Tryz.func5, Tryz.ntmps5
  go_wp2_with (first
    | (go_at_call 8; (with_reducible refine AW.mono ?_); rintro e w1 ⟨rfl, B1⟩)
    | (go_at_call 9; (with_reducible refine (NW B1).mono ?_); rintro e w2 ⟨b, F2, rfl, hd2, lo2, B2⟩))
  clear AW NW B1
  go_loopw [6] (fun i wr => ∃ (k : Nat) (s : St) (F : Nat → Prop), k ≤ os.length ∧ k ≤ 100 ∧ i = .int .i64 k ∧ Dk wr b s F ∧ (∀ k, F k → w.heap.size ≤ k) ∧ Below w.heap.size w wr ∧ s.m ≤ k) (fun i _ => 100 - (intOf i).toNat)
  case atStart => exact ⟨0, newS, F2, Nat.zero_le _, by omega, rfl, hd2, lo2, B2, by omega⟩
  case round =>
    obtain ⟨k, s, F, hk1, hk2, rfl, hd, lo, bel, hm⟩ := hrel
    clear hd2 lo2 B2
    by_cases hlt : k < os.length ∧ k < 100
    · obtain ⟨hl1, hl2⟩ := hlt
      have hl1i : (k : Int) < (os.length : Int) := by omega
      have hl2i : (k : Int) < 100 := by omega
      obtain ⟨o, ho⟩ : ∃ o, os[k]? = some o := ⟨_, List.getElem?_eq_getElem hl1⟩
      obtain ⟨g, q, hidx, hD⟩ := HOS.out k o ho
      have lift : ∀ {i : Nat} {u : Value}, w.cell? ⟨g, i, none⟩ = some u → wr.drew.cell? ⟨g, i, none⟩ = some u := fun {i u} hu => (bel.cell (p := ⟨g, i, none⟩) (World.block_lt_of_cell? w _ hu)).trans hu
      have e1 := lift hD.c1
      have e5 := lift hD.c5
      have hrx := hD.rx
      have hbl := hD.hb
      have hnn := hD.hn
      obtain ⟨lo1, c1', hlo1⟩ := hD.rx.form
      obtain ⟨kd, v, b', vs, ls', kp, tn, nmm⟩ := o
      simp only at e1 e5 hrx hbl hnn hlo1
      subst hlo1
      have AP := append_any b s F nmm hnn (.slice lo1 b'.length c1') b' wr.drew (hd.grown (grown_drew (grown_refl wr none))) (by omega) (hrx.below bel.drew) hbl (fun h0 k hk e => by have := lo k e; have := hrx.lt h0 k hk; omega)
      have hms : (appS s nmm.data.toList b').m ≤ s.m + 1 := by
        unfold appS
        split
        · exact Int.le_refl _
        · omega
      have HB : Hid (Below w.heap.size w wr) := bel
      have HLO : Hid (∀ k, F k → w.heap.size ≤ k) := lo
      clear lift ho hD hd lo bel
      go_wp2
      refine region_tail 11 (by kernel_rfl) (by kernel_rfl) ?_
      simp only [List.take_succ_cons, List.take_zero, List.drop_succ_cons, List.drop_zero]
      iterate 11 still_step
      refine wpStill_nil ?_
      go_wp2_with (go_at_call 21; (with_reducible refine AP.mono ?_); rintro e w4 ⟨rfl, F4, hd4, hF4, hC4⟩)
      go_roundw
      case rel =>
        have hz : w.heap.size ≤ wr.heap.size := HB.out.size
        exact ⟨k + 1, _, F4, by omega, by omega, by go_num, hd4, fun j hj => (hF4 j hj).elim (fun e => HLO.out j e) fun e => by simp at e; omega, Chg.low HB.out.drew hC4 HLO.out, by omega⟩
      case measure => simp [intOf]; omega
    · have hx : k = os.length ∨ (k < os.length ∧ k = 100) := by omega
      have hki : (k : Int) ≤ 100 := by omega
      rcases hx with hx | ⟨hx, hx2⟩
      · have hxi : ¬ (k : Int) < (os.length : Int) := by omega
        have hxd : decide ((k : Int) < (os.length : Int)) = false := by simpa using hxi
        clear hx hlt
        cases hO : openR s with
        | none =>
          have OP0 := open_none hd lo bel G (by omega) hO
          clear hd lo bel
          go_wp2_with (go_at_call 10; (with_reducible refine OP0.mono ?_); rintro e w6 ⟨rfl, B6⟩)
          go_ret
          exact ⟨rfl, B6⟩
        | some x =>
          obtain ⟨s', file, n, ls⟩ := x
          obtain ⟨hll, hlf⟩ := open_len hd.ok hO
          obtain ⟨kk, rfl, hk3, hk4, hLk, hsm⟩ := open_any hd.ok hO
          have hkk := hLk.n2
          have hnl := nm_len (n := kk) (by omega)
          have OP1 := open_apt hd lo bel G (by omega) hO
          have HMX' := HMX.out
          obtain ⟨L, hL⟩ : ∃ L, L = ls.length := ⟨_, rfl⟩
          rw [← hL] at hll OP1 hsm
          have OP2 : ∀ {w5 wb5 F5 n5 va}, Wl w w5 b wb5 s' F5 (nm kk) n5 (L : Int) → Apt w w5 w5.heap.size F5 va ls → Calls Tryz.prog 10 #[.pointer (some ⟨b, 0, none⟩)] w5 fun e w' => ∃ ad c F', e = .returned (.tuple #[.pointer (some ⟨w5.heap.size, 0, none⟩), .slice ad L c, .int .i64 0]) ∧ Wl w w' b w5.heap.size s' F' (nm kk) (kk : Int) (L : Int) ∧ Apt w w' w5.heap.size F' va ls ∧ Calls Tryz.prog 20 #[va, .slice ad L c] w' fun e w'' => e = .returned (.bool true) ∧ w'.grownBy w'' none := fun {w5 wb5 F5 n5 va} h5 ha5 => by
            have := open_apt h5.dk h5.lo h5.bel G (by omega) hLk.again
            rw [← hL] at this
            refine this.mono ?_
            rintro e w' ⟨ad, c, F', h1, h2, h3, h4, h6⟩
            have hA := h4 _ _ _ (Nat.le_refl _) ha5
            exact ⟨ad, c, F', h1, h2, hA, lists_apt hA h3 (by omega) hlf⟩
          obtain ⟨B0, hB0⟩ : ∃ B0, B0 = rdB s'.l (nm kk) := ⟨_, rfl⟩
          have hBl : B0.length ≤ 1048576 := by rw [hB0]; exact rd_len hLk.ok (nm kk)
          obtain ⟨bl, hbl⟩ : ∃ bl, bl = B0.length := ⟨_, rfl⟩
          have RD : ∀ {w5 wb5 F5 S va}, Wl w w5 b wb5 s' F5 (nm kk) (kk : Int) (L : Int) → Apt w w5 S F5 va ls → Calls Tryz.prog 23 #[.pointer (some ⟨b, 0, none⟩), .string ⟨(nm kk).toArray⟩] w5 fun e w' => ∃ ad c er, e = .returned (.tuple #[.slice ad bl c, .int .i64 er]) ∧ Wl w w' b wb5 s' F5 (nm kk) (kk : Int) (L : Int) ∧ Apt w w' S F5 va ls ∧ Byt w' w'.heap.size F5 (.slice ad bl c) B0 ∧ (∀ j, (Value.slice ad bl c).ownBlock = some j → wb5 + 1 ≤ j) := fun {w5 wb5 F5 S va} h5 ha5 => by
            have := wread_byt h5 (nm kk) (by omega)
            rw [← hB0, ← hbl] at this
            refine this.mono ?_
            rintro e w' ⟨ad, c, h1, h2, h3, h4, h5'⟩
            exact ⟨ad, c, _, h1, h2, ha5.grown h5', h3, fun j hj => by have := (h4.lt j hj).1; have := h5.lt; omega⟩
          by_cases hE : putE s' (nm kk) mo = 0
          · obtain ⟨hLk3, hrd⟩ := hLk.app hE
            have hm3 := putS_m s' (nm kk) mo
            have AP : ∀ {w5 wb5 F5 va vb}, Wl w w5 b wb5 s' F5 (nm kk) (kk : Int) (L : Int) → Apt w w5 wb5 F5 va ls → Byt w5 w5.heap.size F5 vb B0 → (∀ j, vb.ownBlock = some j → wb5 + 1 ≤ j) → Calls Tryz.prog 12 #[.pointer (some ⟨wb5, 0, none⟩), .slice a3 mo.length c3] w5 fun e w' => e = .returned (.int .i64 0) ∧ ∃ F', Wl w w' b wb5 (putS s' (nm kk) mo) F' (nm kk) (kk : Int) ((L + 1 : Nat) : Int) ∧ Apt w w' wb5 F' va ls ∧ Byt w' w5.heap.size F' vb B0 ∧ w5.heap.size ≤ w'.heap.size ∧ wb5 ≤ w'.heap.size := fun {w5 wb5 F5 va vb} h5 ha5 hb5 hlo5 => by
              have hr : mo.length ≤ 9223372036854775807 := by have := HMX'.2; unfold rch at this; omega
              refine (wappend_any h5 (by omega) (.slice a3 mo.length c3) mo (HMX'.1.below h5.bel) hr (by omega) (by omega)).mono ?_
              rintro e w' ⟨rfl, F', h1, h2, h3⟩
              rw [if_pos hE] at h1
              rw [hE]
              have := h5.lt
              have := h3.size
              exact ⟨rfl, F', h1, ha5.turn h3 (fun k hk => hk.imp id fun e => by omega) (fun k hk => (h2 k hk).imp id fun e => by omega), hb5.past hlo5 (by omega) h3 h2, h3.size, by omega⟩
            rw [← hB0] at hrd
            generalize putS s' (nm kk) mo = s3 at *
            have hlen3 : (ls ++ [mo]).length = L + 1 := by simp; omega
            have OP3 : ∀ {w5 wb5 F5 S S2 va vb}, Wl w w5 b wb5 s3 F5 (nm kk) (kk : Int) ((L + 1 : Nat) : Int) → Apt w w5 S F5 va ls → S ≤ w5.heap.size → Byt w5 S2 F5 vb B0 → S2 ≤ w5.heap.size → Calls Tryz.prog 10 #[.pointer (some ⟨b, 0, none⟩)] w5 fun e w' => ∃ ad c F', e = .returned (.tuple #[.pointer (some ⟨w5.heap.size, 0, none⟩), .slice ad (L + 1) c, .int .i64 0]) ∧ Wl w w' b w5.heap.size s3 F' (nm kk) (kk : Int) ((L + 1 : Nat) : Int) ∧ Apt w w' w'.heap.size F' (.slice ad (L + 1) c) (ls ++ [mo]) ∧ Apt w w' S F' va ls ∧ Byt w' S2 F' vb B0 := fun {w5 wb5 F5 S S2 va vb} h5 ha5 hs5 hb5 hs6 => by
              have := open_some2 h5.dk h5.lo h5.bel G (by omega) hLk3.again
              rw [hlen3] at this
              refine this.mono ?_
              rintro e w' ⟨ad, c, F', h1, h2, h3, h4, h6, h7⟩
              have hz : w.heap.size ≤ w5.heap.size := h5.bel.size
              exact ⟨ad, c, F', h1, h2, ⟨((h7.tight.low (by omega)).wide fun k hk => ⟨hk.1.2, hk.2⟩), fun j hj => ⟨h6 j hj, (h7.lt j hj).2⟩⟩, ha5.turn h4 (fun k hk => .inl hk) (fun k hk => (h3 k hk).imp id fun e => by omega), hb5.turn h4 (fun k hk => .inl hk) (fun k hk => (h3 k hk).imp id fun e => by omega)⟩
            obtain ⟨xl, hxl⟩ : ∃ xl, xl = (B0 ++ fr mo).length := ⟨_, rfl⟩
            have hfr : bl < xl := by have := fr_pos mo; rw [hxl, hbl, List.length_append]; omega
            have hX3 : (rdB s3.l (nm kk)).length ≤ 1048576 := rd_len hLk3.ok (nm kk)
            rw [hrd, ← hxl] at hX3
            have RD3 : ∀ {w5 wb5 F5 S S1 S2 al cl an cn ab cb}, Wl w w5 b wb5 s3 F5 (nm kk) (kk : Int) ((L + 1 : Nat) : Int) → Apt w w5 S1 F5 (.slice an (L + 1) cn) (ls ++ [mo]) → Apt w w5 S F5 (.slice al L cl) ls → Byt w5 S2 F5 (.slice ab bl cb) B0 → Calls Tryz.prog 23 #[.pointer (some ⟨b, 0, none⟩), .string ⟨(nm kk).toArray⟩] w5 fun e w' => ∃ ac cc er, e = .returned (.tuple #[.slice ac xl cc, .int .i64 er]) ∧ Below w.heap.size w w' ∧ ∃ ad7 c7 g q pa pn pc ad8 c8, (∀ W' : World, (Instr.slice 32 (.slice an (L + 1) cn) none (some (.int .i64 (L : Int))) none).run Tryz.prog W' = .ok (.slice ad7 L c7) W') ∧
      (∀ k, Calls Tryz.prog 20 #[.slice ad7 L c7, .slice al L cl] (w'.drewN k) fun e w'' => e = .returned (.bool true) ∧ ∃ m, w'' = w'.drewN m) ∧
      (∀ W' : World, (Instr.indexAt 32 (.slice an (L + 1) cn) (.int .i64 (L : Int))).run Tryz.prog W' = .ok (.pointer (some ⟨g, q, none⟩)) W') ∧ w'.cell? ⟨g, q, none⟩ = some (.slice pa pn pc) ∧
      (∀ k, (convert 39 9 (.slice pa pn pc)).run Tryz.prog (w'.drewN k) = .ok (.string (Cd.Code.ofB (bI mo))) (w'.drewN k)) ∧
      (∀ k, (convert 39 9 (.slice a3 mo.length c3)).run Tryz.prog (w'.drewN k) = .ok (.string (Cd.Code.ofB (bI mo))) (w'.drewN k)) ∧
      (∀ W' : World, (Instr.slice 39 (.slice ac xl cc) none (some (.int .i64 (bl : Int))) none).run Tryz.prog W' = .ok (.slice ad8 bl c8) W') ∧
      (∀ k, (convert 39 9 (.slice ad8 bl c8)).run Tryz.prog (w'.drewN k) = .ok (.string (Cd.Code.ofB (bI B0))) (w'.drewN k)) ∧
      (∀ k, (convert 39 9 (.slice ab bl cb)).run Tryz.prog (w'.drewN k) = .ok (.string (Cd.Code.ofB (bI B0))) (w'.drewN k)) := fun {w5 wb5 F5 S S1 S2 al cl an cn ab cb} h5 hn5 hl5 hb5 => by
              have := wread_byt h5 (nm kk) (by omega)
              rw [hrd, ← hxl] at this
              refine this.mono ?_
              rintro e w' ⟨ad, c, h1, h2, h3, h4, h6⟩
              have hr : mo.length ≤ 9223372036854775807 := by have := HMX'.2; unfold rch at this; omega
              exact ⟨ad, c, _, h1, h2.bel, end_ok (hn5.grown h6) (hl5.grown h6) hL.symm hll hlf (HMX'.1.below h2.bel) hr (hb5.grown h6) h4 hbl.symm (by omega)⟩
            have hse := str_same mo mo
            have hd1 : decide (mo = mo) = true := by simp
            rw [hd1] at hse
            have hse2 := str_same B0 B0
            have hd2 : decide (B0 = B0) = true := by simp
            rw [hd2] at hse2
            generalize Cd.Code.ofB (bI mo) = X at *
            generalize Cd.Code.ofB (bI B0) = Y at *
            have hq9 : (((L + 1 : Nat) : Int) == ((L : Nat) : Int) + 1) = true := by simp
            have hwr : IntKind.i64.wrap ((L : Int) + 1) = (L : Int) + 1 := by rw [IntKind.wrap_i64]; omega
            have hLi : (L : Int) ≤ 1048576 := by omega
            have hfi : (bl : Int) < (xl : Int) := by omega
            have hfd : decide ((bl : Int) < (xl : Int)) = true := by simpa using hfi
            have hfd2 : decide (bl < xl) = true := by simpa using hfr
            clear hd lo bel hE hLk hLk3 hO hlf hL hB0 hbl hBl hrd hlen3 hX3 HMX HMX' HOS hd1 hd2 hsm hm3 hm hk3 hk4 hxl
            generalize nm kk = NM at *
            go_wp2_with (first
              | (go_at_call 12; (with_reducible refine (AP hW6 hA6 hb6 hlo6).mono ?_); rintro e w7 ⟨rfl, F7, hW7, hA7, hb7, hz7, hz7b⟩; clear AP hb6 hlo6 hA6 hW6)
              | (go_at_call 23; first
                | ((with_reducible refine (RD3 hW8 hN8 hA8 hb8).mono ?_); rintro e w9 ⟨ac, cc, er9, rfl, B9, ad7, c7, g, q, pa, pn, pc, ad8, c8, f1, f2, f3, f4, f5, f6, f7, f8, f9⟩; clear RD3 hW8 hN8 hA8 hb8)
                | ((with_reducible refine (RD hW5 hA5).mono ?_); rintro e w6 ⟨ab, cb, er, rfl, hW6, hA6, hb6, hlo6⟩; clear RD hW5 hA5))
              | (go_at_call 24; first
                | ((with_reducible refine (file_any hW8).mono ?_); rintro e w8b ⟨rfl, e8⟩; obtain rfl := e8.symm)
                | ((with_reducible refine (file_any hW5).mono ?_); rintro e w5b ⟨rfl, e5⟩; obtain rfl := e5.symm))
              | (go_at_call 20; (with_reducible refine LS4.mono ?_); rintro e w5 ⟨rfl, hg5⟩; have hW5 := hW4.grown hg5; have hA5 := hA4.grown hg5; clear LS4 hW4 hA4 hg5)
              | (go_at_call 10; first
                | ((with_reducible refine (OP3 hW7 hA7 hz7b hb7 hz7).mono ?_); rintro e w8 ⟨an, cn, F8, rfl, hW8, hN8, hA8, hb8⟩; clear OP3 hW7 hA7 hb7)
                | ((with_reducible refine (OP2 hW3 hA3).mono ?_); rintro e w4 ⟨am, cm, F4, rfl, hW4, hA4, LS4⟩; clear OP2 hW3 hA3)
                | ((with_reducible refine OP1.mono ?_); rintro e w3 ⟨al, cl, F3, rfl, hW3, hA3, _, _⟩; clear OP1)))
            go_quiet (exact f2 _)
            go_wp2
            go_ret
            exact ⟨rfl, below_drewN B9 _⟩
          · have AP : ∀ {w5 wb5 F5 va vb}, Wl w w5 b wb5 s' F5 (nm kk) (kk : Int) (L : Int) → Apt w w5 wb5 F5 va ls → Byt w5 w5.heap.size F5 vb B0 → (∀ j, vb.ownBlock = some j → wb5 + 1 ≤ j) → Calls Tryz.prog 12 #[.pointer (some ⟨wb5, 0, none⟩), .slice a3 mo.length c3] w5 fun e w' => ∃ E : Int, (E == 0) = false ∧ e = .returned (.int .i64 E) ∧ ∃ F', Wl w w' b wb5 s' F' (nm kk) (kk : Int) (L : Int) ∧ Apt w w' wb5 F' va ls ∧ Byt w' w5.heap.size F' vb B0 ∧ w5.heap.size ≤ w'.heap.size ∧ wb5 ≤ w'.heap.size := fun {w5 wb5 F5 va vb} h5 ha5 hb5 hlo5 => by
              have hr : mo.length ≤ 9223372036854775807 := by have := HMX'.2; unfold rch at this; omega
              refine (wappend_any h5 (by omega) (.slice a3 mo.length c3) mo (HMX'.1.below h5.bel) hr (by omega) (by omega)).mono ?_
              rintro e w' ⟨rfl, F', h1, h2, h3⟩
              rw [if_neg hE, putS_bad hE] at h1
              have := h5.lt
              have := h3.size
              exact ⟨_, by simpa using hE, rfl, F', h1, ha5.turn h3 (fun k hk => hk.imp id fun e => by omega) (fun k hk => (h2 k hk).imp id fun e => by omega), hb5.past hlo5 (by omega) h3 h2, h3.size, by omega⟩
            have OP3 : ∀ {w5 wb5 F5 S S2 va vb}, Wl w w5 b wb5 s' F5 (nm kk) (kk : Int) (L : Int) → Apt w w5 S F5 va ls → S ≤ w5.heap.size → Byt w5 S2 F5 vb B0 → S2 ≤ w5.heap.size → Calls Tryz.prog 10 #[.pointer (some ⟨b, 0, none⟩)] w5 fun e w' => ∃ ad c F', e = .returned (.tuple #[.pointer (some ⟨w5.heap.size, 0, none⟩), .slice ad L c, .int .i64 0]) ∧ Wl w w' b w5.heap.size s' F' (nm kk) (kk : Int) (L : Int) ∧ Apt w w' w'.heap.size F' (.slice ad L c) ls ∧ Apt w w' S F' va ls ∧ Byt w' S2 F' vb B0 := fun {w5 wb5 F5 S S2 va vb} h5 ha5 hs5 hb5 hs6 => by
              have := open_some2 h5.dk h5.lo h5.bel G (by omega) hLk.again
              rw [← hL] at this
              refine this.mono ?_
              rintro e w' ⟨ad, c, F', h1, h2, h3, h4, h6, h7⟩
              have hz : w.heap.size ≤ w5.heap.size := h5.bel.size
              exact ⟨ad, c, F', h1, h2, ⟨((h7.tight.low (by omega)).wide fun k hk => ⟨hk.1.2, hk.2⟩), fun j hj => ⟨h6 j hj, (h7.lt j hj).2⟩⟩, ha5.turn h4 (fun k hk => .inl hk) (fun k hk => (h3 k hk).imp id fun e => by omega), hb5.turn h4 (fun k hk => .inl hk) (fun k hk => (h3 k hk).imp id fun e => by omega)⟩
            have RD3 : ∀ {w5 wb5 F5 S S1 S2 al cl an cn ab cb}, Wl w w5 b wb5 s' F5 (nm kk) (kk : Int) (L : Int) → Apt w w5 S1 F5 (.slice an L cn) ls → Apt w w5 S F5 (.slice al L cl) ls → Byt w5 S2 F5 (.slice ab bl cb) B0 → Calls Tryz.prog 23 #[.pointer (some ⟨b, 0, none⟩), .string ⟨(nm kk).toArray⟩] w5 fun e w' => ∃ ac cc er, e = .returned (.tuple #[.slice ac bl cc, .int .i64 er]) ∧ Below w.heap.size w w' ∧ (Calls Tryz.prog 20 #[.slice an L cn, .slice al L cl] w' fun e w'' => e = .returned (.bool true) ∧ ∃ m, w'' = w'.drewN m) ∧
      (∀ k, (convert 39 9 (.slice ac bl cc)).run Tryz.prog (w'.drewN k) = .ok (.string (Cd.Code.ofB (bI B0))) (w'.drewN k)) ∧
      (∀ k, (convert 39 9 (.slice ab bl cb)).run Tryz.prog (w'.drewN k) = .ok (.string (Cd.Code.ofB (bI B0))) (w'.drewN k)) := fun {w5 wb5 F5 S S1 S2 al cl an cn ab cb} h5 hn5 hl5 hb5 => by
              have := wread_byt h5 (nm kk) (by omega)
              rw [← hB0, ← hbl] at this
              refine this.mono ?_
              rintro e w' ⟨ad, c, h1, h2, h3, h4, h6⟩
              exact ⟨ad, c, _, h1, h2.bel, lists_quiet _ _ ls w' (hn5.grown h6).rl (hl5.grown h6).rl (by omega) (fun l hl => by have := hlf l hl; omega), fun k => h3.str (by omega) k, fun k => (hb5.grown h6).str (by omega) k⟩
            have hse2 := str_same B0 B0
            have hd2 : decide (B0 = B0) = true := by simp
            rw [hd2] at hse2
            generalize Cd.Code.ofB (bI B0) = Y at *
            have hLi : (L : Int) ≤ 1048576 := by omega
            clear hd lo bel hE hLk hO hlf hL hB0 hbl hBl HMX HMX' HOS hd2 hsm hm hk3 hk4
            generalize nm kk = NM at *
            go_wp2_with (first
              | (go_at_call 12; (with_reducible refine (AP hW6 hA6 hb6 hlo6).mono ?_); rintro e w7 ⟨E7, hE7, rfl, F7, hW7, hA7, hb7, hz7, hz7b⟩; clear AP hb6 hlo6 hA6 hW6)
              | (go_at_call 23; first
                | ((with_reducible refine (RD3 hW8 hN8 hA8 hb8).mono ?_); rintro e w9 ⟨ac, cc, er9, rfl, B9, LS9, f8, f9⟩; clear RD3 hW8 hN8 hA8 hb8)
                | ((with_reducible refine (RD hW5 hA5).mono ?_); rintro e w6 ⟨ab, cb, er, rfl, hW6, hA6, hb6, hlo6⟩; clear RD hW5 hA5))
              | (go_at_call 24; first
                | ((with_reducible refine (file_any hW8).mono ?_); rintro e w8b ⟨rfl, e8⟩; obtain rfl := e8.symm)
                | ((with_reducible refine (file_any hW5).mono ?_); rintro e w5b ⟨rfl, e5⟩; obtain rfl := e5.symm))
              | (go_at_call 20; first
                | ((with_reducible refine LS9.mono ?_); rintro e w10 ⟨rfl, m10, rfl⟩; have f8' := f8 m10; have f9' := f9 m10)
                | ((with_reducible refine LS4.mono ?_); rintro e w5 ⟨rfl, hg5⟩; have hW5 := hW4.grown hg5; have hA5 := hA4.grown hg5; clear LS4 hW4 hA4 hg5))
              | (go_at_call 10; first
                | ((with_reducible refine (OP3 hW7 hA7 hz7b hb7 hz7).mono ?_); rintro e w8 ⟨an, cn, F8, rfl, hW8, hN8, hA8, hb8⟩; clear OP3 hW7 hA7 hb7)
                | ((with_reducible refine (OP2 hW3 hA3).mono ?_); rintro e w4 ⟨am, cm, F4, rfl, hW4, hA4, LS4⟩; clear OP2 hW3 hA3)
                | ((with_reducible refine OP1.mono ?_); rintro e w3 ⟨al, cl, F3, rfl, hW3, hA3, _, _⟩; clear OP1)))
            go_ret
            exact ⟨rfl, below_drewN B9 _⟩
      · have hxi : (k : Int) < (os.length : Int) := by omega
        have hx2i : ¬ (k : Int) < 100 := by omega
        have hx2d : decide ((k : Int) < 100) = false := by simpa using hx2i
        clear hx hlt hx2
        cases hO : openR s with
        | none =>
          have OP0 := open_none hd lo bel G (by omega) hO
          clear hd lo bel
          go_wp2_with (go_at_call 10; (with_reducible refine OP0.mono ?_); rintro e w6 ⟨rfl, B6⟩)
          go_ret
          exact ⟨rfl, B6⟩
        | some x =>
          obtain ⟨s', file, n, ls⟩ := x
          obtain ⟨hll, hlf⟩ := open_len hd.ok hO
          obtain ⟨kk, rfl, hk3, hk4, hLk, hsm⟩ := open_any hd.ok hO
          have hkk := hLk.n2
          have hnl := nm_len (n := kk) (by omega)
          have OP1 := open_apt hd lo bel G (by omega) hO
          have HMX' := HMX.out
          obtain ⟨L, hL⟩ : ∃ L, L = ls.length := ⟨_, rfl⟩
          rw [← hL] at hll OP1 hsm
          have OP2 : ∀ {w5 wb5 F5 n5 va}, Wl w w5 b wb5 s' F5 (nm kk) n5 (L : Int) → Apt w w5 w5.heap.size F5 va ls → Calls Tryz.prog 10 #[.pointer (some ⟨b, 0, none⟩)] w5 fun e w' => ∃ ad c F', e = .returned (.tuple #[.pointer (some ⟨w5.heap.size, 0, none⟩), .slice ad L c, .int .i64 0]) ∧ Wl w w' b w5.heap.size s' F' (nm kk) (kk : Int) (L : Int) ∧ Apt w w' w5.heap.size F' va ls ∧ Calls Tryz.prog 20 #[va, .slice ad L c] w' fun e w'' => e = .returned (.bool true) ∧ w'.grownBy w'' none := fun {w5 wb5 F5 n5 va} h5 ha5 => by
            have := open_apt h5.dk h5.lo h5.bel G (by omega) hLk.again
            rw [← hL] at this
            refine this.mono ?_
            rintro e w' ⟨ad, c, F', h1, h2, h3, h4, h6⟩
            have hA := h4 _ _ _ (Nat.le_refl _) ha5
            exact ⟨ad, c, F', h1, h2, hA, lists_apt hA h3 (by omega) hlf⟩
          obtain ⟨B0, hB0⟩ : ∃ B0, B0 = rdB s'.l (nm kk) := ⟨_, rfl⟩
          have hBl : B0.length ≤ 1048576 := by rw [hB0]; exact rd_len hLk.ok (nm kk)
          obtain ⟨bl, hbl⟩ : ∃ bl, bl = B0.length := ⟨_, rfl⟩
          have RD : ∀ {w5 wb5 F5 S va}, Wl w w5 b wb5 s' F5 (nm kk) (kk : Int) (L : Int) → Apt w w5 S F5 va ls → Calls Tryz.prog 23 #[.pointer (some ⟨b, 0, none⟩), .string ⟨(nm kk).toArray⟩] w5 fun e w' => ∃ ad c er, e = .returned (.tuple #[.slice ad bl c, .int .i64 er]) ∧ Wl w w' b wb5 s' F5 (nm kk) (kk : Int) (L : Int) ∧ Apt w w' S F5 va ls ∧ Byt w' w'.heap.size F5 (.slice ad bl c) B0 ∧ (∀ j, (Value.slice ad bl c).ownBlock = some j → wb5 + 1 ≤ j) := fun {w5 wb5 F5 S va} h5 ha5 => by
            have := wread_byt h5 (nm kk) (by omega)
            rw [← hB0, ← hbl] at this
            refine this.mono ?_
            rintro e w' ⟨ad, c, h1, h2, h3, h4, h5'⟩
            exact ⟨ad, c, _, h1, h2, ha5.grown h5', h3, fun j hj => by have := (h4.lt j hj).1; have := h5.lt; omega⟩
          by_cases hE : putE s' (nm kk) mo = 0
          · obtain ⟨hLk3, hrd⟩ := hLk.app hE
            have hm3 := putS_m s' (nm kk) mo
            have AP : ∀ {w5 wb5 F5 va vb}, Wl w w5 b wb5 s' F5 (nm kk) (kk : Int) (L : Int) → Apt w w5 wb5 F5 va ls → Byt w5 w5.heap.size F5 vb B0 → (∀ j, vb.ownBlock = some j → wb5 + 1 ≤ j) → Calls Tryz.prog 12 #[.pointer (some ⟨wb5, 0, none⟩), .slice a3 mo.length c3] w5 fun e w' => e = .returned (.int .i64 0) ∧ ∃ F', Wl w w' b wb5 (putS s' (nm kk) mo) F' (nm kk) (kk : Int) ((L + 1 : Nat) : Int) ∧ Apt w w' wb5 F' va ls ∧ Byt w' w5.heap.size F' vb B0 ∧ w5.heap.size ≤ w'.heap.size ∧ wb5 ≤ w'.heap.size := fun {w5 wb5 F5 va vb} h5 ha5 hb5 hlo5 => by
              have hr : mo.length ≤ 9223372036854775807 := by have := HMX'.2; unfold rch at this; omega
              refine (wappend_any h5 (by omega) (.slice a3 mo.length c3) mo (HMX'.1.below h5.bel) hr (by omega) (by omega)).mono ?_
              rintro e w' ⟨rfl, F', h1, h2, h3⟩
              rw [if_pos hE] at h1
              rw [hE]
              have := h5.lt
              have := h3.size
              exact ⟨rfl, F', h1, ha5.turn h3 (fun k hk => hk.imp id fun e => by omega) (fun k hk => (h2 k hk).imp id fun e => by omega), hb5.past hlo5 (by omega) h3 h2, h3.size, by omega⟩
            rw [← hB0] at hrd
            generalize putS s' (nm kk) mo = s3 at *
            have hlen3 : (ls ++ [mo]).length = L + 1 := by simp; omega
            have OP3 : ∀ {w5 wb5 F5 S S2 va vb}, Wl w w5 b wb5 s3 F5 (nm kk) (kk : Int) ((L + 1 : Nat) : Int) → Apt w w5 S F5 va ls → S ≤ w5.heap.size → Byt w5 S2 F5 vb B0 → S2 ≤ w5.heap.size → Calls Tryz.prog 10 #[.pointer (some ⟨b, 0, none⟩)] w5 fun e w' => ∃ ad c F', e = .returned (.tuple #[.pointer (some ⟨w5.heap.size, 0, none⟩), .slice ad (L + 1) c, .int .i64 0]) ∧ Wl w w' b w5.heap.size s3 F' (nm kk) (kk : Int) ((L + 1 : Nat) : Int) ∧ Apt w w' w'.heap.size F' (.slice ad (L + 1) c) (ls ++ [mo]) ∧ Apt w w' S F' va ls ∧ Byt w' S2 F' vb B0 := fun {w5 wb5 F5 S S2 va vb} h5 ha5 hs5 hb5 hs6 => by
              have := open_some2 h5.dk h5.lo h5.bel G (by omega) hLk3.again
              rw [hlen3] at this
              refine this.mono ?_
              rintro e w' ⟨ad, c, F', h1, h2, h3, h4, h6, h7⟩
              have hz : w.heap.size ≤ w5.heap.size := h5.bel.size
              exact ⟨ad, c, F', h1, h2, ⟨((h7.tight.low (by omega)).wide fun k hk => ⟨hk.1.2, hk.2⟩), fun j hj => ⟨h6 j hj, (h7.lt j hj).2⟩⟩, ha5.turn h4 (fun k hk => .inl hk) (fun k hk => (h3 k hk).imp id fun e => by omega), hb5.turn h4 (fun k hk => .inl hk) (fun k hk => (h3 k hk).imp id fun e => by omega)⟩
            obtain ⟨xl, hxl⟩ : ∃ xl, xl = (B0 ++ fr mo).length := ⟨_, rfl⟩
            have hfr : bl < xl := by have := fr_pos mo; rw [hxl, hbl, List.length_append]; omega
            have hX3 : (rdB s3.l (nm kk)).length ≤ 1048576 := rd_len hLk3.ok (nm kk)
            rw [hrd, ← hxl] at hX3
            have RD3 : ∀ {w5 wb5 F5 S S1 S2 al cl an cn ab cb}, Wl w w5 b wb5 s3 F5 (nm kk) (kk : Int) ((L + 1 : Nat) : Int) → Apt w w5 S1 F5 (.slice an (L + 1) cn) (ls ++ [mo]) → Apt w w5 S F5 (.slice al L cl) ls → Byt w5 S2 F5 (.slice ab bl cb) B0 → Calls Tryz.prog 23 #[.pointer (some ⟨b, 0, none⟩), .string ⟨(nm kk).toArray⟩] w5 fun e w' => ∃ ac cc er, e = .returned (.tuple #[.slice ac xl cc, .int .i64 er]) ∧ Below w.heap.size w w' ∧ ∃ ad7 c7 g q pa pn pc ad8 c8, (∀ W' : World, (Instr.slice 32 (.slice an (L + 1) cn) none (some (.int .i64 (L : Int))) none).run Tryz.prog W' = .ok (.slice ad7 L c7) W') ∧
      (∀ k, Calls Tryz.prog 20 #[.slice ad7 L c7, .slice al L cl] (w'.drewN k) fun e w'' => e = .returned (.bool true) ∧ ∃ m, w'' = w'.drewN m) ∧
      (∀ W' : World, (Instr.indexAt 32 (.slice an (L + 1) cn) (.int .i64 (L : Int))).run Tryz.prog W' = .ok (.pointer (some ⟨g, q, none⟩)) W') ∧ w'.cell? ⟨g, q, none⟩ = some (.slice pa pn pc) ∧
      (∀ k, (convert 39 9 (.slice pa pn pc)).run Tryz.prog (w'.drewN k) = .ok (.string (Cd.Code.ofB (bI mo))) (w'.drewN k)) ∧
      (∀ k, (convert 39 9 (.slice a3 mo.length c3)).run Tryz.prog (w'.drewN k) = .ok (.string (Cd.Code.ofB (bI mo))) (w'.drewN k)) ∧
      (∀ W' : World, (Instr.slice 39 (.slice ac xl cc) none (some (.int .i64 (bl : Int))) none).run Tryz.prog W' = .ok (.slice ad8 bl c8) W') ∧
      (∀ k, (convert 39 9 (.slice ad8 bl c8)).run Tryz.prog (w'.drewN k) = .ok (.string (Cd.Code.ofB (bI B0))) (w'.drewN k)) ∧
      (∀ k, (convert 39 9 (.slice ab bl cb)).run Tryz.prog (w'.drewN k) = .ok (.string (Cd.Code.ofB (bI B0))) (w'.drewN k)) := fun {w5 wb5 F5 S S1 S2 al cl an cn ab cb} h5 hn5 hl5 hb5 => by
              have := wread_byt h5 (nm kk) (by omega)
              rw [hrd, ← hxl] at this
              refine this.mono ?_
              rintro e w' ⟨ad, c, h1, h2, h3, h4, h6⟩
              have hr : mo.length ≤ 9223372036854775807 := by have := HMX'.2; unfold rch at this; omega
              exact ⟨ad, c, _, h1, h2.bel, end_ok (hn5.grown h6) (hl5.grown h6) hL.symm hll hlf (HMX'.1.below h2.bel) hr (hb5.grown h6) h4 hbl.symm (by omega)⟩
            have hse := str_same mo mo
            have hd1 : decide (mo = mo) = true := by simp
            rw [hd1] at hse
            have hse2 := str_same B0 B0
            have hd2 : decide (B0 = B0) = true := by simp
            rw [hd2] at hse2
            generalize Cd.Code.ofB (bI mo) = X at *
            generalize Cd.Code.ofB (bI B0) = Y at *
            have hq9 : (((L + 1 : Nat) : Int) == ((L : Nat) : Int) + 1) = true := by simp
            have hwr : IntKind.i64.wrap ((L : Int) + 1) = (L : Int) + 1 := by rw [IntKind.wrap_i64]; omega
            have hLi : (L : Int) ≤ 1048576 := by omega
            have hfi : (bl : Int) < (xl : Int) := by omega
            have hfd : decide ((bl : Int) < (xl : Int)) = true := by simpa using hfi
            have hfd2 : decide (bl < xl) = true := by simpa using hfr
            clear hd lo bel hE hLk hLk3 hO hlf hL hB0 hbl hBl hrd hlen3 hX3 HMX HMX' HOS hd1 hd2 hsm hm3 hm hk3 hk4 hxl
            generalize nm kk = NM at *
            go_wp2_with (first
              | (go_at_call 12; (with_reducible refine (AP hW6 hA6 hb6 hlo6).mono ?_); rintro e w7 ⟨rfl, F7, hW7, hA7, hb7, hz7, hz7b⟩; clear AP hb6 hlo6 hA6 hW6)
              | (go_at_call 23; first
                | ((with_reducible refine (RD3 hW8 hN8 hA8 hb8).mono ?_); rintro e w9 ⟨ac, cc, er9, rfl, B9, ad7, c7, g, q, pa, pn, pc, ad8, c8, f1, f2, f3, f4, f5, f6, f7, f8, f9⟩; clear RD3 hW8 hN8 hA8 hb8)
                | ((with_reducible refine (RD hW5 hA5).mono ?_); rintro e w6 ⟨ab, cb, er, rfl, hW6, hA6, hb6, hlo6⟩; clear RD hW5 hA5))
              | (go_at_call 24; first
                | ((with_reducible refine (file_any hW8).mono ?_); rintro e w8b ⟨rfl, e8⟩; obtain rfl := e8.symm)
                | ((with_reducible refine (file_any hW5).mono ?_); rintro e w5b ⟨rfl, e5⟩; obtain rfl := e5.symm))
              | (go_at_call 20; (with_reducible refine LS4.mono ?_); rintro e w5 ⟨rfl, hg5⟩; have hW5 := hW4.grown hg5; have hA5 := hA4.grown hg5; clear LS4 hW4 hA4 hg5)
              | (go_at_call 10; first
                | ((with_reducible refine (OP3 hW7 hA7 hz7b hb7 hz7).mono ?_); rintro e w8 ⟨an, cn, F8, rfl, hW8, hN8, hA8, hb8⟩; clear OP3 hW7 hA7 hb7)
                | ((with_reducible refine (OP2 hW3 hA3).mono ?_); rintro e w4 ⟨am, cm, F4, rfl, hW4, hA4, LS4⟩; clear OP2 hW3 hA3)
                | ((with_reducible refine OP1.mono ?_); rintro e w3 ⟨al, cl, F3, rfl, hW3, hA3, _, _⟩; clear OP1)))
            go_quiet (exact f2 _)
            go_wp2
            go_ret
            exact ⟨rfl, below_drewN B9 _⟩
          · have AP : ∀ {w5 wb5 F5 va vb}, Wl w w5 b wb5 s' F5 (nm kk) (kk : Int) (L : Int) → Apt w w5 wb5 F5 va ls → Byt w5 w5.heap.size F5 vb B0 → (∀ j, vb.ownBlock = some j → wb5 + 1 ≤ j) → Calls Tryz.prog 12 #[.pointer (some ⟨wb5, 0, none⟩), .slice a3 mo.length c3] w5 fun e w' => ∃ E : Int, (E == 0) = false ∧ e = .returned (.int .i64 E) ∧ ∃ F', Wl w w' b wb5 s' F' (nm kk) (kk : Int) (L : Int) ∧ Apt w w' wb5 F' va ls ∧ Byt w' w5.heap.size F' vb B0 ∧ w5.heap.size ≤ w'.heap.size ∧ wb5 ≤ w'.heap.size := fun {w5 wb5 F5 va vb} h5 ha5 hb5 hlo5 => by
              have hr : mo.length ≤ 9223372036854775807 := by have := HMX'.2; unfold rch at this; omega
              refine (wappend_any h5 (by omega) (.slice a3 mo.length c3) mo (HMX'.1.below h5.bel) hr (by omega) (by omega)).mono ?_
              rintro e w' ⟨rfl, F', h1, h2, h3⟩
              rw [if_neg hE, putS_bad hE] at h1
              have := h5.lt
              have := h3.size
              exact ⟨_, by simpa using hE, rfl, F', h1, ha5.turn h3 (fun k hk => hk.imp id fun e => by omega) (fun k hk => (h2 k hk).imp id fun e => by omega), hb5.past hlo5 (by omega) h3 h2, h3.size, by omega⟩
            have OP3 : ∀ {w5 wb5 F5 S S2 va vb}, Wl w w5 b wb5 s' F5 (nm kk) (kk : Int) (L : Int) → Apt w w5 S F5 va ls → S ≤ w5.heap.size → Byt w5 S2 F5 vb B0 → S2 ≤ w5.heap.size → Calls Tryz.prog 10 #[.pointer (some ⟨b, 0, none⟩)] w5 fun e w' => ∃ ad c F', e = .returned (.tuple #[.pointer (some ⟨w5.heap.size, 0, none⟩), .slice ad L c, .int .i64 0]) ∧ Wl w w' b w5.heap.size s' F' (nm kk) (kk : Int) (L : Int) ∧ Apt w w' w'.heap.size F' (.slice ad L c) ls ∧ Apt w w' S F' va ls ∧ Byt w' S2 F' vb B0 := fun {w5 wb5 F5 S S2 va vb} h5 ha5 hs5 hb5 hs6 => by
              have := open_some2 h5.dk h5.lo h5.bel G (by omega) hLk.again
              rw [← hL] at this
              refine this.mono ?_
              rintro e w' ⟨ad, c, F', h1, h2, h3, h4, h6, h7⟩
              have hz : w.heap.size ≤ w5.heap.size := h5.bel.size
              exact ⟨ad, c, F', h1, h2, ⟨((h7.tight.low (by omega)).wide fun k hk => ⟨hk.1.2, hk.2⟩), fun j hj => ⟨h6 j hj, (h7.lt j hj).2⟩⟩, ha5.turn h4 (fun k hk => .inl hk) (fun k hk => (h3 k hk).imp id fun e => by omega), hb5.turn h4 (fun k hk => .inl hk) (fun k hk => (h3 k hk).imp id fun e => by omega)⟩
            have RD3 : ∀ {w5 wb5 F5 S S1 S2 al cl an cn ab cb}, Wl w w5 b wb5 s' F5 (nm kk) (kk : Int) (L : Int) → Apt w w5 S1 F5 (.slice an L cn) ls → Apt w w5 S F5 (.slice al L cl) ls → Byt w5 S2 F5 (.slice ab bl cb) B0 → Calls Tryz.prog 23 #[.pointer (some ⟨b, 0, none⟩), .string ⟨(nm kk).toArray⟩] w5 fun e w' => ∃ ac cc er, e = .returned (.tuple #[.slice ac bl cc, .int .i64 er]) ∧ Below w.heap.size w w' ∧ (Calls Tryz.prog 20 #[.slice an L cn, .slice al L cl] w' fun e w'' => e = .returned (.bool true) ∧ ∃ m, w'' = w'.drewN m) ∧
      (∀ k, (convert 39 9 (.slice ac bl cc)).run Tryz.prog (w'.drewN k) = .ok (.string (Cd.Code.ofB (bI B0))) (w'.drewN k)) ∧
      (∀ k, (convert 39 9 (.slice ab bl cb)).run Tryz.prog (w'.drewN k) = .ok (.string (Cd.Code.ofB (bI B0))) (w'.drewN k)) := fun {w5 wb5 F5 S S1 S2 al cl an cn ab cb} h5 hn5 hl5 hb5 => by
              have := wread_byt h5 (nm kk) (by omega)
              rw [← hB0, ← hbl] at this
              refine this.mono ?_
              rintro e w' ⟨ad, c, h1, h2, h3, h4, h6⟩
              exact ⟨ad, c, _, h1, h2.bel, lists_quiet _ _ ls w' (hn5.grown h6).rl (hl5.grown h6).rl (by omega) (fun l hl => by have := hlf l hl; omega), fun k => h3.str (by omega) k, fun k => (hb5.grown h6).str (by omega) k⟩
            have hse2 := str_same B0 B0
            have hd2 : decide (B0 = B0) = true := by simp
            rw [hd2] at hse2
            generalize Cd.Code.ofB (bI B0) = Y at *
            have hLi : (L : Int) ≤ 1048576 := by omega
            clear hd lo bel hE hLk hO hlf hL hB0 hbl hBl HMX HMX' HOS hd2 hsm hm hk3 hk4
            generalize nm kk = NM at *
            go_wp2_with (first
              | (go_at_call 12; (with_reducible refine (AP hW6 hA6 hb6 hlo6).mono ?_); rintro e w7 ⟨E7, hE7, rfl, F7, hW7, hA7, hb7, hz7, hz7b⟩; clear AP hb6 hlo6 hA6 hW6)
              | (go_at_call 23; first
                | ((with_reducible refine (RD3 hW8 hN8 hA8 hb8).mono ?_); rintro e w9 ⟨ac, cc, er9, rfl, B9, LS9, f8, f9⟩; clear RD3 hW8 hN8 hA8 hb8)
                | ((with_reducible refine (RD hW5 hA5).mono ?_); rintro e w6 ⟨ab, cb, er, rfl, hW6, hA6, hb6, hlo6⟩; clear RD hW5 hA5))
              | (go_at_call 24; first
                | ((with_reducible refine (file_any hW8).mono ?_); rintro e w8b ⟨rfl, e8⟩; obtain rfl := e8.symm)
                | ((with_reducible refine (file_any hW5).mono ?_); rintro e w5b ⟨rfl, e5⟩; obtain rfl := e5.symm))
              | (go_at_call 20; first
                | ((with_reducible refine LS9.mono ?_); rintro e w10 ⟨rfl, m10, rfl⟩; have f8' := f8 m10; have f9' := f9 m10)
                | ((with_reducible refine LS4.mono ?_); rintro e w5 ⟨rfl, hg5⟩; have hW5 := hW4.grown hg5; have hA5 := hA4.grown hg5; clear LS4 hW4 hA4 hg5))
              | (go_at_call 10; first
                | ((with_reducible refine (OP3 hW7 hA7 hz7b hb7 hz7).mono ?_); rintro e w8 ⟨an, cn, F8, rfl, hW8, hN8, hA8, hb8⟩; clear OP3 hW7 hA7 hb7)
                | ((with_reducible refine (OP2 hW3 hA3).mono ?_); rintro e w4 ⟨am, cm, F4, rfl, hW4, hA4, LS4⟩; clear OP2 hW3 hA3)
                | ((with_reducible refine OP1.mono ?_); rintro e w3 ⟨al, cl, F3, rfl, hW3, hA3, _, _⟩; clear OP1)))
            go_ret
            exact ⟨rfl, below_drewN B9 _⟩
end Go.Proofs.YtapdhkgeolcogaaGreatDoor
