/- Every script of insertions, cancels and advances: the statement's walk. -/
import Derived.Test.YtijgekdhjfbgkaaWInv2
import Derived.Deep.CutBlock
namespace Go.Proofs.Ytijgekdhjfbgkaa
open Go.RowKit Go.Sort Whl
set_option linter.unusedVariables false

/-- An operation whose guard is off. -/
theorem wpStill_off {P : Program} {ops : Array Oper} {w : World} {Q : Act → Prop} {a : Act} {o : Oper} {rest : List Oper} (hg : Region.wanted o (yielded ops a.tmps) = false) (h : wpStill P ops w Q rest (a.put o.dst undef)) : wpStill P ops w Q (o :: rest) a := by
  rw [wpStill, if_neg (by simp [hg])]
  exact h

set_option maxRecDepth 100000 in
set_option maxHeartbeats 1600000 in
theorem scripts_bad (now : Int) (va : Value) (h : now < 0 ∨ 226157759 < now) (w : World) :
    Calls Try.prog 3 #[.int .i64 now, va] w fun e w' => e = .returned (.bool true) ∧ Below w.heap.size w w' := by
  have hnot : ∀ (x : Bool) (w : World), (Op.unary .not (.bool x)).run Try.prog w = .ok (.bool (!x)) w := fun _ _ => rfl
  have AW := awake_any
  have NB := fun w => new_bad now h w
  by_cases h1 : now < 0
  · clear h
    go_enter Try.func3, Try.ntmps3
    go_wp2_with (first
      | (go_at_call 8; (with_reducible refine (AW _).mono ?_); rintro e w1 ⟨rfl, H1⟩)
      | (go_at_call 9; (with_reducible refine (NB _).mono ?_); rintro e w2 ⟨rfl, e2⟩; have e2' := e2.symm; clear e2; subst e2'))
    go_ret
    exact ⟨rfl, grown_below H1⟩
  · have d1 : decide (now < 0) = false := decide_eq_false h1
    have h2 : 226157759 < now := by omega
    clear h
    go_enter Try.func3, Try.ntmps3
    go_wp2_with (first
      | (go_at_call 8; (with_reducible refine (AW _).mono ?_); rintro e w1 ⟨rfl, H1⟩)
      | (go_at_call 9; (with_reducible refine (NB _).mono ?_); rintro e w2 ⟨rfl, e2⟩; have e2' := e2.symm; clear e2; subst e2'))
    go_ret
    exact ⟨rfl, grown_below H1⟩

set_option maxRecDepth 100000 in
set_option maxHeartbeats 12800000 in
theorem scripts_ok (now : Int) (ad : Option Addr) (n cp : Nat) (n0 : 0 ≤ now) (n1 : now ≤ 226157759) (w : World) (hr : Rd w (.slice ad n cp)) :
    Calls Try.prog 3 #[.int .i64 now, .slice ad n cp] w fun e w' => e = .returned (.bool true) ∧ Below w.heap.size w w' := by
  have hnot : ∀ (x : Bool) (w : World), (Op.unary .not (.bool x)).run Try.prog w = .ok (.bool (!x)) w := fun _ _ => rfl
  have AW := awake_any
  have NO := fun w => new_ok now n0 n1 w
  have d1 : decide (now < 0) = false := decide_eq_false (by omega)
  have d2 : decide (now > 226157759) = false := decide_eq_false (by omega)
  have d3 : decide (226157759 < now) = false := decide_eq_false (by omega)
  obtain ⟨ad', n', cp', e, hl, hrr⟩ := hr
  injection e with e1 e2 e3
  subst e1 e2 e3
  have HR : Hid _ := hrr
  clear hrr
  go_enter Try.func3, Try.ntmps3
  go_wp2_with (first
    | (go_at_call 8; (with_reducible refine (AW _).mono ?_); rintro e w1 ⟨rfl, K1⟩)
    | (go_at_call 9; (with_reducible refine (NO w1).mono ?_); rintro e w2 ⟨b, F1, rfl, h2, f2, H2⟩))
  obtain ⟨S, hD, hS'⟩ := Dr.start h2 f2 H2
  have KB := grown_below (grown_alloc (grown_more K1 H2 (by simp)) (.cells #[.int .i64 now, .slice none 0 0] 31))
  have hS : ∀ k, S k → w.heap.size ≤ k := fun k hk => by have := hS' k hk; have := K1.size; omega
  clear hS' f2 H2 NO AW h2
  generalize w2.heap.size = q at *
  go_loopw [8] (fun i wr => ∃ (j : Nat) (S : Nat → Prop) (nn : Int) (L : List It), j ≤ n ∧ j ≤ 400 ∧ i = .int .i64 j ∧ Dr S wr b nn L q nn L ∧ (∀ k, S k → w.heap.size ≤ k) ∧ Below w.heap.size w wr) (fun i _ => (500 - intOf i).toNat)
  case atStart => exact ⟨0, S, now, [], by omega, by omega, rfl, hD, hS, KB⟩
  case round =>
    obtain ⟨j, S, nn, L, hj1, hj2, rfl, hD, hS, KB⟩ := hrel
    have hok := hD.ok
    have hlen := hok.len
    by_cases hgo : j < n ∧ j < 400
    · obtain ⟨hlt, h4⟩ := hgo
      obtain ⟨g, o, kd, id, at_, tt, hix, c0, c1, c2, c3, hid⟩ := HR.out j hlt
      have hg : g < w.heap.size := World.block_lt_of_cell? w _ c0
      have x0 := (KB.cell (p := ⟨g, o, none⟩) hg).trans c0
      have x1 := (KB.cell (p := ⟨g, o + 1, none⟩) hg).trans c1
      have x2 := (KB.cell (p := ⟨g, o + 2, none⟩) hg).trans c2
      have x3 := (KB.cell (p := ⟨g, o + 3, none⟩) hg).trans c3
      clear c0 c1 c2 c3
      have hSlt := hD.lt
      have gS : ¬ S wr.heap.size := fun c => by have := hSlt _ c; omega
      have hgA := World.grownBy_alloc wr (Obj.cells #[.int .i64 kd, .int .i64 id, .int .i64 at_, .int .i64 tt] 35) none
      have DA : Dr S (wr.alloc (Obj.cells #[.int .i64 kd, .int .i64 id, .int .i64 at_, .int .i64 tt] 35)) b nn L q nn L := hD.grown hgA
      have KBA : Below w.heap.size w (wr.alloc (Obj.cells #[.int .i64 kd, .int .i64 id, .int .i64 at_, .int .i64 tt] 35)) := grown_low KB hgA
      have D0 : Dr S (wr.alloc (Obj.cells #[.int .i64 kd, .int .i64 id, .int .i64 at_, .int .i64 tt] 35)).drew b nn L q nn L := DA.grown (grown_drew (grown_refl _ none))
      have KB0 : Below w.heap.size w (wr.alloc (Obj.cells #[.int .i64 kd, .int .i64 id, .int .i64 at_, .int .i64 tt] 35)).drew := grown_low KBA (grown_drew (grown_refl _ none))
      have cy : (wr.alloc (Obj.cells #[.int .i64 kd, .int .i64 id, .int .i64 at_, .int .i64 tt] 35)).drew.cell? ⟨wr.heap.size, 1, none⟩ = some (.int .i64 id) := new_at wr rfl rfl
      have cz : (wr.alloc (Obj.cells #[.int .i64 kd, .int .i64 id, .int .i64 at_, .int .i64 tt] 35)).drew.cell? ⟨wr.heap.size, 2, none⟩ = some (.int .i64 at_) := new_at wr rfl rfl
      have ct : (wr.alloc (Obj.cells #[.int .i64 kd, .int .i64 id, .int .i64 at_, .int .i64 tt] 35)).cell? ⟨wr.heap.size, 3, none⟩ = some (.int .i64 tt) := new_at wr rfl rfl
      clear hgA hD KB
      go_upto_block 2 with fail
      go_cut [10, 11, 12, 13] from 42 to 126 (fun _ _ _ _ wx => ∃ (S : Nat → Prop) (nn : Int) (L : List It), Dr S wx b nn L q nn L ∧ (∀ k, S k → w.heap.size ≤ k) ∧ Below w.heap.size w wx)
      case first =>
        by_cases hk0 : kd = 0
        · subst hk0
          have I1 : ∀ {S w L2}, Dr S w b nn L q nn L2 → Calls Try.prog 10 #[.pointer (some ⟨b, 0, none⟩), .agg #[.int .i64 id, .int .i64 at_]] w fun e w' => e = .returned (.int .i64 (insE nn L (id, at_))) ∧ ∃ S', Dr S' w' b nn (insL nn L (id, at_)) q nn L2 ∧ (∀ k, S' k → S k ∨ w.heap.size ≤ k) ∧ Chg S w w' := fun h => dr_ins h (id, at_) hid
          have I2 : ∀ {S w L1}, Dr S w b nn L1 q nn L → Calls Try.prog 11 #[.pointer (some ⟨q, 0, none⟩), .agg #[.int .i64 id, .int .i64 at_]] w fun e w' => e = .returned (.int .i64 (insE nn L (id, at_))) ∧ ∃ S', Dr S' w' b nn L1 q nn (insL nn L (id, at_)) ∧ (∀ k, S' k → S k ∨ w.heap.size ≤ k) ∧ Chg S w w' := fun h => dr_rins h hok (id, at_)
          generalize insE nn L (id, at_) = EJ at I1 I2
          generalize insL nn L (id, at_) = LN at I1 I2
          have hEE : (EJ != EJ) = false := by simp
          go_upto_region 19 with fail
          clear ct DA KBA x0 x1 x2 x3
          go_region_with (first
            | (go_at_call 10; (with_reducible refine (I1 D0).mono ?_); rintro e w4 ⟨rfl, S4, D4, f4', C4⟩; have cy4 := C4.cell cy gS; have cz4 := C4.cell cz gS; have B4 := Chg.low KB0 C4 hS; have f4 : ∀ k, S4 k → w.heap.size ≤ k := (fun k hk => by rcases f4' k hk with e | e; exact hS k e; have := KB0.size; omega))
            | (go_at_call 11; (with_reducible refine (I2 D0).mono ?_); rintro e w5 ⟨rfl, S5, D5, f5', C5⟩; have cy5 := C5.cell cy gS; have cz5 := C5.cell cz gS; have B5 := Chg.low KB0 C5 hS; have f5 : ∀ k, S5 k → w.heap.size ≤ k := (fun k hk => by rcases f5' k hk with e | e; exact hS k e; have := KB0.size; omega))
            | (go_at_call 11; (with_reducible refine (I2 D4).mono ?_); rintro e w6 ⟨rfl, S6, D6, f6', C6⟩; have B6 := Chg.low B4 C6 f4; have f6 : ∀ k, S6 k → w.heap.size ≤ k := (fun k hk => by rcases f6' k hk with e | e; exact f4 k e; have := B4.size; omega))
            | (go_at_call 10; (with_reducible refine (I1 D5).mono ?_); rintro e w6 ⟨rfl, S6, D6, f6', C6⟩; have B6 := Chg.low B5 C6 f5; have f6 : ∀ k, S6 k → w.heap.size ≤ k := (fun k hk => by rcases f6' k hk with e | e; exact f5 k e; have := B5.size; omega)))
          all_goals
            go_wp2_with fail
            go_meet
            exact ⟨S6, nn, LN, D6, f6, B6⟩
        · have e0 : (kd == 0) = false := by simpa using hk0
          by_cases hk1 : kd = 1
          · subst hk1
            have I1 : ∀ {S w L2}, Dr S w b nn L q nn L2 → Calls Try.prog 12 #[.pointer (some ⟨b, 0, none⟩), .int .i64 id] w fun e w' => e = .returned (.bool (L.any fun a => a.1 == id)) ∧ ∃ S', Dr S' w' b nn (dropL id L) q nn L2 ∧ (∀ k, S' k → S k ∨ w.heap.size ≤ k) ∧ Chg S w w' := fun h => dr_can h id hid
            have I2 : ∀ {S w L1}, Dr S w b nn L1 q nn L → Calls Try.prog 13 #[.pointer (some ⟨q, 0, none⟩), .int .i64 id] w fun e w' => e = .returned (.bool (L.any fun a => a.1 == id)) ∧ ∃ S', Dr S' w' b nn L1 q nn (dropL id L) ∧ (∀ k, S' k → S k ∨ w.heap.size ≤ k) ∧ Chg S w w' := fun h => dr_rcan h hok id
            generalize (L.any fun a => a.1 == id) = EJ at I1 I2
            generalize dropL id L = LN at I1 I2
            have hEE : (EJ != EJ) = false := by simp
            go_upto_region 22 with fail
            clear ct DA KBA x0 x1 x2 x3
            go_region_with (first
              | (go_at_call 12; (with_reducible refine (I1 D0).mono ?_); rintro e w4 ⟨rfl, S4, D4, f4', C4⟩; have cy4 := C4.cell cy gS; have cz4 := C4.cell cz gS; have B4 := Chg.low KB0 C4 hS; have f4 : ∀ k, S4 k → w.heap.size ≤ k := (fun k hk => by rcases f4' k hk with e | e; exact hS k e; have := KB0.size; omega))
              | (go_at_call 13; (with_reducible refine (I2 D0).mono ?_); rintro e w5 ⟨rfl, S5, D5, f5', C5⟩; have cy5 := C5.cell cy gS; have cz5 := C5.cell cz gS; have B5 := Chg.low KB0 C5 hS; have f5 : ∀ k, S5 k → w.heap.size ≤ k := (fun k hk => by rcases f5' k hk with e | e; exact hS k e; have := KB0.size; omega))
              | (go_at_call 13; (with_reducible refine (I2 D4).mono ?_); rintro e w6 ⟨rfl, S6, D6, f6', C6⟩; have B6 := Chg.low B4 C6 f4; have f6 : ∀ k, S6 k → w.heap.size ≤ k := (fun k hk => by rcases f6' k hk with e | e; exact f4 k e; have := B4.size; omega))
              | (go_at_call 12; (with_reducible refine (I1 D5).mono ?_); rintro e w6 ⟨rfl, S6, D6, f6', C6⟩; have B6 := Chg.low B5 C6 f5; have f6 : ∀ k, S6 k → w.heap.size ≤ k := (fun k hk => by rcases f6' k hk with e | e; exact f5 k e; have := B5.size; omega)))
            all_goals
              go_wp2_with fail
              go_meet
              exact ⟨S6, nn, LN, D6, f6, B6⟩
          · have e1 : (kd == 1) = false := by simpa using hk1
            have ct' := ct
            clear cy cz D0 KB0
            by_cases hbad : tt < nn ∨ 226157759 < tt
            · have A1 := dr_bad DA tt hbad
              have A2 := dr_rbad DA tt hbad
              have IT : ∀ w, Calls Try.prog 16 #[.slice none 0 0, .slice none 0 0] w fun e w' => e = .returned (.bool true) ∧ ∃ n, w' = w.drewN n := fun w => items_same _ _ [] (by simp) w (Ri.nil _ _ _) (Ri.nil _ _ _)
              clear hbad
              go_wp2_with (first
                | (go_at_call 14; (with_reducible refine A1.mono ?_); rintro e w4 ⟨rfl, e4⟩; clear A1; subst e4)
                | (go_at_call 15; (with_reducible refine A2.mono ?_); rintro e w4 ⟨rfl, e4⟩; clear A2; subst e4)
                | (go_at_call 16; (with_reducible refine (IT _).mono ?_); rintro e w5 ⟨rfl, n5, e5⟩; have D5 : Dr S w5 b nn L q nn L := (by rw [e5]; exact DA.grown (grown_drewN (grown_refl _ _) _)); have B5 : Below w.heap.size w w5 := (by rw [e5]; exact grown_low KBA (grown_drewN (grown_refl _ _) _)); clear e5))
              clear DA KBA ct ct'
              go_meet
              exact ⟨S, nn, L, D5, hS, B5⟩
            · have A1 := dr_adv DA tt (by omega) (by omega)
              have A2 : ∀ {S w n1 L1}, Dr S w b n1 L1 q nn L → Calls Try.prog 15 #[.pointer (some ⟨q, 0, none⟩), .int .i64 tt] w fun e w' => ∃ ad m c, e = .returned (.tuple #[.slice ad m c, .int .i64 0]) ∧ w'.ownsRow w.heap.size 33 2 (.slice ad m c) (dueL tt L).length (cells (dueL tt L)) ∧ ∃ S', Dr S' w' b n1 L1 q tt (restL tt L) ∧ (∀ k, S' k → S k ∨ w.heap.size ≤ k) ∧ (∀ k, (Value.slice ad m c).ownBlock = some k → ¬ S' k) ∧ Chg S w w' := fun h => dr_radv h hok tt (by omega) (by omega)
              have hdl : (dueL tt L).length ≤ 4096 := Nat.le_trans (List.length_filter_le _ _) hlen
              have IT : ∀ {w va vb}, Ri w va (dueL tt L) → Ri w vb (dueL tt L) → Calls Try.prog 16 #[va, vb] w fun e w' => e = .returned (.bool true) ∧ ∃ n, w' = w.drewN n := fun h1 h2 => items_same _ _ _ (by omega) _ h1 h2
              clear hbad
              generalize dueL tt L = DL at *
              generalize restL tt L = RL at *
              go_wp2_with (first
                | (go_at_call 14; (with_reducible refine A1.mono ?_); rintro e w4 ⟨a4, m4, c4, rfl, O4, S4, D4, f4', r4, C4⟩; clear A1; have ct4 := C4.cell ct gS; have B4 := Chg.low KBA C4 hS; have f4 : ∀ k, S4 k → w.heap.size ≤ k := (fun k hk => by rcases f4' k hk with e | e; exact hS k e; have := KBA.size; omega))
                | (go_at_call 15; (with_reducible refine (A2 D4).mono ?_); rintro e w6 ⟨a6, m6, c6, rfl, O6, S6, D6, f6', r6, C6⟩; clear A2; have B6 := Chg.low B4 C6 f4; have f6 : ∀ k, S6 k → w.heap.size ≤ k := (fun k hk => by rcases f6' k hk with e | e; exact f4 k e; have := B4.size; omega); have R4 := (Ri.of_own O4).kept C6 r4; have R6 := Ri.of_own O6)
                | (go_at_call 16; (with_reducible refine (IT R4 R6).mono ?_); rintro e w5 ⟨rfl, n5, e5⟩; have D5 : Dr S6 w5 b tt RL q tt RL := (by rw [e5]; exact D6.grown (grown_drewN (grown_refl _ _) _)); have B5 : Below w.heap.size w w5 := (by rw [e5]; exact grown_low B6 (grown_drewN (grown_refl _ _) _)); clear e5))
              clear DA KBA ct ct'
              go_meet
              exact ⟨S6, tt, RL, D5, f6, B5⟩
      case rest =>
        obtain ⟨S5, n5, L5, D5, f5, B5⟩ := hcut
        clear DA D0 KBA KB0 cy cz ct x0 x1 x2 x3 hok hlen
        have hlenX := D5.ok.len
        have D7 : Dr S5 wc.drew b n5 L5 q n5 L5 := D5.grown (grown_drew (grown_refl wc none))
        have B7 : Below w.heap.size w wc.drew := grown_low B5 (grown_drew (grown_refl wc none))
        have IS : ∀ {w va vb}, Ri w va L5 → Ri w vb L5 → Calls Try.prog 16 #[va, vb] w fun e w' => e = .returned (.bool true) ∧ ∃ n, w' = w.drewN n := fun h1 h2 => items_same _ _ _ (by omega) _ h1 h2
        obtain ⟨vq, cq1, Rq, bq, sq⟩ := D7.q1
        have cq0 := D7.q0
        have cw0 := D5.q0
        have hnn : (n5 != n5) = false := by simp
        have NW : ∀ n, Calls Try.prog 17 #[.pointer (some ⟨b, 0, none⟩)] (wc.drewN n) fun e w' => e = .returned (.int .i64 n5) ∧ w' = wc.drewN n := fun n => dr_now (D5.grown (grown_drewN (grown_refl wc none) n))
        have HD5 : Hid (Dr S5 wc b n5 L5 q n5 L5) := D5
        have HB5 : Hid (Below w.heap.size w wc) := B5
        clear D5 B5
        obtain ⟨tm, htm⟩ : ∃ tm : Int, (j : Int).tmod 16 = tm := ⟨_, rfl⟩
        have HJ : Hid (j + 1 ≤ n ∧ j + 1 ≤ 400) := ⟨by omega, by omega⟩
        cases hB : (tm == 0) with
        | false =>
          go_upto_region 24 with fail
          clear hnot d1 d2 d3 hl HR K1 hix hid hg hSlt gS hS hD KB hj1 IS cq1 Rq bq sq B7 hj2 hlt n0 n1 D7
          go_quiet ((go_at_call 17; exact Calls.quiet_of_same (NW _)))
          go_wp2_with fail
          go_roundw
          case rel => exact ⟨j + 1, S5, n5, L5, HJ.out.1, HJ.out.2, by go_num, HD5.out.grown (by first | exact grown_drewN (grown_refl _ none) _ | exact grown_drewN (grown_drew (grown_refl _ none)) _ | exact grown_drew (grown_refl _ none)), f5, grown_low HB5.out (by first | exact grown_drewN (grown_refl _ none) _ | exact grown_drewN (grown_drew (grown_refl _ none)) _ | exact grown_drew (grown_refl _ none))⟩
          case measure => have := HJ.out; simp [intOf]; omega
        | true =>
          go_upto_region 24 with fail
          refine wp_region_each 105 22 (by kernel_rfl) rfl (Nat.le_of_ble_eq_true rfl) rfl (back_of (by kernel_rfl)) (fun i v w => match i with
            | 0 => v = .pointer (some ⟨b, 0, none⟩)
            | 1 => v = .int .i64 n5
            | 2 => v = .pointer (some ⟨q, 0, none⟩)
            | 3 => v = .pointer (some ⟨q, 0, none⟩)
            | 4 => v = .pointer (some ⟨q, 0, none⟩)
            | 5 => v = .int .i64 n5
            | 6 => v = .bool false
            | 7 => v = .bool false
            | 8 => v = .int .i64 (j : Int)
            | 9 => v = .int .i64 tm
            | 10 => v = .bool true
            | 11 => v = .bool true
            | 12 => v = .pointer (some ⟨b, 0, none⟩)
            | 13 => Ri w v L5
            | 14 => v = .pointer (some ⟨q, 0, none⟩)
            | 15 => v = .pointer (some ⟨q, 0, none⟩)
            | 16 => v = .pointer (some ⟨q, 1, none⟩)
            | 17 => v = vq
            | 18 => v = .bool true
            | 19 => v = .bool false
            | 20 => v = .bool false
            | _ => v = .bool false) ?_ ?_ ?_
          · intro i v w w' g h
            match i with
            | 0 => exact h
            | 1 => exact h
            | 2 => exact h
            | 3 => exact h
            | 4 => exact h
            | 5 => exact h
            | 6 => exact h
            | 7 => exact h
            | 8 => exact h
            | 9 => exact h
            | 10 => exact h
            | 11 => exact h
            | 12 => exact h
            | 13 => exact Ri.grown h g
            | 14 => exact h
            | 15 => exact h
            | 16 => exact h
            | 17 => exact h
            | 18 => exact h
            | 19 => exact h
            | 20 => exact h
            | n + 21 => exact h
          · intro i o ho a w1 g1 hout hin K hK
            match i with
            | 0 =>
              have ho' := Option.some.inj ho
              subst ho'
              refine wpOp_on rfl (wanted_none rfl) ?_
              have xo : a.eval (.tmp 5) = .pointer (some ⟨b, 0, none⟩) := ev_of (hout 5 (.inl (by decide)))
              refine wp_move rfl ?_
              rw [xo]
              exact hK _ w1 rfl (grown_refl _ _)
            | 1 =>
              have ho' := Option.some.inj ho
              subst ho'
              obtain ⟨v0, t0, e0⟩ := hin ⟨0, .data⟩ (by simp) rfl
              have e0' : v0 = .pointer (some ⟨b, 0, none⟩) := e0
              subst e0'
              have x0 : a.eval (.tmp 105) = .pointer (some ⟨b, 0, none⟩) := ev_of t0
              have s0 : a.tmps[105]? = some (.pointer (some ⟨b, 0, none⟩)) := t0
              refine wpOp_on rfl (wanted_none rfl) ?_
              refine wp_callf rfl (f := 17) (args := #[.pointer (some ⟨b, 0, none⟩)]) ?_ (dr_now (D7.grown g1)) ?_
              · simp only [resolve, invoke]; go_simp
              · rintro e w' ⟨rfl, rfl⟩; exact ⟨_, rfl, hK _ _ rfl (grown_refl _ _)⟩
            | 2 =>
              have ho' := Option.some.inj ho
              subst ho'
              refine wpOp_on rfl (wanted_none rfl) ?_
              have xo : a.eval (.tmp 7) = .pointer (some ⟨q, 0, none⟩) := ev_of (hout 7 (.inl (by decide)))
              refine wp_move rfl ?_
              rw [xo]
              exact hK _ w1 rfl (grown_refl _ _)
            | 3 =>
              have ho' := Option.some.inj ho
              subst ho'
              obtain ⟨v2, t2, e2⟩ := hin ⟨2, .data⟩ (by simp) rfl
              have e2' : v2 = .pointer (some ⟨q, 0, none⟩) := e2
              subst e2'
              have x2 : a.eval (.tmp 107) = .pointer (some ⟨q, 0, none⟩) := ev_of t2
              have s2 : a.tmps[107]? = some (.pointer (some ⟨q, 0, none⟩)) := t2
              refine wpOp_on rfl (wanted_none rfl) ?_
              exact wp_nil _ rfl x2 (hK _ w1 rfl (grown_refl _ _))
            | 4 =>
              have ho' := Option.some.inj ho
              subst ho'
              obtain ⟨v3, t3, e3⟩ := hin ⟨3, .data⟩ (by simp) rfl
              have e3' : v3 = .pointer (some ⟨q, 0, none⟩) := e3
              subst e3'
              have x3 : a.eval (.tmp 108) = .pointer (some ⟨q, 0, none⟩) := ev_of t3
              have s3 : a.tmps[108]? = some (.pointer (some ⟨q, 0, none⟩)) := t3
              refine wpOp_on rfl (wanted_none rfl) ?_
              refine wp_field (v := .pointer (some ⟨q, 0, none⟩)) rfl ?_ (hK _ w1 rfl (grown_refl _ _))
              rw [x3]
              go_simp
            | 5 =>
              have ho' := Option.some.inj ho
              subst ho'
              obtain ⟨v4, t4, e4⟩ := hin ⟨4, .data⟩ (by simp) rfl
              have e4' : v4 = .pointer (some ⟨q, 0, none⟩) := e4
              subst e4'
              have x4 : a.eval (.tmp 109) = .pointer (some ⟨q, 0, none⟩) := ev_of t4
              have s4 : a.tmps[109]? = some (.pointer (some ⟨q, 0, none⟩)) := t4
              refine wpOp_on rfl (wanted_none rfl) ?_
              have cc := g1.cell cq0 (by simp)
              refine wp_load (v := .int .i64 n5) rfl ?_ (hK _ w1 rfl (grown_refl _ _))
              rw [x4]
              go_simp
            | 6 =>
              have ho' := Option.some.inj ho
              subst ho'
              obtain ⟨v1, t1, e1⟩ := hin ⟨1, .data⟩ (by simp) rfl
              have e1' : v1 = .int .i64 n5 := e1
              subst e1'
              have x1 : a.eval (.tmp 106) = .int .i64 n5 := ev_of t1
              have s1 : a.tmps[106]? = some (.int .i64 n5) := t1
              obtain ⟨v5, t5, e5⟩ := hin ⟨5, .data⟩ (by simp) rfl
              have e5' : v5 = .int .i64 n5 := e5
              subst e5'
              have x5 : a.eval (.tmp 110) = .int .i64 n5 := ev_of t5
              have s5 : a.tmps[110]? = some (.int .i64 n5) := t5
              refine wpOp_on rfl (wanted_none rfl) ?_
              refine wp_bin (v := .bool false) rfl ?_ ?_ (hK _ w1 rfl (grown_refl _ _))
              · rw [x1, x5]; go_simp
              · rw [x1, x5]; go_simp
            | 7 =>
              have ho' := Option.some.inj ho
              subst ho'
              obtain ⟨v6, t6, e6⟩ := hin ⟨6, .data⟩ (by simp) rfl
              have e6' : v6 = .bool false := e6
              subst e6'
              have x6 : a.eval (.tmp 111) = .bool false := ev_of t6
              have s6 : a.tmps[111]? = some (.bool false) := t6
              refine wpOp_on rfl (wanted_none rfl) ?_
              refine wp_move rfl ?_
              rw [x6]
              exact hK _ w1 rfl (grown_refl _ _)
            | 8 =>
              have ho' := Option.some.inj ho
              subst ho'
              obtain ⟨v7, t7, e7⟩ := hin ⟨7, .guard⟩ (by simp) rfl
              have e7' : v7 = .bool false := e7
              subst e7'
              have x7 : a.eval (.tmp 112) = .bool false := ev_of t7
              have s7 : a.tmps[112]? = some (.bool false) := t7
              refine wpOp_on rfl (wanted_some rfl (yielded_of (d := 112) rfl t7)) ?_
              have xo : a.eval (.tmp 8) = .int .i64 (j : Int) := ev_of (hout 8 (.inl (by decide)))
              refine wp_move rfl ?_
              rw [xo]
              exact hK _ w1 rfl (grown_refl _ _)
            | 9 =>
              have ho' := Option.some.inj ho
              subst ho'
              obtain ⟨v7, t7, e7⟩ := hin ⟨7, .guard⟩ (by simp) rfl
              have e7' : v7 = .bool false := e7
              subst e7'
              have x7 : a.eval (.tmp 112) = .bool false := ev_of t7
              have s7 : a.tmps[112]? = some (.bool false) := t7
              obtain ⟨v8, t8, e8⟩ := hin ⟨8, .data⟩ (by simp) rfl
              have e8' : v8 = .int .i64 (j : Int) := e8
              subst e8'
              have x8 : a.eval (.tmp 113) = .int .i64 (j : Int) := ev_of t8
              have s8 : a.tmps[113]? = some (.int .i64 (j : Int)) := t8
              refine wpOp_on rfl (wanted_some rfl (yielded_of (d := 112) rfl t7)) ?_
              refine wp_bin (v := .int .i64 tm) rfl ?_ ?_ (hK _ w1 rfl (grown_refl _ _))
              · rw [x8]; go_simp
              · rw [x8]; go_simp
            | 10 =>
              have ho' := Option.some.inj ho
              subst ho'
              obtain ⟨v7, t7, e7⟩ := hin ⟨7, .guard⟩ (by simp) rfl
              have e7' : v7 = .bool false := e7
              subst e7'
              have x7 : a.eval (.tmp 112) = .bool false := ev_of t7
              have s7 : a.tmps[112]? = some (.bool false) := t7
              obtain ⟨v9, t9, e9⟩ := hin ⟨9, .data⟩ (by simp) rfl
              have e9' : v9 = .int .i64 tm := e9
              subst e9'
              have x9 : a.eval (.tmp 114) = .int .i64 tm := ev_of t9
              have s9 : a.tmps[114]? = some (.int .i64 tm) := t9
              refine wpOp_on rfl (wanted_some rfl (yielded_of (d := 112) rfl t7)) ?_
              refine wp_bin (v := .bool true) rfl ?_ ?_ (hK _ w1 rfl (grown_refl _ _))
              · rw [x9]; go_simp
              · rw [x9]; go_simp
            | 11 =>
              have ho' := Option.some.inj ho
              subst ho'
              obtain ⟨v7, t7, e7⟩ := hin ⟨7, .guard⟩ (by simp) rfl
              have e7' : v7 = .bool false := e7
              subst e7'
              have x7 : a.eval (.tmp 112) = .bool false := ev_of t7
              have s7 : a.tmps[112]? = some (.bool false) := t7
              obtain ⟨v10, t10, e10⟩ := hin ⟨10, .data⟩ (by simp) rfl
              have e10' : v10 = .bool true := e10
              subst e10'
              have x10 : a.eval (.tmp 115) = .bool true := ev_of t10
              have s10 : a.tmps[115]? = some (.bool true) := t10
              refine wpOp_on rfl (wanted_some rfl (yielded_of (d := 112) rfl t7)) ?_
              refine wp_move rfl ?_
              rw [x10]
              exact hK _ w1 rfl (grown_refl _ _)
            | 12 =>
              have ho' := Option.some.inj ho
              subst ho'
              obtain ⟨v11, t11, e11⟩ := hin ⟨11, .guard⟩ (by simp) rfl
              have e11' : v11 = .bool true := e11
              subst e11'
              have x11 : a.eval (.tmp 116) = .bool true := ev_of t11
              have s11 : a.tmps[116]? = some (.bool true) := t11
              refine wpOp_on rfl (wanted_some rfl (yielded_of (d := 116) rfl t11)) ?_
              have xo : a.eval (.tmp 5) = .pointer (some ⟨b, 0, none⟩) := ev_of (hout 5 (.inl (by decide)))
              refine wp_move rfl ?_
              rw [xo]
              exact hK _ w1 rfl (grown_refl _ _)
            | 13 =>
              have ho' := Option.some.inj ho
              subst ho'
              obtain ⟨v11, t11, e11⟩ := hin ⟨11, .guard⟩ (by simp) rfl
              have e11' : v11 = .bool true := e11
              subst e11'
              have x11 : a.eval (.tmp 116) = .bool true := ev_of t11
              have s11 : a.tmps[116]? = some (.bool true) := t11
              obtain ⟨v12, t12, e12⟩ := hin ⟨12, .data⟩ (by simp) rfl
              have e12' : v12 = .pointer (some ⟨b, 0, none⟩) := e12
              subst e12'
              have x12 : a.eval (.tmp 117) = .pointer (some ⟨b, 0, none⟩) := ev_of t12
              have s12 : a.tmps[117]? = some (.pointer (some ⟨b, 0, none⟩)) := t12
              refine wpOp_on rfl (wanted_some rfl (yielded_of (d := 116) rfl t11)) ?_
              refine wp_callf rfl (f := 18) (args := #[.pointer (some ⟨b, 0, none⟩)]) ?_ (dr_wait (D7.grown g1)) ?_
              · simp only [resolve, invoke]; go_simp
              · rintro e w' ⟨a9, m9, c9, rfl, O9, G9⟩; exact ⟨_, rfl, hK _ _ (Ri.of_own O9) G9⟩
            | 14 =>
              have ho' := Option.some.inj ho
              subst ho'
              obtain ⟨v11, t11, e11⟩ := hin ⟨11, .guard⟩ (by simp) rfl
              have e11' : v11 = .bool true := e11
              subst e11'
              have x11 : a.eval (.tmp 116) = .bool true := ev_of t11
              have s11 : a.tmps[116]? = some (.bool true) := t11
              refine wpOp_on rfl (wanted_some rfl (yielded_of (d := 116) rfl t11)) ?_
              have xo : a.eval (.tmp 7) = .pointer (some ⟨q, 0, none⟩) := ev_of (hout 7 (.inl (by decide)))
              refine wp_move rfl ?_
              rw [xo]
              exact hK _ w1 rfl (grown_refl _ _)
            | 15 =>
              have ho' := Option.some.inj ho
              subst ho'
              obtain ⟨v11, t11, e11⟩ := hin ⟨11, .guard⟩ (by simp) rfl
              have e11' : v11 = .bool true := e11
              subst e11'
              have x11 : a.eval (.tmp 116) = .bool true := ev_of t11
              have s11 : a.tmps[116]? = some (.bool true) := t11
              obtain ⟨v14, t14, e14⟩ := hin ⟨14, .data⟩ (by simp) rfl
              have e14' : v14 = .pointer (some ⟨q, 0, none⟩) := e14
              subst e14'
              have x14 : a.eval (.tmp 119) = .pointer (some ⟨q, 0, none⟩) := ev_of t14
              have s14 : a.tmps[119]? = some (.pointer (some ⟨q, 0, none⟩)) := t14
              refine wpOp_on rfl (wanted_some rfl (yielded_of (d := 116) rfl t11)) ?_
              exact wp_nil _ rfl x14 (hK _ w1 rfl (grown_refl _ _))
            | 16 =>
              have ho' := Option.some.inj ho
              subst ho'
              obtain ⟨v11, t11, e11⟩ := hin ⟨11, .guard⟩ (by simp) rfl
              have e11' : v11 = .bool true := e11
              subst e11'
              have x11 : a.eval (.tmp 116) = .bool true := ev_of t11
              have s11 : a.tmps[116]? = some (.bool true) := t11
              obtain ⟨v15, t15, e15⟩ := hin ⟨15, .data⟩ (by simp) rfl
              have e15' : v15 = .pointer (some ⟨q, 0, none⟩) := e15
              subst e15'
              have x15 : a.eval (.tmp 120) = .pointer (some ⟨q, 0, none⟩) := ev_of t15
              have s15 : a.tmps[120]? = some (.pointer (some ⟨q, 0, none⟩)) := t15
              refine wpOp_on rfl (wanted_some rfl (yielded_of (d := 116) rfl t11)) ?_
              refine wp_field (v := .pointer (some ⟨q, 1, none⟩)) rfl ?_ (hK _ w1 rfl (grown_refl _ _))
              rw [x15]
              go_simp
            | 17 =>
              have ho' := Option.some.inj ho
              subst ho'
              obtain ⟨v11, t11, e11⟩ := hin ⟨11, .guard⟩ (by simp) rfl
              have e11' : v11 = .bool true := e11
              subst e11'
              have x11 : a.eval (.tmp 116) = .bool true := ev_of t11
              have s11 : a.tmps[116]? = some (.bool true) := t11
              obtain ⟨v16, t16, e16⟩ := hin ⟨16, .data⟩ (by simp) rfl
              have e16' : v16 = .pointer (some ⟨q, 1, none⟩) := e16
              subst e16'
              have x16 : a.eval (.tmp 121) = .pointer (some ⟨q, 1, none⟩) := ev_of t16
              have s16 : a.tmps[121]? = some (.pointer (some ⟨q, 1, none⟩)) := t16
              refine wpOp_on rfl (wanted_some rfl (yielded_of (d := 116) rfl t11)) ?_
              have cc := g1.cell cq1 (by simp)
              refine wp_load (v := vq) rfl ?_ (hK _ w1 rfl (grown_refl _ _))
              rw [x16]
              go_simp
            | 18 =>
              have ho' := Option.some.inj ho
              subst ho'
              obtain ⟨v11, t11, e11⟩ := hin ⟨11, .guard⟩ (by simp) rfl
              have e11' : v11 = .bool true := e11
              subst e11'
              have x11 : a.eval (.tmp 116) = .bool true := ev_of t11
              have s11 : a.tmps[116]? = some (.bool true) := t11
              obtain ⟨v13, t13, r13⟩ := hin ⟨13, .data⟩ (by simp) rfl
              obtain ⟨v17, t17, e17⟩ := hin ⟨17, .data⟩ (by simp) rfl
              have e17' : vq = v17 := Eq.symm e17
              subst e17'
              have x17 : a.eval (.tmp 122) = vq := ev_of t17
              have s17 : a.tmps[122]? = some vq := t17
              refine wpOp_on rfl (wanted_some rfl (yielded_of (d := 116) rfl t11)) ?_
              have s13 : a.tmps[118]? = some v13 := t13
              refine wp_callf rfl (f := 16) (args := #[v13, vq]) ?_ (IS r13 (Rq.grown g1)) ?_
              · simp only [resolve, invoke]; go_simp
              · rintro e w' ⟨rfl, n10, e10⟩; exact ⟨_, rfl, hK _ _ rfl (by rw [e10]; exact grown_drewN (grown_refl _ _) _)⟩
            | 19 =>
              have ho' := Option.some.inj ho
              subst ho'
              obtain ⟨v11, t11, e11⟩ := hin ⟨11, .guard⟩ (by simp) rfl
              have e11' : v11 = .bool true := e11
              subst e11'
              have x11 : a.eval (.tmp 116) = .bool true := ev_of t11
              have s11 : a.tmps[116]? = some (.bool true) := t11
              obtain ⟨v18, t18, e18⟩ := hin ⟨18, .data⟩ (by simp) rfl
              have e18' : v18 = .bool true := e18
              subst e18'
              have x18 : a.eval (.tmp 123) = .bool true := ev_of t18
              have s18 : a.tmps[123]? = some (.bool true) := t18
              refine wpOp_on rfl (wanted_some rfl (yielded_of (d := 116) rfl t11)) ?_
              refine wp_un (v := .bool false) rfl ?_ (hK _ w1 rfl (grown_refl _ _))
              rw [x18]; go_simp
            | 20 =>
              have ho' := Option.some.inj ho
              subst ho'
              obtain ⟨v7, t7, e7⟩ := hin ⟨7, .guard⟩ (by simp) rfl
              have e7' : v7 = .bool false := e7
              subst e7'
              have x7 : a.eval (.tmp 112) = .bool false := ev_of t7
              have s7 : a.tmps[112]? = some (.bool false) := t7
              obtain ⟨v11, t11, e11⟩ := hin ⟨11, .data⟩ (by simp) rfl
              have e11' : v11 = .bool true := e11
              subst e11'
              have x11 : a.eval (.tmp 116) = .bool true := ev_of t11
              have s11 : a.tmps[116]? = some (.bool true) := t11
              obtain ⟨v19, t19, e19⟩ := hin ⟨19, .data⟩ (by simp) rfl
              have e19' : v19 = .bool false := e19
              subst e19'
              have x19 : a.eval (.tmp 124) = .bool false := ev_of t19
              have s19 : a.tmps[124]? = some (.bool false) := t19
              refine wpOp_on rfl (wanted_some rfl (yielded_of (d := 112) rfl t7)) ?_
              refine wp_pick true rfl x11 ?_
              rw [if_pos rfl, x19]
              exact hK _ w1 rfl (grown_refl _ _)
            | 21 =>
              have ho' := Option.some.inj ho
              subst ho'
              obtain ⟨v7, t7, e7⟩ := hin ⟨7, .data⟩ (by simp) rfl
              have e7' : v7 = .bool false := e7
              subst e7'
              have x7 : a.eval (.tmp 112) = .bool false := ev_of t7
              have s7 : a.tmps[112]? = some (.bool false) := t7
              obtain ⟨v20, t20, e20⟩ := hin ⟨20, .data⟩ (by simp) rfl
              have e20' : v20 = .bool false := e20
              subst e20'
              have x20 : a.eval (.tmp 125) = .bool false := ev_of t20
              have s20 : a.tmps[125]? = some (.bool false) := t20
              refine wpOp_on rfl (wanted_none rfl) ?_
              refine wp_pick false rfl x7 ?_
              rw [if_neg (by decide), x20]
              exact hK _ w1 rfl (grown_refl _ _)
            | n + 22 => exact absurd (Array.getElem?_eq_some_iff.1 ho).1 (by simp)
          · intro a w1 hd hsz g1 hout hin
            obtain ⟨v0, t0, e0⟩ := hin 0 (by decide)
            obtain ⟨v1, t1, e1⟩ := hin 1 (by decide)
            obtain ⟨v2, t2, e2⟩ := hin 2 (by decide)
            obtain ⟨v3, t3, e3⟩ := hin 3 (by decide)
            obtain ⟨v4, t4, e4⟩ := hin 4 (by decide)
            obtain ⟨v5, t5, e5⟩ := hin 5 (by decide)
            obtain ⟨v6, t6, e6⟩ := hin 6 (by decide)
            obtain ⟨v7, t7, e7⟩ := hin 7 (by decide)
            obtain ⟨v8, t8, e8⟩ := hin 8 (by decide)
            obtain ⟨v9, t9, e9⟩ := hin 9 (by decide)
            obtain ⟨v10, t10, e10⟩ := hin 10 (by decide)
            obtain ⟨v11, t11, e11⟩ := hin 11 (by decide)
            obtain ⟨v12, t12, e12⟩ := hin 12 (by decide)
            obtain ⟨v13, t13, e13⟩ := hin 13 (by decide)
            obtain ⟨v14, t14, e14⟩ := hin 14 (by decide)
            obtain ⟨v15, t15, e15⟩ := hin 15 (by decide)
            obtain ⟨v16, t16, e16⟩ := hin 16 (by decide)
            obtain ⟨v17, t17, e17⟩ := hin 17 (by decide)
            obtain ⟨v18, t18, e18⟩ := hin 18 (by decide)
            obtain ⟨v19, t19, e19⟩ := hin 19 (by decide)
            obtain ⟨v20, t20, e20⟩ := hin 20 (by decide)
            obtain ⟨v21, t21, e21⟩ := hin 21 (by decide)
            have e21' : v21 = .bool false := e21
            subst e21'
            have ha := act_eq (m := 105) (n := 22) [v0, v1, v2, v3, v4, v5, v6, v7, v8, v9, v10, v11, v12, v13, v14, v15, v16, v17, v18, v19, v20, .bool false] rfl (Nat.le_of_ble_eq_true rfl) hd hsz hout (fun i hi => by match i, hi with | 0, _ => exact t0 | 1, _ => exact t1 | 2, _ => exact t2 | 3, _ => exact t3 | 4, _ => exact t4 | 5, _ => exact t5 | 6, _ => exact t6 | 7, _ => exact t7 | 8, _ => exact t8 | 9, _ => exact t9 | 10, _ => exact t10 | 11, _ => exact t11 | 12, _ => exact t12 | 13, _ => exact t13 | 14, _ => exact t14 | 15, _ => exact t15 | 16, _ => exact t16 | 17, _ => exact t17 | 18, _ => exact t18 | 19, _ => exact t19 | 20, _ => exact t20 | 21, _ => exact t21 | n + 22, h => omega)
            clear hout hin hsz hd
            subst ha
            simp only [setMany]
            clear t0 t1 t2 t3 t4 t5 t6 t7 t8 t9 t10 t11 t12 t13 t14 t15 t16 t17 t18 t19 t20 t21 e0 e1 e2 e3 e4 e5 e6 e7 e8 e9 e10 e11 e12 e13 e14 e15 e16 e17 e18 e19 e20
            go_simp
            go_wp2_with fail
            go_roundw
            case rel => exact ⟨j + 1, S5, n5, L5, by omega, by omega, by go_num, D7.grown g1, f5, grown_low B7 g1⟩
            case measure => simp [intOf]; omega
    · have gg : (j < n ∧ decide ((j : Int) < 400) = false) ∨ (¬ j < n ∧ decide ((j : Int) < n) = false) := by
        by_cases h1 : j < n
        · exact .inl ⟨h1, decide_eq_false (by omega)⟩
        · exact .inr ⟨h1, decide_eq_false (by omega)⟩
      have D7 : Dr S wr.drew b nn L q nn L := hD.grown (grown_drew (grown_refl wr none))
      have B7 : Below w.heap.size w wr.drew := grown_low KB (grown_drew (grown_refl wr none))
      have IS : ∀ {w va vb}, Ri w va L → Ri w vb L → Calls Try.prog 16 #[va, vb] w fun e w' => e = .returned (.bool true) ∧ ∃ n, w' = w.drewN n := fun h1 h2 => items_same _ _ _ (by omega) _ h1 h2
      obtain ⟨vq, cq1, Rq, bq, sq⟩ := D7.q1
      clear hgo hD KB
      rcases gg with ⟨g0, g1⟩ | ⟨g0, g1⟩
      all_goals
        go_upto_region 26 with fail
        go_region_with (first
          | (go_at_call 18; (with_reducible refine (dr_wait D7).mono ?_); rintro e w9 ⟨a9, m9, c9, rfl, O9, G9⟩; have cq19 := G9.cell cq1 (by simp); have R9 := Ri.of_own O9; have Rq9 := Rq.grown G9)
          | (go_at_call 16; (with_reducible refine (IS R9 Rq9).mono ?_); rintro e w10 ⟨rfl, n10, e10⟩; have G10 : w9.grownBy w10 none := (by rw [e10]; exact grown_drewN (grown_refl _ _) _); clear e10))
        all_goals
          go_wp2_with fail
          go_ret
          exact ⟨rfl, grown_low (grown_low B7 G9) G10⟩
theorem wheelScripts.walk (W : World) (now : Int) (hn : Lit.wf (.int .i64 now) = true) (v1 : Value) (o1 : Rd W v1) :
    Calls Try.prog 3 #[.int .i64 now, v1] W fun e W' => e = .returned (.bool true) ∧ Below W.heap.size W W' := by
  by_cases hb : now < 0 ∨ 226157759 < now
  · exact scripts_bad now v1 hb W
  · obtain ⟨a, n, c, rfl, _⟩ := id o1
    exact scripts_ok now a n c (by omega) (by omega) W o1
end Go.Proofs.Ytijgekdhjfbgkaa
