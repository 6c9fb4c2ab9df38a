/- An item that is taken out again is as if it had never been put in: the statement's walk. -/
import Derived.Test.YtijgekdhjfbgkaaWArgs
import Derived.Deep.CutRange
namespace Go.Proofs.Ytijgekdhjfbgkaa
open Go.RowKit Go.Sort Whl
set_option linter.unusedVariables false

theorem Ri.low {w w' : World} {v : Value} {l : List It} (h : Ri w v l) (hb : Below w.heap.size w w') : Ri w' v l := by
  obtain ⟨ad, c, rfl, h0 | ⟨g, off, rfl, h1⟩⟩ := h
  · exact ⟨ad, c, rfl, .inl h0⟩
  · exact ⟨_, c, rfl, .inr ⟨g, off, rfl, fun j a hj => ⟨(hb.cell (p := ⟨g, off + j * 2, none⟩) (World.block_lt_of_cell? w _ (h1 j a hj).1)).trans (h1 j a hj).1, (hb.cell (p := ⟨g, off + j * 2 + 1, none⟩) (World.block_lt_of_cell? w _ (h1 j a hj).2)).trans (h1 j a hj).2⟩⟩⟩
theorem Chg.low {S : Nat → Prop} {W w w' : World} (hb : Below W.heap.size W w) (h : Chg S w w') (hS : ∀ k, S k → W.heap.size ≤ k) : Below W.heap.size W w' := hb.trans (h.below hb.size hS)
theorem grown_low {W w w' : World} (hb : Below W.heap.size W w) (h : w.grownBy w' none) : Below W.heap.size W w' := hb.grown h hb.size (by simp)
theorem ins_back (now : Int) (i : It) : (insE now [] i = 0 → dropL i.1 (insL now [] i) = []) ∧ (insE now [] i ≠ 0 → insL now [] i = []) := by
  refine ⟨fun h => ?_, fun h => by unfold insL; rw [if_neg h]⟩
  unfold insL
  rw [if_pos h]
  simp [ins, dropL]

set_option maxRecDepth 100000 in
set_option maxHeartbeats 1600000 in
theorem cancels_bad (now tt : Int) (ex : It) (va : Value) (h : now < 0 ∨ 226157759 < now) (w : World) :
    Calls Try.prog 6 #[.int .i64 now, va, .agg #[.int .i64 ex.1, .int .i64 ex.2], .int .i64 tt] w fun e w' => e = .returned (.bool true) ∧ Below w.heap.size w w' := by
  have hnot : ∀ (x : Bool) (w : World), (Op.unary .not (.bool x)).run Try.prog w = .ok (.bool (!x)) w := fun _ _ => rfl
  have AW := awake_any
  have NB := fun w => new_bad now h w
  clear h
  go_enter Try.func6, Try.ntmps6
  go_wp2_with (first
    | (go_at_call 8; (with_reducible refine (AW _).mono ?_); rintro e w1 ⟨rfl, H1⟩)
    | (go_at_call 9; (with_reducible refine (NB _).mono ?_); rintro e w2 ⟨rfl, e2⟩; have e2' := e2.symm; clear e2; subst e2'))
  go_ret
  exact ⟨rfl, grown_below (grown_more (World.grownBy_alloc w _ none) H1 (by simp))⟩

set_option maxRecDepth 100000 in
set_option maxHeartbeats 6400000 in
theorem cancels_ok (now tt : Int) (ex : It) (ad : Option Addr) (cp : Nat) (l : List It) (n0 : 0 ≤ now) (n1 : now ≤ 226157759) (hex : I64 ex.1) (w : World) (hr : Ra w (.slice ad l.length cp) l) :
    Calls Try.prog 6 #[.int .i64 now, .slice ad l.length cp, .agg #[.int .i64 ex.1, .int .i64 ex.2], .int .i64 tt] w fun e w' => e = .returned (.bool true) ∧ Below w.heap.size w w' := by
  have hnot : ∀ (x : Bool) (w : World), (Op.unary .not (.bool x)).run Try.prog w = .ok (.bool (!x)) w := fun _ _ => rfl
  have AW := awake_any
  have NO := fun w => new_ok now n0 n1 w
  have hl := hr.2.2
  have HR : Hid (Ra w (.slice ad l.length cp) l) := hr
  have IB := ins_back now ex
  clear hr
  have IN : ∀ {S w b1 b2}, Duo S w b1 now [] b2 now [] → Calls Try.prog 10 #[.pointer (some ⟨b1, 0, none⟩), .agg #[.int .i64 ex.1, .int .i64 ex.2]] w fun e w' => e = .returned (.int .i64 (insE now [] ex)) ∧ ∃ S', Duo S' w' b1 now (insL now [] ex) b2 now [] ∧ (∀ k, S' k → S k ∨ w.heap.size ≤ k) ∧ Chg S w w' := fun h => duo_ins h ex hex
  have CN : ∀ {S w b1 b2 L}, Duo S w b1 now L b2 now [] → Calls Try.prog 12 #[.pointer (some ⟨b1, 0, none⟩), .int .i64 ex.1] w fun e w' => e = .returned (.bool (L.any fun a => a.1 == ex.1)) ∧ ∃ S', Duo S' w' b1 now (dropL ex.1 L) b2 now [] ∧ (∀ k, S' k → S k ∨ w.heap.size ≤ k) ∧ Chg S w w' := fun h => duo_can h ex.1 hex
  have hany : Hid (insE now [] ex = 0 → ((insL now [] ex).any fun a => a.1 == ex.1) = true) := fun h => by unfold insL; rw [if_pos h]; simp [ins]
  generalize hE : insE now [] ex = E at IN IB hany
  generalize hLL : insL now [] ex = LL at IN IB hany
  clear hE hLL
  go_enter Try.func6, Try.ntmps6
  go_upto_region 7 with (first
    | (go_at_call 8; (with_reducible refine (AW _).mono ?_); rintro e w1 ⟨rfl, H1⟩; have x0 := cell_kept H1 0 (.int .i64 ex.1) rfl; have x1 := cell_kept H1 1 (.int .i64 ex.2) rfl; have K1 := grown_more (World.grownBy_alloc w _ none) H1 (by simp))
    | (go_at_call 9; (with_reducible refine (NO w1).mono ?_); rintro e w2 ⟨b1, F1, rfl, h2, f2, H2⟩; have x20 := H2.cell x0 (by simp); have x21 := H2.cell x1 (by simp))
    | (go_at_call 9; (with_reducible refine (NO w2).mono ?_); rintro e w3 ⟨b2, F2, rfl, h3, f3, H3⟩; have x30 := H3.cell x20 (by simp); have x31 := H3.cell x21 (by simp)))
  obtain ⟨S, hD, hS⟩ := Duo.start h2 f2 H2 h3 f3 H3
  have hbase : Hid (w.heap.size ≤ w1.heap.size) := K1.size
  have KB : Below w.heap.size w w3 := grown_below (grown_more (grown_more K1 H2 (by simp)) H3 (by simp))
  have hSw : ∀ k, S k → w.heap.size ≤ k := fun k hk => by have := hS k hk; have := hbase.out; omega
  have xS : ¬ S w.heap.size := fun c => by have := hS _ c; have := World.block_lt_of_cell? w1 _ x0; simp at this; omega
  clear h2 f2 h3 f3 H2 H3 x20 x21 x0 x1 hS
  go_cut [50] from 40 to 50 (fun s wx => s = .bool false ∧ ∃ S, Duo S wx b1 now [] b2 now [] ∧ (∀ k, S k → w.heap.size ≤ k) ∧ Below w.heap.size w wx)
  case first =>
    by_cases hE : E = 0
    · have e1 := IB.1 hE
      have e2 := hany.out hE
      subst hE
      clear IB hany
      go_wp2_with (first
        | (go_at_call 10; (with_reducible refine (IN hD).mono ?_); rintro e w4 ⟨rfl, S4, hD4, hS4, hC4⟩; have x40 := hC4.cell x30 xS; have x41 := hC4.cell x31 xS)
        | (go_at_call 12; (with_reducible refine (CN hD4).mono ?_); rintro e w5 ⟨rfl, S5, hD5, hS5, hC5⟩))
      go_meet
      have f4 : ∀ k, S4 k → w.heap.size ≤ k := fun k hk => by rcases hS4 k hk with e | e; exact hSw k e; have := KB.size; omega
      have B4 := Chg.low KB hC4 hSw
      rw [e1] at hD5
      exact ⟨rfl, S5, hD5, fun k hk => by rcases hS5 k hk with e | e; exact f4 k e; have := B4.size; omega, Chg.low B4 hC5 f4⟩
    · have e1 := IB.2 hE
      have hE' : (E == 0) = false := by simpa using hE
      subst e1
      clear IB hany hE
      go_wp2_with (go_at_call 10; (with_reducible refine (IN hD).mono ?_); rintro e w4 ⟨rfl, S4, hD4, hS4, hC4⟩)
      go_meet
      exact ⟨rfl, S4, hD4, fun k hk => by rcases hS4 k hk with e | e; exact hSw k e; have := KB.size; omega, Chg.low KB hC4 hSw⟩
  case rest =>
    obtain ⟨rfl, S, hD, hS, KB⟩ := hcut
    clear IN CN IB hany
    go_wp2_with fail
    go_loopw [13] (fun i wr => ∃ (j : Nat) (S : Nat → Prop), j ≤ l.length ∧ j ≤ 400 ∧ i = .int .i64 j ∧ Duo S wr b1 now (insN now l j) b2 now (insN now l j) ∧ (∀ k, S k → w.heap.size ≤ k) ∧ Below w.heap.size w wr) (fun i _ => (500 - intOf i).toNat)
    case atStart => exact ⟨0, S, by omega, by omega, rfl, hD, hS, KB⟩
    case round =>
      obtain ⟨j, S, hj1, hj2, rfl, hD, hS, KB⟩ := hrel
      by_cases hgo : j < l.length ∧ j < 400
      · obtain ⟨hlt, h4⟩ := hgo
        obtain ⟨a, haj⟩ : ∃ a, l[j]? = some a := ⟨l[j], List.getElem?_eq_getElem hlt⟩
        have hid := (HR.out.2.1 a (List.mem_of_getElem? haj)).1
        obtain ⟨g, o, hix, cx0, cy0⟩ := HR.out.1.idx haj
        have hg : g < w.heap.size := World.block_lt_of_cell? w _ cx0
        have cx := (KB.cell (p := ⟨g, o, none⟩) hg).trans cx0
        have cy := (KB.cell (p := ⟨g, o + 1, none⟩) hg).trans cy0
        have gS : ¬ S g := fun c => by have := hS g c; omega
        have D0 : Duo S wr.drew b1 now (insN now l j) b2 now (insN now l j) := hD.grown (grown_drew (grown_refl wr none))
        have KB0 : Below w.heap.size w wr.drew := grown_low KB (grown_drew (grown_refl wr none))
        have HN : Hid (insN now l (j + 1) = insL now (insN now l j) a) := insN_next haj
        have hEE : (insE now (insN now l j) a != insE now (insN now l j) a) = false := by simp
        clear haj hD cx0 cy0
        generalize insN now l j = LJ at *
        generalize hEg : insE now LJ a = EJ at *
        go_upto_region 12 with fail
        go_region_with (first
          | (go_at_call 10; (with_reducible refine (duo_ins D0 a hid).mono ?_); rintro e w4 ⟨rfl, S4, D4, f4', C4⟩; have cx4 := C4.cell cx gS; have cy4 := C4.cell cy gS; have B4 := Chg.low KB0 C4 hS; have f4 : ∀ k, S4 k → w.heap.size ≤ k := (fun k hk => by rcases f4' k hk with e | e; exact hS k e; have := KB0.size; omega))
          | (go_at_call 10; (with_reducible refine (duo_ins2 D0 a hid).mono ?_); rintro e w5 ⟨rfl, S5, D5, f5', C5⟩; have cx5 := C5.cell cx gS; have cy5 := C5.cell cy gS; have B5 := Chg.low KB0 C5 hS; have f5 : ∀ k, S5 k → w.heap.size ≤ k := (fun k hk => by rcases f5' k hk with e | e; exact hS k e; have := KB0.size; omega))
          | (go_at_call 10; (with_reducible refine (duo_ins2 D4 a hid).mono ?_); rintro e w6 ⟨rfl, S6, D6, f6', C6⟩; have B6 := Chg.low B4 C6 f4; have f6 : ∀ k, S6 k → w.heap.size ≤ k := (fun k hk => by rcases f6' k hk with e | e; exact f4 k e; have := B4.size; omega))
          | (go_at_call 10; (with_reducible refine (duo_ins D5 a hid).mono ?_); rintro e w6 ⟨rfl, S6, D6, f6', C6⟩; have B6 := Chg.low B5 C6 f5; have f6 : ∀ k, S6 k → w.heap.size ≤ k := (fun k hk => by rcases f6' k hk with e | e; exact f5 k e; have := B5.size; omega)))
        all_goals
          go_wp2_with fail
          go_roundw
          case rel => exact ⟨j + 1, S6, by omega, by omega, by go_num, by rw [HN.out]; exact D6, f6, B6⟩
          case measure => simp [intOf]; omega
      · have hok := hD.ok
        have hlen := hok.len
        have hdl := List.length_filter_le (fun a : It => decide (a.2 ≤ tt)) (insN now l j)
        have hrl := List.length_filter_le (fun a : It => decide (tt < a.2)) (insN now l j)
        clear x30 x31 AW NO hex
        generalize insN now l j = LJ at *
        by_cases hbad : tt < now ∨ 226157759 < tt
        · have A1 := duo_bad hD tt hbad
          have A2 := duo_bad hD.symm tt hbad
          have IT : ∀ w, Calls Try.prog 16 #[.slice none 0 0, .slice none 0 0] w fun e w' => e = .returned (.bool true) ∧ ∃ n, w' = w.drewN n := fun w => items_same _ _ [] (by simp) w (Ri.nil _ _ _) (Ri.nil _ _ _)
          have IS : ∀ {w va vb}, Ri w va LJ → Ri w vb LJ → Calls Try.prog 16 #[va, vb] w fun e w' => e = .returned (.bool true) ∧ ∃ n, w' = w.drewN n := fun h1 h2 => items_same _ _ LJ (by omega) _ h1 h2
          have WT : ∀ {S w b1 b2 n1 n2 L2}, Duo S w b1 n1 LJ b2 n2 L2 → Calls Try.prog 18 #[.pointer (some ⟨b1, 0, none⟩)] w fun e w' => ∃ ad m c, e = .returned (.slice ad m c) ∧ w'.ownsRow w.heap.size 33 2 (.slice ad m c) LJ.length (cells LJ) ∧ w.grownBy w' none := fun h => duo_wait h
          clear hbad
          by_cases h1 : j < l.length
          · have g1 : decide ((j : Int) < 400) = false := decide_eq_false (by omega)
            go_wp2_with (first
              | (go_at_call 14; (with_reducible refine A1.mono ?_); rintro e w4 ⟨rfl, e4⟩; have e4' := e4.symm; clear e4; subst e4')
              | (go_at_call 14; (with_reducible refine A2.mono ?_); rintro e w4 ⟨rfl, e4⟩; have e4' := e4.symm; clear e4; subst e4')
              | (go_at_call 16; (with_reducible refine (IT _).mono ?_); rintro e w5 ⟨rfl, n5, e5⟩; have G5 : wr.grownBy w5 none := (by rw [e5]; exact grown_drewN (grown_refl _ _) _); clear e5; have D5 := hD.grown G5)
              | (go_at_call 18; (with_reducible refine (WT D5).mono ?_); rintro e w6 ⟨a6, m6, c6, rfl, O6, G6⟩; have D6 := D5.grown G6)
              | (go_at_call 18; (with_reducible refine (WT D6.symm).mono ?_); rintro e w7 ⟨a7, m7, c7, rfl, O7, G7⟩; have R6 := (Ri.of_own O6).grown G7; have R7 := Ri.of_own O7)
              | (go_at_call 16; (with_reducible refine (IS R6 R7).mono ?_); rintro e w8 ⟨rfl, n8, e8⟩; have G8 : w7.grownBy w8 none := (by rw [e8]; exact grown_drewN (grown_refl _ _) _); clear e8))
            go_ret
            exact ⟨rfl, grown_low KB (grown_more (grown_more (grown_more G5 G6 (by simp)) G7 (by simp)) G8 (by simp))⟩
          · have g1 : decide ((j : Int) < l.length) = false := decide_eq_false (by omega)
            go_wp2_with (first
              | (go_at_call 14; (with_reducible refine A1.mono ?_); rintro e w4 ⟨rfl, e4⟩; have e4' := e4.symm; clear e4; subst e4')
              | (go_at_call 14; (with_reducible refine A2.mono ?_); rintro e w4 ⟨rfl, e4⟩; have e4' := e4.symm; clear e4; subst e4')
              | (go_at_call 16; (with_reducible refine (IT _).mono ?_); rintro e w5 ⟨rfl, n5, e5⟩; have G5 : wr.grownBy w5 none := (by rw [e5]; exact grown_drewN (grown_refl _ _) _); clear e5; have D5 := hD.grown G5)
              | (go_at_call 18; (with_reducible refine (WT D5).mono ?_); rintro e w6 ⟨a6, m6, c6, rfl, O6, G6⟩; have D6 := D5.grown G6)
              | (go_at_call 18; (with_reducible refine (WT D6.symm).mono ?_); rintro e w7 ⟨a7, m7, c7, rfl, O7, G7⟩; have R6 := (Ri.of_own O6).grown G7; have R7 := Ri.of_own O7)
              | (go_at_call 16; (with_reducible refine (IS R6 R7).mono ?_); rintro e w8 ⟨rfl, n8, e8⟩; have G8 : w7.grownBy w8 none := (by rw [e8]; exact grown_drewN (grown_refl _ _) _); clear e8))
            go_ret
            exact ⟨rfl, grown_low KB (grown_more (grown_more (grown_more G5 G6 (by simp)) G7 (by simp)) G8 (by simp))⟩
        · have A1 := duo_adv hD tt (by omega) (by omega)
          have A2 : ∀ {S w b1 b2 n1 L1}, Duo S w b1 n1 L1 b2 now LJ → Calls Try.prog 14 #[.pointer (some ⟨b2, 0, none⟩), .int .i64 tt] w fun e w' => ∃ ad m c, e = .returned (.tuple #[.slice ad m c, .int .i64 0]) ∧ w'.ownsRow w.heap.size 33 2 (.slice ad m c) (dueL tt LJ).length (cells (dueL tt LJ)) ∧ ∃ S', Duo S' w' b1 n1 L1 b2 tt (restL tt LJ) ∧ (∀ k, S' k → S k ∨ w.heap.size ≤ k) ∧ (∀ k, (Value.slice ad m c).ownBlock = some k → ¬ S' k) ∧ Chg S w w' := fun h => duo_adv2 h tt (by omega) (by omega)
          have IS : ∀ {w va vb}, Ri w va (dueL tt LJ) → Ri w vb (dueL tt LJ) → Calls Try.prog 16 #[va, vb] w fun e w' => e = .returned (.bool true) ∧ ∃ n, w' = w.drewN n := fun h1 h2 => items_same _ _ _ (by unfold dueL; omega) _ h1 h2
          have IR : ∀ {w va vb}, Ri w va (restL tt LJ) → Ri w vb (restL tt LJ) → Calls Try.prog 16 #[va, vb] w fun e w' => e = .returned (.bool true) ∧ ∃ n, w' = w.drewN n := fun h1 h2 => items_same _ _ _ (by unfold restL; omega) _ h1 h2
          have WT : ∀ {S w b1 b2 n1 n2 L2}, Duo S w b1 n1 (restL tt LJ) b2 n2 L2 → Calls Try.prog 18 #[.pointer (some ⟨b1, 0, none⟩)] w fun e w' => ∃ ad m c, e = .returned (.slice ad m c) ∧ w'.ownsRow w.heap.size 33 2 (.slice ad m c) (restL tt LJ).length (cells (restL tt LJ)) ∧ w.grownBy w' none := fun h => duo_wait h
          generalize dueL tt LJ = DL at *
          generalize restL tt LJ = RL at *
          clear hbad
          by_cases h1 : j < l.length
          · have g1 : decide ((j : Int) < 400) = false := decide_eq_false (by omega)
            go_wp2_with (first
              | (go_at_call 14; (with_reducible refine A1.mono ?_); rintro e w4 ⟨a4, m4, c4, rfl, O4, S4, D4, f4', r4, C4⟩; have B4 := Chg.low KB C4 hS; have f4 : ∀ k, S4 k → w.heap.size ≤ k := (fun k hk => by rcases f4' k hk with e | e; exact hS k e; have := KB.size; omega))
              | (go_at_call 14; (with_reducible refine (A2 D4).mono ?_); rintro e w5 ⟨a5, m5, c5, rfl, O5, S5, D5, f5', r5, C5⟩; have B5 := Chg.low B4 C5 f4; have R4 := (Ri.of_own O4).kept C5 r4; have R5 := Ri.of_own O5)
              | (go_at_call 16; (with_reducible refine (IS R4 R5).mono ?_); rintro e w6 ⟨rfl, n6, e6⟩; have G6 : w5.grownBy w6 none := (by rw [e6]; exact grown_drewN (grown_refl _ _) _); clear e6; have D6 := D5.grown G6)
              | (go_at_call 18; (with_reducible refine (WT D6).mono ?_); rintro e w7 ⟨a7, m7, c7, rfl, O7, G7⟩; have D7 := D6.grown G7)
              | (go_at_call 18; (with_reducible refine (WT D7.symm).mono ?_); rintro e w8 ⟨a8, m8, c8, rfl, O8, G8⟩; have R7 := (Ri.of_own O7).grown G8; have R8 := Ri.of_own O8)
              | (go_at_call 16; (with_reducible refine (IR R7 R8).mono ?_); rintro e w9 ⟨rfl, n9, e9⟩; have G9 : w8.grownBy w9 none := (by rw [e9]; exact grown_drewN (grown_refl _ _) _); clear e9))
            go_ret
            exact ⟨rfl, grown_low B5 (grown_more (grown_more (grown_more G6 G7 (by simp)) G8 (by simp)) G9 (by simp))⟩
          · have g1 : decide ((j : Int) < l.length) = false := decide_eq_false (by omega)
            go_wp2_with (first
              | (go_at_call 14; (with_reducible refine A1.mono ?_); rintro e w4 ⟨a4, m4, c4, rfl, O4, S4, D4, f4', r4, C4⟩; have B4 := Chg.low KB C4 hS; have f4 : ∀ k, S4 k → w.heap.size ≤ k := (fun k hk => by rcases f4' k hk with e | e; exact hS k e; have := KB.size; omega))
              | (go_at_call 14; (with_reducible refine (A2 D4).mono ?_); rintro e w5 ⟨a5, m5, c5, rfl, O5, S5, D5, f5', r5, C5⟩; have B5 := Chg.low B4 C5 f4; have R4 := (Ri.of_own O4).kept C5 r4; have R5 := Ri.of_own O5)
              | (go_at_call 16; (with_reducible refine (IS R4 R5).mono ?_); rintro e w6 ⟨rfl, n6, e6⟩; have G6 : w5.grownBy w6 none := (by rw [e6]; exact grown_drewN (grown_refl _ _) _); clear e6; have D6 := D5.grown G6)
              | (go_at_call 18; (with_reducible refine (WT D6).mono ?_); rintro e w7 ⟨a7, m7, c7, rfl, O7, G7⟩; have D7 := D6.grown G7)
              | (go_at_call 18; (with_reducible refine (WT D7.symm).mono ?_); rintro e w8 ⟨a8, m8, c8, rfl, O8, G8⟩; have R7 := (Ri.of_own O7).grown G8; have R8 := Ri.of_own O8)
              | (go_at_call 16; (with_reducible refine (IR R7 R8).mono ?_); rintro e w9 ⟨rfl, n9, e9⟩; have G9 : w8.grownBy w9 none := (by rw [e9]; exact grown_drewN (grown_refl _ _) _); clear e9))
            go_ret
            exact ⟨rfl, grown_low B5 (grown_more (grown_more (grown_more G6 G7 (by simp)) G8 (by simp)) G9 (by simp))⟩
theorem wheelCancels.walk (W : World) (now : Int) (hn : Lit.wf (.int .i64 now) = true) (v1 : Value) (o1 : ∃ l, Ra W v1 l) (v2 : Value) (o2 : ∃ a : It, v2 = .agg #[.int .i64 a.1, .int .i64 a.2] ∧ I64 a.1 ∧ I64 a.2) (tt : Int) (ht : Lit.wf (.int .i64 tt) = true) :
    Calls Try.prog 6 #[.int .i64 now, v1, v2, .int .i64 tt] W fun e W' => e = .returned (.bool true) ∧ Below W.heap.size W W' := by
  obtain ⟨l, hl⟩ := o1
  obtain ⟨ex, rfl, h1, h2⟩ := o2
  by_cases hb : now < 0 ∨ 226157759 < now
  · exact cancels_bad now tt ex v1 hb W
  · obtain ⟨ad, c, rfl, _⟩ := id hl.1
    exact cancels_ok now tt ex ad c l (by omega) (by omega) h1 W hl
end Go.Proofs.Ytijgekdhjfbgkaa
