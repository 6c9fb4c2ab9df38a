/- The order in which items are put in doesn't matter: the statement's walk. -/
import Derived.Test.YtijgekdhjfbgkaaWLow
namespace Go.Proofs.Ytijgekdhjfbgkaa
open Go.RowKit Go.Sort Whl
set_option linter.unusedVariables false

set_option maxRecDepth 100000 in
set_option maxHeartbeats 6400000 in
theorem ord_any (now tt : Int) (ad : Option Addr) (cp : Nat) (l : List It) (w : World) (hr : Ra w (.slice ad l.length cp) l) :
    Calls Try.prog 7 #[.int .i64 now, .slice ad l.length cp, .int .i64 tt] w fun e w' => e = .returned (.bool true) ∧ Below w.heap.size w w' := by
  have hnot : ∀ (x : Bool) (w : World), (Op.unary .not (.bool x)).run Try.prog w = .ok (.bool (!x)) w := fun _ _ => rfl
  have AW := awake_any
  have HR : Hid (Ra w (.slice ad l.length cp) l) := hr
  have hl := hr.2.2
  clear hr
  go_enter Try.func7, Try.ntmps7
  by_cases hb : 100 < l.length
  · go_wp2_with (go_at_call 8; (with_reducible refine (AW _).mono ?_); rintro e w1 ⟨rfl, H1⟩)
    go_ret
    exact ⟨rfl, grown_below H1⟩
  · have hb1 : decide ((l.length : Int) > 100) = false := decide_eq_false (by omega)
    have hb2 : decide ((100 : Int) < l.length) = false := decide_eq_false (by omega)
    have hle : l.length ≤ 100 := by omega
    clear hb
    go_wp2_with (go_at_call 8; (with_reducible refine (AW _).mono ?_); rintro e w1 ⟨rfl, H1⟩)
    clear AW hb1 hb2
    go_loopw [7] (fun i wr => ∃ (j : Nat), j ≤ l.length ∧ i = .int .i64 j ∧ w.grownBy wr none ∧ Hid (∀ (q : Nat) (y : It), q < j → l[q]? = some y → ∀ (p : Nat) (x : It), p < q → l[p]? = some x → x.1 ≠ y.1)) (fun i _ => (500 - intOf i).toNat)
    case atStart => exact ⟨0, by omega, rfl, H1, fun q _ hq => absurd hq (by omega)⟩
    case round =>
      obtain ⟨j, hj, rfl, G, HD⟩ := hrel
      by_cases hlt : j < l.length
      · obtain ⟨y, hyj⟩ : ∃ a, l[j]? = some a := ⟨l[j], List.getElem?_eq_getElem hlt⟩
        obtain ⟨g2, o2, i2, cx0, cy0⟩ := HR.out.1.idx hyj
        go_wp2_with fail
        go_loopw [8] (fun k wr => ∃ (p : Nat), p ≤ j ∧ k = .int .i64 p ∧ w.grownBy wr none ∧ Hid (∀ (q : Nat) (x : It), q < p → l[q]? = some x → x.1 ≠ y.1)) (fun i _ => (500 - intOf i).toNat)
        case atStart => exact ⟨0, by omega, rfl, G, fun q _ hq => absurd hq (by omega)⟩
        case round =>
          obtain ⟨p, hp, rfl, G2, HE⟩ := hrel
          by_cases hlp : p < j
          · obtain ⟨x, hxp⟩ : ∃ a, l[p]? = some a := ⟨l[p], List.getElem?_eq_getElem (by omega)⟩
            obtain ⟨g1, o1, i1, ex0, ey0⟩ := HR.out.1.idx hxp
            have c1 := G2.cell ex0 (by simp)
            have c2 := G2.cell cx0 (by simp)
            have hx' : Hid (l[p]? = some x) := hxp
            clear ex0 ey0 hxp
            go_upto_region 11 with fail
            refine region_still (by kernel_rfl) (by kernel_rfl) ?_
            iterate 11 still_step
            refine wpStill_nil ?_
            by_cases hxy : x.1 = y.1
            · have hd : (x.1 == y.1) = true := by simpa using hxy
              go_wp2_with fail
              go_ret
              exact ⟨rfl, grown_below (grown_drew G2)⟩
            · have hd : (x.1 == y.1) = false := by simpa using hxy
              go_wp2_with fail
              go_roundw
              case rel => exact ⟨p + 1, by omega, by go_num, grown_drew G2, fun q z hq hz => by
                by_cases e : q = p
                · subst e; rw [hx'.out] at hz; cases hz; exact hxy
                · exact HE.out q z (by omega) hz⟩
              case measure => simp [intOf]; omega
          · have hd : decide ((p : Int) < j) = false := decide_eq_false (by omega)
            go_wp2_with fail
            go_roundw
            case rel => exact ⟨j + 1, by omega, by go_num, G2, fun q z hq hz pp x hpq hx => by
              by_cases e : q = j
              · subst e; rw [hyj] at hz; cases hz; exact HE.out pp x (by omega) hx
              · exact HD.out q z (by omega) hz pp x hpq hx⟩
            case measure => simp [intOf]; omega
      · have hd : decide ((j : Int) < l.length) = false := decide_eq_false (by omega)
        have HS : Hid (insN now l.reverse l.length = insN now l l.length) := order_same now l hle fun q y hy p x hpq hx => HD.out q y (by have := (List.getElem?_eq_some_iff.1 hy).1; omega) hy p x hpq hx
        clear HD
        by_cases hbad : now < 0 ∨ 226157759 < now
        · have NB := fun w => new_bad now hbad w
          clear hbad
          go_wp2_with (go_at_call 9; (with_reducible refine (NB _).mono ?_); rintro e w2 ⟨rfl, e2⟩; have e2' := e2.symm; clear e2; subst e2')
          go_ret
          exact ⟨rfl, grown_below G⟩
        · have NO := fun w => new_ok now (by omega) (by omega) w
          clear hbad
          go_wp2_with (first
            | (go_at_call 9; (with_reducible refine (NO wr).mono ?_); rintro e w2 ⟨b1, F1, rfl, h2, f2, H2⟩)
            | (go_at_call 9; (with_reducible refine (NO w2).mono ?_); rintro e w3 ⟨b2, F2, rfl, h3, f3, H3⟩))
          obtain ⟨S, hD, hS'⟩ := Duo.start h2 f2 H2 h3 f3 H3
          have KB : Below w.heap.size w w3 := grown_below (grown_more (grown_more G H2 (by simp)) H3 (by simp))
          have hS : ∀ k, S k → w.heap.size ≤ k := fun k hk => by have := hS' k hk; have := G.size; omega
          clear h2 f2 h3 f3 H2 H3 hS' NO
          go_loopw [13] (fun i wr => ∃ (j : Nat) (S : Nat → Prop), j ≤ l.length ∧ i = .int .i64 j ∧ Duo S wr b1 now (insN now l j) b2 now (insN now l.reverse j) ∧ (∀ k, S k → w.heap.size ≤ k) ∧ Below w.heap.size w wr) (fun i _ => (500 - intOf i).toNat)
          case atStart => exact ⟨0, S, by omega, rfl, hD, hS, KB⟩
          case round =>
            obtain ⟨j, S, hj1, rfl, hD, hS, KB⟩ := hrel
            by_cases hlt : j < l.length
            · obtain ⟨a, haj⟩ : ∃ a, l[j]? = some a := ⟨l[j], List.getElem?_eq_getElem hlt⟩
              obtain ⟨c, hcj⟩ : ∃ a, l[l.length - 1 - j]? = some a := ⟨l[l.length - 1 - j]'(by omega), List.getElem?_eq_getElem (by omega)⟩
              have hid := (HR.out.2.1 a (List.mem_of_getElem? haj)).1
              have hic := (HR.out.2.1 c (List.mem_of_getElem? hcj)).1
              obtain ⟨g, o, hix, cx0, cy0⟩ := HR.out.1.idx haj
              obtain ⟨g', o', hix', dx0, dy0⟩ := HR.out.1.idx hcj
              rw [show ((l.length - 1 - j : Nat) : Int) = (l.length : Int) - 1 - j by omega] at hix'
              have hg : g < w.heap.size := World.block_lt_of_cell? w _ cx0
              have hg' : g' < w.heap.size := World.block_lt_of_cell? w _ dx0
              have cx := (KB.cell (p := ⟨g, o, none⟩) hg).trans cx0
              have cy := (KB.cell (p := ⟨g, o + 1, none⟩) hg).trans cy0
              have HN : Hid (insN now l (j + 1) = insL now (insN now l j) a) := insN_next haj
              have HM : Hid (insN now l.reverse (j + 1) = insL now (insN now l.reverse j) c) := insN_next (by rw [List.getElem?_reverse hlt]; exact hcj)
              clear haj hcj cx0 cy0
              generalize insN now l j = LJ at *
              generalize insN now l.reverse j = MJ at *
              go_wp2_with (first
                | (go_at_call 10; (with_reducible refine (duo_ins hD a hid).mono ?_); rintro e w4 ⟨rfl, S4, D4, f4', C4⟩; have B4 := Chg.low KB C4 hS; have f4 : ∀ k, S4 k → w.heap.size ≤ k := (fun k hk => by rcases f4' k hk with e | e; exact hS k e; have := KB.size; omega); have dx := (B4.cell (p := ⟨g', o', none⟩) hg').trans dx0; have dy := (B4.cell (p := ⟨g', o' + 1, none⟩) hg').trans dy0; clear dx0 dy0 cx cy hix)
                | (go_at_call 10; (with_reducible refine (duo_ins2 D4 c hic).mono ?_); rintro e w6 ⟨rfl, S6, D6, f6', C6⟩; have B6 := Chg.low B4 C6 f4; have f6 : ∀ k, S6 k → w.heap.size ≤ k := (fun k hk => by rcases f6' k hk with e | e; exact f4 k e; have := B4.size; omega)))
              go_roundw
              case rel => exact ⟨j + 1, S6, by omega, by go_num, by rw [HN.out, HM.out]; exact D6, f6, B6⟩
              case measure => simp [intOf]; omega
            · have ej : j = l.length := by omega
              subst ej
              rw [HS.out] at hD
              have g1 : decide ((l.length : Int) < l.length) = false := decide_eq_false (by omega)
              have hok := hD.ok
              have hlen := hok.len
              have hdl := List.length_filter_le (fun a : It => decide (a.2 ≤ tt)) (insN now l l.length)
              have hrl := List.length_filter_le (fun a : It => decide (tt < a.2)) (insN now l l.length)
              clear HS
              generalize insN now l l.length = LJ at *
              by_cases hbad : tt < now ∨ 226157759 < tt
              · have A1 := duo_bad hD tt hbad
                have A2 := duo_bad hD.symm tt hbad
                have IT : ∀ w, Calls Try.prog 16 #[.slice none 0 0, .slice none 0 0] w fun e w' => e = .returned (.bool true) ∧ ∃ n, w' = w.drewN n := fun w => items_same _ _ [] (by simp) w (Ri.nil _ _ _) (Ri.nil _ _ _)
                have IS : ∀ {w va vb}, Ri w va LJ → Ri w vb LJ → Calls Try.prog 16 #[va, vb] w fun e w' => e = .returned (.bool true) ∧ ∃ n, w' = w.drewN n := fun h1 h2 => items_same _ _ LJ (by omega) _ h1 h2
                have WT : ∀ {S w b1 b2 n1 n2 L2}, Duo S w b1 n1 LJ b2 n2 L2 → Calls Try.prog 18 #[.pointer (some ⟨b1, 0, none⟩)] w fun e w' => ∃ ad m c, e = .returned (.slice ad m c) ∧ w'.ownsRow w.heap.size 33 2 (.slice ad m c) LJ.length (cells LJ) ∧ w.grownBy w' none := fun h => duo_wait h
                clear hbad
                go_wp2_with (first
                  | (go_at_call 14; (with_reducible refine A1.mono ?_); rintro e w4 ⟨rfl, e4⟩; have e4' := e4.symm; clear e4; subst e4')
                  | (go_at_call 14; (with_reducible refine A2.mono ?_); rintro e w4 ⟨rfl, e4⟩; have e4' := e4.symm; clear e4; subst e4')
                  | (go_at_call 16; (with_reducible refine (IT _).mono ?_); rintro e w5 ⟨rfl, n5, e5⟩; have G5 : wr.grownBy w5 none := (by rw [e5]; exact grown_drewN (grown_refl _ _) _); clear e5; have D5 := hD.grown G5)
                  | (go_at_call 18; (with_reducible refine (WT D5).mono ?_); rintro e w6 ⟨a6, m6, c6, rfl, O6, G6⟩; have D6 := D5.grown G6)
                  | (go_at_call 18; (with_reducible refine (WT D6.symm).mono ?_); rintro e w7 ⟨a7, m7, c7, rfl, O7, G7⟩; have R6 := (Ri.of_own O6).grown G7; have R7 := Ri.of_own O7)
                  | (go_at_call 16; (with_reducible refine (IS R6 R7).mono ?_); rintro e w8 ⟨rfl, n8, e8⟩; have G8 : w7.grownBy w8 none := (by rw [e8]; exact grown_drewN (grown_refl _ _) _); clear e8))
                go_ret
                exact ⟨rfl, grown_low KB (grown_more (grown_more (grown_more G5 G6 (by simp)) G7 (by simp)) G8 (by simp))⟩
              · have A1 := duo_adv hD tt (by omega) (by omega)
                have A2 : ∀ {S w b1 b2 n1 L1}, Duo S w b1 n1 L1 b2 now LJ → Calls Try.prog 14 #[.pointer (some ⟨b2, 0, none⟩), .int .i64 tt] w fun e w' => ∃ ad m c, e = .returned (.tuple #[.slice ad m c, .int .i64 0]) ∧ w'.ownsRow w.heap.size 33 2 (.slice ad m c) (dueL tt LJ).length (cells (dueL tt LJ)) ∧ ∃ S', Duo S' w' b1 n1 L1 b2 tt (restL tt LJ) ∧ (∀ k, S' k → S k ∨ w.heap.size ≤ k) ∧ (∀ k, (Value.slice ad m c).ownBlock = some k → ¬ S' k) ∧ Chg S w w' := fun h => duo_adv2 h tt (by omega) (by omega)
                have IS : ∀ {w va vb}, Ri w va (dueL tt LJ) → Ri w vb (dueL tt LJ) → Calls Try.prog 16 #[va, vb] w fun e w' => e = .returned (.bool true) ∧ ∃ n, w' = w.drewN n := fun h1 h2 => items_same _ _ _ (by unfold dueL; omega) _ h1 h2
                have IR : ∀ {w va vb}, Ri w va (restL tt LJ) → Ri w vb (restL tt LJ) → Calls Try.prog 16 #[va, vb] w fun e w' => e = .returned (.bool true) ∧ ∃ n, w' = w.drewN n := fun h1 h2 => items_same _ _ _ (by unfold restL; omega) _ h1 h2
                have WT : ∀ {S w b1 b2 n1 n2 L2}, Duo S w b1 n1 (restL tt LJ) b2 n2 L2 → Calls Try.prog 18 #[.pointer (some ⟨b1, 0, none⟩)] w fun e w' => ∃ ad m c, e = .returned (.slice ad m c) ∧ w'.ownsRow w.heap.size 33 2 (.slice ad m c) (restL tt LJ).length (cells (restL tt LJ)) ∧ w.grownBy w' none := fun h => duo_wait h
                generalize dueL tt LJ = DL at *
                generalize restL tt LJ = RL at *
                clear hbad
                go_wp2_with (first
                  | (go_at_call 14; (with_reducible refine A1.mono ?_); rintro e w4 ⟨a4, m4, c4, rfl, O4, S4, D4, f4', r4, C4⟩; have B4 := Chg.low KB C4 hS; have f4 : ∀ k, S4 k → w.heap.size ≤ k := (fun k hk => by rcases f4' k hk with e | e; exact hS k e; have := KB.size; omega))
                  | (go_at_call 14; (with_reducible refine (A2 D4).mono ?_); rintro e w5 ⟨a5, m5, c5, rfl, O5, S5, D5, f5', r5, C5⟩; have B5 := Chg.low B4 C5 f4; have R4 := (Ri.of_own O4).kept C5 r4; have R5 := Ri.of_own O5)
                  | (go_at_call 16; (with_reducible refine (IS R4 R5).mono ?_); rintro e w6 ⟨rfl, n6, e6⟩; have G6 : w5.grownBy w6 none := (by rw [e6]; exact grown_drewN (grown_refl _ _) _); clear e6; have D6 := D5.grown G6)
                  | (go_at_call 18; (with_reducible refine (WT D6).mono ?_); rintro e w7 ⟨a7, m7, c7, rfl, O7, G7⟩; have D7 := D6.grown G7)
                  | (go_at_call 18; (with_reducible refine (WT D7.symm).mono ?_); rintro e w8 ⟨a8, m8, c8, rfl, O8, G8⟩; have R7 := (Ri.of_own O7).grown G8; have R8 := Ri.of_own O8)
                  | (go_at_call 16; (with_reducible refine (IR R7 R8).mono ?_); rintro e w9 ⟨rfl, n9, e9⟩; have G9 : w8.grownBy w9 none := (by rw [e9]; exact grown_drewN (grown_refl _ _) _); clear e9))
                go_ret
                exact ⟨rfl, grown_low B5 (grown_more (grown_more (grown_more G6 G7 (by simp)) G8 (by simp)) G9 (by simp))⟩
theorem wheelOrder.walk (W : World) (now : Int) (hn : Lit.wf (.int .i64 now) = true) (v1 : Value) (o1 : ∃ l, Ra W v1 l) (tt : Int) (ht : Lit.wf (.int .i64 tt) = true) :
    Calls Try.prog 7 #[.int .i64 now, v1, .int .i64 tt] W fun e W' => e = .returned (.bool true) ∧ Below W.heap.size W W' := by
  obtain ⟨l, hl⟩ := o1
  obtain ⟨ad, c, rfl, _⟩ := id hl.1
  exact ord_any now tt ad c l W hl
end Go.Proofs.Ytijgekdhjfbgkaa
