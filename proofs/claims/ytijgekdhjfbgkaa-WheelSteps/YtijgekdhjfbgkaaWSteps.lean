/- An advance in steps answers what one answers: the statement's walk. -/
import Derived.Test.YtijgekdhjfbgkaaWStepM
namespace Go.Proofs.Ytijgekdhjfbgkaa
open Go.RowKit Go.Sort Whl
set_option linter.unusedVariables false

set_option maxRecDepth 100000 in
set_option maxHeartbeats 1600000 in
theorem steps_bad (now tt : Int) (va vb : Value) (h : now < 0 ∨ 226157759 < now) (w : World) :
    Calls Try.prog 5 #[.int .i64 now, va, .int .i64 tt, vb] w fun e w' => e = .returned (.bool true) ∧ Below w.heap.size w w' := by
  have hnot : ∀ (x : Bool) (w : World), (Op.unary .not (.bool x)).run Try.prog w = .ok (.bool (!x)) w := fun _ _ => rfl
  have AW := awake_any
  have NB := fun w => new_bad now h w
  clear h
  go_enter Try.func5, Try.ntmps5
  go_wp2_with (first
    | (go_at_call 8; (with_reducible refine (AW _).mono ?_); rintro e w1 ⟨rfl, H1⟩)
    | (go_at_call 9; (with_reducible refine (NB _).mono ?_); rintro e w2 ⟨rfl, e2⟩; have e2' := e2.symm; clear e2; subst e2'))
  go_ret
  exact ⟨rfl, grown_below H1⟩

set_option maxRecDepth 100000 in
set_option maxHeartbeats 12800000 in
theorem steps_ok (now tt : Int) (ad : Option Addr) (cp : Nat) (l : List It) (adt : Option Addr) (cpt : Nat) (ts : List Int) (n0 : 0 ≤ now) (n1 : now ≤ 226157759) (w : World) (hr : Ra w (.slice ad l.length cp) l) (hrt : Rn w (.slice adt ts.length cpt) 45 ts) :
    Calls Try.prog 5 #[.int .i64 now, .slice ad l.length cp, .int .i64 tt, .slice adt ts.length cpt] w fun e w' => e = .returned (.bool true) ∧ Below w.heap.size w w' := by
  have hnot : ∀ (x : Bool) (w : World), (Op.unary .not (.bool x)).run Try.prog w = .ok (.bool (!x)) w := fun _ _ => rfl
  have AW := awake_any
  have NO := fun w => new_ok now n0 n1 w
  have hl := hr.2.2
  have htl := hrt.2.2
  have HR : Hid (Ra w (.slice ad l.length cp) l) := hr
  have HT : Hid (Rn w (.slice adt ts.length cpt) 45 ts) := hrt
  clear hr hrt
  go_enter Try.func5, Try.ntmps5
  go_wp2_with (first
    | (go_at_call 8; (with_reducible refine (AW _).mono ?_); rintro e w1 ⟨rfl, K1⟩)
    | (go_at_call 9; (with_reducible refine (NO w1).mono ?_); rintro e w2 ⟨b1, F1, rfl, h2, f2, H2⟩)
    | (go_at_call 9; (with_reducible refine (NO w2).mono ?_); rintro e w3 ⟨b2, F2, rfl, h3, f3, H3⟩))
  obtain ⟨S, hD, hS'⟩ := Duo.start h2 f2 H2 h3 f3 H3
  have KB : Below w.heap.size w w3 := grown_below (grown_more (grown_more K1 H2 (by simp)) H3 (by simp))
  have hS : ∀ k, S k → w.heap.size ≤ k := fun k hk => by have := hS' k hk; have := K1.size; omega
  clear h2 f2 h3 f3 H2 H3 hS' NO AW
  go_loopw [13] (fun i wr => ∃ (j : Nat) (S : Nat → Prop), j ≤ l.length ∧ j ≤ 400 ∧ i = .int .i64 j ∧ Duo S wr b1 now (insN now l j) b2 now (insN now l j) ∧ (∀ k, S k → w.heap.size ≤ k) ∧ Below w.heap.size w wr) (fun i _ => (500 - intOf i).toNat)
  case atStart => exact ⟨0, S, by omega, by omega, rfl, hD, hS, KB⟩
  case round =>
    obtain ⟨j, S, hj1, hj2, rfl, hD, hS, KB⟩ := hrel
    by_cases hgo : j < l.length ∧ j < 400
    · obtain ⟨hlt, h4⟩ := hgo
      obtain ⟨a, haj⟩ : ∃ a, l[j]? = some a := ⟨l[j], List.getElem?_eq_getElem hlt⟩
      have hid := (HR.out.2.1 a (List.mem_of_getElem? haj)).1
      obtain ⟨g, o, hix, cx0, cy0⟩ := HR.out.1.idx haj
      have hg : g < w.heap.size := World.block_lt_of_cell? w _ cx0
      have cx := (KB.cell (p := ⟨g, o, none⟩) hg).trans cx0
      have cy := (KB.cell (p := ⟨g, o + 1, none⟩) hg).trans cy0
      have gS : ¬ S g := fun c => by have := hS g c; omega
      have D0 : Duo S wr.drew b1 now (insN now l j) b2 now (insN now l j) := hD.grown (grown_drew (grown_refl wr none))
      have KB0 : Below w.heap.size w wr.drew := grown_low KB (grown_drew (grown_refl wr none))
      have HN : Hid (insN now l (j + 1) = insL now (insN now l j) a) := insN_next haj
      have hEE : (insE now (insN now l j) a != insE now (insN now l j) a) = false := by simp
      clear haj hD cx0 cy0
      generalize insN now l j = LJ at *
      generalize hEg : insE now LJ a = EJ at *
      go_upto_region 10 with fail
      go_region_with (first
        | (go_at_call 10; (with_reducible refine (duo_ins D0 a hid).mono ?_); rintro e w4 ⟨rfl, S4, D4, f4', C4⟩; have cx4 := C4.cell cx gS; have cy4 := C4.cell cy gS; have B4 := Chg.low KB0 C4 hS; have f4 : ∀ k, S4 k → w.heap.size ≤ k := (fun k hk => by rcases f4' k hk with e | e; exact hS k e; have := KB0.size; omega))
        | (go_at_call 10; (with_reducible refine (duo_ins2 D0 a hid).mono ?_); rintro e w5 ⟨rfl, S5, D5, f5', C5⟩; have cx5 := C5.cell cx gS; have cy5 := C5.cell cy gS; have B5 := Chg.low KB0 C5 hS; have f5 : ∀ k, S5 k → w.heap.size ≤ k := (fun k hk => by rcases f5' k hk with e | e; exact hS k e; have := KB0.size; omega))
        | (go_at_call 10; (with_reducible refine (duo_ins2 D4 a hid).mono ?_); rintro e w6 ⟨rfl, S6, D6, f6', C6⟩; have B6 := Chg.low B4 C6 f4; have f6 : ∀ k, S6 k → w.heap.size ≤ k := (fun k hk => by rcases f6' k hk with e | e; exact f4 k e; have := B4.size; omega))
        | (go_at_call 10; (with_reducible refine (duo_ins D5 a hid).mono ?_); rintro e w6 ⟨rfl, S6, D6, f6', C6⟩; have B6 := Chg.low B5 C6 f5; have f6 : ∀ k, S6 k → w.heap.size ≤ k := (fun k hk => by rcases f6' k hk with e | e; exact f5 k e; have := B5.size; omega)))
      all_goals
        go_wp2_with fail
        go_roundw
        case rel => exact ⟨j + 1, S6, by omega, by omega, by go_num, by rw [HN.out]; exact D6, f6, B6⟩
        case measure => simp [intOf]; omega
    · have hok := hD.ok
      have hlen := hok.len
      have gg : (j < l.length ∧ decide ((j : Int) < 400) = false) ∨ (¬ j < l.length ∧ decide ((j : Int) < l.length) = false) := by
        by_cases h1 : j < l.length
        · exact .inl ⟨h1, decide_eq_false (by omega)⟩
        · exact .inr ⟨h1, decide_eq_false (by omega)⟩
      have hdl : ∀ t, (dueL t (insN now l j)).length ≤ 4096 := fun t => Nat.le_trans (List.length_filter_le _ _) hlen
      have hrl : ∀ t, (restL t (insN now l j)).length ≤ 4096 := fun t => Nat.le_trans (List.length_filter_le _ _) hlen
      have hd0 : Hid (dueL now (insN now l j) = []) := due_now hok
      have hr0 : Hid (restL now (insN now l j) = insN now l j) := rest_now hok
      have hds : Hid (∀ (n s : Int), n ≤ s → dueL n (insN now l j) ++ dueL s (restL n (insN now l j)) = dueL s (insN now l j)) := fun _ _ h => due_steps hok.srt h
      have hrs : Hid (∀ (n s : Int), n ≤ s → restL s (restL n (insN now l j)) = restL s (insN now l j)) := fun _ _ h => rest_steps h
      clear hok hgo
      generalize insN now l j = LJ at *
      by_cases hbad : tt < now ∨ 226157759 < tt
      · have A1 := duo_bad hD tt hbad
        clear hbad
        rcases gg with ⟨g0, g1⟩ | ⟨g0, g1⟩
        all_goals
          go_wp2_with (go_at_call 14; (with_reducible refine A1.mono ?_); rintro e w4 ⟨rfl, e4⟩; have e4' := e4.symm; clear e4; subst e4')
          go_ret
          exact ⟨rfl, KB⟩
      · have A1 := duo_adv hD tt (by omega) (by omega)
        have t0 : now ≤ tt := by omega
        have t1 : tt ≤ 226157759 := by omega
        have A2 : ∀ {S w b1 b2 n1 n2 L1 L2} (s : Int), Duo S w b1 n1 L1 b2 n2 L2 → n2 ≤ s → s ≤ tt → Calls Try.prog 14 #[.pointer (some ⟨b2, 0, none⟩), .int .i64 s] w fun e w' => ∃ ad m c, e = .returned (.tuple #[.slice ad m c, .int .i64 0]) ∧ w'.ownsRow w.heap.size 33 2 (.slice ad m c) (dueL s L2).length (cells (dueL s L2)) ∧ ∃ S', Duo S' w' b1 n1 L1 b2 s (restL s L2) ∧ (∀ k, S' k → S k ∨ w.heap.size ≤ k) ∧ (∀ k, (Value.slice ad m c).ownBlock = some k → ¬ S' k) ∧ Chg S w w' := fun s h h1 h2 => duo_adv2 h s h1 (by omega)
        clear hbad
        rcases gg with ⟨g0, g1⟩ | ⟨g0, g1⟩
        all_goals
          go_wp2_with (go_at_call 14; (with_reducible refine A1.mono ?_); rintro e w4 ⟨a4, m4, c4, rfl, O4, S4, D4, f4', r4, C4⟩; have B4 := Chg.low KB C4 hS; have f4 : ∀ k, S4 k → w.heap.size ≤ k := (fun k hk => by rcases f4' k hk with e | e; exact hS k e; have := KB.size; omega))
          clear A1
          have hbase4 := B4.size
          have D4' : Duo S4 w4 b1 tt (restL tt LJ) b2 now (restL now LJ) := by rw [hr0.out]; exact D4
          go_loopw [15, 16] (fun s i wr => ∃ (j : Nat) (S : Nat → Prop) (ad : Option Addr) (m c : Nat) (nw : Int), j ≤ ts.length ∧ j ≤ 400 ∧ i = .int .i64 j ∧ s = .slice ad m c ∧ now ≤ nw ∧ nw ≤ tt ∧ wr.ownsRow w4.heap.size 33 2 (.slice ad m c) (dueL nw LJ).length (cells (dueL nw LJ)) ∧ (∀ k, (Value.slice ad m c).ownBlock = some k → ¬ S k) ∧ Duo S wr b1 tt (restL tt LJ) b2 nw (restL nw LJ) ∧ (∀ k, S k → S4 k ∨ w4.heap.size ≤ k) ∧ Chg S4 w4 wr) (fun _ i _ => (500 - intOf i).toNat)
          case atStart => exact ⟨0, S4, none, 0, 0, now, by omega, by omega, rfl, rfl, by omega, t0, by rw [hd0.out]; exact World.ownsRow_nil _ _ _ _, (fun k hk => by cases hk), D4', fun k hk => .inl hk, Chg.refl _ _⟩
          case round =>
            obtain ⟨i, S5, ad5, m5, c5, nw, hi1, hi2, rfl, rfl, q0, q1, O5, r5, D5, f5, C5⟩ := hrel
            have B5 : Below w.heap.size w wr := Chg.low B4 C5 f4
            have hl5 := hdl nw
            have hlt5 : ∀ k, S5 k → k < wr.heap.size := D5.lt
            have hs5 := C5.size
            by_cases hgo : i < ts.length ∧ i < 400
            · obtain ⟨hlt, h4⟩ := hgo
              obtain ⟨s, hsi⟩ : ∃ x, ts[i]? = some x := ⟨ts[i], List.getElem?_eq_getElem hlt⟩
              obtain ⟨g, o, hix, cx0⟩ := HT.out.idx (.inr rfl) hsi
              have cx := (B5.cell (p := ⟨g, o, none⟩) (World.block_lt_of_cell? w _ cx0)).trans cx0
              clear cx0 hsi
              by_cases hle : s ≤ tt
              · by_cases hlow : s < nw
                · have A3 := duo_bad D5.symm s (.inl hlow)
                  clear hlow A2
                  go_wp2_with (first
                    | (go_at_call 14; (with_reducible refine A3.mono ?_); rintro e w6 ⟨rfl, e6⟩; have e6' := e6.symm; clear e6; subst e6')
                    | (refine wpList_append_items rfl (.tmp 103) (.tmp 104) rfl w4.heap.size _ _ _ (dueL nw LJ) rfl O5 0 _ [] rfl (World.ownsRow_nil _ _ _ _) (by simp; omega) (by omega) ?_; intro ad7 m7 c7 w7 O7 G7 r7))
                  go_roundw
                  case rel => exact ⟨i + 1, S5, ad7, m7, c7, nw, by omega, by omega, by go_num, rfl, q0, q1, by simpa using O7, fun k hk => by
                    rcases r7 with e | e
                    · exact r5 k (e ▸ hk)
                    · intro hS5; have := hlt5 k hS5; rw [e] at hk; injection hk with hk; omega, D5.kept (T := fun k => (Value.slice ad5 m5 c5).ownBlock = some k) (Chg.of G7 fun k hk => hk) (fun k hk c => r5 k c hk), f5, C5.grown G7 fun k hk => .inr (O5.lt k hk).1⟩
                  case measure => simp [intOf]; omega
                · have hlow' : nw ≤ s := by omega
                  have A3 := A2 s D5 hlow' hle
                  have hl6 : (dueL nw LJ).length + (dueL s (restL nw LJ)).length ≤ 4096 := by
                    rw [← List.length_append, hds.out nw s hlow']; exact hdl s
                  clear hlow A2
                  go_wp2_with (first
                    | (go_at_call 14; (with_reducible refine A3.mono ?_); rintro e w6 ⟨a6, m6, c6, rfl, O6, S6, D6, f6', r6, C6⟩; have O56 := C6.owns O5 r5; have hs6 := C6.size)
                    | (refine wpList_append_items rfl (.tmp 103) (.tmp 104) rfl w4.heap.size _ _ _ (dueL nw LJ) rfl O56 wr.heap.size _ (dueL s (restL nw LJ)) rfl O6 (by omega) (by omega) ?_; intro ad7 m7 c7 w7 O7 G7 r7))
                  rw [hds.out nw s hlow'] at O7
                  have D7 : Duo S6 w7 b1 tt (restL tt LJ) b2 s (restL s (restL nw LJ)) := D6.kept (T := fun k => (Value.slice ad5 m5 c5).ownBlock = some k) (Chg.of G7 fun k hk => hk) (fun k hk c => by
                    rcases f6' k hk with e | e
                    · exact r5 k c e
                    · have := (O5.lt k c).2; omega)
                  rw [hrs.out nw s hlow'] at D7
                  go_roundw
                  case rel => exact ⟨i + 1, S6, ad7, m7, c7, s, by omega, by omega, by go_num, rfl, by omega, hle, O7, fun k hk hS6 => by
                    rcases r7 with e | e
                    · have hk' : (Value.slice ad5 m5 c5).ownBlock = some k := e ▸ hk
                      rcases f6' k hS6 with e | e
                      · exact r5 k hk' e
                      · have := (O5.lt k hk').2; omega
                    · have := D6.lt k hS6; rw [e] at hk; injection hk with hk; omega, D7, fun k hk => by
                    rcases f6' k hk with e | e
                    · exact f5 k e
                    · exact .inr (by omega), (C5.trans C6 f5).grown G7 fun k hk => .inr (O5.lt k hk).1⟩
                  case measure => simp [intOf]; omega
              · have hd : decide (s ≤ tt) = false := decide_eq_false hle
                go_wp2_with fail
                go_roundw
                case rel => exact ⟨i + 1, S5, ad5, m5, c5, nw, by omega, by omega, by go_num, rfl, q0, q1, O5, r5, D5, f5, C5⟩
                case measure => simp [intOf]; omega
            · have gg : (i < ts.length ∧ decide ((i : Int) < 400) = false) ∨ (¬ i < ts.length ∧ decide ((i : Int) < ts.length) = false) := by
                by_cases h1 : i < ts.length
                · exact .inl ⟨h1, decide_eq_false (by omega)⟩
                · exact .inr ⟨h1, decide_eq_false (by omega)⟩
              have A3 := A2 tt D5 q1 (by omega)
              have hl6 : (dueL nw LJ).length + (dueL tt (restL nw LJ)).length ≤ 4096 := by
                rw [← List.length_append, hds.out nw tt q1]; exact hdl tt
              have IS : ∀ {w va vb}, Ri w va (dueL tt LJ) → Ri w vb (dueL tt LJ) → Calls Try.prog 16 #[va, vb] w fun e w' => e = .returned (.bool true) ∧ ∃ n, w' = w.drewN n := fun h1 h2 => items_same _ _ _ (by have := hdl tt; omega) _ h1 h2
              have IR : ∀ {w va vb}, Ri w va (restL tt LJ) → Ri w vb (restL tt LJ) → Calls Try.prog 16 #[va, vb] w fun e w' => e = .returned (.bool true) ∧ ∃ n, w' = w.drewN n := fun h1 h2 => items_same _ _ _ (by have := hrl tt; omega) _ h1 h2
              have WT : ∀ {S w b1 b2 n1 n2 L2}, Duo S w b1 n1 (restL tt LJ) b2 n2 L2 → Calls Try.prog 18 #[.pointer (some ⟨b1, 0, none⟩)] w fun e w' => ∃ ad m c, e = .returned (.slice ad m c) ∧ w'.ownsRow w.heap.size 33 2 (.slice ad m c) (restL tt LJ).length (cells (restL tt LJ)) ∧ w.grownBy w' none := fun h => duo_wait h
              have htt : (tt == tt) = true := by simp
              clear hgo A2
              rcases gg with ⟨g5, g6⟩ | ⟨g5, g6⟩
              all_goals
                go_wp2_with (first
                  | (go_at_call 14; (with_reducible refine A3.mono ?_); rintro e w6 ⟨a6, m6, c6, rfl, O6, S6, D6, f6', r6, C6⟩; have O56 := C6.owns O5 r5; have hs6 := C6.size)
                  | (refine wpList_append_items rfl (.tmp 112) (.tmp 113) rfl w4.heap.size _ _ _ (dueL nw LJ) rfl O56 wr.heap.size _ (dueL tt (restL nw LJ)) rfl O6 (by omega) (by omega) ?_; intro ad7 m7 c7 w7 O7 G7 r7; (rw [hds.out nw tt q1] at O7); have D7 := D6.kept (T := fun k => (Value.slice ad5 m5 c5).ownBlock = some k) (Chg.of G7 fun k hk => hk) (fun k hk c => by
                      rcases f6' k hk with e | e
                      · exact r5 k c e
                      · have := (O5.lt k c).2; omega); (rw [hrs.out nw tt q1] at D7); have C7 : Chg S4 w4 w7 := ((C5.trans C6 f5).grown G7 fun k hk => .inr (O5.lt k hk).1); have R4 := (Ri.of_own O4).kept C7 r4; have R7 := Ri.of_own O7)
                  | (go_at_call 16; (with_reducible refine (IS R4 R7).mono ?_); rintro e w8 ⟨rfl, n8, e8⟩; have G8 : w7.grownBy w8 none := (by rw [e8]; exact grown_drewN (grown_refl _ _) _); clear e8; have D8 := D7.grown G8)
                  | (go_at_call 18; (with_reducible refine (WT D8).mono ?_); rintro e w9 ⟨a9, m9, c9, rfl, O9, G9⟩; have D9 := D8.grown G9)
                  | (go_at_call 18; (with_reducible refine (WT D9.symm).mono ?_); rintro e w10 ⟨a10, m10, c10, rfl, O10, G10⟩; have D10 := D9.grown G10; have R9 := (Ri.of_own O9).grown G10; have R10 := Ri.of_own O10)
                  | (go_at_call 16; (with_reducible refine (IR R9 R10).mono ?_); rintro e w11 ⟨rfl, n11, e11⟩; have G11 : w10.grownBy w11 none := (by rw [e11]; exact grown_drewN (grown_refl _ _) _); clear e11; have D11 := D10.grown G11)
                  | (go_at_call 17; (with_reducible refine (duo_now D11).mono ?_); rintro e w12 ⟨rfl, e12⟩; have e12' := e12.symm; clear e12; subst e12')
                  | (go_at_call 17; (with_reducible refine (duo_now D11.symm).mono ?_); rintro e w12 ⟨rfl, e12⟩; have e12' := e12.symm; clear e12; subst e12'))
                go_ret
                exact ⟨rfl, grown_low (Chg.low B4 C7 f4) (grown_more (grown_more (grown_more G8 G9 (by simp)) G10 (by simp)) G11 (by simp))⟩
theorem wheelSteps.walk (W : World) (now : Int) (hn : Lit.wf (.int .i64 now) = true) (v1 : Value) (o1 : ∃ l, Ra W v1 l) (tt : Int) (ht : Lit.wf (.int .i64 tt) = true) (v3 : Value) (o3 : ∃ l, Rn W v3 45 l) :
    Calls Try.prog 5 #[.int .i64 now, v1, .int .i64 tt, v3] W fun e W' => e = .returned (.bool true) ∧ Below W.heap.size W W' := by
  obtain ⟨l, hl⟩ := o1
  obtain ⟨ts, hts⟩ := o3
  by_cases hb : now < 0 ∨ 226157759 < now
  · exact steps_bad now tt v1 v3 hb W
  · obtain ⟨ad, c, rfl, _⟩ := id hl.1
    obtain ⟨adt, ct, rfl, _⟩ := id hts.1
    exact steps_ok now tt ad c l adt ct ts (by omega) (by omega) W hl hts
end Go.Proofs.Ytijgekdhjfbgkaa
