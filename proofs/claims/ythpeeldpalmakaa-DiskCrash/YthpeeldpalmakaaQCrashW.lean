/- A crash keeps what was synced, and of the rest a beginning: the statement's walk. -/
import Derived.Test.YthpeeldpalmakaaQCrashM
namespace Go.Proofs.Ythpeeldpalmakaa
open Go.RowKit Dsk
set_option linter.unusedVariables false

/-- Where a name stands among the first k. -/
def AtIs (N : List (List UInt8)) (nl : List UInt8) (k : Nat) (a : Int) : Prop := (a = -1 ∧ nl ∉ N.take k) ∨ ∃ i : Nat, a = i ∧ i < k ∧ N[i]? = some nl
theorem AtIs.next_no {N : List (List UInt8)} {nl x : List UInt8} {k : Nat} {a : Int} (h : AtIs N nl k a) (hx : N[k]? = some x) (hne : x ≠ nl) : AtIs N nl (k + 1) a := by
  rcases h with ⟨h1, h2⟩ | ⟨i, h1, h2, h3⟩
  · refine .inl ⟨h1, fun c => ?_⟩
    rw [List.take_add_one, hx] at c
    simp at c
    rcases c with c | c
    · exact h2 c
    · exact hne c.symm
  · exact .inr ⟨i, h1, by omega, h3⟩
theorem AtIs.next_yes {N : List (List UInt8)} {nl : List UInt8} {k : Nat} (hx : N[k]? = some nl) : AtIs N nl (k + 1) (k : Int) := .inr ⟨k, rfl, by omega, hx⟩
theorem row_one (w : World) (x : List UInt8) (ob : Obj) (hob : ob = Obj.cells #[.string ⟨x.toArray⟩] 9) : eS.Rx (w.alloc ob) (.slice (some ⟨w.heap.size, 0, none⟩) 1 1) [x] := Elm.rx_one fun j u hu => by
  match j, hu with
  | 0, hu => injection hu with hu; rw [← hu, hob]; exact new_at w rfl rfl
set_option maxRecDepth 100000 in
set_option maxHeartbeats 25600000 in
theorem crash_law (a0 : Option Addr) (cp0 : Nat) (os : List Dd) (keep torn : Int) (hk : keep ≤ 9223372036854775807) (w : World) (hS : Sc w (.slice a0 os.length cp0) os) :
    Calls Try.prog 4 #[.slice a0 os.length cp0, .int .i64 keep, .int .i64 torn] w fun e w' => e = .returned (.bool true) ∧ Below w.heap.size w w' := by
  have AW := awake_any
  have NO := new_ok
  obtain ⟨_, hlen, hat⟩ := hS.at_
  have HS : Hid (∀ (i : Nat) (o : Dd), os[i]? = some o → ∃ g q, (∀ W', (Instr.indexAt 22 (.slice a0 os.length cp0) (.int .i64 (i : Int))).run Try.prog W' = .ok (.pointer (some ⟨g, q, none⟩)) W') ∧ DoAt w g q o) := hat
  clear hat hS
  go_enter Try.func4, Try.ntmps4
  go_upto_block 0 with (first
    | (go_at_call 8; (with_reducible refine (AW _).mono ?_); rintro e w1 ⟨rfl, K1⟩)
    | (go_at_call 9; (with_reducible refine (NO w1).mono ?_); rintro e w2 ⟨b, F1, rfl, h2, f2, H2⟩))
  have L0 : Lv w w2 b newS F1 := ⟨h2, fun k hk => by have := f2 k hk; have := K1.size; omega, grown_below (grown_more K1 H2 (by simp))⟩
  clear h2 f2 H2 NO AW K1
  go_cut [8, 9, 10, 11, 12, 13, 14, 15] from 28 to 96 (fun vN vY i _ _ _ _ _ wx => ∃ s F, s.m ≤ 200 ∧ Lv w wx b s F ∧ Rows2 wx w.heap.size vN vY (keys s.l) (syn s.l) F)
  case first =>
    go_wp2_with fail
    go_loopw [8, 9, 10] (fun vN vY i wr => ∃ (j : Nat) (s : St) (F : Nat → Prop), j ≤ os.length ∧ j ≤ 200 ∧ i = .int .i64 j ∧ s.m ≤ j ∧ Lv w wr b s F ∧ Rows2 wr w.heap.size vN vY (keys s.l) (syn s.l) F) (fun _ _ i _ => (500 - intOf i).toNat)
    case atStart => exact ⟨0, newS, F1, by omega, by omega, rfl, by simp [newS], L0, Elm.nil _ _, Elm.nil _ _, by simp [Value.ownBlock], by simp [Value.ownBlock], by simp [Value.ownBlock]⟩
    case round =>
      obtain ⟨j, s, F, hj1, hj2, rfl, hm, hL, hR⟩ := hrel
      clear L0
      obtain ⟨aN, cN, rfl⟩ := Elm.form hR.oN
      obtain ⟨aY, cY, hYf⟩ := Elm.form hR.oY
      rw [show (syn s.l).length = (keys s.l).length by unfold syn keys; simp] at hYf
      subst hYf
      by_cases hgo : j < os.length ∧ j < 200
      · obtain ⟨hlt, h4⟩ := hgo
        obtain ⟨o, hoj⟩ : ∃ o, os[j]? = some o := ⟨_, List.getElem?_eq_getElem hlt⟩
        obtain ⟨g, q, hix, hA⟩ := HS.out j o hoj
        obtain ⟨va, vc, hv⟩ := hA.rx.form
        obtain ⟨kd, nm, v, bb, kp, tn⟩ := o
        simp only at hv
        subst hv
        obtain ⟨nl, rfl⟩ : ∃ nl : List UInt8, nm = ⟨nl.toArray⟩ := ⟨nm.data.toList, (bytes_eta nm).symm⟩
        have hA' := hA.low hL.2.2
        have x0 := hA'.c0
        have x1 := hA'.c1
        have x2 := hA'.c2
        have x3 := hA'.c3
        have x4 := hA'.c4
        simp only at x0 x1 x2 x3 x4
        have HAT : Hid (DoAt w g q ⟨kd, ⟨nl.toArray⟩, .slice va bb.length vc, bb, kp, tn⟩) := hA
        have HLv : Hid (Lv w wr b s F) := hL
        have HRw : Hid (Rows2 wr w.heap.size (.slice aN (keys s.l).length cN) (.slice aY (keys s.l).length cY) (keys s.l) (syn s.l) F) := hR
        have hok := hL.1.ok
        have DO : ∀ ob, Calls Try.prog 14 #[.pointer (some ⟨b, 0, none⟩), .agg #[.int .i64 kd, .string ⟨nl.toArray⟩, .slice va bb.length vc, .int .i64 kp, .int .i64 tn]] (wr.alloc ob) fun e w' => e = .returned (.int .i64 (stepE s ⟨kd, ⟨nl.toArray⟩, .slice va bb.length vc, bb, kp, tn⟩)) ∧ ∃ F', Lv w w' b (stepS s ⟨kd, ⟨nl.toArray⟩, .slice va bb.length vc, bb, kp, tn⟩) F' ∧ (∀ k, F' k → F k ∨ (wr.alloc ob).heap.size ≤ k) ∧ Chg F (wr.alloc ob) w' := fun ob => does_lv (hL.grown (World.grownBy_alloc wr ob none)) (by omega) hA
        have hkl : (keys s.l).length ≤ 64 := by unfold keys; simpa using hok.len
        have hyl : (syn s.l).length = (keys s.l).length := by unfold syn keys; simp
        have HYL : Hid ((syn s.l).length = (keys s.l).length) := hyl
        clear hyl
        have hnl : nl.length ≤ 140737488351232 := by have := hA.hn; simpa [ByteArray.size] using this
        have HNL : Hid (nl.length ≤ 140737488351232) := hnl
        -- behind the call: the box and the rows
        have BH : Hid (∀ w4 F4 s', Lv w w4 b s' F4 → (∀ k, F4 k → F k ∨ (wr.alloc (.cells #[.int .i64 kd, .string ⟨nl.toArray⟩, .slice va bb.length vc, .int .i64 kp, .int .i64 tn] 33)).heap.size ≤ k) → Chg F (wr.alloc (.cells #[.int .i64 kd, .string ⟨nl.toArray⟩, .slice va bb.length vc, .int .i64 kp, .int .i64 tn] 33)) w4 → w4.cell? ⟨wr.heap.size, 0, none⟩ = some (.int .i64 kd) ∧ w4.cell? ⟨wr.heap.size, 1, none⟩ = some (.string ⟨nl.toArray⟩) ∧ Rows2 w4 w.heap.size (.slice aN (keys s.l).length cN) (.slice aY (keys s.l).length cY) (keys s.l) (syn s.l) F4 ∧ ∀ k, ((Value.slice aN (keys s.l).length cN).ownBlock = some k ∨ (Value.slice aY (keys s.l).length cY).ownBlock = some k) → k ≠ wr.heap.size) := fun w4 F4 s' l4 f4 C4 => by
          have nF : ¬ F wr.heap.size := fun c => by have := HLv.out.1.lt _ c; omega
          have hR1 := HRw.out.grown (World.grownBy_alloc wr (.cells #[.int .i64 kd, .string ⟨nl.toArray⟩, .slice va bb.length vc, .int .i64 kp, .int .i64 tn] 33) none)
          refine ⟨C4.cell (new_at wr rfl rfl) nF, C4.cell (new_at wr rfl rfl) nF, hR1.next C4 f4, fun k hk e => ?_⟩
          rcases hk with hk | hk
          · have := (HRw.out.oN.lt k hk).2; omega
          · have := (HRw.out.oY.lt k hk).2; omega
        have Q6 : Hid (w.heap.size ≤ wr.heap.size) := hL.2.2.size
        clear hoj hA hA' hL hR
        by_cases k0 : kd = 0
        · subst k0
          have e1 : stepE s ⟨0, ⟨nl.toArray⟩, .slice va bb.length vc, bb, kp, tn⟩ = appE s.l nl bb.length := rfl
          have e2 : stepS s ⟨0, ⟨nl.toArray⟩, .slice va bb.length vc, bb, kp, tn⟩ = appS s nl bb := rfl
          have HMs : Hid ((appS s nl bb).m ≤ s.m + 1) := by have := step_m s ⟨0, ⟨nl.toArray⟩, .slice va bb.length vc, bb, kp, tn⟩; rw [e2] at this; exact this
          rw [e1, e2] at DO
          clear e1 e2
          by_cases he : appE s.l nl bb.length = 0
          · rw [he] at DO
            have HE : Hid (appE s.l nl bb.length = 0) := he
            clear he
            go_upto_block 2 with (go_at_call 14; (with_reducible refine (DO _).mono ?_); rintro e w4 ⟨rfl, F4, L4, f4, C4⟩)
            obtain ⟨y0, y1, R4, nQ⟩ := BH.out w4 F4 _ L4 f4 C4
            have z4 : wr.heap.size < w4.heap.size := World.block_lt_of_cell? w4 _ y0
            obtain ⟨Q, hQ⟩ : ∃ Q, Q = wr.heap.size := ⟨_, rfl⟩
            have hwQ : w.heap.size ≤ Q := by rw [hQ]; exact Q6.out
            rw [← hQ] at y0 y1 nQ z4 ⊢
            clear hQ DO BH C4 f4 x0 x1 x2 x3 x4 hix HLv HRw HAT HS Q6
            have HL4 : Hid (Lv w w4 b (appS s nl bb) F4) := L4
            have HR4 : Hid (Rows2 w4 w.heap.size (.slice aN (keys s.l).length cN) (.slice aY (keys s.l).length cY) (keys s.l) (syn s.l) F4) := R4
            clear L4 R4
            obtain ⟨N, hN⟩ : ∃ N, N = keys s.l := ⟨_, rfl⟩
            obtain ⟨Y, hY⟩ : ∃ Y, Y = syn s.l := ⟨_, rfl⟩
            rw [← hN] at hkl HYL HR4 nQ ⊢
            rw [← hY] at HYL HR4
            have HN : Hid (N = keys s.l) := hN
            have HY : Hid (Y = syn s.l) := hY
            clear hN hY
            go_cut [12, 13] from 56 to 69 (fun at_ _ wx => ∃ a : Int, at_ = .int .i64 a ∧ AtIs N nl N.length a ∧ w4.grownBy wx none)
            case first =>
              go_wp2_with fail
              go_loopw [12, 13] (fun at_ i wl => ∃ (k : Nat) (a : Int), k ≤ N.length ∧ i = .int .i64 k ∧ at_ = .int .i64 a ∧ AtIs N nl k a ∧ w4.grownBy wl none) (fun _ i _ => N.length - (intOf i).toNat)
              case atStart => exact ⟨0, -1, by omega, rfl, rfl, .inl ⟨rfl, by simp⟩, grown_refl _ _⟩
              case round =>
                obtain ⟨k, a, hk2, rfl, rfl, hAt, hg⟩ := hrel
                have HAt : Hid (AtIs N nl k a) := hAt
                clear hAt
                by_cases hlt2 : k < N.length
                · obtain ⟨x, hx⟩ : ∃ x, N[k]? = some x := ⟨_, List.getElem?_eq_getElem hlt2⟩
                  obtain ⟨g3, q3, ix3, cl3, _, _⟩ := (HR4.out.oN.grown hg).idx (by omega) hx
                  have ix3' : ∀ W, (Instr.indexAt 27 (.slice aN N.length cN) (.int .i64 (k : Int))).run Try.prog W = .ok (.pointer (some ⟨g3, q3, none⟩)) W := ix3
                  have z3 : wr.cell? ⟨g3, q3, none⟩ = some (.string ⟨x.toArray⟩) := cl3 0 _ rfl
                  have v1 := hg.cell y1 (by simp)
                  have HX : Hid (N[k]? = some x) := hx
                  clear hx ix3 cl3
                  by_cases hxn : x = nl
                  · subst hxn
                    go_upto_region 15 with fail
                    refine region_still (by kernel_rfl) (by kernel_rfl) ?_
                    iterate 7 still_step
                    refine wpStill_nil ?_
                    go_wp2_with fail
                    go_roundw
                    case rel => exact ⟨k + 1, k, by omega, by go_num, rfl, AtIs.next_yes HX.out, grown_drew hg⟩
                    case measure => simp [intOf]; omega
                  · have hne : ¬ (⟨x.toArray⟩ : ByteArray) = ⟨nl.toArray⟩ := fun e => hxn (by injection e with e; simpa using e)
                    have hne3 : (x == nl) = false := by simpa using hxn
                    have hne4 : decide (x = nl) = false := decide_eq_false hxn
                    go_upto_region 15 with fail
                    refine region_still (by kernel_rfl) (by kernel_rfl) ?_
                    iterate 7 still_step
                    refine wpStill_nil ?_
                    go_wp2_with fail
                    go_roundw
                    case rel => exact ⟨k + 1, a, by omega, by go_num, rfl, HAt.out.next_no HX.out hxn, grown_drew hg⟩
                    case measure => simp [intOf]; omega
                · have hkk : k = N.length := by omega
                  subst hkk
                  go_wp2_with fail
                  go_meet
                  exact ⟨a, rfl, HAt.out, hg⟩
            case rest =>
              obtain ⟨a, rfl, hAt, hg⟩ := hcut
              have HL5 : Hid (Lv w wc b (appS s nl bb) F4) := HL4.out.grown hg
              have HR5 := HR4.out.grown hg
              have v0 := hg.cell y0 (by simp)
              have v1 := hg.cell y1 (by simp)
              have zc : Q < wc.heap.size := World.block_lt_of_cell? wc _ v0
              clear y0 y1 HL4 HR4 hg z4
              rcases hAt with ⟨rfl, hno⟩ | ⟨i, rfl, hi, hiN⟩
              · -- a new file
                have hh : has s.l nl = false := by
                  cases c : has s.l nl with
                  | false => rfl
                  | true => exact absurd (by rw [List.take_length, HN.out]; exact has_keys.1 c) hno
                obtain ⟨t1, t2⟩ := app_new_syn HE.out hh
                rw [← HN.out] at t1
                rw [← HY.out] at t2
                have HT1 : Hid (keys (appS s nl bb).l = N ++ [nl]) := t1
                have HT2 : Hid (syn (appS s nl bb).l = Y ++ [[]]) := t2
                have W6 : ∀ ob, eS.Own (wc.alloc ob) w.heap.size (.slice aN N.length cN) N := fun ob => HR5.oN.grown (World.grownBy_alloc wc ob none)
                have zb : ∀ ob, w.heap.size ≤ (wc.alloc ob).heap.size := fun ob => by simp; omega
                have ST7 : Hid (∀ ob w7 a7 n7 c7, (wc.alloc ob).grownBy w7 (Value.slice aN N.length cN).ownBlock → eS.Own w7 w.heap.size (.slice a7 n7 c7) (N ++ [nl]) → ((Value.slice a7 n7 c7).ownBlock = (Value.slice aN N.length cN).ownBlock ∨ (Value.slice a7 n7 c7).ownBlock = some (wc.alloc ob).heap.size) → Rows2 w7 w.heap.size (.slice a7 n7 c7) (.slice aY N.length cY) (N ++ [nl]) Y F4 ∧ Lv w w7 b (appS s nl bb) F4 ∧ w7.cell? ⟨Q, 0, none⟩ = some (.int .i64 0) ∧ w.heap.size ≤ w7.heap.size) := fun ob w7 a7 n7 c7 g7 o7 l7 => by
                  have g7' : wc.grownBy w7 (Value.slice aN N.length cN).ownBlock := grown_more ((World.grownBy_alloc wc ob none).but _) g7 (fun _ e => .inl e)
                  have C7 : Chg (fun k => (Value.slice aN N.length cN).ownBlock = some k) wc w7 := Chg.of g7' (fun _ e => e)
                  refine ⟨HR5.first g7' o7 (l7.imp id fun e => ⟨_, e, by simp⟩) HL5.out.1.lt, ⟨HL5.out.1.kept C7 (fun k hk c => HR5.aN k c hk), HL5.out.2.1, Chg.low HL5.out.2.2 C7 fun k hk => (HR5.oN.lt k hk).1⟩, C7.cell v0 (fun c => nQ Q (.inl c) rfl), ?_⟩
                  have := g7'.size
                  omega
                clear hno hh t1 t2
                go_wp2_with (first
                  | (at_builtin; refine Elm.wpList_append (E := eS) rfl (.tmp 74) (.tmp 77) rfl w.heap.size (.slice aN N.length cN) N rfl (W6 _) _ [nl] rfl (row_one _ _ _ rfl) (by simp; omega) (by show (N.length + 1) * 16 ≤ _; omega) (zb _) ?_; intro a7 n7 c7 w7 O7 G7 l7; obtain ⟨R7, L7, u7, zz7⟩ := ST7.out _ _ _ _ _ G7 O7 l7; have W8 : ∀ ob, eS.Own (w7.alloc ob) w.heap.size (.slice aY N.length cY) Y := (fun ob => R7.oY.grown (World.grownBy_alloc w7 ob none)); have zb8 : ∀ ob, w.heap.size ≤ (w7.alloc ob).heap.size := (fun ob => (by simp; omega)))
                  | (at_builtin; refine Elm.wpList_append (E := eS) rfl (.tmp 79) (.tmp 80) rfl w.heap.size (.slice aY N.length cY) Y rfl (W8 _) _ [[]] rfl (row_one _ _ _ rfl) (by have := HYL.out; simp; omega) (by have := HYL.out; show (Y.length + 1) * 16 ≤ _; omega) (zb8 _) ?_; intro a8 n8 c8 w8 O8 G8 l8; have g8' : w7.grownBy w8 (Value.slice aY N.length cY).ownBlock := grown_more ((World.grownBy_alloc w7 _ none).but _) G8 (fun _ e => .inl e); have C8 : Chg (fun k => (Value.slice aY N.length cY).ownBlock = some k) w7 w8 := Chg.of g8' (fun _ e => e); have u8 : w8.cell? ⟨Q, 0, none⟩ = some (.int .i64 0) := C8.cell u7 (fun c => nQ Q (.inr c) rfl)))
                have R8 : Rows2 w8 w.heap.size (.slice a7 n7 c7) (.slice a8 n8 c8) (N ++ [nl]) (Y ++ [[]]) F4 := R7.second g8' O8 (l8.imp id fun e => ⟨_, e, by simp⟩) L7.1.lt
                have L8 : Lv w w8 b (appS s nl bb) F4 := ⟨L7.1.kept C8 (fun k hk c => R7.aY k c hk), L7.2.1, Chg.low L7.2.2 C8 fun k hk => (R7.oY.lt k hk).1⟩
                go_roundw
                case rel => exact ⟨j + 1, appS s nl bb, F4, by omega, by omega, by go_num, by have := HMs.out; omega, L8, by rw [HT1.out, HT2.out]; exact R8⟩
                case measure => simp [intOf]; omega
              · -- a file that was there
                have hh : has s.l nl = true := has_keys.2 (by rw [← HN.out]; exact List.mem_of_getElem? hiN)
                obtain ⟨t1, t2⟩ := app_old_syn hok HE.out hh
                rw [← HN.out] at t1
                rw [← HY.out] at t2
                have HT1 : Hid (keys (appS s nl bb).l = N) := t1
                have HT2 : Hid (syn (appS s nl bb).l = Y) := t2
                have ii : ¬ ((i : Int) < 0) := by omega
                clear hh t1 t2 hiN
                go_wp2_with fail
                go_roundw
                case rel => exact ⟨j + 1, appS s nl bb, F4, by omega, by omega, by go_num, by have := HMs.out; omega, HL5.out, by rw [HT1.out, HT2.out]; exact HR5⟩
                case measure => simp [intOf]; omega
          · have he' : (appE s.l nl bb.length != 0) = true := by simpa using he
            rw [step_same he] at DO
            generalize appE s.l nl bb.length = E0 at DO he'
            clear he
            go_wp2_with (go_at_call 14; (with_reducible refine (DO _).mono ?_); rintro e w4 ⟨rfl, F4, L4, f4, C4⟩)
            obtain ⟨_, _, R4, _⟩ := BH.out w4 F4 s L4 f4 C4
            go_roundw
            case rel => exact ⟨j + 1, s, F4, by omega, by omega, by go_num, by omega, L4, R4⟩
            case measure => simp [intOf]; omega
        · by_cases k1 : kd = 1
          · subst k1
            have e1 : stepE s ⟨1, ⟨nl.toArray⟩, .slice va bb.length vc, bb, kp, tn⟩ = hasE s.l nl := rfl
            have e2 : stepS s ⟨1, ⟨nl.toArray⟩, .slice va bb.length vc, bb, kp, tn⟩ = syncS s nl := rfl
            rw [e1, e2] at DO
            clear e1 e2 k0
            by_cases he : hasE s.l nl = 0
            · rw [he] at DO
              have HE : Hid (hasE s.l nl = 0) := he
              clear he
              go_upto_block 2 with (go_at_call 14; (with_reducible refine (DO _).mono ?_); rintro e w4 ⟨rfl, F4, L4, f4, C4⟩)
              obtain ⟨y0, y1, R4, nQ⟩ := BH.out w4 F4 _ L4 f4 C4
              have z4 : wr.heap.size < w4.heap.size := World.block_lt_of_cell? w4 _ y0
              obtain ⟨Q, hQ⟩ : ∃ Q, Q = wr.heap.size := ⟨_, rfl⟩
              have hwQ : w.heap.size ≤ Q := by rw [hQ]; exact Q6.out
              rw [← hQ] at y0 y1 nQ z4 ⊢
              clear hQ DO BH C4 f4 x0 x1 x2 x3 x4 hix HLv HRw HAT HS Q6
              have HL4 : Hid (Lv w w4 b (syncS s nl) F4) := L4
              have HR4 : Hid (Rows2 w4 w.heap.size (.slice aN (keys s.l).length cN) (.slice aY (keys s.l).length cY) (keys s.l) (syn s.l) F4) := R4
              clear L4 R4
              obtain ⟨N, hN⟩ : ∃ N, N = keys s.l := ⟨_, rfl⟩
              obtain ⟨Y, hY⟩ : ∃ Y, Y = syn s.l := ⟨_, rfl⟩
              rw [← hN] at hkl HYL HR4 nQ ⊢
              rw [← hY] at HYL HR4
              have HN : Hid (N = keys s.l) := hN
              have HY : Hid (Y = syn s.l) := hY
              clear hN hY
              go_cut [12, 13] from 56 to 69 (fun at_ _ wx => ∃ a : Int, at_ = .int .i64 a ∧ AtIs N nl N.length a ∧ w4.grownBy wx none)
              case first =>
                go_wp2_with fail
                go_loopw [12, 13] (fun at_ i wl => ∃ (k : Nat) (a : Int), k ≤ N.length ∧ i = .int .i64 k ∧ at_ = .int .i64 a ∧ AtIs N nl k a ∧ w4.grownBy wl none) (fun _ i _ => N.length - (intOf i).toNat)
                case atStart => exact ⟨0, -1, by omega, rfl, rfl, .inl ⟨rfl, by simp⟩, grown_refl _ _⟩
                case round =>
                  obtain ⟨k, a, hk2, rfl, rfl, hAt, hg⟩ := hrel
                  have HAt : Hid (AtIs N nl k a) := hAt
                  clear hAt
                  by_cases hlt2 : k < N.length
                  · obtain ⟨x, hx⟩ : ∃ x, N[k]? = some x := ⟨_, List.getElem?_eq_getElem hlt2⟩
                    obtain ⟨g3, q3, ix3, cl3, _, _⟩ := (HR4.out.oN.grown hg).idx (by omega) hx
                    have ix3' : ∀ W, (Instr.indexAt 27 (.slice aN N.length cN) (.int .i64 (k : Int))).run Try.prog W = .ok (.pointer (some ⟨g3, q3, none⟩)) W := ix3
                    have z3 : wr.cell? ⟨g3, q3, none⟩ = some (.string ⟨x.toArray⟩) := cl3 0 _ rfl
                    have v1 := hg.cell y1 (by simp)
                    have HX : Hid (N[k]? = some x) := hx
                    clear hx ix3 cl3
                    by_cases hxn : x = nl
                    · subst hxn
                      go_upto_region 15 with fail
                      refine region_still (by kernel_rfl) (by kernel_rfl) ?_
                      iterate 7 still_step
                      refine wpStill_nil ?_
                      go_wp2_with fail
                      go_roundw
                      case rel => exact ⟨k + 1, k, by omega, by go_num, rfl, AtIs.next_yes HX.out, grown_drew hg⟩
                      case measure => simp [intOf]; omega
                    · have hne : ¬ (⟨x.toArray⟩ : ByteArray) = ⟨nl.toArray⟩ := fun e => hxn (by injection e with e; simpa using e)
                      have hne3 : (x == nl) = false := by simpa using hxn
                      have hne4 : decide (x = nl) = false := decide_eq_false hxn
                      go_upto_region 15 with fail
                      refine region_still (by kernel_rfl) (by kernel_rfl) ?_
                      iterate 7 still_step
                      refine wpStill_nil ?_
                      go_wp2_with fail
                      go_roundw
                      case rel => exact ⟨k + 1, a, by omega, by go_num, rfl, HAt.out.next_no HX.out hxn, grown_drew hg⟩
                      case measure => simp [intOf]; omega
                  · have hkk : k = N.length := by omega
                    subst hkk
                    go_wp2_with fail
                    go_meet
                    exact ⟨a, rfl, HAt.out, hg⟩
              case rest =>
                obtain ⟨a, rfl, hAt, hg⟩ := hcut
                have HL5 : Hid (Lv w wc b (syncS s nl) F4) := HL4.out.grown hg
                have HR5 := HR4.out.grown hg
                have v0 := hg.cell y0 (by simp)
                have v1 := hg.cell y1 (by simp)
                have zc : Q < wc.heap.size := World.block_lt_of_cell? wc _ v0
                clear y0 y1 HL4 HR4 hg z4
                rcases hAt with ⟨rfl, hno⟩ | ⟨i, rfl, hi, hiN⟩
                · exfalso
                  refine hno ?_
                  rw [List.take_length, HN.out]
                  apply has_keys.1
                  cases c : has s.l nl with
                  | true => rfl
                  | false => have := HE.out; unfold hasE at this; rw [if_neg (by rw [c]; simp)] at this; cases this
                · obtain ⟨t1, t2⟩ := sync_syn hok (i := i) (nm := nl) (by rw [← HN.out]; exact hiN)
                  rw [← HN.out] at t1
                  rw [← HY.out] at t2
                  have HT1 : Hid (keys (syncS s nl).l = N) := t1
                  have HT2 : Hid (syn (syncS s nl).l = Y.set i (rdB s.l nl)) := t2
                  have RD := read_l HL5.out nl HNL.out
                  rw [rdB_sync] at RD
                  have ii : ¬ ((i : Int) < 0) := by omega
                  have SET : Hid (∀ w6, wc.grownBy w6 none → ∃ g6 u0, (∀ W, (Instr.indexAt 27 (.slice aY N.length cY) (.int .i64 (i : Int))).run Try.prog W = .ok (.pointer (some ⟨g6, i, none⟩)) W) ∧ w6.cell? ⟨g6, i, none⟩ = some u0 ∧ w6.frozen? ⟨g6, i, none⟩ = false ∧ Rows2 (w6.setCell ⟨g6, i, none⟩ (.string ⟨(rdB s.l nl).toArray⟩)) w.heap.size (.slice aN N.length cN) (.slice aY N.length cY) N (Y.set i (rdB s.l nl)) F4 ∧ Lv w (w6.setCell ⟨g6, i, none⟩ (.string ⟨(rdB s.l nl).toArray⟩)) b (syncS s nl) F4) := fun w6 g6 => by
                    have hR6 := HR5.grown g6
                    obtain ⟨g', u0, s1, s2, s3, s4, s5⟩ := hR6.oY.set rfl (by have := HYL.out; omega) (i := i) (by have := HYL.out; omega) (rdB s.l nl) _ rfl
                    have C6 : Chg (fun k => k = g') w6 (w6.setCell ⟨g', i, none⟩ (.string ⟨(rdB s.l nl).toArray⟩)) := Chg.of (grown_set _ _ _) fun k hk => by injection hk with hk; exact hk.symm
                    have hL6 := HL5.out.grown g6
                    refine ⟨g', u0, s1, s2, s3, ⟨hR6.oN.kept C6 fun k hk e => hR6.ne k hk (by rw [s4, e]), s5, hR6.aN, hR6.aY, hR6.ne⟩, hL6.1.kept C6 (fun k hk e => hR6.aY k (by rw [s4, e]) hk), hL6.2.1, Chg.low hL6.2.2 C6 fun k hk => ?_⟩
                    rw [hk]
                    exact (hR6.oY.lt g' s4).1
                  clear t1 t2 hiN
                  generalize rdB s.l nl = RB at *
                  generalize hasE (syncS s nl).l nl = E2 at RD
                  go_wp2_with (go_at_call 15; (with_reducible refine RD.mono ?_); rintro e w6 ⟨a6, n6, c6, rfl, O6, G6⟩; have y6 := run_string O6.rx; obtain ⟨g6, u6, i6, cc6, ff6, R6, L6⟩ := SET.out w6 G6)
                  go_roundw
                  case rel => exact ⟨j + 1, syncS s nl, F4, by omega, by omega, by go_num, by show s.m ≤ _; omega, L6, by rw [HT1.out, HT2.out]; exact R6⟩
                  case measure => simp [intOf]; omega
            · have he' : (hasE s.l nl != 0) = true := by simpa using he
              rw [sync_same he] at DO
              generalize hasE s.l nl = E0 at DO he'
              clear he
              go_wp2_with (go_at_call 14; (with_reducible refine (DO _).mono ?_); rintro e w4 ⟨rfl, F4, L4, f4, C4⟩)
              obtain ⟨_, _, R4, _⟩ := BH.out w4 F4 s L4 f4 C4
              go_roundw
              case rel => exact ⟨j + 1, s, F4, by omega, by omega, by go_num, by omega, L4, R4⟩
              case measure => simp [intOf]; omega
          · have q0 : (kd != 0) = true := by simpa using k0
            have q1 : (kd != 1) = true := by simpa using k1
            clear DO BH
            go_wp2_with fail
            go_roundw
            case rel => exact ⟨j + 1, s, F, by omega, by omega, by go_num, by omega, HLv.out.grown (World.grownBy_alloc wr _ none), HRw.out.grown (World.grownBy_alloc wr _ none)⟩
            case measure => simp [intOf]; omega
      · have gg : (¬ j < os.length) ∨ (j < os.length ∧ ¬ j < 200) := by omega
        clear hgo
        rcases gg with g0 | ⟨g0, g1⟩
        all_goals
          go_wp2_with fail
          go_meet
          exact ⟨s, F, by omega, hL, hR⟩
  case rest =>
    obtain ⟨s, F, hm, hL, hR⟩ := hcut
    clear HS L0 hlen
    obtain ⟨aN, cN, rfl⟩ := Elm.form hR.oN
    obtain ⟨aY, cY, hYf⟩ := Elm.form hR.oY
    rw [show (syn s.l).length = (keys s.l).length by unfold syn keys; simp] at hYf
    subst hYf
    have hok := hL.1.ok
    have hkl : (keys s.l).length ≤ 64 := by unfold keys; simpa using hok.len
    have hyl : (syn s.l).length = (keys s.l).length := by unfold syn keys; simp
    have HYL : Hid ((syn s.l).length = (keys s.l).length) := hyl
    clear hyl
    have HKS : Hid (∀ x ∈ keys s.l, x.length ≤ 16) := fun x hx => by
      obtain ⟨p, hp, rfl⟩ := List.mem_map.1 hx
      have := hok.nm p hp
      unfold isNm at this
      simp only [Bool.and_eq_true, decide_eq_true_eq] at this
      exact this.1.2
    -- of each file: what it had, what was synced, what the crash leaves
    have HFI : Hid (∀ (i : Nat) (x : List UInt8), (keys s.l)[i]? = some x → ∃ (y r : List UInt8), (syn s.l)[i]? = some y ∧ rdB (crashS s keep torn).l x = r ∧ r.length ≤ (rdB s.l x).length ∧ (rdB s.l x).take r.length = r ∧ y.length ≤ r.length ∧ ((wait s.l : Int) ≤ keep → r = rdB s.l x) ∧ (keep ≤ 0 → torn ≤ 0 → r = y) ∧ hasE (crashS s keep torn).l x = 0 ∧ (rdB s.l x).length ≤ 1048576) := fun i x hx => by
      obtain ⟨f, hf⟩ := keys_at hx
      have hmem := List.mem_of_getElem? hf
      obtain ⟨n, e1, e2, e3, e4, e5⟩ := crash_file hok keep torn hmem
      have e0 : rdB s.l x = f.by_ := rdB_mem hok.nd hmem
      have hlen : (f.by_.take n).length = n := by rw [List.length_take]; omega
      refine ⟨synF f, f.by_.take n, by unfold syn; rw [List.getElem?_map, hf]; rfl, e1, by rw [e0, hlen]; exact e2, by rw [e0, hlen], by rw [hlen]; exact e3, fun h => by rw [e0, e4 h]; exact List.take_length, e5, hasE_mem (by rw [keys_crash]; exact List.mem_of_getElem? hx), ?_⟩
      rw [e0]
      exact Nat.le_trans (mem_tot hmem) hok.tot
    have hwt : (wait s.l : Int) ≤ 200 := by have := hok.wait; omega
    have HWC : Hid (wait (crashS s keep torn).l = 0) := wait_crash s keep torn
    have HKC : Hid ((srtS ((crashS s keep torn).l.map (·.1))).length = (keys s.l).length) := by
      show _ = _
      rw [srtS_len, keys_crash]
      rfl
    have WT := waiting_any b s F
    have HL : Hid (Lv w wc b s F) := hL
    have HR : Hid (Rows2 wc w.heap.size (.slice aN (keys s.l).length cN) (.slice aY (keys s.l).length cY) (keys s.l) (syn s.l) F) := hR
    have RDs : ∀ {v}, Lv w v b s F → ∀ x : List UInt8, x.length ≤ 16 → Calls Try.prog 15 #[.pointer (some ⟨b, 0, none⟩), .string ⟨x.toArray⟩] v fun e w' => ∃ ad n c, e = .returned (.tuple #[.slice ad n c, .int .i64 (hasE s.l x)]) ∧ eB.Own w' v.heap.size (.slice ad n c) (rdB s.l x) ∧ v.grownBy w' none := fun h x hx => read_l h x (by omega)
    have WTs : ∀ {v}, Lv w v b s F → Calls Try.prog 17 #[.pointer (some ⟨b, 0, none⟩)] v fun e w' => e = .returned (.int .i64 (wait s.l : Int)) ∧ v.grownBy w' none := fun h => waiting_any b s F _ h.1 (by omega)
    have CRs : ∀ {v}, Lv w v b s F → Calls Try.prog 21 #[.pointer (some ⟨b, 0, none⟩), .int .i64 keep, .int .i64 torn] v fun e w' => e = .returned (.tuple #[]) ∧ ∃ F', Lv w w' b (crashS s keep torn) F' ∧ (∀ k, F' k → F k ∨ v.heap.size ≤ k) ∧ Chg F v w' := fun {v} h => (crash_any b s F keep torn hk v h.1 (by omega)).mono fun e w' ⟨he, ou⟩ => ⟨he, h.out ou⟩
    have WTc : ∀ {v F'}, Lv w v b (crashS s keep torn) F' → Calls Try.prog 17 #[.pointer (some ⟨b, 0, none⟩)] v fun e w' => e = .returned (.int .i64 0) ∧ v.grownBy w' none := fun {v F'} h => by
      have := waiting_any b (crashS s keep torn) F' v h.1 (by show s.m ≤ _; omega)
      rw [HWC.out] at this
      exact this
    have NMc : ∀ {v F'}, Lv w v b (crashS s keep torn) F' → Calls Try.prog 20 #[.pointer (some ⟨b, 0, none⟩)] v fun e w' => ∃ ad c, e = .returned (.slice ad (keys s.l).length c) ∧ v.grownBy w' none := fun {v F'} h => (names_any b (crashS s keep torn) F' v h.1).mono fun e w' ⟨ad, n, c, he, o, g⟩ => ⟨ad, c, by rw [he, o.len, HKC.out], g⟩
    have RDc : ∀ {v F'}, Lv w v b (crashS s keep torn) F' → ∀ x r : List UInt8, x.length ≤ 16 → rdB (crashS s keep torn).l x = r → hasE (crashS s keep torn).l x = 0 → Calls Try.prog 15 #[.pointer (some ⟨b, 0, none⟩), .string ⟨x.toArray⟩] v fun e w' => ∃ ad n c, e = .returned (.tuple #[.slice ad n c, .int .i64 0]) ∧ eB.Own w' v.heap.size (.slice ad n c) r ∧ v.grownBy w' none := fun {v F'} h x r hx hr he => by
      have := read_l h x (by omega)
      rw [hr, he] at this
      exact this
    clear hL hR hok WT HWC HKC
    generalize crashS s keep torn = sc at *
    obtain ⟨N, hN⟩ : ∃ N, N = keys s.l := ⟨_, rfl⟩
    obtain ⟨Y, hY⟩ : ∃ Y, Y = syn s.l := ⟨_, rfl⟩
    simp only [← hN] at hkl HYL HR HKS HFI NMc ⊢
    simp only [← hY] at HYL HR HFI
    clear hN hY
    obtain ⟨wt, hwtt⟩ : ∃ wt : Int, wt = (wait s.l : Int) := ⟨_, rfl⟩
    simp only [← hwtt] at hwt HFI WTs
    clear hwtt
    generalize rdB s.l = rd at *
    go_wp2_with fail
    go_loopw [16, 17, 18, 19] (fun vW i _ _ wr => ∃ (k : Nat) (ad : Option Addr) (n c : Nat), k ≤ N.length ∧ i = .int .i64 k ∧ vW = .slice ad n c ∧ eS.Own wr wc.heap.size (.slice ad n c) ((N.take k).map rd) ∧ wc.grownBy wr none) (fun _ i _ _ _ => N.length - (intOf i).toNat)
    case atStart => exact ⟨0, none, 0, 0, by omega, rfl, rfl, Elm.nil _ _, grown_refl _ _⟩
    case round =>
      obtain ⟨k, ad, n, c, hkN, rfl, rfl, hW, hg⟩ := hrel
      by_cases hlt : k < N.length
      · obtain ⟨x, hx⟩ : ∃ x, N[k]? = some x := ⟨_, List.getElem?_eq_getElem hlt⟩
        have hx16 := HKS.out x (List.mem_of_getElem? hx)
        have RD := RDs (HL.out.grown hg) x hx16
        obtain ⟨g, q, hix, hcl, _, _⟩ := (HR.out.grown hg).oN.idx (by omega) hx
        have hix' : ∀ W, (Instr.indexAt 27 (.slice aN N.length cN) (.int .i64 (k : Int))).run Try.prog W = .ok (.pointer (some ⟨g, q, none⟩)) W := hix
        have z0 : wr.cell? ⟨g, q, none⟩ = some (.string ⟨x.toArray⟩) := hcl 0 _ rfl
        have HTK : Hid ((N.take (k + 1)).map rd = (N.take k).map rd ++ [rd x]) := by
          show _ = _
          rw [List.take_add_one, hx]
          simp
        have hwl : ((N.take k).map rd).length ≤ 64 := by simp; omega
        obtain ⟨rx, hrx⟩ : ∃ rx, rx = rd x := ⟨_, rfl⟩
        rw [← hrx] at RD HTK
        generalize (N.take k).map rd = lw at hW HTK hwl
        generalize hasE s.l x = E1 at RD
        have ol : ∀ k, (Value.slice ad n c).ownBlock = some k → wc.heap.size ≤ k := fun k hk => (hW.lt k hk).1
        have HW : Hid (eS.Own wr wc.heap.size (.slice ad n c) lw) := hW
        have zc := hg.size
        clear hix hcl hx hrx hW RDs WTs CRs WTc NMc RDc
        go_wp2_with (first
          | (go_at_call 15; (with_reducible refine RD.mono ?_); rintro e w6 ⟨a6, n6, c6, rfl, O6, G6⟩; have y6 := run_string O6.rx; have W6 : ∀ o, eS.Own (w6.alloc o) wc.heap.size (.slice ad n c) lw := (fun o => (HW.out.grown G6).grown (World.grownBy_alloc w6 o none)); have GA6 : ∀ o, wc.grownBy (w6.alloc o) none := (fun o => grown_more hg (grown_alloc G6 o) (by simp)); have zb6 : ∀ o, wc.heap.size ≤ (w6.alloc o).heap.size := (fun o => (GA6 o).size))
          | (at_builtin; refine Elm.wpList_append (E := eS) rfl (.tmp 112) (.tmp 115) rfl wc.heap.size (.slice ad n c) lw rfl (W6 _) _ [rx] rfl (row_one _ _ _ rfl) (by simp; omega) (by show (lw.length + 1) * 16 ≤ _; omega) (zb6 _) ?_; intro a7 n7 c7 w7 O7 G7 l7; have K7 : wc.grownBy w7 none := grown_more (GA6 _) G7 (fun k hk => .inr (ol k hk))))
        go_roundw
        case rel => exact ⟨k + 1, a7, n7, c7, by omega, by go_num, rfl, by rw [HTK.out]; exact O7, K7⟩
        case measure => simp [intOf]; omega
      · have htk : N.take k = N := List.take_of_length_le (by omega)
        rw [htk] at hW
        have hn := hW.len
        simp only [List.length_map] at hn
        subst hn
        have L6 := HL.out.grown hg
        have R6 := HR.out.grown hg
        have W6 : ∀ k, (Value.slice ad N.length c).ownBlock = some k → ¬ F k := fun k hk cF => by
          have h1 := (hW.lt k hk).1
          have h2 := HL.out.1.lt k cF
          omega
        clear htk RDs hg
        go_upto_block 6 with (first
          | (go_at_call 17; (with_reducible refine (WTs L6).mono ?_); rintro e w9 ⟨rfl, G9⟩; have L9 := L6.grown G9; have R9 := R6.grown G9; have W9 := hW.grown G9)
          | (go_at_call 21; (with_reducible refine (CRs L9).mono ?_); rintro e w10 ⟨rfl, F10, L10, f10, C10⟩; have R10 := R9.next C10 f10; have W10 := W9.kept C10 W6))
        clear L6 R6 W6 hW WTs CRs L9 R9 W9 f10 C10
        go_wp2_with fail
        go_loopw [21, 22, 23, 24] (fun i _ _ _ wr => ∃ (k : Nat), k ≤ N.length ∧ i = .int .i64 k ∧ w10.grownBy wr none) (fun i _ _ _ _ => N.length - (intOf i).toNat)
        case atStart => exact ⟨0, by omega, rfl, grown_refl _ _⟩
        case round =>
          obtain ⟨k, hkN, rfl, hg⟩ := hrel
          by_cases hlt : k < N.length
          · obtain ⟨x, hx⟩ : ∃ x, N[k]? = some x := ⟨_, List.getElem?_eq_getElem hlt⟩
            have hx16 := HKS.out x (List.mem_of_getElem? hx)
            obtain ⟨y, r, hy, hr, r1, r2, r3, r4, r5, r6, r7⟩ := HFI.out k x hx
            have RD := RDc (L10.grown hg) x r hx16 hr r6
            obtain ⟨g, q, hix, hcl, _, _⟩ := (R10.grown hg).oN.idx (by omega) hx
            have hix' : ∀ W, (Instr.indexAt 27 (.slice aN N.length cN) (.int .i64 (k : Int))).run Try.prog W = .ok (.pointer (some ⟨g, q, none⟩)) W := hix
            have z0 : wr.cell? ⟨g, q, none⟩ = some (.string ⟨x.toArray⟩) := hcl 0 _ rfl
            have hx2 : (N.map rd)[k]? = some (rd x) := by rw [List.getElem?_map, hx]; rfl
            obtain ⟨g2, q2, hix2, hcl2, _, _⟩ := (W10.grown hg).idx (by simp; omega) hx2
            have hix2' : ∀ W, (Instr.indexAt 27 (.slice ad N.length c) (.int .i64 (k : Int))).run Try.prog W = .ok (.pointer (some ⟨g2, q2, none⟩)) W := hix2
            obtain ⟨g3, q3, hix3, hcl3, _, _⟩ := (R10.grown hg).oY.idx (by have := HYL.out; omega) hy
            have hix3' : ∀ W, (Instr.indexAt 27 (.slice aY N.length cY) (.int .i64 (k : Int))).run Try.prog W = .ok (.pointer (some ⟨g3, q3, none⟩)) W := hix3
            obtain ⟨sR, hsR⟩ : ∃ sR : ByteArray, sR = ⟨r.toArray⟩ := ⟨_, rfl⟩
            obtain ⟨sW, hsW⟩ : ∃ sW : ByteArray, sW = ⟨(rd x).toArray⟩ := ⟨_, rfl⟩
            obtain ⟨sY, hsY⟩ : ∃ sY : ByteArray, sY = ⟨y.toArray⟩ := ⟨_, rfl⟩
            have z2 : wr.cell? ⟨g2, q2, none⟩ = some (.string sW) := by rw [hsW]; exact hcl2 0 _ rfl
            have z3 : wr.cell? ⟨g3, q3, none⟩ = some (.string sY) := by rw [hsY]; exact hcl3 0 _ rfl
            have n1 : sR.size = r.length := by rw [hsR]; simp [ByteArray.size]
            have n2 : sW.size = (rd x).length := by rw [hsW]; simp [ByteArray.size]
            have n3 : sY.size = y.length := by rw [hsY]; simp [ByteArray.size]
            have b1 : (sR.size : Int) ≤ (sW.size : Int) := by omega
            have b2 : (sY.size : Int) ≤ (sR.size : Int) := by omega
            have b3 : (sW.size : Int) ≤ 1048576 := by omega
            have d1 : decide ((sW.size : Int) < (sR.size : Int)) = false := decide_eq_false (by omega)
            have d2 : decide ((sR.size : Int) < (sY.size : Int)) = false := decide_eq_false (by omega)
            have hex : sW.extract 0 sR.size = sR := by
              rw [hsR, hsW]
              apply ByteArray.ext
              simp [ByteArray.size]
              rw [r2]
            have hsl : ∀ W, (Instr.slice 9 (.string sW) none (some (.int .i64 (sR.size : Int))) none).run Try.prog W = .ok (.string sR) W := fun W => by
              rw [run_slice_string_h W 9 sW Try.underlying9 .i64 _ (by omega) (by omega), Int.toNat_natCast, hex]
            have H4 : Hid (wt ≤ keep → sR = sW) := fun h => by rw [hsR, hsW, r4 h]
            have H5 : Hid (keep ≤ 0 → torn ≤ 0 → sR = sY) := fun h1 h2 => by rw [hsR, hsY, r5 h1 h2]
            have YS : Hid (∀ {w' v}, eB.Rx w' v r → (convert 31 9 v).run Try.prog w' = .ok (.string sR) w') := fun h => by rw [hsR]; exact run_string h
            clear hix hcl hx hix2 hcl2 hx2 hix3 hcl3 hy hr r1 r2 r3 r4 r5 r6 r7 hsR hsW hsY n1 n2 n3 WTc NMc RDc
            go_upto_region 37 with (go_at_call 15; (with_reducible refine RD.mono ?_); rintro e w11 ⟨a11, n11, c11, rfl, O11, G11⟩; have y11 := YS.out O11.rx; have z12 := G11.cell z2 (by simp); have z13 := G11.cell z3 (by simp))
            clear RD YS O11 y11 z0 z2 z3
            go_cut [201] from 140 to 201 (fun t wx => t = .bool false ∧ w10.grownBy wx none)
            case first =>
              have GG : w10.grownBy w11 none := grown_more hg G11 (by simp)
              clear G11 hg
              by_cases c1 : wt ≤ keep
              · have e1 := H4.out c1
                subst e1
                by_cases c2 : keep ≤ 0
                · by_cases c3 : torn ≤ 0
                  · have e2 := H5.out c2 c3
                    subst e2
                    clear H4 H5
                    go_wp2_with fail
                    go_meet
                    exact ⟨by first | rfl | (simp; omega), GG⟩
                  · have d3 : decide (torn ≤ 0) = false := decide_eq_false c3
                    clear H4 H5
                    go_wp2_with fail
                    go_meet
                    exact ⟨by first | rfl | (simp; omega), GG⟩
                · have d3 : decide (keep ≤ 0) = false := decide_eq_false c2
                  clear H4 H5
                  go_wp2_with fail
                  go_meet
                  exact ⟨by first | rfl | (simp; omega), GG⟩
              · have d0 : decide (wt ≤ keep) = false := decide_eq_false c1
                by_cases c2 : keep ≤ 0
                · by_cases c3 : torn ≤ 0
                  · have e2 := H5.out c2 c3
                    subst e2
                    clear H4 H5
                    go_wp2_with fail
                    go_meet
                    exact ⟨by first | rfl | (simp; omega), GG⟩
                  · have d3 : decide (torn ≤ 0) = false := decide_eq_false c3
                    clear H4 H5
                    go_wp2_with fail
                    go_meet
                    exact ⟨by first | rfl | (simp; omega), GG⟩
                · have d3 : decide (keep ≤ 0) = false := decide_eq_false c2
                  clear H4 H5
                  go_wp2_with fail
                  go_meet
                  exact ⟨by first | rfl | (simp; omega), GG⟩
            case rest =>
              obtain ⟨rfl, hg2⟩ := hcut
              go_wp2_with fail
              go_roundw
              case rel => exact ⟨k + 1, by omega, by go_num, hg2⟩
              case measure => simp [intOf]; omega
          · have hY10 := R10
            clear R10 W10
            go_wp2_with (first
              | (go_at_call 17; (with_reducible refine (WTc (L10.grown hg)).mono ?_); rintro e w12 ⟨rfl, G12⟩; have L12 := (L10.grown hg).grown G12)
              | (go_at_call 20; (with_reducible refine (NMc L12).mono ?_); rintro e w13 ⟨a13, c13, rfl, G13⟩))
            go_ret
            exact ⟨rfl, grown_low L12.2.2 G13⟩
theorem diskCrash.walk (W : World) (v1 : Value) (o1 : ∃ os, Sc W v1 os) (keep : Int) (hk : Lit.wf (.int .i64 keep) = true) (torn : Int) (ht : Lit.wf (.int .i64 torn) = true) :
    Calls Try.prog 4 #[v1, .int .i64 keep, .int .i64 torn] W fun e W' => e = .returned (.bool true) ∧ Below W.heap.size W W' := by
  obtain ⟨os, hS⟩ := o1
  obtain ⟨a, c, rfl, h⟩ := id hS
  exact crash_law a c os keep torn (i64_of hk).2 W hS
end Go.Proofs.Ythpeeldpalmakaa
