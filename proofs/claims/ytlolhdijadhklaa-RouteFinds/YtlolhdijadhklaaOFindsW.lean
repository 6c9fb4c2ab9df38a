/- Told the truth a way comes to its answer: the walk of the statement. -/
import Derived.Test.YtlolhdijadhklaaOFindM
import Derived.Test.YtlolhdijadhklaaAArgs
namespace Go.Proofs.Ytlolhdijadhklaa
open Go.RowKit Atl
set_option linter.unusedVariables false
set_option linter.unusedSimpArgs false
set_option maxRecDepth 10000

abbrev zqa : Array Value := #[.int .i64 0, .int .i64 0, .int .i64 0, .int .i64 0, .slice none 0 0, .int .i64 0, .int .i64 0, .slice none 0 0, .int .i64 0, .int .i64 0, .int .i64 0, .int .i64 0, .int .i64 0, .int .i64 0, .int .i64 0, .string ⟨#[]⟩]
theorem lead_in (ld n : Int) (h1 : 1 ≤ n) (h7 : n ≤ 7) : 1 ≤ wrap64 (1 + wrap64 ((IntKind.u64.wrap ld).tmod n)) ∧ wrap64 (1 + wrap64 ((IntKind.u64.wrap ld).tmod n)) ≤ n := by
  have h0 : 0 ≤ IntKind.u64.wrap ld := by
    have e : IntKind.u64.wrap ld = ld % (2 ^ 64 : Int) := rfl
    rw [e]
    exact Int.emod_nonneg _ (by decide)
  have h2 : (IntKind.u64.wrap ld).tmod n = IntKind.u64.wrap ld % n := Int.tmod_eq_emod_of_nonneg h0
  have h3 : 0 ≤ IntKind.u64.wrap ld % n := Int.emod_nonneg _ (by omega)
  have h4 : IntKind.u64.wrap ld % n < n := Int.emod_lt_of_pos _ (by omega)
  rw [h2]
  generalize IntKind.u64.wrap ld % n = x at *
  have w1 : wrap64 x = x := by unfold wrap64; omega
  rw [w1]
  have w2 : wrap64 (1 + x) = 1 + x := by unfold wrap64; omega
  rw [w2]
  omega

namespace routeFinds
set_option maxRecDepth 100000 in
set_option maxHeartbeats 64000000 in
theorem walk (w : World) (v0 : Value) (o0 : ∃ (a : Am) (u : S3), v0 = av a u ∧ Rat w a u ∧ Szm a) (v1 : Value) (o1 : ∃ (a : Am) (u : S3), v1 = av a u ∧ Rat w a u ∧ Szm a) (n : Int) (wx2 : (Lit.int .i64 n).wf = true) (v3 : Value) (o3 : ∃ k : ByteArray, v3 = .string k ∧ k.size ≤ 140737488351232) (ld : Int) (wx4 : (Lit.int .i64 ld).wf = true) :
    Calls Try.prog 7 #[v0, v1, .int .i64 n, v3, .int .i64 ld] w fun e w' => e = .returned (.bool true) ∧ Below w.heap.size w w' := by
  obtain ⟨T, u, rfl, hT, hTz⟩ := o0
  obtain ⟨K, uk, rfl, hK, hKz⟩ := o1
  obtain ⟨nm, rfl, hk⟩ := o3
  clear wx2 wx4
  have AW : Hid (∀ W, _) := fun W => oawake_any W
  have CK : Hid (∀ W, w.grownBy W none → _) := fun W g => check_any T u W (hT.grown g) hTz
  have RT : Hid (∀ W, w.grownBy W none → Rat W T u) := fun W g => hT.grown g
  have ZT : Hid (Szm T ∧ Szm K ∧ nm.size ≤ 140737488351232) := ⟨hTz, hKz, hk⟩
  have RK : Hid (∀ W, w.grownBy W none → Rat W K uk) := fun W g => hK.grown g
  obtain ⟨W0, hW0⟩ : ∃ W0, W0 = (w.alloc (.cells (aa T u) 26)).alloc (.cells (aa K uk) 26) := ⟨_, rfl⟩
  obtain ⟨g0, s0', k0, k1⟩ := two_new w _ _ _ _ W0 hW0
  have G0 : Hid (w.grownBy W0 none) := g0
  have SZ : Hid (W0.heap.size = w.heap.size + 2) := s0'
  have CT : Hid (∀ W, W0.grownBy W none → W.rangeAt w.heap.size 0 (ac T u)) := fun W g => (k0 W g).1
  have CKB : Hid (∀ W, W0.grownBy W none → W.rangeAt (w.heap.size + 1) 0 (ac K uk)) := fun W g => (k1 W g).1
  have HW0 : Hid (W0 = _) := hW0
  clear g0 s0' k0 k1 hW0 hT hTz hK hKz hk
  cases hc : chk T with
  | false =>
    rw [hc] at CK
    clear hc
    go_enter Try.func7, Try.ntmps7
    go_upto_region 1 with fail
    rw [← HW0.out]
    go_wp2_with (first
      | (go_at_call 30; (with_reducible refine (AW.out _).mono ?_); rintro e w1 ⟨rfl, g1⟩)
      | (refine ld_a rfl rfl w.heap.size 0 T u rfl (CT.out w1 g1) ?_)
      | (go_at_call 14; (with_reducible refine (CK.out _ (grown_tr G0.out g1)).mono ?_); rintro e w2 ⟨rfl, g2⟩))
    go_ret
    exact ⟨rfl, grown_below (grown_tr G0.out (grown_tr g1 g2))⟩
  | true =>
    have HC : Hid (chk T = true) := hc
    rw [hc] at CK
    clear hc
    by_cases hn1 : n < 1
    · go_enter Try.func7, Try.ntmps7
      go_upto_region 1 with fail
      rw [← HW0.out]
      go_wp2_with (first
        | (go_at_call 30; (with_reducible refine (AW.out _).mono ?_); rintro e w1 ⟨rfl, g1⟩)
        | (refine ld_a rfl rfl w.heap.size 0 T u rfl (CT.out w1 g1) ?_)
        | (go_at_call 14; (with_reducible refine (CK.out _ (grown_tr G0.out g1)).mono ?_); rintro e w2 ⟨rfl, g2⟩))
      go_ret
      exact ⟨rfl, grown_below (grown_tr G0.out (grown_tr g1 g2))⟩
    by_cases hn7 : 7 < n
    · go_enter Try.func7, Try.ntmps7
      go_upto_region 1 with fail
      rw [← HW0.out]
      go_wp2_with (first
        | (go_at_call 30; (with_reducible refine (AW.out _).mono ?_); rintro e w1 ⟨rfl, g1⟩)
        | (refine ld_a rfl rfl w.heap.size 0 T u rfl (CT.out w1 g1) ?_)
        | (go_at_call 14; (with_reducible refine (CK.out _ (grown_tr G0.out g1)).mono ?_); rintro e w2 ⟨rfl, g2⟩))
      go_ret
      exact ⟨rfl, grown_below (grown_tr G0.out (grown_tr g1 g2))⟩
    have HN : Hid (1 ≤ n ∧ n ≤ 7) := ⟨by omega, by omega⟩
    cases hb : begOk n nm 64 with
    | false =>
      have BG : Hid (∀ W, _) := fun W => begin_bad n nm K uk 64 W ZT.out.2.2 hb
      clear hb
      go_enter Try.func7, Try.ntmps7
      go_upto_region 1 with fail
      rw [← HW0.out]
      go_wp2_with (first
        | (go_at_call 30; (with_reducible refine (AW.out _).mono ?_); rintro e w1 ⟨rfl, g1⟩)
        | (refine ld_a rfl rfl w.heap.size 0 T u rfl (CT.out w1 g1) ?_)
        | (go_at_call 14; (with_reducible refine (CK.out _ (grown_tr G0.out g1)).mono ?_); rintro e w2 ⟨rfl, g2⟩)
        | (refine ld_a rfl rfl (w.heap.size + 1) 0 K uk rfl (CKB.out w2 (grown_tr g1 g2)) ?_)
        | (go_at_call 36; (with_reducible refine (BG.out _).mono ?_); rintro e w3 ⟨rfl, g3⟩)
        | (refine store_row (ty := 60) w3.heap.size 0 (ra zW) rfl rfl (there_new (z := zra) (t := 60) rfl) (by kernel_rfl) (by simp [Value.oneCell']) ?_; intro w4 h4; have H4 : Hid (w4 = (w3.alloc (.cells zra 60)).setCells w3.heap.size 0 (rc zW)) := h4; clear h4))
      obtain ⟨g4, -, -⟩ := new_row (w := w3) (z := zra) (cs := rc zW) (t := 60) rfl H4.out
      go_ret
      exact ⟨rfl, grown_below (grown_tr G0.out (grown_tr g1 (grown_tr g2 (grown_tr g3 g4))))⟩
    | true =>
      have HB : Hid (begOk n nm 64 = true) := hb
      have BG : Hid (∀ W, w.grownBy W none → Calls Try.prog 36 #[.int .i64 n, .string nm, av K uk, .int .i64 64] W fun e w' => ∃ r, e = .returned (.tuple #[rv r, .int .i64 0]) ∧ W.grownBy w' none ∧ Rat w' r.m r.u ∧ ∀ L, 1 ≤ L → FA n L nm T 0 r) := fun W g => by
        cases hkc : chk K with
        | false =>
          refine (begin_no n nm K uk 64 W (RK.out W g) ZT.out.2.1 ZT.out.2.2 hb hkc).mono ?_
          rintro e w' ⟨rfl, gg⟩
          exact ⟨_, rfl, gg, rat_nil _, fun L hL => (fa_begin (u := nil3) hb hL ZT.out.2.1).2⟩
        | true =>
          refine (begin_yes n nm K uk 64 W (RK.out W g) ZT.out.2.1 ZT.out.2.2 hb hkc).mono ?_
          rintro e w' ⟨u', rfl, rr, gg, _⟩
          exact ⟨_, rfl, gg, rr, fun L hL => (fa_begin hb hL ZT.out.2.1).1 hkc⟩
      clear hb
      have n0 : ¬ (n = 0) := by omega
      go_enter Try.func7, Try.ntmps7
      go_upto_region 1 with fail
      rw [← HW0.out]
      go_upto_region 8 with (first
        | (go_at_call 30; (with_reducible refine (AW.out _).mono ?_); rintro e w1 ⟨rfl, g1⟩)
        | (refine ld_a rfl rfl w.heap.size 0 T u rfl (CT.out w1 g1) ?_)
        | (go_at_call 14; (with_reducible refine (CK.out _ (grown_tr G0.out g1)).mono ?_); rintro e w2 ⟨rfl, g2⟩)
        | (refine ld_a rfl rfl (w.heap.size + 1) 0 K uk rfl (CKB.out w2 (grown_tr g1 g2)) ?_)
        | (go_at_call 36; (with_reducible refine (BG.out _ (grown_tr G0.out (grown_tr g1 g2))).mono ?_); rintro e w3 ⟨r, rfl, g3, rr, fa⟩)
        | (refine store_row (ty := 60) w3.heap.size 0 (ra r) rfl rfl (there_new (z := zra) (t := 60) rfl) (by kernel_rfl) (by simp [Value.oneCell']) ?_; intro w4 h4; have H4 : Hid (w4 = (w3.alloc (.cells zra 60)).setCells w3.heap.size 0 (rc r)) := h4; clear h4))
      obtain ⟨g4, s4, c4⟩ := new_row (w := w3) (z := zra) (cs := rc r) (t := 60) rfl H4.out
      have G4 : Hid (W0.grownBy w4 none) := grown_tr g1 (grown_tr g2 (grown_tr g3 g4))
      have I4 : Hid (Cs w4 w3.heap.size (rc r) ∧ w3.heap.size < w4.heap.size ∧ Rat w4 r.m r.u ∧ ∀ L, 1 ≤ L → FA n L nm T 0 r) := ⟨c4 _ (grown_refl _ _), by omega, rr.grown g4, fa⟩
      have Q11 : Hid (w.heap.size + 2 ≤ w3.heap.size) := by have h1 := g1.size; have h2 := g2.size; have h3 := g3.size; have h0 := SZ.out; show _ ≤ _; omega
      clear g1 g2 g3 g4 s4 c4 H4 rr fa AW CK BG RK HW0 CKB
      generalize w3.heap.size = q11 at *
      go_upto_region 9 with fail
      obtain ⟨L, hL⟩ : ∃ L, L = wrap64 (1 + wrap64 ((IntKind.u64.wrap ld).tmod n)) := ⟨_, rfl⟩
      have LL : Hid (1 ≤ L ∧ L ≤ n) := by rw [hL]; exact lead_in ld n HN.out.1 HN.out.2
      rw [← hL]
      have HM : Hid (named nm = true) := by
        have := HB.out
        unfold begOk at this
        simp only [Bool.and_eq_true] at this
        exact this.2.2
      have I0 : Hid (W0.grownBy w4 none ∧ Cs w4 q11 (rc r) ∧ q11 < w4.heap.size ∧ Rat w4 r.m r.u ∧ (FA n L nm T 0 r ∨ FD L 0 r)) := ⟨G4.out, I4.out.1, I4.out.2.1, I4.out.2.2.1, .inl (I4.out.2.2.2 L LL.out.1)⟩
      clear hL I4 G4 n0 HB
      go_upto_region 10 with fail
      go_loopw [14, 15, 16, 17, 18, 19, 20, 21] (fun i _ _ _ _ _ _ _ wr => ∃ (j : Nat) (r : Wy), i = .int .i64 (j : Int) ∧ j ≤ 21 ∧ Hid (W0.grownBy wr none ∧ Cs wr q11 (rc r) ∧ q11 < wr.heap.size ∧ Rat wr r.m r.u ∧ (FA n L nm T j r ∨ FD L j r))) (fun i _ _ _ _ _ _ _ _ => 40 - (intOf i).toNat)
      case atStart => exact ⟨0, r, rfl, by omega, I0⟩
      case round =>
        clear I0
        rename Wy => r'
        obtain ⟨j, r, rfl, hj, I⟩ := hrel
        have hlt : (j : Int) < 4 * n + 4 := by
          have h1 := LL.out.2
          rcases I.out.2.2.2.2 with f | f
          · have := f.le
            omega
          · have := f.2.2.2.1
            omega
        rcases I.out.2.2.2.2 with FAA | FDD
        case inr =>
          have c16 : wr.cell? ⟨q11, 16, none⟩ = some (.bool true) := by have := I.out.2.1.1 16 _ rfl; rw [FDD.1] at this; exact this
          have c17 : wr.cell? ⟨q11, 17, none⟩ = some (.int .i64 151) := by have := I.out.2.1.1 17 _ rfl; rw [FDD.2.1] at this; exact this
          have c18 : wr.cell? ⟨q11, 18, none⟩ = some (.int .i64 7) := by have := I.out.2.1.1 18 _ rfl; rw [FDD.2.2.1] at this; exact this
          clear FDD hj
          go_wp2_with fail
          go_ret
          exact ⟨rfl, grown_below (grown_tr G0.out I.out.1)⟩
        case inl =>
          have FZ : Hid (Szm r.m ∧ r.nm.size ≤ 140737488351232) := ⟨FAA.z, by rw [FAA.nm]; exact ZT.out.2.2⟩
          have c16 : wr.cell? ⟨q11, 16, none⟩ = some (.bool false) := by have := I.out.2.1.1 16 _ rfl; rw [FAA.d] at this; exact this
          have WHX := where_any r wr ⟨I.out.2.2.2.1, FZ.out.1, FZ.out.2⟩
          obtain ⟨wt, wf⟩ := fa_whr FAA HN.out.1 HN.out.2 LL.out.2 HM.out
          by_cases hnd : r.nd = L
          · have hnb : (r.nd == L) = true := by simpa using hnd
            cases hf : r.f with
            | true =>
              rw [wt hf] at WHX
              have WK : Hid (Calls Try.prog 34 #[rv r] wr fun e w' => e = .returned (.tuple #[.int .i64 0, .int .i64 r.nd, .int .i64 0, .int .i64 0]) ∧ wr.grownBy w' none) := WHX
              have hx := fun v => fa_map FAA HN.out.1 HN.out.2 LL.out.2 HM.out hnd hf HC.out ZT.out.1 u v
              obtain ⟨R, hJ⟩ : ∃ R, hrdW r (pMap T u) = R := ⟨_, rfl⟩
              have HEARD : Hid (∀ W, wr.grownBy W none → Calls Try.prog 33 #[rv r, qv (pMap T u)] W fun e w' => ∃ v : S3, e = .returned (rv (setUJ R v nil3)) ∧ W.grownBy w' none ∧ ∀ V, Chg (fun k => k < W.heap.size) w' V → Rat V R.m v) := fun W g => by
                have := heard_nil r (pMap T u) W ⟨I.out.2.2.2.1.grown g, FZ.out.1, FZ.out.2⟩ (RT.out W (grown_tr G0.out (grown_tr I.out.1 g))) (ZT.out.1) (by first | exact (hx nil3).2.1 | (rw [hJ]; exact (hx nil3).2.1))
                rwa [hJ] at this
              rw [hJ] at hx
              have FV : Hid (∀ v, FA n L nm T (j + 1) (setUJ R v nil3) ∨ FD L (j + 1) (setUJ R v nil3)) := fun v => .inl (hx v).1
              clear hx hJ wt wf hf hnd WHX FAA hj
              go_upto_region 16 with (first
                | (refine load_r rfl rfl q11 0 r rfl I.out.2.1.1 ?_)
                | (go_at_call 34; (with_reducible refine WK.out.mono ?_); rintro e w1 ⟨rfl, g1⟩)
                | (refine store_row (ty := 66) w1.heap.size 0 (qa pRed) rfl rfl (there_new (z := zqa) (t := 66) rfl) (by kernel_rfl) (by simp [Value.oneCell']) ?_; intro w2 h2; have H2 : Hid (w2 = (w1.alloc (.cells zqa 66)).setCells w1.heap.size 0 (qc pRed)) := h2; clear h2))
              obtain ⟨g2, s2, c2⟩ := new_row (w := w1) (z := zqa) (cs := qc pRed) (t := 66) rfl H2.out
              have G2 : Hid (wr.grownBy w2 none) := grown_tr g1 g2
              have C2 : Hid (Cs w2 w1.heap.size (qc pRed) ∧ w1.heap.size < w2.heap.size ∧ wr.heap.size ≤ w1.heap.size) := ⟨c2 _ (grown_refl _ _), by omega, g1.size⟩
              clear g1 g2 s2 c2 H2 WK c16
              generalize w1.heap.size = q19 at *
              go_upto_region 18 with (first
                | (refine ld_a rfl rfl w.heap.size 0 T u rfl (CT.out w2 (grown_tr I.out.1 G2.out)) ?_)
                | (refine store_row (ty := 66) q19 0 (qa (pMap T u)) rfl rfl (C2.out.1.there (by simp)) (by kernel_rfl) (by simp [Value.oneCell']) ?_; intro wv hv; have H3 : Hid (wv = w2.setCells q19 0 (qc (pMap T u))) := hv; clear hv))
              have QV : Hid (wv.rangeAt q19 0 (qc (pMap T u))) := box_set (cs := qc (pMap T u)) C2.out.1 rfl H3.out
              have GV : Hid (wr.grownBy wv none) := box_grown G2.out C2.out.2.2 H3.out
              have HV : Hid (Calls Try.prog _ _ wv _) := HEARD.out wv GV.out
              clear HEARD H3 C2 G2
              have CV : Hid (Cs wv q11 (rc r) ∧ q11 < wv.heap.size) := ⟨I.out.2.1.grown GV.out I.out.2.2.1, by have h1 := GV.out.size; have h2 := I.out.2.2.1; omega⟩
              go_wp2_with (first
                | (refine load_r rfl rfl q11 0 r rfl CV.out.1.1 ?_)
                | (refine load_q rfl rfl q19 0 (pMap T u) rfl QV.out ?_)
                | (go_at_call 33; (with_reducible refine HV.out.mono ?_); rintro e w8 ⟨v8, rfl, g8, h8⟩; have G8 : Hid (wv.grownBy w8 none) := g8; have H8 : Hid (∀ V, _ → _) := h8; clear g8 h8)
                | (refine store_row (ty := 60) q11 0 (ra (setUJ R v8 nil3)) rfl rfl ((CV.out.1.grown G8.out CV.out.2).there (by simp)) (by kernel_rfl) (by simp [Value.oneCell']) ?_; intro w9 h9; have H9 : Hid (w9 = w8.setCells q11 0 (rc (setUJ R v8 nil3))) := h9; clear h9))
              have g89 : w8.grownBy w9 (some q11) := by rw [H9.out]; exact grown_setCells _ _ _ _
              have J9 : Hid (W0.grownBy w9 none ∧ Cs w9 q11 (rc (setUJ R v8 nil3)) ∧ q11 < w9.heap.size ∧ Rat w9 R.m v8) := by
                have h1 := Q11.out
                have h2 := SZ.out
                have h3 := G8.out.size
                have h4 := g89.size
                have h5 := CV.out.2
                refine ⟨grown_more (grown_tr I.out.1 (grown_tr GV.out G8.out)) g89 (fun k e => .inr (by injection e with e; omega)), ?_, by omega, H8.out w9 (Chg.of g89 (fun k e => by injection e with e; omega))⟩
                rw [H9.out]
                exact (CV.out.1.grown G8.out CV.out.2).sets _ rfl
              have FV8 := FV.out v8
              clear g89 H9 CV G8 H8 HV QV FV
              go_roundw
              case rel =>
                refine ⟨j + 1, setUJ R v8 nil3, by go_num, ?_, J9.out.1, J9.out.2.1, J9.out.2.2.1, J9.out.2.2.2, FV8⟩
                have h1 := LL.out.2
                have h2 := HN.out.2
                rcases FV8 with f | f
                · have := f.le
                  omega
                · have := f.2.2.2.1
                  omega
              case measure => simp [intOf]; omega
            | false =>
              obtain ⟨we, wg⟩ := wf hf
              rw [we] at WHX
              have FT : Hid (∀ W, w.grownBy W none → Calls Try.prog 10 #[av T u, .string nm] W fun e w' => e = .returned (.tuple #[sv (findS T nm), .bool true]) ∧ W.grownBy w' none) := fun W g => by
                have := find_any T u nm W (RT.out W g) ZT.out.1 ZT.out.2.2
                rwa [show findB T nm = true by unfold findB; rw [HM.out, HC.out]; rfl] at this
              have hmT : r.m = T → findS r.m nm = findS T nm := fun e => by rw [e]
              have hxA := fun (h : r.m ≠ T) v => fa_ask FAA HN.out.1 HN.out.2 LL.out.2 HM.out hnd hf h v
              have hxD := fun v => fa_done FAA HN.out.1 HN.out.2 LL.out.2 HM.out hf v
              generalize findS r.m nm = S at *
              generalize findS T nm = ST at *
              have WK : Hid (Calls Try.prog 34 #[rv r] wr fun e w' => e = .returned (.tuple #[.int .i64 S.gr, .int .i64 r.nd, .int .i64 S.sh, .int .i64 S.ep]) ∧ wr.grownBy w' none) := WHX
              have hg : (S.gr == 0) = false := by simp; omega
              have hg' : (S.gr != 0) = true := by simp; omega
              clear wt wf hf hnd WHX FAA hj we wg
              have MM : ((ST.gr == S.gr) = true ∧ (ST.sh == S.sh) = true ∧ (ST.ep == S.ep) = true) ∨ (r.m ≠ T ∧ ((ST.gr == S.gr) = false ∨ (ST.gr == S.gr) = true ∧ (ST.sh == S.sh) = false ∨ (ST.gr == S.gr) = true ∧ (ST.sh == S.sh) = true ∧ (ST.ep == S.ep) = false)) := by
                cases h1 : (ST.gr == S.gr) with
                | false => exact .inr ⟨fun e => by rw [hmT e] at h1; simp at h1, .inl rfl⟩
                | true =>
                  cases h2 : (ST.sh == S.sh) with
                  | false => exact .inr ⟨fun e => by rw [hmT e] at h2; simp at h2, .inr (.inl ⟨rfl, rfl⟩)⟩
                  | true =>
                    cases h3 : (ST.ep == S.ep) with
                    | false => exact .inr ⟨fun e => by rw [hmT e] at h3; simp at h3, .inr (.inr ⟨rfl, rfl, rfl⟩)⟩
                    | true => exact .inl ⟨rfl, rfl, rfl⟩
              clear hmT
              rcases MM with ⟨m1, m2, m3⟩ | ⟨hne, MM⟩
              case inl =>
                clear hxA
                have hx := hxD
                clear hxD
                obtain ⟨R, hJ⟩ : ∃ R, hrdW r (pAns 151 7) = R := ⟨_, rfl⟩
                have HEARD : Hid (∀ W, wr.grownBy W none → Calls Try.prog 33 #[rv r, qv (pAns 151 7)] W fun e w' => ∃ v : S3, e = .returned (rv (setUJ R v nil3)) ∧ W.grownBy w' none ∧ ∀ V, Chg (fun k => k < W.heap.size) w' V → Rat V R.m v) := fun W g => by
                  have := heard_nil r (pAns 151 7) W ⟨I.out.2.2.2.1.grown g, FZ.out.1, FZ.out.2⟩ (rat_nil W) (szm_Z) (by first | exact (hx nil3).2.1 | (rw [hJ]; exact (hx nil3).2.1))
                  rwa [hJ] at this
                rw [hJ] at hx
                have FV : Hid (∀ v, FA n L nm T (j + 1) (setUJ R v nil3) ∨ FD L (j + 1) (setUJ R v nil3)) := fun v => .inr (hx v).1
                clear hx hJ
                go_upto_region 16 with (first
                  | (refine load_r rfl rfl q11 0 r rfl I.out.2.1.1 ?_)
                  | (go_at_call 34; (with_reducible refine WK.out.mono ?_); rintro e w1 ⟨rfl, g1⟩)
                  | (refine store_row (ty := 66) w1.heap.size 0 (qa pRed) rfl rfl (there_new (z := zqa) (t := 66) rfl) (by kernel_rfl) (by simp [Value.oneCell']) ?_; intro w2 h2; have H2 : Hid (w2 = (w1.alloc (.cells zqa 66)).setCells w1.heap.size 0 (qc pRed)) := h2; clear h2))
                obtain ⟨g2, s2, c2⟩ := new_row (w := w1) (z := zqa) (cs := qc pRed) (t := 66) rfl H2.out
                have G2 : Hid (wr.grownBy w2 none) := grown_tr g1 g2
                have C2 : Hid (Cs w2 w1.heap.size (qc pRed) ∧ w1.heap.size < w2.heap.size ∧ wr.heap.size ≤ w1.heap.size) := ⟨c2 _ (grown_refl _ _), by omega, g1.size⟩
                clear g1 g2 s2 c2 H2 WK c16
                generalize w1.heap.size = q19 at *
                go_upto_region 20 with (refine store_row (ty := 66) q19 0 (qa (pAns 171 0)) rfl rfl (C2.out.1.there (by simp)) (by kernel_rfl) (by simp [Value.oneCell']) ?_; intro w3 h3; have H3 : Hid (w3 = w2.setCells q19 0 (qc (pAns 171 0))) := h3; clear h3)
                have C3 : Hid (Cs w3 q19 (qc (pAns 171 0)) ∧ q19 < w3.heap.size ∧ wr.heap.size ≤ q19) := ⟨by rw [H3.out]; exact C2.out.1.sets _ rfl, by rw [H3.out, setCells_size]; exact C2.out.2.1, C2.out.2.2⟩
                have G3 : Hid (wr.grownBy w3 none) := box_grown G2.out C2.out.2.2 H3.out
                clear H3 C2 G2
                go_upto_region 21 with (first
                  | (refine ld_a rfl rfl w.heap.size 0 T u rfl (CT.out w3 (grown_tr I.out.1 G3.out)) ?_)
                  | (go_at_call 10; (with_reducible refine (FT.out _ (grown_tr G0.out (grown_tr I.out.1 G3.out))).mono ?_); rintro e w5 ⟨rfl, g5⟩))
                have G5 : Hid (wr.grownBy (w5.alloc (.cells (sa ST) 29)) none) := grown_alloc (grown_tr G3.out g5) _
                have X5 : Hid ((w5.alloc (.cells (sa ST) 29)).rangeAt w5.heap.size 0 (sc ST)) := (box_s (grown_refl _ _)).1
                have C5 : Hid (Cs (w5.alloc (.cells (sa ST) 29)) q19 (qc (pAns 171 0)) ∧ wr.heap.size ≤ q19) := ⟨C3.out.1.grown (grown_alloc g5 _) C3.out.2.1, C3.out.2.2⟩
                clear g5 C3 G3 FT
                generalize w5.alloc (.cells (sa ST) 29) = v5 at *
                generalize w5.heap.size = q20 at *
                obtain ⟨z0, z1, z2, z3, z4⟩ := cells_s X5.out
                go_upto_region 23 with (refine store_row (ty := 47) q19 2 (ea 151 7 nil3) rfl rfl (C5.out.1.there_at (by simp)) (by kernel_rfl) (by simp [Value.oneCell']) ?_; intro wv hv; have H6 : Hid (wv = v5.setCells q19 2 (ec 151 7 nil3)) := hv; clear hv)
                have QV : Hid (wv.rangeAt q19 0 (qc (pAns 151 7))) := by rw [H6.out]; exact (((C5.out.1.set 2 (.int .i64 151) (by simp)).set 3 (.int .i64 7) (by simp)).set 4 (.slice none 0 0) (by simp)).1
                have GV : Hid (wr.grownBy wv none) := by rw [H6.out]; exact grown_more G5.out (grown_setCells _ _ _ _) (fun k e => .inr (by injection e with e; have := C5.out.2; omega))
                have HV : Hid (Calls Try.prog _ _ wv _) := HEARD.out wv GV.out
                clear HEARD H6 C5 G5 X5 z0 z1 z2 z3 z4 m1 m2 m3
                have CV : Hid (Cs wv q11 (rc r) ∧ q11 < wv.heap.size) := ⟨I.out.2.1.grown GV.out I.out.2.2.1, by have h1 := GV.out.size; have h2 := I.out.2.2.1; omega⟩
                go_wp2_with (first
                  | (refine load_r rfl rfl q11 0 r rfl CV.out.1.1 ?_)
                  | (refine load_q rfl rfl q19 0 (pAns 151 7) rfl QV.out ?_)
                  | (go_at_call 33; (with_reducible refine HV.out.mono ?_); rintro e w8 ⟨v8, rfl, g8, h8⟩; have G8 : Hid (wv.grownBy w8 none) := g8; have H8 : Hid (∀ V, _ → _) := h8; clear g8 h8)
                  | (refine store_row (ty := 60) q11 0 (ra (setUJ R v8 nil3)) rfl rfl ((CV.out.1.grown G8.out CV.out.2).there (by simp)) (by kernel_rfl) (by simp [Value.oneCell']) ?_; intro w9 h9; have H9 : Hid (w9 = w8.setCells q11 0 (rc (setUJ R v8 nil3))) := h9; clear h9))
                have g89 : w8.grownBy w9 (some q11) := by rw [H9.out]; exact grown_setCells _ _ _ _
                have J9 : Hid (W0.grownBy w9 none ∧ Cs w9 q11 (rc (setUJ R v8 nil3)) ∧ q11 < w9.heap.size ∧ Rat w9 R.m v8) := by
                  have h1 := Q11.out
                  have h2 := SZ.out
                  have h3 := G8.out.size
                  have h4 := g89.size
                  have h5 := CV.out.2
                  refine ⟨grown_more (grown_tr I.out.1 (grown_tr GV.out G8.out)) g89 (fun k e => .inr (by injection e with e; omega)), ?_, by omega, H8.out w9 (Chg.of g89 (fun k e => by injection e with e; omega))⟩
                  rw [H9.out]
                  exact (CV.out.1.grown G8.out CV.out.2).sets _ rfl
                have FV8 := FV.out v8
                clear g89 H9 CV G8 H8 HV QV FV
                go_roundw
                case rel =>
                  refine ⟨j + 1, setUJ R v8 nil3, by go_num, ?_, J9.out.1, J9.out.2.1, J9.out.2.2.1, J9.out.2.2.2, FV8⟩
                  have h1 := LL.out.2
                  have h2 := HN.out.2
                  rcases FV8 with f | f
                  · have := f.le
                    omega
                  · have := f.2.2.2.1
                    omega
                case measure => simp [intOf]; omega
              case inr =>
                clear hxD
                have hx := hxA hne
                clear hxA hne
                obtain ⟨R, hJ⟩ : ∃ R, hrdW r (pAns 171 0) = R := ⟨_, rfl⟩
                have HEARD : Hid (∀ W, wr.grownBy W none → Calls Try.prog 33 #[rv r, qv (pAns 171 0)] W fun e w' => ∃ v : S3, e = .returned (rv (setUJ R v nil3)) ∧ W.grownBy w' none ∧ ∀ V, Chg (fun k => k < W.heap.size) w' V → Rat V R.m v) := fun W g => by
                  have := heard_nil r (pAns 171 0) W ⟨I.out.2.2.2.1.grown g, FZ.out.1, FZ.out.2⟩ (rat_nil W) (szm_Z) (by first | exact (hx nil3).2.1 | (rw [hJ]; exact (hx nil3).2.1))
                  rwa [hJ] at this
                rw [hJ] at hx
                have FV : Hid (∀ v, FA n L nm T (j + 1) (setUJ R v nil3) ∨ FD L (j + 1) (setUJ R v nil3)) := fun v => .inl (hx v).1
                clear hx hJ
                go_upto_region 16 with (first
                  | (refine load_r rfl rfl q11 0 r rfl I.out.2.1.1 ?_)
                  | (go_at_call 34; (with_reducible refine WK.out.mono ?_); rintro e w1 ⟨rfl, g1⟩)
                  | (refine store_row (ty := 66) w1.heap.size 0 (qa pRed) rfl rfl (there_new (z := zqa) (t := 66) rfl) (by kernel_rfl) (by simp [Value.oneCell']) ?_; intro w2 h2; have H2 : Hid (w2 = (w1.alloc (.cells zqa 66)).setCells w1.heap.size 0 (qc pRed)) := h2; clear h2))
                obtain ⟨g2, s2, c2⟩ := new_row (w := w1) (z := zqa) (cs := qc pRed) (t := 66) rfl H2.out
                have G2 : Hid (wr.grownBy w2 none) := grown_tr g1 g2
                have C2 : Hid (Cs w2 w1.heap.size (qc pRed) ∧ w1.heap.size < w2.heap.size ∧ wr.heap.size ≤ w1.heap.size) := ⟨c2 _ (grown_refl _ _), by omega, g1.size⟩
                clear g1 g2 s2 c2 H2 WK c16
                generalize w1.heap.size = q19 at *
                go_upto_region 20 with (refine store_row (ty := 66) q19 0 (qa (pAns 171 0)) rfl rfl (C2.out.1.there (by simp)) (by kernel_rfl) (by simp [Value.oneCell']) ?_; intro w3 h3; have H3 : Hid (w3 = w2.setCells q19 0 (qc (pAns 171 0))) := h3; clear h3)
                have C3 : Hid (Cs w3 q19 (qc (pAns 171 0)) ∧ q19 < w3.heap.size ∧ wr.heap.size ≤ q19) := ⟨by rw [H3.out]; exact C2.out.1.sets _ rfl, by rw [H3.out, setCells_size]; exact C2.out.2.1, C2.out.2.2⟩
                have G3 : Hid (wr.grownBy w3 none) := box_grown G2.out C2.out.2.2 H3.out
                clear H3 C2 G2
                go_upto_region 21 with (first
                  | (refine ld_a rfl rfl w.heap.size 0 T u rfl (CT.out w3 (grown_tr I.out.1 G3.out)) ?_)
                  | (go_at_call 10; (with_reducible refine (FT.out _ (grown_tr G0.out (grown_tr I.out.1 G3.out))).mono ?_); rintro e w5 ⟨rfl, g5⟩))
                have G5 : Hid (wr.grownBy (w5.alloc (.cells (sa ST) 29)) none) := grown_alloc (grown_tr G3.out g5) _
                have X5 : Hid ((w5.alloc (.cells (sa ST) 29)).rangeAt w5.heap.size 0 (sc ST)) := (box_s (grown_refl _ _)).1
                have C5 : Hid (Cs (w5.alloc (.cells (sa ST) 29)) q19 (qc (pAns 171 0)) ∧ wr.heap.size ≤ q19) := ⟨C3.out.1.grown (grown_alloc g5 _) C3.out.2.1, C3.out.2.2⟩
                clear g5 C3 G3 FT
                generalize w5.alloc (.cells (sa ST) 29) = v5 at *
                generalize w5.heap.size = q20 at *
                obtain ⟨z0, z1, z2, z3, z4⟩ := cells_s X5.out
                have QV : Hid (v5.rangeAt q19 0 (qc (pAns 171 0))) := C5.out.1.1
                have GV : Hid (wr.grownBy v5 none) := G5
                have HV : Hid (Calls Try.prog _ _ v5 _) := HEARD.out v5 GV.out
                clear HEARD C5 G5 X5
                rcases MM with m1 | ⟨m1, m2⟩ | ⟨m1, m2, m3⟩
                all_goals
                  have CV : Hid (Cs v5 q11 (rc r) ∧ q11 < v5.heap.size) := ⟨I.out.2.1.grown GV.out I.out.2.2.1, by have h1 := GV.out.size; have h2 := I.out.2.2.1; omega⟩
                  go_wp2_with (first
                    | (refine load_r rfl rfl q11 0 r rfl CV.out.1.1 ?_)
                    | (refine load_q rfl rfl q19 0 (pAns 171 0) rfl QV.out ?_)
                    | (go_at_call 33; (with_reducible refine HV.out.mono ?_); rintro e w8 ⟨v8, rfl, g8, h8⟩; have G8 : Hid (v5.grownBy w8 none) := g8; have H8 : Hid (∀ V, _ → _) := h8; clear g8 h8)
                    | (refine store_row (ty := 60) q11 0 (ra (setUJ R v8 nil3)) rfl rfl ((CV.out.1.grown G8.out CV.out.2).there (by simp)) (by kernel_rfl) (by simp [Value.oneCell']) ?_; intro w9 h9; have H9 : Hid (w9 = w8.setCells q11 0 (rc (setUJ R v8 nil3))) := h9; clear h9))
                  have g89 : w8.grownBy w9 (some q11) := by rw [H9.out]; exact grown_setCells _ _ _ _
                  have J9 : Hid (W0.grownBy w9 none ∧ Cs w9 q11 (rc (setUJ R v8 nil3)) ∧ q11 < w9.heap.size ∧ Rat w9 R.m v8) := by
                    have h1 := Q11.out
                    have h2 := SZ.out
                    have h3 := G8.out.size
                    have h4 := g89.size
                    have h5 := CV.out.2
                    refine ⟨grown_more (grown_tr I.out.1 (grown_tr GV.out G8.out)) g89 (fun k e => .inr (by injection e with e; omega)), ?_, by omega, H8.out w9 (Chg.of g89 (fun k e => by injection e with e; omega))⟩
                    rw [H9.out]
                    exact (CV.out.1.grown G8.out CV.out.2).sets _ rfl
                  have FV8 := FV.out v8
                  clear g89 H9 CV G8 H8 HV QV FV
                  go_roundw
                  case rel =>
                    refine ⟨j + 1, setUJ R v8 nil3, by go_num, ?_, J9.out.1, J9.out.2.1, J9.out.2.2.1, J9.out.2.2.2, FV8⟩
                    have h1 := LL.out.2
                    have h2 := HN.out.2
                    rcases FV8 with f | f
                    · have := f.le
                      omega
                    · have := f.2.2.2.1
                      omega
                  case measure => simp [intOf]; omega
          · have hnb : (r.nd == L) = false := by simpa using hnd
            have hx := fun v => fa_next FAA HN.out.1 HN.out.2 LL.out.2 HM.out hnd v
            obtain ⟨R, hJ⟩ : ∃ R, hrdW r pRed = R := ⟨_, rfl⟩
            have HEARD : Hid (∀ W, wr.grownBy W none → Calls Try.prog 33 #[rv r, qv (pRed)] W fun e w' => ∃ v : S3, e = .returned (rv (setUJ R v nil3)) ∧ W.grownBy w' none ∧ ∀ V, Chg (fun k => k < W.heap.size) w' V → Rat V R.m v) := fun W g => by
              have := heard_nil r (pRed) W ⟨I.out.2.2.2.1.grown g, FZ.out.1, FZ.out.2⟩ (rat_nil W) (szm_Z) (by first | exact (hx nil3).2.1 | (rw [hJ]; exact (hx nil3).2.1))
              rwa [hJ] at this
            rw [hJ] at hx
            have FV : Hid (∀ v, FA n L nm T (j + 1) (setUJ R v nil3) ∨ FD L (j + 1) (setUJ R v nil3)) := fun v => .inl (hx v).1
            obtain ⟨g0, k0, p0, we⟩ : ∃ g0 k0 p0, whr r = (g0, r.nd, k0, p0) := by
              cases hf : r.f with
              | true => exact ⟨_, _, _, wt hf⟩
              | false => exact ⟨_, _, _, (wf hf).1⟩
            rw [we] at WHX
            have WK : Hid (Calls Try.prog 34 #[rv r] wr fun e w' => e = .returned (.tuple #[.int .i64 g0, .int .i64 r.nd, .int .i64 k0, .int .i64 p0]) ∧ wr.grownBy w' none) := WHX
            clear hx hJ wt wf hnd WHX FAA hj we
            go_upto_region 16 with (first
              | (refine load_r rfl rfl q11 0 r rfl I.out.2.1.1 ?_)
              | (go_at_call 34; (with_reducible refine WK.out.mono ?_); rintro e w1 ⟨rfl, g1⟩)
              | (refine store_row (ty := 66) w1.heap.size 0 (qa pRed) rfl rfl (there_new (z := zqa) (t := 66) rfl) (by kernel_rfl) (by simp [Value.oneCell']) ?_; intro w2 h2; have H2 : Hid (w2 = (w1.alloc (.cells zqa 66)).setCells w1.heap.size 0 (qc pRed)) := h2; clear h2))
            obtain ⟨g2, s2, c2⟩ := new_row (w := w1) (z := zqa) (cs := qc pRed) (t := 66) rfl H2.out
            have G2 : Hid (wr.grownBy w2 none) := grown_tr g1 g2
            have C2 : Hid (Cs w2 w1.heap.size (qc pRed) ∧ w1.heap.size < w2.heap.size ∧ wr.heap.size ≤ w1.heap.size) := ⟨c2 _ (grown_refl _ _), by omega, g1.size⟩
            clear g1 g2 s2 c2 H2 WK c16
            generalize w1.heap.size = q19 at *
            have QV : Hid (w2.rangeAt q19 0 (qc pRed)) := C2.out.1.1
            have GV : Hid (wr.grownBy w2 none) := G2
            have HV : Hid (Calls Try.prog _ _ w2 _) := HEARD.out w2 GV.out
            clear HEARD C2 G2
            have CV : Hid (Cs w2 q11 (rc r) ∧ q11 < w2.heap.size) := ⟨I.out.2.1.grown GV.out I.out.2.2.1, by have h1 := GV.out.size; have h2 := I.out.2.2.1; omega⟩
            go_wp2_with (first
              | (refine load_r rfl rfl q11 0 r rfl CV.out.1.1 ?_)
              | (refine load_q rfl rfl q19 0 (pRed) rfl QV.out ?_)
              | (go_at_call 33; (with_reducible refine HV.out.mono ?_); rintro e w8 ⟨v8, rfl, g8, h8⟩; have G8 : Hid (w2.grownBy w8 none) := g8; have H8 : Hid (∀ V, _ → _) := h8; clear g8 h8)
              | (refine store_row (ty := 60) q11 0 (ra (setUJ R v8 nil3)) rfl rfl ((CV.out.1.grown G8.out CV.out.2).there (by simp)) (by kernel_rfl) (by simp [Value.oneCell']) ?_; intro w9 h9; have H9 : Hid (w9 = w8.setCells q11 0 (rc (setUJ R v8 nil3))) := h9; clear h9))
            have g89 : w8.grownBy w9 (some q11) := by rw [H9.out]; exact grown_setCells _ _ _ _
            have J9 : Hid (W0.grownBy w9 none ∧ Cs w9 q11 (rc (setUJ R v8 nil3)) ∧ q11 < w9.heap.size ∧ Rat w9 R.m v8) := by
              have h1 := Q11.out
              have h2 := SZ.out
              have h3 := G8.out.size
              have h4 := g89.size
              have h5 := CV.out.2
              refine ⟨grown_more (grown_tr I.out.1 (grown_tr GV.out G8.out)) g89 (fun k e => .inr (by injection e with e; omega)), ?_, by omega, H8.out w9 (Chg.of g89 (fun k e => by injection e with e; omega))⟩
              rw [H9.out]
              exact (CV.out.1.grown G8.out CV.out.2).sets _ rfl
            have FV8 := FV.out v8
            clear g89 H9 CV G8 H8 HV QV FV
            go_roundw
            case rel =>
              refine ⟨j + 1, setUJ R v8 nil3, by go_num, ?_, J9.out.1, J9.out.2.1, J9.out.2.2.1, J9.out.2.2.2, FV8⟩
              have h1 := LL.out.2
              have h2 := HN.out.2
              rcases FV8 with f | f
              · have := f.le
                omega
              · have := f.2.2.2.1
                omega
            case measure => simp [intOf]; omega
end routeFinds
end Go.Proofs.Ytlolhdijadhklaa
