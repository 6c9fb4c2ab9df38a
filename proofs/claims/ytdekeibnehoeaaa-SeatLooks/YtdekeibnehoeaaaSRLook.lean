/- The reference's Look. -/
import Derived.Test.YtdekeibnehoeaaaSCalls
namespace Go.Proofs.Ytdekeibnehoeaaa
open Go.RowKit Sea
set_option linter.unusedVariables false
set_option maxRecDepth 10000

/-- A result within a session is loaded. -/
theorem load_rs {ops : Array Oper} {rest : List Oper} {d : Option Tmp} {ty' : TypeId} {x : Operand} {ps : String} {af : Array Edge} {a : Act} {w : World} {Q : Exit → Act → World → Prop}
    (q o : Nat) (s : Sn) (u : S3) (hx : a.eval x = .pointer (some ⟨q, o + 2, none⟩)) (hr : w.rangeAt q o (sc (s, u)))
    (h : wpList Try.prog ops Q rest (a.put d (rv s u)) w) : wpList Try.prog ops Q (⟨d, .load 26 x, ty', ps, af, none⟩ :: rest) a w :=
  wpList_load_mid rfl 26 x rfl q (o + 2) hx [.int .i64 s.er, .int .i64 s.tm, .slice u.a u.n u.c] _ (fun j v hv => by
    have hj : j < 3 := (List.getElem?_eq_some_iff.1 hv).1
    have := hr (j + 2) v (by simpa using hv)
    rwa [show o + (j + 2) = o + 2 + j by omega] at this) Try.underlying26 rfl (by kernel_rfl) h
set_option maxRecDepth 100000 in
set_option maxHeartbeats 1600000 in
theorem rLook_any (v : Value) (X : List (Sn × S3)) (c q : Int) (w : World) (h : Bk w v X) (hl : X.length ≤ 9223372036854775807) :
    Calls Try.prog 9 #[v, .int .i64 c, .int .i64 q] w fun e w' => LookA w (lookS (X.map (·.1)) c q) (lookE (X.map (·.1)) c q) e w' := by
  have CK : Hid (∀ W, w.grownBy W none → _) := fun W g => rcheck_any v X W (h.1.grown g) hl
  have MA := rright_any c q
  obtain ⟨W1, hW1⟩ : ∃ W1, W1 = w.alloc (.cells #[.int .i64 0, .int .i64 0, .slice none 0 0] 26) := ⟨_, rfl⟩
  have HW1 : Hid (W1 = _) := hW1
  have G1 : Hid (w.grownBy W1 none) := by rw [hW1]; exact World.grownBy_alloc w _ none
  have BX : Hid (∀ W, W1.grownBy W none → Cs W w.heap.size [.int .i64 0, .int .i64 0, .slice none 0 0]) := fun W g => by rw [hW1] at g; exact cs_new g
  have TH : Hid (∀ W, W1.grownBy W none → W.there w.heap.size 0 3) := fun W g => (BX.out W g).there (by simp)
  have LO : Hid (∀ (W w3 : World) (vs : List Value), W1.grownBy W none → w3 = W.setCells w.heap.size 0 vs → vs.length = 3 → w3.rangeAt w.heap.size 0 vs ∧ w.grownBy w3 none) := fun W w3 vs g e hv => by
    rw [e]
    exact ⟨((BX.out W g).sets vs hv).1, grown_more (grown_tr G1.out g) (grown_setCells _ _ _ _) (fun k e => .inr (by injection e with e; omega))⟩
  have RS : ∀ er : Int, lookE (X.map (·.1)) c q = er → er ≠ 0 → lookS (X.map (·.1)) c q = zeroS := fun er e h => by unfold lookS; rw [e, if_neg h]
  have FIN : Hid (∀ (W w3 : World) (a : Act) (er : Int), W1.grownBy W none → w3 = W.setCells w.heap.size 0 [.int .i64 0, .int .i64 0, .slice none 0 0] → er ≠ 0 → lookE (X.map (·.1)) c q = er → a.defers = [] → a.tmps.getD 6 undef = .pointer (some ⟨w.heap.size, 0, none⟩) → a.tmps.getD 7 undef = .int .i64 er → bodyPost Try.prog Try.f9 (fun e w' => LookA w (lookS (X.map (·.1)) c q) (lookE (X.map (·.1)) c q) e w') .ret a w3) := fun W w3 a er g e3 h0 he hd h6 h7 => by
    obtain ⟨r3, g3⟩ := LO.out W w3 _ g e3 rfl
    refine bodyPost_ret (v := .tuple #[rv zeroS nil3, .int .i64 er]) ?_ hd ?_
    · have := res_row2 (P := Try.prog) (fn := Try.f9) (p := 6) (u := 7) (ty := 26) (w := w3) (tmps := a.tmps) rfl h6 r3 Try.underlying26 rfl (by kernel_rfl)
      rw [h7] at this
      exact this
    · rw [he, RS er he h0]
      exact ⟨nil3, rfl, rdj_nil _, g3⟩
  clear hW1 RS
  cases hc : chk (X.map (·.1)) with
  | false =>
    have e1 : lookE (X.map (·.1)) c q = 4 := by unfold lookE; rw [if_pos hc]
    have HE : Hid (lookE (X.map (·.1)) c q = 4) := e1
    rw [hc] at CK
    obtain ⟨ad, cp, hv⟩ := h.form
    subst hv
    clear h hc e1 MA
    generalize X.length = N at *
    go_enter Try.func9, Try.ntmps9
    go_wp2_with (first
      | (go_at_call 13; rw [← HW1.out]; (with_reducible refine (CK.out _ G1.out).mono ?_); rintro e w2 ⟨rfl, g2⟩)
      | (refine store_row (ty := 26) w.heap.size 0 #[.int .i64 0, .int .i64 0, .slice none 0 0] rfl rfl (TH.out w2 g2) (by kernel_rfl) (by simp [Value.oneCell']) ?_; intro w3 hw3; have H3 : Hid (w3 = _) := hw3; clear hw3))
    exact FIN.out w2 w3 _ 4 g2 H3.out (by decide) HE.out rfl rfl rfl
  | true =>
    rw [hc] at CK
    cases hm : may c q with
    | false =>
      have e1 : lookE (X.map (·.1)) c q = 1 := by unfold lookE; rw [if_neg (by rw [hc]; decide), if_pos hm]
      have HE : Hid (lookE (X.map (·.1)) c q = 1) := e1
      rw [hm] at MA
      obtain ⟨ad, cp, hv⟩ := h.form
      subst hv
      clear h hc e1 hm
      generalize X.length = N at *
      go_enter Try.func9, Try.ntmps9
      go_wp2_with (first
        | (go_at_call 13; rw [← HW1.out]; (with_reducible refine (CK.out _ G1.out).mono ?_); rintro e w2 ⟨rfl, g2⟩)
        | (go_at_call 21; (with_reducible refine (MA _).mono ?_); rintro e w4 ⟨rfl, rfl⟩)
        | (refine store_row (ty := 26) w.heap.size 0 #[.int .i64 0, .int .i64 0, .slice none 0 0] rfl rfl (TH.out _ g2) (by kernel_rfl) (by simp [Value.oneCell']) ?_; intro w3 hw3; have H3 : Hid (w3 = _) := hw3; clear hw3))
      exact FIN.out _ w3 _ 1 g2 H3.out (by decide) HE.out rfl rfl rfl
    | true =>
      obtain ⟨hp, h64⟩ := chk_rows hc
      rw [hm] at MA
      have hpm : (X.map (·.1)).Pairwise fun p q => p.cl < q.cl := List.pairwise_map.2 hp
      have e0 : lookE (X.map (·.1)) c q = match lk (X.map (·.1)) c with
        | none => 60
        | some x => if x.sq < q then 60 else if q < x.sq then 160 else 0 := by unfold lookE; rw [if_neg (by rw [hc]; decide), if_neg (by rw [hm]; decide)]; rfl
      have AT : Hid (∀ y ∈ X.map (·.1), y.cl = c → lk (X.map (·.1)) c = some y ∧ lookE (X.map (·.1)) c q = if y.sq < q then 60 else if q < y.sq then 160 else 0) := fun y hy e => by
        have := lk_at hpm hy e
        refine ⟨this, ?_⟩
        rw [e0, this]
      have EN : Hid ((∀ y ∈ X.map (·.1), y.cl = c → y.sq < q) → lookE (X.map (·.1)) c q = 60) := fun hh => by
        rw [e0]
        cases hk : lk (X.map (·.1)) c with
        | none => rfl
        | some y =>
          obtain ⟨h1, h2⟩ := lk_some hk
          show (if y.sq < q then (60 : Int) else _) = 60
          rw [if_pos (hh y h1 h2)]
      have HX : Hid (∀ W, w.grownBy W none → Bk W v X) := fun W g => h.grown g
      obtain ⟨ad, cp, hv⟩ := h.form
      subst hv
      clear h hc hm e0 hp h64 hpm
      generalize hN : X.length = N at *
      have NL : Hid (X.length = N) := hN
      clear hN
      go_enter Try.func9, Try.ntmps9
      go_wp2_with (first
        | (go_at_call 13; rw [← HW1.out]; (with_reducible refine (CK.out _ G1.out).mono ?_); rintro e w2 ⟨rfl, g2⟩)
        | (go_at_call 21; (with_reducible refine (MA _).mono ?_); rintro e w4 ⟨rfl, rfl⟩))
      have G2 : Hid (W1.grownBy w4 none) := g2
      clear g2
      go_loopw [8] (fun i wr => ∃ (j : Nat), j ≤ N ∧ i = .int .i64 (j : Int) ∧ Hid (∀ y ∈ (X.map (·.1)).take j, y.cl = c → y.sq < q) ∧ Hid (W1.grownBy wr none)) (fun i _ => N - (intOf i).toNat)
      case atStart => exact ⟨0, by omega, rfl, (fun y hy => by simp at hy), G2⟩
      case round =>
        clear G2
        obtain ⟨j, hj, rfl, I, G⟩ := hrel
        by_cases hlt : j < N
        · obtain ⟨⟨y, yu⟩, hy⟩ : ∃ y, X[j]? = some y := ⟨_, List.getElem?_eq_getElem (by rw [NL.out]; exact hlt)⟩
          obtain ⟨g, o, e1, r1⟩ := range_at (HX.out wr (grown_tr G1.out G.out)).1 hy
          have y0 := (range_cells r1).1
          have y1 := (range_cells r1).2.1
          have RG : Hid (wr.rangeAt g (o + j * 5) (sc (y, yu))) := r1
          have RJ : Hid (∀ W, w.grownBy W none → Rdj W yu y.js) := fun W gg => (HX.out W gg).2 (y, yu) (List.mem_of_getElem? hy)
          have hym : (X.map (·.1))[j]? = some y := by simp [hy]
          have A1 : Hid (y.cl = c → lk (X.map (·.1)) c = some y ∧ lookE (X.map (·.1)) c q = if y.sq < q then 60 else if q < y.sq then 160 else 0) := AT.out y (List.mem_of_getElem? hym)
          have I2 : Hid ((y.cl = c → y.sq < q) → ∀ z ∈ (X.map (·.1)).take (j + 1), z.cl = c → z.sq < q) := fun hh z hz => by
            rw [List.take_add_one, hym] at hz
            rcases List.mem_append.1 hz with hz | hz
            · exact I.out z hz
            · simp at hz; rw [hz]; exact hh
          subst e1
          clear hy r1 hym I AT
          by_cases h1 : y.cl = c
          · have d1 : (y.cl == c) = true := by simpa using h1
            obtain ⟨HK0, HE0⟩ := A1.out h1
            have HK : Hid (lk (X.map (·.1)) c = some y) := HK0
            by_cases h2 : y.sq < q
            · have d2 : (y.sq == q) = false := by simp; omega
              have d3 : decide (q < y.sq) = false := decide_eq_false (by omega)
              have I4 : Hid (∀ z ∈ (X.map (·.1)).take (j + 1), z.cl = c → z.sq < q) := I2.out fun _ => h2
              clear h1 HK0 HE0
              go_wp2_with fail
              go_roundw
              case rel => exact ⟨j + 1, by omega, by go_num, I4, G⟩
              case measure => simp [intOf]; omega
            · by_cases h3 : q < y.sq
              · have d2 : (y.sq == q) = false := by simp; omega
                have d3 : decide (q < y.sq) = true := decide_eq_true h3
                have HE : Hid (lookE (X.map (·.1)) c q = 160) := by rw [HE0, if_neg h2, if_pos h3]; exact rfl
                clear h1 HK0 HE0
                go_wp2_with (refine store_row (ty := 26) w.heap.size 0 #[.int .i64 0, .int .i64 0, .slice none 0 0] rfl rfl (TH.out _ G.out) (by kernel_rfl) (by simp [Value.oneCell']) ?_; intro w3 hw3; have H3 : Hid (w3 = _) := hw3; clear hw3)
                exact FIN.out _ w3 _ 160 G.out H3.out (by decide) HE.out rfl rfl rfl
              · have d2 : (y.sq == q) = true := by simp; omega
                have HE : Hid (lookE (X.map (·.1)) c q = 0) := by rw [HE0, if_neg h2, if_neg h3]; exact rfl
                have HS : Hid (lookS (X.map (·.1)) c q = y) := by
                  show _ = _
                  unfold lookS
                  rw [HE.out, if_pos rfl, HK.out]
                  rfl
                clear h1 HK0 HE0 FIN
                go_wp2_with (first
                  | (refine load_rs g (o + j * 5) y yu rfl RG.out ?_)
                  | (refine store_row (ty := 26) w.heap.size 0 #[.int .i64 y.er, .int .i64 y.tm, .slice yu.a yu.n yu.c] rfl rfl (TH.out _ G.out) (by kernel_rfl) (by simp [Value.oneCell']) ?_; intro w3 hw3; have H3 : Hid (w3 = _) := hw3; clear hw3))
                obtain ⟨r3, g3⟩ := LO.out wr w3 _ G.out H3.out rfl
                refine bodyPost_ret (v := .tuple #[rv y yu, .int .i64 0]) ?_ rfl ?_
                · exact res_row2 (P := Try.prog) (fn := Try.f9) (p := 6) (u := 7) (ty := 26) rfl rfl r3 Try.underlying26 rfl (by kernel_rfl)
                · rw [HE.out, HS.out]
                  exact ⟨yu, rfl, RJ.out _ g3, g3⟩
          · have d1 : (y.cl == c) = false := by simpa using h1
            have I4 : Hid (∀ z ∈ (X.map (·.1)).take (j + 1), z.cl = c → z.sq < q) := I2.out fun e => absurd e h1
            clear h1
            go_wp2_with fail
            go_roundw
            case rel => exact ⟨j + 1, by omega, by go_num, I4, G⟩
            case measure => simp [intOf]; omega
        · obtain rfl : j = N := by omega
          have HE : Hid (lookE (X.map (·.1)) c q = 60) := EN.out fun y hy => I.out y (by rw [List.take_of_length_le (by rw [List.length_map, NL.out]; omega)]; exact hy)
          go_wp2_with (refine store_row (ty := 26) w.heap.size 0 #[.int .i64 0, .int .i64 0, .slice none 0 0] rfl rfl (TH.out _ G.out) (by kernel_rfl) (by simp [Value.oneCell']) ?_; intro w3 hw3; have H3 : Hid (w3 = _) := hw3; clear hw3)
          exact FIN.out _ w3 _ 60 G.out H3.out (by decide) HE.out rfl rfl rfl
end Go.Proofs.Ytdekeibnehoeaaa
