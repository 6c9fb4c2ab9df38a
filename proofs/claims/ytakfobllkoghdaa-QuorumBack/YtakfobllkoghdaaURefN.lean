/- The reference: Next. -/
import Derived.Test.YtakfobllkoghdaaURef
import Derived.Deep.CutBlock
import Derived.Deep.CutRange
namespace Go.Proofs.Ytakfobllkoghdaa
open Go.RowKit Quo
set_option linter.unusedVariables false
set_option maxRecDepth 10000

theorem drop_at {l : List Int} {j : Nat} {y : Int} (h : l[j]? = some y) : l.drop j = y :: l.drop (j + 1) := by
  rw [List.drop_eq_getElem_cons (List.getElem?_eq_some_iff.1 h).1, (List.getElem?_eq_some_iff.1 h).2]
theorem rn_at {l : List Int} {j : Nat} {y : Int} (h : l[j]? = some y) (a r : Int) (p : Bool) : rn a r p (l.drop j) = (if p = false ∧ a < y then [a] else []) ++ (if (y != r) = true then [y] else []) ++ rn a r (p || decide (a < y)) (l.drop (j + 1)) := by
  rw [drop_at h]
  rfl
theorem mayA_pos {c : List Int} {a : Int} (h : chk c = true) (ha : 0 ≤ a) : mayA c a = !(decide (0 < a) && has c a) := by
  unfold mayA
  rw [decide_eq_true ha, Bool.true_and]
  by_cases h0 : 0 < a
  · rw [decide_eq_true h0, Bool.true_and]
  · obtain rfl : a = 0 := by omega
    rw [has0 h]
    rfl
theorem mayA_neg {c : List Int} {a : Int} (ha : a < 0) : mayA c a = false := by
  unfold mayA
  rw [decide_eq_false (by omega)]
  rfl
theorem mayR_neg {c : List Int} {r : Int} (h : chk c = true) (hr : r < 0) : mayR c r = false := by
  unfold mayR
  have : has c r = false := by
    cases h0 : has c r with
    | false => rfl
    | true =>
      have := ((chk_iff c).1 h).2.2.1 r ((has_iff c r).1 h0)
      omega
  rw [this, show (r == 0) = false by simp; omega]
  rfl
theorem mayR_pos {c : List Int} {r : Int} (hr : 0 ≤ r) : mayR c r = !(decide (0 < r) && !has c r) := by
  unfold mayR
  by_cases h0 : 0 < r
  · rw [decide_eq_true h0, show (r == 0) = false by simp; omega]
    simp
  · obtain rfl : r = 0 := by omega
    rfl
set_option maxRecDepth 100000 in
set_option maxHeartbeats 3200000 in
theorem rnext_no (v : Value) (l : List Int) (a r : Int) (w : World) (h : eK.Rx w v l) (hl : l.length ≤ 9223372036854775807) (hg : (chk l && mayA l a && mayR l r) = false) :
    Calls Try.prog 16 #[v, .int .i64 a, .int .i64 r] w fun e w' => NxA l a r w e w' := by
  have CK := rcheck_any v l w h hl
  have HA := rhas_any v l a w h hl
  have HR := rhas_any v l r w h hl
  have NO : Hid (NxA l a r w (.returned (.tuple #[.slice none 0 0, .int .i64 1])) w) := NxA.no (nxB_no hg) (grown_refl _ _)
  have tokA : True := trivial
  obtain ⟨ad, cp, hv⟩ := h.form
  subst hv
  clear h
  cases h1 : chk l with
  | false =>
    rw [h1] at CK
    clear hg h1 HA HR
    go_enter Try.func16, Try.ntmps16
    go_wp2_with (go_at_call 11; (with_reducible refine CK.mono ?_); rintro e w1 ⟨rfl, rfl⟩)
    go_ret2
    exact NO.out
  | true =>
    rw [h1] at CK
    by_cases ha : a < 0
    · clear hg h1 HA HR
      go_enter Try.func16, Try.ntmps16
      go_wp2_with (go_at_call 11; (with_reducible refine CK.mono ?_); rintro e w1 ⟨rfl, rfl⟩)
      go_ret2
      exact NO.out
    by_cases hr : r < 0
    · clear hg h1 HA HR
      go_enter Try.func16, Try.ntmps16
      go_wp2_with (go_at_call 11; (with_reducible refine CK.mono ?_); rintro e w1 ⟨rfl, rfl⟩)
      go_ret2
      exact NO.out
    rw [h1, mayA_pos h1 (by omega), mayR_pos (by omega), Bool.true_and] at hg
    by_cases ha0 : 0 < a <;> by_cases hr0 : 0 < r <;> cases h2 : has l a <;> cases h3 : has l r
    all_goals first
      | (exfalso; simp [ha0, hr0, h2, h3] at hg; done)
      | skip
    all_goals
      rw [h2] at HA
      rw [h3] at HR
      have d1 : decide (a < 0) = false := decide_eq_false ha
      have d2 : decide (r < 0) = false := decide_eq_false hr
      clear hg h1 h2 h3
      go_enter Try.func16, Try.ntmps16
      go_wp2_with (first
        | (go_at_call 11; (with_reducible refine CK.mono ?_); rintro e w1 ⟨rfl, rfl⟩)
        | (go_at_call 22; (with_reducible refine HA.mono ?_); rintro e w1 ⟨rfl, rfl⟩)
        | (go_at_call 22; (with_reducible refine HR.mono ?_); rintro e w1 ⟨rfl, rfl⟩))
      go_ret2
      exact NO.out
set_option maxRecDepth 100000 in
set_option maxHeartbeats 6400000 in
theorem rnext_yes (v : Value) (l : List Int) (a r : Int) (w : World) (h : eK.Rx w v l) (hl : l.length ≤ 9223372036854775807) (hg : (chk l && mayA l a && mayR l r) = true) :
    Calls Try.prog 16 #[v, .int .i64 a, .int .i64 r] w fun e w' => NxA l a r w e w' := by
  have CK := rcheck_any v l w h hl
  have HA := rhas_any v l a w h hl
  have HR := rhas_any v l r w h hl
  have NC : Hid (nxB l a r = chk (out l a r)) := nxB_chk hg
  simp only [Bool.and_eq_true] at hg
  obtain ⟨⟨h1, h2⟩, h3⟩ := hg
  have RO : Hid (rn a r (a == 0) l = out l a r) := rn_out a r ((chk_iff l).1 h1).2.2.2
  have ha : ¬ a < 0 := fun e => by rw [mayA_neg e] at h2; cases h2
  have hr : ¬ r < 0 := fun e => by rw [mayR_neg h1 e] at h3; cases h3
  rw [mayA_pos h1 (by omega)] at h2
  rw [mayR_pos (by omega)] at h3
  rw [h1] at CK
  obtain ⟨ad, cp, hv⟩ := h.form
  subst hv
  obtain ⟨N, hN⟩ : ∃ N, l.length = N := ⟨_, rfl⟩
  have NL : Hid (l.length = N) := hN
  rw [hN] at h hl CK HA HR ⊢
  have h7 : N ≤ 7 := by have := ((chk_iff l).1 h1).2.1; rw [hN] at this; exact this
  have H : Hid (eK.Rx w (.slice ad N cp) l) := h
  have FIN : Hid (∀ W a5 n5 c5, w.grownBy W none → eK.Own W w.heap.size (.slice a5 n5 c5) (out l a r) → Calls Try.prog 11 #[.slice a5 n5 c5] W fun e w' => e = .returned (.bool (chk (out l a r))) ∧ w' = W) := fun W a5 n5 c5 _ hO => rcheck_any _ _ W hO.rx (by have := out_len (c := l) (a := a) (r := r); rw [NL.out] at this; omega)
  have FN : Hid (chk (out l a r) = false → ∀ W, w.grownBy W none → NxA l a r w (.returned (.tuple #[.slice none 0 0, .int .i64 1])) W) := fun hb W g => NxA.no (NC.out.trans hb) g
  have FY : Hid (chk (out l a r) = true → ∀ W a5 n5 c5, w.grownBy W none → eK.Own W w.heap.size (.slice a5 n5 c5) (out l a r) → NxA l a r w (.returned (.tuple #[.slice a5 n5 c5, .int .i64 0])) W) := fun hb W a5 n5 c5 g hO => NxA.yes (NC.out.trans hb) hO g
  have d1 : decide (a < 0) = false := decide_eq_false ha
  have d2 : decide (r < 0) = false := decide_eq_false hr
  have EQ : Hid (∀ z : Bool, (a == 0) = z → rn a r z l = out l a r) := fun z e => by rw [← e]; exact RO.out
  have A0 : Hid (0 < a → has l a = false) := fun e => by rw [decide_eq_true e, Bool.true_and] at h2; simpa using h2
  have R0 : Hid (0 < r → has l r = true) := fun e => by rw [decide_eq_true e, Bool.true_and] at h3; simpa using h3
  have OL : Hid ((out l a r).length ≤ 8) := by have := out_len (c := l) (a := a) (r := r); rw [NL.out] at this; show _ ≤ _; omega
  clear h hN h1 h2 h3 NC RO
  generalize out l a r = OUT at *
  go_enter Try.func16, Try.ntmps16
  go_upto_region 1 with fail
  go_cut [40] from 11 to 40 (fun t wx => t = .bool false ∧ wx = w)
  case first =>
    by_cases ha0 : 0 < a <;> by_cases hr0 : 0 < r
    all_goals
      first | (rw [A0.out ha0] at HA) | skip
      first | (rw [R0.out hr0] at HR) | skip
      clear FIN FN FY EQ A0 R0
      go_wp2_with (first
        | (go_at_call 11; (with_reducible refine CK.mono ?_); rintro e w1 ⟨rfl, rfl⟩)
        | (go_at_call 22; (with_reducible refine HA.mono ?_); rintro e w1 ⟨rfl, rfl⟩)
        | (go_at_call 22; (with_reducible refine HR.mono ?_); rintro e w1 ⟨rfl, rfl⟩))
      go_meet
      first | exact ⟨rfl, rfl⟩ | simp
  case rest =>
    obtain ⟨rfl, rfl⟩ := hcut
    clear HA HR CK A0 R0 d1 d2 ha hr
    obtain ⟨z, hz⟩ : ∃ z, (a == 0) = z := ⟨_, rfl⟩
    have EZ : Hid (rn a r z l = OUT) := EQ.out z hz
    clear EQ
    go_wp2_with fail
    clear hz
    go_loopw [8, 9, 10] (fun b f i wr => ∃ (j : Nat) (a8 : Option Addr) (n8 c8 : Nat) (q : Bool) (L : List Int), j ≤ N ∧ i = .int .i64 (j : Int) ∧ b = .slice a8 n8 c8 ∧ f = .bool q ∧ Hid (eK.Own wr wc.heap.size (.slice a8 n8 c8) L) ∧ Hid (L ++ rn a r q (l.drop j) = OUT) ∧ Hid (wc.grownBy wr none)) (fun _ _ i _ => N - (intOf i).toNat)
    case atStart => exact ⟨0, none, 0, 0, z, [], by omega, rfl, rfl, rfl, Elm.nil _ _, EZ, grown_refl _ _⟩
    case round =>
      obtain ⟨j, a8, n8, c8, q, L, hj, rfl, rfl, rfl, O8, IN, G⟩ := hrel
      have hsz := G.out.size
      have LE : Hid (L.length ≤ 8) := by have e := IN.out; have := OL.out; rw [← e, List.length_append] at this; show _ ≤ _; omega
      have LE1 : Hid ((L ++ [a]).length ≤ 9) := by show _ ≤ _; rw [List.length_append]; have := LE.out; simp; omega
      by_cases hlt : j < N
      · obtain ⟨y, hy⟩ : ∃ y, l[j]? = some y := ⟨_, List.getElem?_eq_getElem (by rw [NL.out]; exact hlt)⟩
        obtain ⟨g, o, rfl, y0⟩ := at_k (H.out.grown G.out) hy
        have RA := rn_at hy a r q
        have YW : Hid (∀ W, wc.grownBy W none → W.cell? ⟨g, o + j, none⟩ = some (.int .i64 y)) := fun W gW => by
          obtain ⟨g', o', hg', z0⟩ := at_k (H.out.grown gW) hy
          injection hg' with hg'
          injection hg' with e1 e2
          subst e1 e2
          exact z0
        have OW : Hid (∀ o, eK.Own (wr.alloc o) wc.heap.size (.slice a8 n8 c8) L) := fun o => O8.out.grown (World.grownBy_alloc wr o none)
        have GR : Hid (∀ o w3, (wr.alloc o).grownBy w3 (Value.slice a8 n8 c8).ownBlock → wc.grownBy w3 none) := fun o w3 hg => grown_more (grown_alloc G.out o) hg fun k e => .inr (O8.out.lt k e).1
        clear hy
        have O9 := O8
        cases q with
        | true =>
          rw [if_neg (by simp), Bool.true_or, List.nil_append] at RA
          cases hs : (y != r) with
          | true =>
            rw [hs] at RA
            have I2 : Hid ((L ++ [y]) ++ rn a r true (l.drop (j + 1)) = OUT) := by rw [RA] at IN; have e := IN.out; show _ = _; simpa [List.append_assoc] using e
            clear RA IN O8
            go_wp2_with (first
              | (refine Elm.wpList_append (E := eK) rfl (.tmp 69) (.tmp 74) rfl wc.heap.size (.slice a8 n8 c8) (L) rfl (OW.out _) _ [y] rfl (one_k wr y) (by have := LE.out; simp at *; omega) (by have := LE.out; simp [eK] at *; omega) (by simp; omega) ?_; intro a4 n4 c4 w4 hO4 hg4 hl4))
            go_roundw
            case rel => exact ⟨j + 1, a4, n4, c4, true, L ++ [y], by omega, by go_num, rfl, rfl, hO4, I2, GR.out _ _ hg4⟩
            case measure => simp [intOf]; omega
          | false =>
            rw [hs] at RA
            have I2 : Hid ((L) ++ rn a r true (l.drop (j + 1)) = OUT) := by rw [RA] at IN; have e := IN.out; show _ = _; simpa [List.append_assoc] using e
            clear RA IN O8
            go_wp2_with fail
            go_roundw
            case rel => exact ⟨j + 1, a8, n8, c8, true, L, by omega, by go_num, rfl, rfl, O9.out, I2, G.out⟩
            case measure => simp [intOf]; omega
        | false =>
          by_cases hay : a < y
          · rw [if_pos ⟨rfl, hay⟩, decide_eq_true hay, Bool.or_true] at RA
            cases hs : (y != r) with
            | true =>
              rw [hs] at RA
              have I2 : Hid ((L ++ [a] ++ [y]) ++ rn a r true (l.drop (j + 1)) = OUT) := by rw [RA] at IN; have e := IN.out; show _ = _; simpa [List.append_assoc] using e
              clear RA IN O8
              go_wp2_with (first
                | (refine Elm.wpList_append (E := eK) rfl (.tmp 59) (.tmp 61) rfl wc.heap.size (.slice a8 n8 c8) (L) rfl (OW.out _) _ [a] rfl (one_k wr a) (by have := LE.out; simp at *; omega) (by have := LE.out; simp [eK] at *; omega) (by simp; omega) ?_; intro a3 n3 c3 w3 hO3 hg3 hl3; have G3 := GR.out _ _ hg3; have y3 := YW.out w3 G3; have hsz3 := G3.size; have OW3 : Hid (∀ o, eK.Own (w3.alloc o) wc.heap.size (.slice a3 n3 c3) (L ++ [a])) := fun o => hO3.grown (World.grownBy_alloc w3 o none))
                | (refine Elm.wpList_append (E := eK) rfl (.tmp 69) (.tmp 74) rfl wc.heap.size (.slice a3 n3 c3) (L ++ [a]) rfl (OW3.out _) _ [y] rfl (one_k w3 y) (by have := LE1.out; simp at *; omega) (by have := LE1.out; simp [eK] at *; omega) (by simp; omega) ?_; intro a4 n4 c4 w4 hO4 hg4 hl4))
              go_roundw
              case rel => exact ⟨j + 1, a4, n4, c4, true, L ++ [a] ++ [y], by omega, by go_num, rfl, rfl, hO4, I2, grown_more (grown_alloc G3 _) hg4 fun k e => .inr (hO3.lt k e).1⟩
              case measure => simp [intOf]; omega
            | false =>
              rw [hs] at RA
              have I2 : Hid ((L ++ [a]) ++ rn a r true (l.drop (j + 1)) = OUT) := by rw [RA] at IN; have e := IN.out; show _ = _; simpa [List.append_assoc] using e
              clear RA IN O8
              go_wp2_with (first
                | (refine Elm.wpList_append (E := eK) rfl (.tmp 59) (.tmp 61) rfl wc.heap.size (.slice a8 n8 c8) (L) rfl (OW.out _) _ [a] rfl (one_k wr a) (by have := LE.out; simp at *; omega) (by have := LE.out; simp [eK] at *; omega) (by simp; omega) ?_; intro a3 n3 c3 w3 hO3 hg3 hl3; have G3 := GR.out _ _ hg3; have y3 := YW.out w3 G3; have hsz3 := G3.size; have OW3 : Hid (∀ o, eK.Own (w3.alloc o) wc.heap.size (.slice a3 n3 c3) (L ++ [a])) := fun o => hO3.grown (World.grownBy_alloc w3 o none)))
              go_roundw
              case rel => exact ⟨j + 1, a3, n3, c3, true, L ++ [a], by omega, by go_num, rfl, rfl, hO3, I2, G3⟩
              case measure => simp [intOf]; omega
          · rw [if_neg (fun e => hay e.2), decide_eq_false hay, Bool.or_false, List.nil_append] at RA
            cases hs : (y != r) with
            | true =>
              rw [hs] at RA
              have I2 : Hid ((L ++ [y]) ++ rn a r false (l.drop (j + 1)) = OUT) := by rw [RA] at IN; have e := IN.out; show _ = _; simpa [List.append_assoc] using e
              clear RA IN O8
              go_wp2_with (first
                | (refine Elm.wpList_append (E := eK) rfl (.tmp 69) (.tmp 74) rfl wc.heap.size (.slice a8 n8 c8) (L) rfl (OW.out _) _ [y] rfl (one_k wr y) (by have := LE.out; simp at *; omega) (by have := LE.out; simp [eK] at *; omega) (by simp; omega) ?_; intro a4 n4 c4 w4 hO4 hg4 hl4))
              go_roundw
              case rel => exact ⟨j + 1, a4, n4, c4, false, L ++ [y], by omega, by go_num, rfl, rfl, hO4, I2, GR.out _ _ hg4⟩
              case measure => simp [intOf]; omega
            | false =>
              rw [hs] at RA
              have I2 : Hid ((L) ++ rn a r false (l.drop (j + 1)) = OUT) := by rw [RA] at IN; have e := IN.out; show _ = _; simpa [List.append_assoc] using e
              clear RA IN O8
              go_wp2_with fail
              go_roundw
              case rel => exact ⟨j + 1, a8, n8, c8, false, L, by omega, by go_num, rfl, rfl, O9.out, I2, G.out⟩
              case measure => simp [intOf]; omega
      · have e0 : l.drop j = [] := List.drop_of_length_le (by rw [NL.out]; omega)
        have IE := IN.out
        rw [e0] at IE
        have OW : Hid (∀ o, eK.Own (wr.alloc o) wc.heap.size (.slice a8 n8 c8) L) := fun o => O8.out.grown (World.grownBy_alloc wr o none)
        have GR : Hid (∀ o w3, (wr.alloc o).grownBy w3 (Value.slice a8 n8 c8).ownBlock → wc.grownBy w3 none) := fun o w3 hg => grown_more (grown_alloc G.out o) hg fun k e => .inr (O8.out.lt k e).1
        clear IN e0
        cases q with
        | true =>
          obtain rfl : L = OUT := by simpa [rn] using IE
          have C6 := FIN.out wr a8 n8 c8 G.out O8.out
          cases hb : chk L with
          | false =>
            rw [hb] at C6
            have FN1 : Hid _ := FN.out hb
            clear FN FY FIN hb IE
            go_wp2_with (go_at_call 11; (with_reducible refine C6.mono ?_); rintro e w4 ⟨rfl, rfl⟩)
            go_ret2
            exact FN1.out _ G.out
          | true =>
            rw [hb] at C6
            have FN1 : Hid _ := FY.out hb
            clear FN FY FIN hb IE
            go_wp2_with (go_at_call 11; (with_reducible refine C6.mono ?_); rintro e w4 ⟨rfl, rfl⟩)
            go_ret2
            exact FN1.out _ _ _ _ G.out O8.out
        | false =>
          have IE2 : L ++ [a] = OUT := by simpa [rn] using IE
          subst IE2
          cases hb : chk (L ++ [a]) with
          | false =>
            rw [hb] at FIN
            have FN1 : Hid _ := FN.out hb
            clear FN FY hb IE
            go_wp2_with (first
              | (refine Elm.wpList_append (E := eK) rfl (.tmp 78) (.tmp 80) rfl wc.heap.size (.slice a8 n8 c8) (L) rfl (OW.out _) _ [a] rfl (one_k wr a) (by have := LE.out; simp at *; omega) (by have := LE.out; simp [eK] at *; omega) (by simp; omega) ?_; intro a3 n3 c3 w3 hO3 hg3 hl3; have G3 := GR.out _ _ hg3)
              | (go_at_call 11; (with_reducible refine (FIN.out w3 _ _ _ G3 hO3).mono ?_); rintro e w4 ⟨rfl, rfl⟩))
            go_ret2
            exact FN1.out _ G3
          | true =>
            rw [hb] at FIN
            have FN1 : Hid _ := FY.out hb
            clear FN FY hb IE
            go_wp2_with (first
              | (refine Elm.wpList_append (E := eK) rfl (.tmp 78) (.tmp 80) rfl wc.heap.size (.slice a8 n8 c8) (L) rfl (OW.out _) _ [a] rfl (one_k wr a) (by have := LE.out; simp at *; omega) (by have := LE.out; simp [eK] at *; omega) (by simp; omega) ?_; intro a3 n3 c3 w3 hO3 hg3 hl3; have G3 := GR.out _ _ hg3)
              | (go_at_call 11; (with_reducible refine (FIN.out w3 _ _ _ G3 hO3).mono ?_); rintro e w4 ⟨rfl, rfl⟩))
            go_ret2
            exact FN1.out _ _ _ _ G3 hO3
theorem rnext_any (v : Value) (l : List Int) (a r : Int) (w : World) (h : eK.Rx w v l) (hl : l.length ≤ 9223372036854775807) :
    Calls Try.prog 16 #[v, .int .i64 a, .int .i64 r] w fun e w' => NxA l a r w e w' := by
  cases hg : (chk l && mayA l a && mayR l r) with
  | false => exact rnext_no v l a r w h hl hg
  | true => exact rnext_yes v l a r w h hl hg
end Go.Proofs.Ytakfobllkoghdaa
