/- The reference's Look, Put, Join. -/
import Derived.Test.YtdekeibnehoeaaaSMerge
import Derived.Test.YtdekeibnehoeaaaSCalls
namespace Go.Proofs.Ytdekeibnehoeaaa
open Go.RowKit Sea
set_option linter.unusedVariables false
set_option maxRecDepth 10000

set_option maxRecDepth 100000 in
set_option maxHeartbeats 1600000 in
theorem rJoin_any (va vb : Value) (A B : List (Sn × S3)) (w : World) (ha : Bk w va A) (hb : Bk w vb B) (hla : A.length ≤ 9223372036854775807) (hlb : B.length ≤ 9223372036854775807) :
    Calls Try.prog 17 #[va, vb] w fun e w' => PutA w (joinL (A.map (·.1)) (B.map (·.1))) (joinE (A.map (·.1)) (B.map (·.1))) e w' := by
  have CA : Hid (∀ W, w.grownBy W none → _) := fun W g => rcheck_any va A W (ha.1.grown g) hla
  have CB : Hid (∀ W, w.grownBy W none → _) := fun W g => rcheck_any vb B W (hb.1.grown g) hlb
  have G0 : Hid (w.grownBy w none) := grown_refl _ _
  cases hc : chk (A.map (·.1)) with
  | false =>
    have e1 : joinE (A.map (·.1)) (B.map (·.1)) = 4 := by unfold joinE; rw [if_neg (by rw [hc]; simp)]
    have e2 : joinL (A.map (·.1)) (B.map (·.1)) = [] := by unfold joinL; rw [if_neg (by rw [hc]; simp)]
    rw [e1, e2]
    rw [hc] at CA
    obtain ⟨ad, cp, hv⟩ := ha.form
    obtain ⟨bd, bp, hv2⟩ := hb.form
    subst hv hv2
    clear ha hb hc e1 e2 CB
    generalize A.length = N at *
    generalize B.length = M at *
    go_enter Try.func17, Try.ntmps17
    go_wp2_with (go_at_call 13; (with_reducible refine (CA.out _ G0.out).mono ?_); rintro e w2 ⟨rfl, g2⟩)
    go_ret2
    exact ⟨nil3, rfl, [], bk_nil _, rfl, g2⟩
  | true =>
    rw [hc] at CA
    cases hd : chk (B.map (·.1)) with
    | false =>
      have e1 : joinE (A.map (·.1)) (B.map (·.1)) = 4 := by unfold joinE; rw [if_neg (by rw [hd]; simp)]
      have e2 : joinL (A.map (·.1)) (B.map (·.1)) = [] := by unfold joinL; rw [if_neg (by rw [hd]; simp)]
      rw [e1, e2]
      rw [hd] at CB
      obtain ⟨ad, cp, hv⟩ := ha.form
      obtain ⟨bd, bp, hv2⟩ := hb.form
      subst hv hv2
      clear ha hb hc e1 e2 hd
      generalize A.length = N at *
      generalize B.length = M at *
      have tokA : True := trivial
      go_enter Try.func17, Try.ntmps17
      go_wp2_with (first
        | (go_at_call 13; have _t := tokA; (with_reducible refine (CA.out _ G0.out).mono ?_); rintro e w2 ⟨rfl, g2⟩; clear tokA)
        | (go_at_call 13; (with_reducible refine (CB.out _ g2).mono ?_); rintro e w3 ⟨rfl, g3⟩))
      go_ret2
      exact ⟨nil3, rfl, [], bk_nil _, rfl, grown_tr g2 g3⟩
    | true =>
      have e1 : joinE (A.map (·.1)) (B.map (·.1)) = 0 := by unfold joinE; rw [if_pos ⟨hc, hd⟩]
      have e2 : joinL (A.map (·.1)) (B.map (·.1)) = mg (A.map (·.1)) (B.map (·.1)) := by unfold joinL; rw [if_pos ⟨hc, hd⟩]
      rw [e1, e2, ← mgX_map]
      rw [hd] at CB
      have MG : Hid (∀ W, w.grownBy W none → _) := fun W g => merge_any va vb A B W (ha.1.grown g) (hb.1.grown g) (by have := (chk_rows hc).2; omega) (by have := (chk_rows hd).2; omega)
      have RD : Hid (∀ W, w.grownBy W none → ∀ x ∈ mgX A B, Rdj W x.2 x.1.js) := fun W g x hx => by
        rcases mgX_mem A B x hx with h | h
        · exact (ha.2 x h).grown g
        · exact (hb.2 x h).grown g
      obtain ⟨ad, cp, hv⟩ := ha.form
      obtain ⟨bd, bp, hv2⟩ := hb.form
      subst hv hv2
      clear ha hb hc e1 e2 hd
      generalize A.length = N at *
      generalize B.length = M at *
      have tokA : True := trivial
      go_enter Try.func17, Try.ntmps17
      go_wp2_with (first
        | (go_at_call 13; have _t := tokA; (with_reducible refine (CA.out _ G0.out).mono ?_); rintro e w2 ⟨rfl, g2⟩; clear tokA)
        | (go_at_call 13; (with_reducible refine (CB.out _ g2).mono ?_); rintro e w3 ⟨rfl, g3⟩)
        | (go_at_call 24; (with_reducible refine (MG.out _ (grown_tr g2 g3)).mono ?_); rintro e w4 ⟨u4, rfl, O4, g4⟩))
      go_ret2
      have g5 := grown_tr (grown_tr g2 g3) g4
      exact ⟨u4, rfl, mgX A B, ⟨O4.rx, RD.out _ g5⟩, rfl, g5⟩
/-- No session of the client is as new. -/
theorem newer_take {L : List Sn} {s : Sn} (hp : L.Pairwise fun p q => p.cl < q.cl) : newer L s = !(L.any fun x => decide (x.cl = s.cl) && decide (s.sq ≤ x.sq)) := by
  unfold newer
  cases h : lk L s.cl with
  | none =>
    symm
    rw [Bool.not_eq_true', List.any_eq_false]
    intro x hx hb
    simp at hb
    have := lk_at hp hx hb.1
    rw [h] at this
    cases this
  | some y =>
    obtain ⟨hy, hyc⟩ := lk_some h
    by_cases hs : y.sq < s.sq
    · have : (L.any fun x => decide (x.cl = s.cl) && decide (s.sq ≤ x.sq)) = false := by
        rw [List.any_eq_false]
        intro x hx hb
        simp at hb
        have h1 := lk_at hp hx hb.1
        rw [h] at h1
        injection h1 with h1
        subst h1
        omega
      rw [this]
      simpa using hs
    · have : (L.any fun x => decide (x.cl = s.cl) && decide (s.sq ≤ x.sq)) = true := List.any_eq_true.2 ⟨y, hy, by simp [hyc]; omega⟩
      rw [this]
      simpa using hs
set_option maxRecDepth 100000 in
set_option maxHeartbeats 1600000 in
theorem rPut_any (v : Value) (X : List (Sn × S3)) (s : Sn) (u : S3) (w : World) (h : Bk w v X) (hl : X.length ≤ 9223372036854775807) (hr : Rdj w u s.js) :
    Calls Try.prog 11 #[v, sv s u] w fun e w' => PutA w (putL (X.map (·.1)) s) (putE (X.map (·.1)) s) e w' := by
  have CK : Hid (∀ W, w.grownBy W none → _) := fun W g => rcheck_any v X W (h.1.grown g) hl
  have MA := rright_any s.cl s.sq
  obtain ⟨W1, hW1⟩ : ∃ W1, W1 = w.alloc (.cells #[.int .i64 s.cl, .int .i64 s.sq, .int .i64 s.er, .int .i64 s.tm, .slice u.a u.n u.c] 28) := ⟨_, rfl⟩
  have HW1 : Hid (W1 = _) := hW1
  have G1 : Hid (w.grownBy W1 none) := by rw [hW1]; exact World.grownBy_alloc w _ none
  have BX : Hid (∀ W, W1.grownBy W none → W.rangeAt w.heap.size 0 (sc (s, u))) := fun W g => by rw [hW1] at g; exact box_s g
  clear hW1
  cases hc : chk (X.map (·.1)) with
  | false =>
    have e1 : putE (X.map (·.1)) s = 4 := by unfold putE; rw [if_pos hc]
    have e2 : putL (X.map (·.1)) s = [] := by unfold putL; rw [e1, if_neg (by decide)]
    rw [e1, e2]
    rw [hc] at CK
    obtain ⟨ad, cp, hv⟩ := h.form
    subst hv
    clear h hr hc e1 e2 MA
    generalize X.length = N at *
    go_enter Try.func11, Try.ntmps11
    go_wp2_with (go_at_call 13; rw [← HW1.out]; (with_reducible refine (CK.out _ G1.out).mono ?_); rintro e w2 ⟨rfl, g2⟩)
    go_ret2
    exact ⟨nil3, rfl, [], bk_nil _, rfl, grown_tr G1.out g2⟩
  | true =>
    rw [hc] at CK
    cases hm : may s.cl s.sq with
    | false =>
      have e1 : putE (X.map (·.1)) s = 1 := by unfold putE; rw [if_neg (by rw [hc]; decide), if_pos hm]
      have e2 : putL (X.map (·.1)) s = [] := by unfold putL; rw [e1, if_neg (by decide)]
      rw [e1, e2]
      rw [hm] at MA
      obtain ⟨ad, cp, hv⟩ := h.form
      subst hv
      clear h hr hc e1 e2 hm
      generalize X.length = N at *
      go_enter Try.func11, Try.ntmps11
      go_wp2_with (first
        | (go_at_call 13; rw [← HW1.out]; (with_reducible refine (CK.out _ G1.out).mono ?_); rintro e w2 ⟨rfl, g2⟩; obtain ⟨s0, s1, _⟩ := range_cells (BX.out w2 g2))
        | (go_at_call 21; (with_reducible refine (MA _).mono ?_); rintro e w3 ⟨rfl, rfl⟩))
      go_ret2
      exact ⟨nil3, rfl, [], bk_nil _, rfl, grown_tr G1.out g2⟩
    | true =>
      obtain ⟨hp, h64⟩ := chk_rows hc
      have e1 : putE (X.map (·.1)) s = if newer (X.map (·.1)) s = true then 0 else 160 := by unfold putE; rw [if_neg (by rw [hc]; decide), if_neg (by rw [hm]; decide)]
      have hpm : (X.map (·.1)).Pairwise fun p q => p.cl < q.cl := List.pairwise_map.2 hp
      have hnw := newer_take (s := s) hpm
      rw [hm] at MA
      have MG : Hid (∀ (W : World), w.grownBy W none → Calls Try.prog 24 #[v, .slice (some ⟨W.heap.size, 0, none⟩) 1 1] (W.alloc (.cells #[.int .i64 s.cl, .int .i64 s.sq, .int .i64 s.er, .int .i64 s.tm, .slice u.a u.n u.c] 28)) fun e w' => ∃ u2 : S3, e = .returned (.slice u2.a u2.n u2.c) ∧ ∃ Y, Bk w' (.slice u2.a u2.n u2.c) Y ∧ Y.map (·.1) = put1 (X.map (·.1)) s ∧ w.grownBy w' none) := fun W g => by
        have ga := grown_alloc g (.cells #[.int .i64 s.cl, .int .i64 s.sq, .int .i64 s.er, .int .i64 s.tm, .slice u.a u.n u.c] 28)
        refine (merge_any v _ X [(s, u)] _ (h.1.grown ga) (one_new W s u) (by omega) (by simp)).mono ?_
        rintro e w2 ⟨u2, rfl, O2, g2⟩
        have gg := grown_tr ga g2
        refine ⟨u2, rfl, mgX X [(s, u)], ⟨O2.rx, fun x hx => ?_⟩, by rw [mgX_map]; exact mg_one _ _, gg⟩
        rcases mgX_mem X [(s, u)] x hx with k | k
        · exact (h.2 x k).grown gg
        · rw [List.mem_singleton.1 k]; exact hr.grown gg
      have HX : Hid (∀ W, w.grownBy W none → eS.Rx W v X) := fun W g => h.1.grown g
      have HE : Hid (putE (X.map (·.1)) s = if newer (X.map (·.1)) s = true then 0 else 160) := e1
      have HNW : Hid (newer (X.map (·.1)) s = !((X.map (·.1)).any fun x => decide (x.cl = s.cl) && decide (s.sq ≤ x.sq))) := hnw
      obtain ⟨ad, cp, hv⟩ := h.form
      subst hv
      clear h hr hc e1 hm hp h64 hpm hnw
      generalize hN : X.length = N at *
      have NL : Hid (X.length = N) := hN
      clear hN
      go_enter Try.func11, Try.ntmps11
      go_wp2_with (first
        | (go_at_call 13; rw [← HW1.out]; (with_reducible refine (CK.out _ G1.out).mono ?_); rintro e w2 ⟨rfl, g2⟩; obtain ⟨s0, s1, _⟩ := range_cells (BX.out w2 g2))
        | (go_at_call 21; (with_reducible refine (MA _).mono ?_); rintro e w3 ⟨rfl, rfl⟩))
      have G2 : Hid (W1.grownBy w3 none) := g2
      clear g2 s0 s1
      go_loopw [6] (fun i wr => ∃ (j : Nat), j ≤ N ∧ i = .int .i64 (j : Int) ∧ Hid (((X.map (·.1)).take j).any (fun x => decide (x.cl = s.cl) && decide (s.sq ≤ x.sq)) = false) ∧ Hid (W1.grownBy wr none)) (fun i _ => N - (intOf i).toNat)
      case atStart => exact ⟨0, by omega, rfl, (rfl : _ = _), G2⟩
      case round =>
        clear G2
        obtain ⟨j, hj, rfl, I, G⟩ := hrel
        obtain ⟨b0, b1, _⟩ := range_cells (BX.out wr G.out)
        by_cases hlt : j < N
        · obtain ⟨⟨y, yu⟩, hy⟩ : ∃ y, X[j]? = some y := ⟨_, List.getElem?_eq_getElem (by rw [NL.out]; exact hlt)⟩
          obtain ⟨g, o, e1, r1⟩ := range_at (HX.out wr (grown_tr G1.out G.out)) hy
          have y0 := (range_cells r1).1
          have y1 := (range_cells r1).2.1
          have hym : (X.map (·.1))[j]? = some y := by simp [hy]
          have I2 : Hid (((X.map (·.1)).take (j + 1)).any (fun x => decide (x.cl = s.cl) && decide (s.sq ≤ x.sq)) = (decide (y.cl = s.cl) && decide (s.sq ≤ y.sq))) := by
            show _ = _
            rw [List.take_add_one, hym, List.any_append, I.out]
            simp
          have I3 : Hid ((decide (y.cl = s.cl) && decide (s.sq ≤ y.sq)) = true → newer (X.map (·.1)) s = false) := fun e => by
            rw [HNW.out, Bool.not_eq_false', List.any_eq_true]
            exact ⟨y, List.mem_of_getElem? hym, e⟩
          subst e1
          clear hy r1 hym I
          by_cases h1 : y.cl = s.cl
          · have d1 : (y.cl == s.cl) = true := by simpa using h1
            by_cases h2 : s.sq ≤ y.sq
            · have E : Hid (putE (X.map (·.1)) s = 160) := by
                rw [HE.out, I3.out (by simp [h1, h2])]
                exact rfl
              have d2 : decide (s.sq ≤ y.sq) = true := decide_eq_true h2
              clear h1
              go_wp2_with fail
              go_quiet (fail)
              go_wp2_with fail
              go_ret2
              refine ⟨nil3, by rw [E.out]; rfl, [], bk_nil _, ?_, grown_tr G1.out (grown_drewN G.out _)⟩
              unfold putL
              rw [E.out, if_neg (by decide)]
              rfl
            · have d2 : decide (s.sq ≤ y.sq) = false := decide_eq_false h2
              have I4 : Hid (((X.map (·.1)).take (j + 1)).any (fun x => decide (x.cl = s.cl) && decide (s.sq ≤ x.sq)) = false) := by
                show _ = _
                rw [I2.out, d2, Bool.and_false]
              clear h1
              go_wp2_with fail
              go_quiet (fail)
              go_wp2_with fail
              go_roundw
              case rel => exact ⟨j + 1, by omega, by go_num, I4, grown_drewN G.out _⟩
              case measure => simp [intOf]; omega
          · have d1 : (y.cl == s.cl) = false := by simpa using h1
            have I4 : Hid (((X.map (·.1)).take (j + 1)).any (fun x => decide (x.cl = s.cl) && decide (s.sq ≤ x.sq)) = false) := by
              show _ = _
              rw [I2.out, decide_eq_false h1, Bool.false_and]
            clear h1
            go_wp2_with fail
            go_quiet (fail)
            go_wp2_with fail
            go_roundw
            case rel => exact ⟨j + 1, by omega, by go_num, I4, grown_drewN G.out _⟩
            case measure => simp [intOf]; omega
        · obtain rfl : j = N := by omega
          have E : Hid (putE (X.map (·.1)) s = 0) := by
            have h1 := I.out
            rw [List.take_of_length_le (by rw [List.length_map, NL.out]; omega)] at h1
            rw [HE.out, HNW.out, h1]
            exact rfl
          go_wp2_with (first
            | (refine load_s w.heap.size 0 s u rfl (BX.out _ G.out) ?_)
            | (go_at_call 24; (with_reducible refine (MG.out _ (grown_tr G1.out G.out)).mono ?_); rintro e w4 ⟨u4, rfl, Y, O4, E4, g4⟩))
          go_ret2
          refine ⟨u4, by rw [E.out]; rfl, Y, O4, ?_, g4⟩
          unfold putL
          rw [E.out, if_pos rfl]
          exact E4
end Go.Proofs.Ytdekeibnehoeaaa
