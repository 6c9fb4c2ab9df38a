/- drawnMerge. -/
import Derived.Test.YtlolhdijadhklaaABox
namespace Go.Proofs.Ytlolhdijadhklaa
open Go.RowKit Atl
set_option linter.unusedVariables false
set_option maxRecDepth 10000

/-- How a merge is refused. -/
def mrgE (l : List Sp) (i : Nat) (s : Sp) : Int := match l[i + 1]? with
  | none => 170
  | some t => if mR t.ep = false then 1 else if t.gr ≠ s.gr then 170 else 0
theorem mrgE_is (l : List Sp) (i : Nat) (s : Sp) : mrgE l i s = if decide (i + 1 < l.length) = false then 170 else if mR (l.getD (i + 1) zS).ep = false then 1 else if ((l.getD (i + 1) zS).gr != s.gr) = true then 170 else 0 := by
  unfold mrgE
  by_cases hl : i + 1 < l.length
  · rw [List.getElem?_eq_getElem hl, List.getD_eq_getElem?_getD, List.getElem?_eq_getElem hl]
    simp [hl]
  · rw [List.getElem?_eq_none (by omega)]
    simp [hl]
set_option maxRecDepth 100000 in
set_option maxHeartbeats 3200000 in
theorem dmerge_any (a : Am) (u : S3) (i : Nat) (s : Sp) (w : World) (h : Rat w a u) (hs : a.l[i]? = some s) : Calls Try.prog 82 #[av a u, .int .i64 (i : Int)] w fun e w' => e = .returned (.tuple #[pv (if mrgE a.l i s ≠ 0 then zP else ⟨3, 1, s.sh, (a.l.getD (i + 1) zS).sh, s.gr, 0, s.ep, ⟨#[]⟩⟩), .int .i64 (mrgE a.l i s)]) ∧ w.grownBy w' none := by
  have NX : Hid (∀ W, w.grownBy W none → _) := fun W g => next_any a u i W (h.grown g) (List.getElem?_eq_some_iff.1 hs).1
  have RAT : Hid (Rat w a u) := h
  rw [mrgE_is]
  obtain ⟨W0, hW0⟩ : ∃ W0, W0 = (w.alloc (.cells (aa a u) 26)).alloc (.cells zpa 24) := ⟨_, rfl⟩
  obtain ⟨g0, sz0, r0, _, k0⟩ := two_boxes w a u zpa _ _ W0 hW0
  have G0 : Hid (w.grownBy W0 none) := g0
  have SZ : Hid (W0.heap.size = w.heap.size + 2) := sz0
  have CA : Hid (∀ W, W0.grownBy W none → W.rangeAt w.heap.size 0 (ac a u)) := r0
  have CR : Hid (∀ W, W0.grownBy W none → Cs W (w.heap.size + 1) zpa.toList) := k0
  have HW0 : Hid (W0 = _) := hW0
  clear g0 sz0 r0 k0 hW0
  obtain ⟨hR, hn, hb⟩ := h
  have hl := (List.getElem?_eq_some_iff.1 hs).1
  obtain ⟨ua, un, uc⟩ := u
  simp only at hn hR CA HW0 RAT NX ⊢
  rw [← hn] at hl hb
  obtain ⟨g, o, ea, r1⟩ := range_at (hR.grown G0.out) hs
  have RG : Hid (W0.rangeAt g (o + i * 5) (sc s)) := r1
  have c2 := (cells_a (CA.out W0 (grown_refl _ _))).2.2.1
  subst ea
  have un16 : (un : Int) ≤ 9223372036854775807 := by omega
  obtain ⟨W1, hW1⟩ : ∃ W1, W1 = W0.alloc (.cells (sa s) 29) := ⟨_, rfl⟩
  have G1 : Hid (W0.grownBy W1 none) := by rw [hW1]; exact World.grownBy_alloc _ _ none
  have SB : Hid (∀ W, W1.grownBy W none → W.rangeAt W0.heap.size 0 (sc s)) := fun W g => by rw [hW1] at g; exact (cs_new g).1
  have HW1 : Hid (W1 = _) := hW1
  obtain ⟨b0, b1, b2, b3, b4⟩ := cells_s (SB.out W1 (grown_refl _ _))
  obtain ⟨q, hq⟩ : ∃ q, q = W0.heap.size := ⟨_, rfl⟩
  rw [← hq] at b0 b1 b2 b3 b4
  have HQ : Hid (q = W0.heap.size) := hq
  clear hR hn hb r1 hW1 hs hq
  have NY := NX.out W1 (grown_tr G0.out G1.out)
  have RS := rise_any (a.l.getD (i + 1) zS).ep
  clear NX
  generalize a.l.getD (i + 1) zS = t at *
  generalize decide (i + 1 < a.l.length) = b at *
  cases h1 : b with
  | false =>
    rw [h1] at NY
    simp only [if_true, ne_eq, Int.reduceEq, not_false_eq_true]
    go_enter Try.func82, Try.ntmps82
    go_upto_region 1 with fail
    rw [show (#[Value.int .i64 0, .int .i64 0, .int .i64 0, .int .i64 0, .int .i64 0, .int .i64 0, .int .i64 0, .string ⟨#[]⟩] : Array Value) = zpa from rfl, ← HW0.out]
    go_upto_region 2 with (refine load_s g (o + i * 5) s rfl RG.out ?_)
    rw [← HW1.out, ← HQ.out]
    go_upto_region 3 with (first | (refine load_a w.heap.size 0 a _ rfl (CA.out W1 G1.out) ?_) | (go_at_call 101; (with_reducible refine NY.mono ?_); rintro e w2 ⟨rfl, g2⟩))
    have G3 : Hid (W1.grownBy (w2.alloc (.cells (sa t) 29)) none) := grown_alloc g2 _
    obtain ⟨d0, d1, d2, d3, d4⟩ := cells_s (SB.out (w2.alloc (.cells (sa t) 29)) G3.out)
    rw [← HQ.out] at d0 d1 d2 d3 d4
    obtain ⟨f0, f1, f2, f3, f4⟩ := cells_s (cs_new (grown_refl (w2.alloc (.cells (sa t) 29)) none)).1
    generalize w2.alloc (.cells (sa t) 29) = w3 at *
    generalize w2.heap.size = q3 at *
    go_wp2_with (first | (go_at_call 74; (with_reducible refine (RS _).mono ?_); rintro e w4 ⟨rfl, e4⟩; have e4' := e4.symm; clear e4; subst e4') | (refine store_row (ty := 24) (w.heap.size + 1) 0 (pa zP) rfl rfl ((CR.out w3 (grown_tr G1.out G3.out)).there (by simp)) (by kernel_rfl) (by simp [Value.oneCell']) ?_; intro w9 h9; have H9 : Hid (_ = _) := h9; clear h9))
    refine bodyPost_ret (v := .tuple #[pv zP, .int .i64 170]) ?_ rfl ?_
    · exact res_row2 (P := Try.prog) (fn := Try.f82) (p := 4) (u := 5) (ty := 24) rfl rfl (box_set (cs := pc zP) (CR.out w3 (grown_tr G1.out G3.out)) rfl H9.out) Try.underlying24 rfl (by kernel_rfl)
    · exact ⟨rfl, box_grown (grown_tr G0.out (grown_tr G1.out G3.out)) (by omega) H9.out⟩
  | true =>
    rw [h1] at NY
    cases h2 : mR t.ep with
    | false =>
      rw [h2] at RS
      simp only [if_true, ne_eq, reduceIte, Int.reduceEq, not_false_eq_true, Bool.true_eq_false]
      go_enter Try.func82, Try.ntmps82
      go_upto_region 1 with fail
      rw [show (#[Value.int .i64 0, .int .i64 0, .int .i64 0, .int .i64 0, .int .i64 0, .int .i64 0, .int .i64 0, .string ⟨#[]⟩] : Array Value) = zpa from rfl, ← HW0.out]
      go_upto_region 2 with (refine load_s g (o + i * 5) s rfl RG.out ?_)
      rw [← HW1.out, ← HQ.out]
      go_upto_region 3 with (first | (refine load_a w.heap.size 0 a _ rfl (CA.out W1 G1.out) ?_) | (go_at_call 101; (with_reducible refine NY.mono ?_); rintro e w2 ⟨rfl, g2⟩))
      have G3 : Hid (W1.grownBy (w2.alloc (.cells (sa t) 29)) none) := grown_alloc g2 _
      obtain ⟨d0, d1, d2, d3, d4⟩ := cells_s (SB.out (w2.alloc (.cells (sa t) 29)) G3.out)
      rw [← HQ.out] at d0 d1 d2 d3 d4
      obtain ⟨f0, f1, f2, f3, f4⟩ := cells_s (cs_new (grown_refl (w2.alloc (.cells (sa t) 29)) none)).1
      generalize w2.alloc (.cells (sa t) 29) = w3 at *
      generalize w2.heap.size = q3 at *
      go_wp2_with (first | (go_at_call 74; (with_reducible refine (RS _).mono ?_); rintro e w4 ⟨rfl, e4⟩; have e4' := e4.symm; clear e4; subst e4') | (refine store_row (ty := 24) (w.heap.size + 1) 0 (pa zP) rfl rfl ((CR.out w3 (grown_tr G1.out G3.out)).there (by simp)) (by kernel_rfl) (by simp [Value.oneCell']) ?_; intro w9 h9; have H9 : Hid (_ = _) := h9; clear h9))
      refine bodyPost_ret (v := .tuple #[pv zP, .int .i64 1]) ?_ rfl ?_
      · exact res_row2 (P := Try.prog) (fn := Try.f82) (p := 4) (u := 5) (ty := 24) rfl rfl (box_set (cs := pc zP) (CR.out w3 (grown_tr G1.out G3.out)) rfl H9.out) Try.underlying24 rfl (by kernel_rfl)
      · exact ⟨rfl, box_grown (grown_tr G0.out (grown_tr G1.out G3.out)) (by omega) H9.out⟩
    | true =>
      rw [h2] at RS
      cases h3 : (t.gr != s.gr) with
      | true =>
        have k3 : (t.gr == s.gr) = false := by simpa using h3
        simp only [if_true, ne_eq, reduceIte, Int.reduceEq, not_false_eq_true, Bool.true_eq_false]
        go_enter Try.func82, Try.ntmps82
        go_upto_region 1 with fail
        rw [show (#[Value.int .i64 0, .int .i64 0, .int .i64 0, .int .i64 0, .int .i64 0, .int .i64 0, .int .i64 0, .string ⟨#[]⟩] : Array Value) = zpa from rfl, ← HW0.out]
        go_upto_region 2 with (refine load_s g (o + i * 5) s rfl RG.out ?_)
        rw [← HW1.out, ← HQ.out]
        go_upto_region 3 with (first | (refine load_a w.heap.size 0 a _ rfl (CA.out W1 G1.out) ?_) | (go_at_call 101; (with_reducible refine NY.mono ?_); rintro e w2 ⟨rfl, g2⟩))
        have G3 : Hid (W1.grownBy (w2.alloc (.cells (sa t) 29)) none) := grown_alloc g2 _
        obtain ⟨d0, d1, d2, d3, d4⟩ := cells_s (SB.out (w2.alloc (.cells (sa t) 29)) G3.out)
        rw [← HQ.out] at d0 d1 d2 d3 d4
        obtain ⟨f0, f1, f2, f3, f4⟩ := cells_s (cs_new (grown_refl (w2.alloc (.cells (sa t) 29)) none)).1
        generalize w2.alloc (.cells (sa t) 29) = w3 at *
        generalize w2.heap.size = q3 at *
        go_wp2_with (first | (go_at_call 74; (with_reducible refine (RS _).mono ?_); rintro e w4 ⟨rfl, e4⟩; have e4' := e4.symm; clear e4; subst e4') | (refine store_row (ty := 24) (w.heap.size + 1) 0 (pa zP) rfl rfl ((CR.out w3 (grown_tr G1.out G3.out)).there (by simp)) (by kernel_rfl) (by simp [Value.oneCell']) ?_; intro w9 h9; have H9 : Hid (_ = _) := h9; clear h9))
        refine bodyPost_ret (v := .tuple #[pv zP, .int .i64 170]) ?_ rfl ?_
        · exact res_row2 (P := Try.prog) (fn := Try.f82) (p := 4) (u := 5) (ty := 24) rfl rfl (box_set (cs := pc zP) (CR.out w3 (grown_tr G1.out G3.out)) rfl H9.out) Try.underlying24 rfl (by kernel_rfl)
        · exact ⟨rfl, box_grown (grown_tr G0.out (grown_tr G1.out G3.out)) (by omega) H9.out⟩
      | false =>
        have k3 : (t.gr == s.gr) = true := by simpa using h3
        simp only [ne_eq, reduceIte, Bool.true_eq_false, Bool.false_eq_true, not_true_eq_false]
        go_enter Try.func82, Try.ntmps82
        go_upto_region 1 with fail
        rw [show (#[Value.int .i64 0, .int .i64 0, .int .i64 0, .int .i64 0, .int .i64 0, .int .i64 0, .int .i64 0, .string ⟨#[]⟩] : Array Value) = zpa from rfl, ← HW0.out]
        go_upto_region 2 with (refine load_s g (o + i * 5) s rfl RG.out ?_)
        rw [← HW1.out, ← HQ.out]
        go_upto_region 3 with (first | (refine load_a w.heap.size 0 a _ rfl (CA.out W1 G1.out) ?_) | (go_at_call 101; (with_reducible refine NY.mono ?_); rintro e w2 ⟨rfl, g2⟩))
        have G3 : Hid (W1.grownBy (w2.alloc (.cells (sa t) 29)) none) := grown_alloc g2 _
        obtain ⟨d0, d1, d2, d3, d4⟩ := cells_s (SB.out (w2.alloc (.cells (sa t) 29)) G3.out)
        rw [← HQ.out] at d0 d1 d2 d3 d4
        obtain ⟨f0, f1, f2, f3, f4⟩ := cells_s (cs_new (grown_refl (w2.alloc (.cells (sa t) 29)) none)).1
        generalize w2.alloc (.cells (sa t) 29) = w3 at *
        generalize w2.heap.size = q3 at *
        go_wp2_with (first | (go_at_call 74; (with_reducible refine (RS _).mono ?_); rintro e w4 ⟨rfl, e4⟩; have e4' := e4.symm; clear e4; subst e4') | (refine store_row (ty := 24) (w.heap.size + 1) 0 (pa ⟨3, 1, s.sh, t.sh, s.gr, 0, s.ep, ⟨#[]⟩⟩) rfl rfl ((CR.out w3 (grown_tr G1.out G3.out)).there (by simp)) (by kernel_rfl) (by simp [Value.oneCell']) ?_; intro w9 h9; have H9 : Hid (_ = _) := h9; clear h9))
        refine bodyPost_ret (v := .tuple #[pv ⟨3, 1, s.sh, t.sh, s.gr, 0, s.ep, ⟨#[]⟩⟩, .int .i64 0]) ?_ rfl ?_
        · exact res_row2 (P := Try.prog) (fn := Try.f82) (p := 4) (u := 5) (ty := 24) rfl rfl (box_set (cs := pc ⟨3, 1, s.sh, t.sh, s.gr, 0, s.ep, ⟨#[]⟩⟩) (CR.out w3 (grown_tr G1.out G3.out)) rfl H9.out) Try.underlying24 rfl (by kernel_rfl)
        · exact ⟨rfl, box_grown (grown_tr G0.out (grown_tr G1.out G3.out)) (by omega) H9.out⟩
end Go.Proofs.Ytlolhdijadhklaa
