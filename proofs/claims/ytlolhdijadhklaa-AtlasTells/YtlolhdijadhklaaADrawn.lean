/- drawn. -/
import Derived.Test.YtlolhdijadhklaaADrawn1
import Derived.Test.YtlolhdijadhklaaADrawn2
import Derived.Test.YtlolhdijadhklaaADrawn3
import Derived.Test.YtlolhdijadhklaaACheck
namespace Go.Proofs.Ytlolhdijadhklaa
open Go.RowKit Atl
set_option linter.unusedVariables false
set_option maxRecDepth 10000

/-- The plan that is drawn, or none. -/
def plnZ (a : Am) (q : Pl) : Pl := if flt1 a q ≠ 0 then zP else pln a q
theorem flt2_mrg (a : Am) (q : Pl) (i : Nat) (s : Sp) (h1 : ¬ q.k = 1) (h2 : ¬ q.k = 2) : flt2 a q i s = mrgE a.l i s := by
  unfold flt2 mrgE
  rw [if_neg h1, if_neg h2]
  rfl
set_option maxRecDepth 100000 in
set_option maxHeartbeats 6400000 in
theorem drawn_any (a : Am) (u : S3) (q : Pl) (w : World) (h : Rat w a u) (hk : q.key.size ≤ 140737488351232) (l1 : 1 ≤ a.la) (l2 : a.la ≤ 1099511627776) : Calls Try.prog 50 #[av a u, pv q] w fun e w' => e = .returned (.tuple #[pv (plnZ a q), .int .i64 (flt1 a q)]) ∧ w.grownBy w' none := by
  obtain ⟨W0, hW0⟩ : ∃ W0, W0 = ((w.alloc (.cells (aa a u) 26)).alloc (.cells (pa q) 24)).alloc (.cells zpa 24) := ⟨_, rfl⟩
  have s1 : (w.alloc (.cells (aa a u) 26)).heap.size = w.heap.size + 1 := by simp
  have s2 : ((w.alloc (.cells (aa a u) 26)).alloc (.cells (pa q) 24)).heap.size = w.heap.size + 2 := by simp
  have t1 : ∀ (x : World) o, x.grownBy (x.alloc o) none := fun x o => World.grownBy_alloc _ _ none
  have G0 : Hid (w.grownBy W0 none) := by rw [hW0]; exact grown_tr (t1 _ _) (grown_tr (t1 _ _) (t1 _ _))
  have CA : Hid (∀ W, W0.grownBy W none → W.rangeAt w.heap.size 0 (ac a u)) := fun W g => by rw [hW0] at g; exact (cs_new (grown_tr (t1 _ _) (grown_tr (t1 _ _) g))).1
  have CP : Hid (∀ W, W0.grownBy W none → W.rangeAt (w.heap.size + 1) 0 (pc q)) := fun W g => by
    rw [hW0] at g
    have := cs_new (grown_tr (t1 _ _) g)
    rw [s1] at this
    exact this.1
  have CR : Hid (∀ W, W0.grownBy W none → Cs W (w.heap.size + 2) zpa.toList) := fun W g => by
    rw [hW0] at g
    have := cs_new g
    rwa [s2] at this
  have HW0 : Hid (W0 = _) := hW0
  have PL : Hid (∀ W, w.grownBy W none → _) := fun W g => place_any a u q.sh W (h.grown g)
  have RAT : Hid (∀ W, w.grownBy W none → Rat W a u) := fun W g => h.grown g
  obtain ⟨c0, c1, c2, c3, c4, c5, c6, c7⟩ := cells_p (CP.out W0 (grown_refl _ _))
  clear hW0 s1 s2 t1 h
  cases k1 : decide (q.k < 1) with
  | true =>
    have E1 : flt1 a q = 1 := by unfold flt1; rw [if_pos (.inl (of_decide_eq_true k1))]
    have E2 : plnZ a q = zP := by unfold plnZ; rw [E1]; rfl
    rw [E1, E2]
    clear PL E1 E2
    go_enter Try.func50, Try.ntmps50
    go_upto_region 1 with fail
    rw [show (#[Value.int .i64 0, .int .i64 0, .int .i64 0, .int .i64 0, .int .i64 0, .int .i64 0, .int .i64 0, .string ⟨#[]⟩] : Array Value) = zpa from rfl, ← HW0.out]
    go_wp2_with (refine store_row (ty := 24) (w.heap.size + 2) 0 (pa zP) rfl rfl ((CR.out W0 (grown_refl _ _)).there (by simp)) (by kernel_rfl) (by simp [Value.oneCell']) ?_; intro w9 h9; have H9 : Hid (_ = _) := h9; clear h9)
    refine bodyPost_ret (v := .tuple #[pv zP, .int .i64 1]) ?_ rfl ?_
    · exact res_row2 (P := Try.prog) (fn := Try.f50) (p := 4) (u := 5) (ty := 24) rfl rfl (box_set (cs := pc zP) (CR.out W0 (grown_refl _ _)) rfl H9.out) Try.underlying24 rfl (by kernel_rfl)
    · exact ⟨rfl, box_grown (grown_tr G0.out (grown_refl _ _)) (by omega) H9.out⟩
  | false =>
    cases k2 : decide (3 < q.k) with
    | true =>
      have E1 : flt1 a q = 1 := by unfold flt1; rw [if_pos (.inr (of_decide_eq_true k2))]
      have E2 : plnZ a q = zP := by unfold plnZ; rw [E1]; rfl
      rw [E1, E2]
      clear PL E1 E2
      go_enter Try.func50, Try.ntmps50
      go_upto_region 1 with fail
      rw [show (#[Value.int .i64 0, .int .i64 0, .int .i64 0, .int .i64 0, .int .i64 0, .int .i64 0, .int .i64 0, .string ⟨#[]⟩] : Array Value) = zpa from rfl, ← HW0.out]
      go_wp2_with (refine store_row (ty := 24) (w.heap.size + 2) 0 (pa zP) rfl rfl ((CR.out W0 (grown_refl _ _)).there (by simp)) (by kernel_rfl) (by simp [Value.oneCell']) ?_; intro w9 h9; have H9 : Hid (_ = _) := h9; clear h9)
      refine bodyPost_ret (v := .tuple #[pv zP, .int .i64 1]) ?_ rfl ?_
      · exact res_row2 (P := Try.prog) (fn := Try.f50) (p := 4) (u := 5) (ty := 24) rfl rfl (box_set (cs := pc zP) (CR.out W0 (grown_refl _ _)) rfl H9.out) Try.underlying24 rfl (by kernel_rfl)
      · exact ⟨rfl, box_grown (grown_tr G0.out (grown_refl _ _)) (by omega) H9.out⟩
    | false =>
      have kk : ¬ (q.k < 1 ∨ 3 < q.k) := by
        have h1 := of_decide_eq_false k1
        have h2 := of_decide_eq_false k2
        omega
      have PO := PL.out
      cases hs : a.l[idx a.l q.sh]? with
      | none =>
        have E1 : flt1 a q = 172 := by unfold flt1; rw [if_neg kk, hs]
        have E2 : plnZ a q = zP := by unfold plnZ; rw [E1]; rfl
        rw [E1, E2]
        rw [plc_none hs] at PO
        clear PL E1 E2 hs kk
        go_enter Try.func50, Try.ntmps50
        go_upto_region 1 with fail
        rw [show (#[Value.int .i64 0, .int .i64 0, .int .i64 0, .int .i64 0, .int .i64 0, .int .i64 0, .int .i64 0, .string ⟨#[]⟩] : Array Value) = zpa from rfl, ← HW0.out]
        go_wp2_with (first | (refine load_a w.heap.size 0 a u rfl (CA.out W0 (grown_refl _ _)) ?_) | (go_at_call 54; (with_reducible refine (PO _ G0.out).mono ?_); rintro e w2 ⟨rfl, g2⟩; obtain ⟨d0, d1, d2, d3, d4, d5, d6, d7⟩ := cells_p (CP.out w2 g2); have d8 := (cells_a (CA.out w2 g2)).2.2.1) | (refine store_row (ty := 24) (w.heap.size + 2) 0 (pa zP) rfl rfl ((CR.out w2 g2).there (by simp)) (by kernel_rfl) (by simp [Value.oneCell']) ?_; intro w9 h9; have H9 : Hid (_ = _) := h9; clear h9))
        refine bodyPost_ret (v := .tuple #[pv zP, .int .i64 172]) ?_ rfl ?_
        · exact res_row2 (P := Try.prog) (fn := Try.f50) (p := 4) (u := 5) (ty := 24) rfl rfl (box_set (cs := pc zP) (CR.out w2 g2) rfl H9.out) Try.underlying24 rfl (by kernel_rfl)
        · exact ⟨rfl, box_grown (grown_tr G0.out g2) (by omega) H9.out⟩
      | some s =>
        rw [plc_some hs] at PO
        have RS := rise_any s.ep
        have hl := (List.getElem?_eq_some_iff.1 hs).1
        have FE : Hid (flt1 a q = if mR s.ep = false then 1 else flt2 a q (idx a.l q.sh) s) := by show _ = _; unfold flt1; rw [if_neg kk, hs]
        have PE : Hid (pln a q = if q.k = 1 then ⟨1, 1, s.sh, 0, q.gp, s.gr, s.ep, ⟨#[]⟩⟩ else if q.k = 2 then ⟨2, 1, s.sh, a.la + 1, s.gr, 0, s.ep, q.key⟩ else ⟨3, 1, s.sh, (a.l.getD (idx a.l q.sh + 1) zS).sh, s.gr, 0, s.ep, ⟨#[]⟩⟩) := by show _ = _; unfold pln; rw [hs]
        have D1 : Hid (∀ W, w.grownBy W none → _) := fun W g => dmove_any a u _ s q.gp W (RAT.out W g) hs
        have D2 : Hid (∀ W, w.grownBy W none → _) := fun W g => dsplit_any a u _ s q.key W (RAT.out W g) hs hk l1 l2
        have D3 : Hid (∀ W, w.grownBy W none → _) := fun W g => dmerge_any a u _ s W (RAT.out W g) hs
        have SS : Hid (∀ W, w.grownBy W none → ∃ g o, u.a = some ⟨g, o, none⟩ ∧ W.rangeAt g (o + idx a.l q.sh * 5) (sc s)) := fun W g => range_at (RAT.out W g).1 hs
        generalize hi : idx a.l q.sh = i at *
        obtain ⟨ua, un, uc⟩ := u
        have hn : un = a.l.length := (RAT.out w (grown_refl _ _)).2.1
        have hb := (RAT.out w (grown_refl _ _)).2.2
        rw [← hn] at hl hb
        simp only at SS D1 D2 D3 PO HW0 CA ⊢
        obtain ⟨g, o, ea, _⟩ := SS.out w (grown_refl _ _)
        subst ea
        have un16 : (un : Int) ≤ 9223372036854775807 := by omega
        have SC : Hid (∀ W, w.grownBy W none → W.rangeAt g (o + i * 5) (sc s)) := fun W gr => by
          obtain ⟨g', o', e1, e2⟩ := SS.out W gr
          injection e1 with e1
          injection e1 with e1 e3 _
          subst e1 e3
          exact e2
        have i0 : ¬ (i : Int) < 0 := by omega
        have d0' : decide ((i : Int) < 0) = false := decide_eq_false i0
        have p1 : decide (q.k < 1) = false := k1
        clear hn hb hs hi SS RAT PL kk l1 l2 hk
        have ARM : Hid (∀ W, W0.grownBy W none → W.cell? ⟨g, o + i * 5 + 3, none⟩ = some (.int .i64 s.ep)) := fun W gr => (cells_s (SC.out W (grown_tr G0.out gr))).2.2.2.1
        cases hm : mR s.ep with
        | false =>
          rw [hm] at RS
          have FE1 := FE.out
          rw [hm, if_pos rfl] at FE1
          have E2 : plnZ a q = zP := by unfold plnZ; rw [FE1]; rfl
          rw [FE1, E2]
          clear FE1 E2 D1 D2 D3 hm
          go_enter Try.func50, Try.ntmps50
          go_upto_region 1 with fail
          rw [show (#[Value.int .i64 0, .int .i64 0, .int .i64 0, .int .i64 0, .int .i64 0, .int .i64 0, .int .i64 0, .string ⟨#[]⟩] : Array Value) = zpa from rfl, ← HW0.out]
          go_wp2_with (first | (refine load_a w.heap.size 0 a _ rfl (CA.out W0 (grown_refl _ _)) ?_) | (go_at_call 54; (with_reducible refine (PO _ G0.out).mono ?_); rintro e w2 ⟨rfl, g2⟩; obtain ⟨d0, d1, d2, d3, d4, d5, d6, d7⟩ := cells_p (CP.out w2 g2); have d8 := (cells_a (CA.out w2 g2)).2.2.1; have d9 := ARM.out w2 g2) | (go_at_call 74; (with_reducible refine (RS _).mono ?_); rintro e w4 ⟨rfl, e4⟩; have e4' := e4.symm; clear e4; subst e4') | (refine store_row (ty := 24) (w.heap.size + 2) 0 (pa zP) rfl rfl ((CR.out w2 g2).there (by simp)) (by kernel_rfl) (by simp [Value.oneCell']) ?_; intro w9 h9; have H9 : Hid (_ = _) := h9; clear h9))
          refine bodyPost_ret (v := .tuple #[pv zP, .int .i64 1]) ?_ rfl ?_
          · exact res_row2 (P := Try.prog) (fn := Try.f50) (p := 4) (u := 5) (ty := 24) rfl rfl (box_set (cs := pc zP) (CR.out w2 g2) rfl H9.out) Try.underlying24 rfl (by kernel_rfl)
          · exact ⟨rfl, box_grown (grown_tr G0.out g2) (by omega) H9.out⟩
        | true =>
          rw [hm] at RS
          have FE1 := FE.out
          rw [hm, if_neg (by simp)] at FE1
          rw [FE1]
          have PZ : plnZ a q = if flt2 a q i s ≠ 0 then zP else pln a q := by unfold plnZ; rw [FE1]
          rw [PZ, PE.out]
          clear FE1 PZ hm FE
          cases j1 : (q.k == 1) with
          | true =>
            have e : q.k = 1 := by simpa using j1
            have F2 : flt2 a q i s = if isG a.g q.gp = false ∨ q.gp = s.gr then 1 else 0 := by unfold flt2; rw [if_pos e]
            have P2 : (if flt2 a q i s ≠ 0 then zP else if q.k = 1 then (⟨1, 1, s.sh, 0, q.gp, s.gr, s.ep, ⟨#[]⟩⟩ : Pl) else if q.k = 2 then ⟨2, 1, s.sh, a.la + 1, s.gr, 0, s.ep, q.key⟩ else ⟨3, 1, s.sh, (a.l.getD (i + 1) zS).sh, s.gr, 0, s.ep, ⟨#[]⟩⟩) = if isG a.g q.gp = false ∨ q.gp = s.gr then zP else ⟨1, 1, s.sh, 0, q.gp, s.gr, s.ep, ⟨#[]⟩⟩ := by
              rw [F2, if_pos e]
              by_cases hh : isG a.g q.gp = false ∨ q.gp = s.gr
              · simp [hh]
              · simp [hh]
            rw [P2, F2]
            generalize (if isG a.g q.gp = false ∨ q.gp = s.gr then zP else (⟨1, 1, s.sh, 0, q.gp, s.gr, s.ep, ⟨#[]⟩⟩ : Pl)) = P5 at *
            generalize (if isG a.g q.gp = false ∨ q.gp = s.gr then (1 : Int) else 0) = E5 at *
            clear F2 P2 e D2 D3 PE
            go_enter Try.func50, Try.ntmps50
            go_upto_region 1 with fail
            rw [show (#[Value.int .i64 0, .int .i64 0, .int .i64 0, .int .i64 0, .int .i64 0, .int .i64 0, .int .i64 0, .string ⟨#[]⟩] : Array Value) = zpa from rfl, ← HW0.out]
            go_wp2_with (first | (refine load_a w.heap.size 0 a _ rfl (CA.out W0 (grown_refl _ _)) ?_) | (go_at_call 54; (with_reducible refine (PO _ G0.out).mono ?_); rintro e w2 ⟨rfl, g2⟩; obtain ⟨d0, d1, d2, d3, d4, d5, d6, d7⟩ := cells_p (CP.out w2 g2); have d8 := (cells_a (CA.out w2 g2)).2.2.1; have d9 := ARM.out w2 g2) | (go_at_call 74; (with_reducible refine (RS _).mono ?_); rintro e w4 ⟨rfl, e4⟩; have e4' := e4.symm; clear e4; subst e4') | (refine load_a w.heap.size 0 a _ rfl (CA.out w2 g2) ?_) | (go_at_call 80; (with_reducible refine (D1.out _ (grown_tr G0.out g2)).mono ?_); rintro e w5 ⟨rfl, g5⟩) | (refine store_row (ty := 24) (w.heap.size + 2) 0 (pa P5) rfl rfl ((CR.out w5 (grown_tr g2 g5)).there (by simp)) (by kernel_rfl) (by simp [Value.oneCell']) ?_; intro w9 h9; have H9 : Hid (_ = _) := h9; clear h9))
            refine bodyPost_ret (v := .tuple #[pv P5, .int .i64 E5]) ?_ rfl ?_
            · exact res_row2 (P := Try.prog) (fn := Try.f50) (p := 4) (u := 5) (ty := 24) rfl rfl (box_set (cs := pc P5) (CR.out w5 (grown_tr g2 g5)) rfl H9.out) Try.underlying24 rfl (by kernel_rfl)
            · exact ⟨rfl, box_grown (grown_tr G0.out (grown_tr g2 g5)) (by omega) H9.out⟩
          | false =>
            cases j2 : (q.k == 2) with
            | true =>
              have e : q.k = 2 := by simpa using j2
              have ne : ¬ q.k = 1 := by rw [e]; decide
              have F2 : flt2 a q i s = if parts s q.key = false then 170 else if a.l.length = 16 ∨ a.la = 1099511627776 then 3 else 0 := by unfold flt2; rw [if_neg ne, if_pos e]
              have P2 : (if flt2 a q i s ≠ 0 then zP else if q.k = 1 then (⟨1, 1, s.sh, 0, q.gp, s.gr, s.ep, ⟨#[]⟩⟩ : Pl) else if q.k = 2 then ⟨2, 1, s.sh, a.la + 1, s.gr, 0, s.ep, q.key⟩ else ⟨3, 1, s.sh, (a.l.getD (i + 1) zS).sh, s.gr, 0, s.ep, ⟨#[]⟩⟩) = if parts s q.key = false then zP else if a.l.length = 16 ∨ a.la = 1099511627776 then zP else ⟨2, 1, s.sh, a.la + 1, s.gr, 0, s.ep, q.key⟩ := by
                rw [F2, if_neg ne, if_pos e]
                by_cases hh : parts s q.key = false
                · simp [hh]
                · by_cases h2 : a.l.length = 16 ∨ a.la = 1099511627776
                  · simp [hh, h2]
                  · simp [hh, h2]
              rw [P2, F2]
              generalize (if parts s q.key = false then zP else if a.l.length = 16 ∨ a.la = 1099511627776 then zP else (⟨2, 1, s.sh, a.la + 1, s.gr, 0, s.ep, q.key⟩ : Pl)) = P5 at *
              generalize (if parts s q.key = false then (170 : Int) else if a.l.length = 16 ∨ a.la = 1099511627776 then 3 else 0) = E5 at *
              clear F2 P2 e ne D1 D3 PE
              go_enter Try.func50, Try.ntmps50
              go_upto_region 1 with fail
              rw [show (#[Value.int .i64 0, .int .i64 0, .int .i64 0, .int .i64 0, .int .i64 0, .int .i64 0, .int .i64 0, .string ⟨#[]⟩] : Array Value) = zpa from rfl, ← HW0.out]
              go_wp2_with (first | (refine load_a w.heap.size 0 a _ rfl (CA.out W0 (grown_refl _ _)) ?_) | (go_at_call 54; (with_reducible refine (PO _ G0.out).mono ?_); rintro e w2 ⟨rfl, g2⟩; obtain ⟨d0, d1, d2, d3, d4, d5, d6, d7⟩ := cells_p (CP.out w2 g2); have d8 := (cells_a (CA.out w2 g2)).2.2.1; have d9 := ARM.out w2 g2) | (go_at_call 74; (with_reducible refine (RS _).mono ?_); rintro e w4 ⟨rfl, e4⟩; have e4' := e4.symm; clear e4; subst e4') | (refine load_a w.heap.size 0 a _ rfl (CA.out w2 g2) ?_) | (go_at_call 81; (with_reducible refine (D2.out _ (grown_tr G0.out g2)).mono ?_); rintro e w5 ⟨rfl, g5⟩) | (refine store_row (ty := 24) (w.heap.size + 2) 0 (pa P5) rfl rfl ((CR.out w5 (grown_tr g2 g5)).there (by simp)) (by kernel_rfl) (by simp [Value.oneCell']) ?_; intro w9 h9; have H9 : Hid (_ = _) := h9; clear h9))
              refine bodyPost_ret (v := .tuple #[pv P5, .int .i64 E5]) ?_ rfl ?_
              · exact res_row2 (P := Try.prog) (fn := Try.f50) (p := 4) (u := 5) (ty := 24) rfl rfl (box_set (cs := pc P5) (CR.out w5 (grown_tr g2 g5)) rfl H9.out) Try.underlying24 rfl (by kernel_rfl)
              · exact ⟨rfl, box_grown (grown_tr G0.out (grown_tr g2 g5)) (by omega) H9.out⟩
            | false =>
              have n1 : ¬ q.k = 1 := by simpa using j1
              have n2 : ¬ q.k = 2 := by simpa using j2
              have F2 : flt2 a q i s = mrgE a.l i s := flt2_mrg a q i s n1 n2
              have P2 : (if flt2 a q i s ≠ 0 then zP else if q.k = 1 then (⟨1, 1, s.sh, 0, q.gp, s.gr, s.ep, ⟨#[]⟩⟩ : Pl) else if q.k = 2 then ⟨2, 1, s.sh, a.la + 1, s.gr, 0, s.ep, q.key⟩ else ⟨3, 1, s.sh, (a.l.getD (i + 1) zS).sh, s.gr, 0, s.ep, ⟨#[]⟩⟩) = if mrgE a.l i s ≠ 0 then zP else ⟨3, 1, s.sh, (a.l.getD (i + 1) zS).sh, s.gr, 0, s.ep, ⟨#[]⟩⟩ := by
                rw [F2, if_neg n1, if_neg n2]
              rw [P2, F2]
              generalize (if mrgE a.l i s ≠ 0 then zP else (⟨3, 1, s.sh, (a.l.getD (i + 1) zS).sh, s.gr, 0, s.ep, ⟨#[]⟩⟩ : Pl)) = P5 at *
              generalize mrgE a.l i s = E5 at *
              clear F2 P2 n1 n2 D1 D2 PE
              go_enter Try.func50, Try.ntmps50
              go_upto_region 1 with fail
              rw [show (#[Value.int .i64 0, .int .i64 0, .int .i64 0, .int .i64 0, .int .i64 0, .int .i64 0, .int .i64 0, .string ⟨#[]⟩] : Array Value) = zpa from rfl, ← HW0.out]
              go_wp2_with (first | (refine load_a w.heap.size 0 a _ rfl (CA.out W0 (grown_refl _ _)) ?_) | (go_at_call 54; (with_reducible refine (PO _ G0.out).mono ?_); rintro e w2 ⟨rfl, g2⟩; obtain ⟨d0, d1, d2, d3, d4, d5, d6, d7⟩ := cells_p (CP.out w2 g2); have d8 := (cells_a (CA.out w2 g2)).2.2.1; have d9 := ARM.out w2 g2) | (go_at_call 74; (with_reducible refine (RS _).mono ?_); rintro e w4 ⟨rfl, e4⟩; have e4' := e4.symm; clear e4; subst e4') | (refine load_a w.heap.size 0 a _ rfl (CA.out w2 g2) ?_) | (go_at_call 82; (with_reducible refine (D3.out _ (grown_tr G0.out g2)).mono ?_); rintro e w5 ⟨rfl, g5⟩) | (refine store_row (ty := 24) (w.heap.size + 2) 0 (pa P5) rfl rfl ((CR.out w5 (grown_tr g2 g5)).there (by simp)) (by kernel_rfl) (by simp [Value.oneCell']) ?_; intro w9 h9; have H9 : Hid (_ = _) := h9; clear h9))
              refine bodyPost_ret (v := .tuple #[pv P5, .int .i64 E5]) ?_ rfl ?_
              · exact res_row2 (P := Try.prog) (fn := Try.f50) (p := 4) (u := 5) (ty := 24) rfl rfl (box_set (cs := pc P5) (CR.out w5 (grown_tr g2 g5)) rfl H9.out) Try.underlying24 rfl (by kernel_rfl)
              · exact ⟨rfl, box_grown (grown_tr G0.out (grown_tr g2 g5)) (by omega) H9.out⟩
end Go.Proofs.Ytlolhdijadhklaa
