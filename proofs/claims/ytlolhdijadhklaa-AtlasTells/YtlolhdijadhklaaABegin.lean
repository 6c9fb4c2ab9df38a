/- Begin. -/
import Derived.Test.YtlolhdijadhklaaAState
import Derived.Test.YtlolhdijadhklaaAOwn
import Derived.Test.YtlolhdijadhklaaADrawn
import Derived.Test.YtlolhdijadhklaaAMath2
namespace Go.Proofs.Ytlolhdijadhklaa
open Go.RowKit Atl
set_option linter.unusedVariables false
set_option maxRecDepth 10000

theorem pln_k {a : Am} {q : Pl} (h : flt1 a q = 0) : (pln a q).k = q.k ∧ (q.k = 2 → (pln a q).ot = a.la + 1) := by
  unfold flt1 at h
  by_cases k1 : q.k < 1 ∨ 3 < q.k
  · rw [if_pos k1] at h; cases h
  · rw [if_neg k1] at h
    unfold pln
    cases hs : a.l[idx a.l q.sh]? with
    | none => rw [hs] at h; cases h
    | some s =>
      by_cases k2 : q.k = 1
      · simp [k2]
      · by_cases k3 : q.k = 2
        · simp [k3]
        · have k4 : q.k = 3 := by omega
          simp [k4]
set_option maxRecDepth 100000 in
set_option maxHeartbeats 6400000 in
theorem begin_any (a : Am) (u : S3) (q : Pl) (w : World) (h : Rat w a u) (hz : Szm a) (hk : q.key.size ≤ 140737488351232) : Calls Try.prog 17 #[av a u, pv q] w fun e w' => Res w (begM a q) (begE a q) e w' := by
  obtain ⟨W0, hW0⟩ : ∃ W0, W0 = ((w.alloc (.cells (aa a u) 26)).alloc (.cells (pa q) 24)).alloc (.cells zaa 26) := ⟨_, rfl⟩
  have s1 : (w.alloc (.cells (aa a u) 26)).heap.size = w.heap.size + 1 := by simp
  have s2 : ((w.alloc (.cells (aa a u) 26)).alloc (.cells (pa q) 24)).heap.size = w.heap.size + 2 := by simp
  have t1 : ∀ (x : World) o, x.grownBy (x.alloc o) none := fun x o => World.grownBy_alloc _ _ none
  have G0 : Hid (w.grownBy W0 none) := by rw [hW0]; exact grown_tr (t1 _ _) (grown_tr (t1 _ _) (t1 _ _))
  have Z0 : Hid (W0.heap.size = w.heap.size + 3) := by
    have sz : ∀ (x : World) o, (x.alloc o).heap.size = x.heap.size + 1 := fun x o => by simp
    show _ = _
    rw [hW0, sz, s2]
  have CA : Hid (∀ W, W0.grownBy W none → Cs W w.heap.size (ac a u)) := fun W g => by rw [hW0] at g; exact cs_new (grown_tr (t1 _ _) (grown_tr (t1 _ _) g))
  have CP : Hid (∀ W, W0.grownBy W none → Cs W (w.heap.size + 1) (pc q)) := fun W g => by
    rw [hW0] at g
    have := cs_new (grown_tr (t1 _ _) g)
    rwa [s1] at this
  have CR : Hid (∀ W, W0.grownBy W none → Cs W (w.heap.size + 2) zaa.toList) := fun W g => by
    rw [hW0] at g
    have := cs_new g
    rwa [s2] at this
  have HW0 : Hid (W0 = _) := hW0
  have RA : Hid (∀ W, w.grownBy W none → Rat W a u) := fun W g => h.grown g
  have HZ : Hid (Szm a) := hz
  clear hW0 s1 s2 t1 h hz
  cases hc : chk a with
  | false =>
    have E1 : begM a q = zA := by unfold begM; rw [hc]; rfl
    have E2 : begE a q = 4 := by unfold begE; rw [hc]; rfl
    rw [E1, E2]
    have ON := own_no a u W0 (RA.out W0 G0.out) HZ.out hc
    clear E1 E2 hc RA HZ hk
    go_enter Try.func17, Try.ntmps17
    go_upto_region 1 with fail
    rw [show (#[Value.int .i64 0, .int .i64 0, .slice none 0 0, .int .i64 0, .int .i64 0, .int .i64 0, .int .i64 0, .int .i64 0, .int .i64 0, .int .i64 0, .string ⟨#[]⟩] : Array Value) = zaa from rfl, ← HW0.out]
    go_wp2_with (first
      | (refine load_a w.heap.size 0 a u rfl (CA.out W0 (grown_refl _ _)).1 ?_)
      | (go_at_call 49; (with_reducible refine ON.mono ?_); rintro e w2 ⟨rfl, g2⟩)
      | (refine store_row (ty := 26) w.heap.size 0 (aa zA nil3) rfl rfl ((CA.out w2 g2).there (by simp)) (by kernel_rfl) (by simp [Value.oneCell']) ?_; intro w3 h3; have S3 : Hid (St (fun k => W0.heap.size ≤ k) w w3 w.heap.size (w.heap.size + 2) W0.heap.size zA nil3) := (by rw [h3]; exact St.start (CA.out w2 g2) (CR.out w2 g2) (Elm.nil _ _) rfl (by simp [zA]) (grown_tr G0.out g2) (Nat.le_refl _) (by omega) (by have := Z0.out; omega) g2.size); have H3 : Hid (w3 = _) := h3; clear h3)
      | (refine load_a w.heap.size 0 zA nil3 rfl S3.out.row ?_)
      | (refine store_row (ty := 26) (w.heap.size + 2) 0 (aa zA nil3) rfl rfl (S3.out.2.1.there (by simp)) (by kernel_rfl) (by simp [Value.oneCell']) ?_; intro w9 h9; have H9 : Hid (_ = _) := h9; clear h9))
    obtain ⟨r9, o9, R9, c9⟩ := S3.out.done H9.out
    refine bodyPost_ret (v := .tuple #[av zA nil3, .int .i64 4]) ?_ rfl ?_
    · exact res_row2 (P := Try.prog) (fn := Try.f17) (p := 4) (u := 5) (ty := 26) rfl rfl r9 Try.underlying26 rfl (by kernel_rfl)
    · exact ⟨nil3, rfl, R9, chg_high c9 (by have := Z0.out; omega), S3.out.high (by have := Z0.out; omega)⟩
  | true =>
    have RG := chk_is.1 hc
    have OY := own_yes a u W0 (RA.out W0 G0.out) HZ.out hc
    have l16 : Hid (a.l.length ≤ 16) := RG.n16
    have NQ : ∀ W, (binOp .neq 24 (pv a.p) (.agg #[.int .i64 0, .int .i64 0, .int .i64 0, .int .i64 0, .int .i64 0, .int .i64 0, .int .i64 0, .string ⟨#[]⟩])).run Try.prog W = .ok (.bool (!peq a.p zP)) W := fun W => neq_plan a.p zP W
    have DR : Hid (∀ W (u' : S3), Rat W a u' → _) := fun W u' r => drawn_any a u' q W r hk RG.la1 RG.la
    cases hp : peq a.p zP with
    | false =>
      have E1 : begM a q = a := by unfold begM flt; rw [hc, hp]; rfl
      have E2 : begE a q = 180 := by unfold begE flt; rw [hc, hp]; rfl
      rw [E1, E2]
      rw [hp] at NQ
      clear E1 E2 hc RA HZ hk RG DR hp
      go_enter Try.func17, Try.ntmps17
      go_upto_region 1 with fail
      rw [show (#[Value.int .i64 0, .int .i64 0, .slice none 0 0, .int .i64 0, .int .i64 0, .int .i64 0, .int .i64 0, .int .i64 0, .int .i64 0, .int .i64 0, .string ⟨#[]⟩] : Array Value) = zaa from rfl, ← HW0.out]
      go_upto_region 2 with (first
        | (refine load_a w.heap.size 0 a u rfl (CA.out W0 (grown_refl _ _)).1 ?_)
        | (go_at_call 49; (with_reducible refine OY.mono ?_); rintro e w2 ⟨u', rfl, n2, o2, g2⟩)
        | (refine store_row (ty := 26) w.heap.size 0 (aa a u') rfl rfl ((CA.out w2 g2).there (by simp)) (by kernel_rfl) (by simp [Value.oneCell']) ?_; intro w3 h3; have S3 : Hid (St (fun k => W0.heap.size ≤ k) w w3 w.heap.size (w.heap.size + 2) W0.heap.size a u') := (by rw [h3]; exact St.start (CA.out w2 g2) (CR.out w2 g2) o2 n2 (by have := l16.out; omega) (grown_tr G0.out g2) (Nat.le_refl _) (by omega) (by have := Z0.out; omega) g2.size); have H3 : Hid (w3 = _) := h3; clear h3))
      go_wp2_with (first
        | (refine load_p w.heap.size 3 a.p rfl (plan_in S3.out.row) ?_)
        | (refine load_a w.heap.size 0 a u' rfl S3.out.row ?_)
        | (refine store_row (ty := 26) (w.heap.size + 2) 0 (aa a u') rfl rfl (S3.out.2.1.there (by simp)) (by kernel_rfl) (by simp [Value.oneCell']) ?_; intro w9 h9; have H9 : Hid (_ = _) := h9; clear h9))
      obtain ⟨r9, o9, R9, c9⟩ := S3.out.done H9.out
      refine bodyPost_ret (v := .tuple #[av a u', .int .i64 180]) ?_ rfl ?_
      · exact res_row2 (P := Try.prog) (fn := Try.f17) (p := 4) (u := 5) (ty := 26) rfl rfl r9 Try.underlying26 rfl (by kernel_rfl)
      · exact ⟨u', rfl, R9, chg_high c9 (by have := Z0.out; omega), S3.out.high (by have := Z0.out; omega)⟩
    | true =>
      rw [hp] at NQ
      have FE : flt a q = flt1 a q := by unfold flt; rw [hp]; rfl
      have PK : Hid (flt1 a q = 0 → _) := fun h => pln_k (a := a) (q := q) h
      have PZ : Hid (plnZ a q = if flt1 a q ≠ 0 then zP else pln a q) := rfl
      have E1 : begM a q = if flt1 a q ≠ 0 then a else ⟨a.g, if q.k = 2 then a.la + 1 else a.la, a.l, pln a q⟩ := by unfold begM; rw [hc, FE]; rfl
      have E2 : begE a q = flt1 a q := by unfold begE; rw [hc, FE]; rfl
      rw [E1, E2]
      clear E1 E2 hc RA HZ hk RG hp FE
      generalize flt1 a q = E at *
      generalize hPZ : plnZ a q = PP at *
      clear hPZ
      generalize hMM : (if E ≠ 0 then a else (⟨a.g, if q.k = 2 then a.la + 1 else a.la, a.l, pln a q⟩ : Am)) = MM
      have HMM : Hid ((if E ≠ 0 then a else (⟨a.g, if q.k = 2 then a.la + 1 else a.la, a.l, pln a q⟩ : Am)) = MM) := hMM
      clear hMM
      have START : Hid (∀ w2 (u' : S3), W0.grownBy w2 none → eS.Own w2 W0.heap.size (.slice u'.a u'.n u'.c) a.l → u'.n = a.l.length → St (fun k => W0.heap.size ≤ k) w (w2.setCells w.heap.size 0 (ac a u')) w.heap.size (w.heap.size + 2) W0.heap.size a u' ∧ (w2.setCells w.heap.size 0 (ac a u')).rangeAt (w.heap.size + 1) 0 (pc q)) := fun w2 u' g2 o2 n2 =>
        ⟨St.start (CA.out w2 g2) (CR.out w2 g2) o2 n2 (by have := l16.out; omega) (grown_tr G0.out g2) (Nat.le_refl _) (by omega) (by have := Z0.out; omega) g2.size,
          ((CP.out w2 g2).kept (Chg.of (F := fun k => k = w.heap.size) (grown_setCells w.heap.size (ac a u') 0 w2) (fun k e => by injection e with e; exact e.symm)) (by omega) (by have := Z0.out; have := g2.size; omega)).1⟩
      go_enter Try.func17, Try.ntmps17
      go_upto_region 1 with fail
      rw [show (#[Value.int .i64 0, .int .i64 0, .slice none 0 0, .int .i64 0, .int .i64 0, .int .i64 0, .int .i64 0, .int .i64 0, .int .i64 0, .int .i64 0, .string ⟨#[]⟩] : Array Value) = zaa from rfl, ← HW0.out]
      go_upto_region 2 with (first
        | (refine load_a w.heap.size 0 a u rfl (CA.out W0 (grown_refl _ _)).1 ?_)
        | (go_at_call 49; (with_reducible refine OY.mono ?_); rintro e w2 ⟨u', rfl, n2, o2, g2⟩)
        | (refine store_row (ty := 26) w.heap.size 0 (aa a u') rfl rfl ((CA.out w2 g2).there (by simp)) (by kernel_rfl) (by simp [Value.oneCell']) ?_; intro w3 h3; have ST3 := START.out w2 u' g2 o2 n2; rw [← h3] at ST3; have S3 : Hid (St (fun k => W0.heap.size ≤ k) w w3 w.heap.size (w.heap.size + 2) W0.heap.size a u') := ST3.1; have R3 : Hid (w3.rangeAt (w.heap.size + 1) 0 (pc q)) := ST3.2; clear h3 ST3))
      clear OY START
      go_upto_region 7 with (first
        | (refine load_p w.heap.size 3 a.p rfl (plan_in S3.out.row) ?_)
        | (refine load_a w.heap.size 0 a u' rfl S3.out.row ?_)
        | (refine load_p (w.heap.size + 1) 0 q rfl R3.out ?_)
        | (go_at_call 50; (with_reducible refine (DR.out w3 u' S3.out.rat).mono ?_); rintro e w4 ⟨rfl, g4⟩))
      have S5 : Hid (St (fun k => W0.heap.size ≤ k) w (w4.alloc (.cells (pa PP) 24)) w.heap.size (w.heap.size + 2) W0.heap.size a u') := (S3.out.grown g4).grown (World.grownBy_alloc _ _ none)
      have C5 : Hid (Cs (w4.alloc (.cells (pa PP) 24)) w4.heap.size (pc PP)) := cs_new (grown_refl _ _)
      have Q5 : Hid (w.heap.size + 3 ≤ w4.heap.size ∧ (w4.alloc (.cells (pa PP) 24)).heap.size = w4.heap.size + 1) := (⟨by have := g2.size; have := g4.size; have := Z0.out; have := S3.out.2.2.2.2.2.2.2.2.2.2.1; omega, by simp⟩ : _ ∧ _)
      clear R3 DR CA CP CR
      generalize w4.alloc (.cells (pa PP) 24) = w5 at *
      generalize w4.heap.size = q5 at *
      cases hf : (E != 0) with
      | false =>
        have HE : Hid (E = 0) := (by have := hf; show _ = _; simpa using this)
        have hf2 : (E == 0) = true := by simpa using hf
        have PK2 := PK.out HE.out
        have HPP : Hid (PP = pln a q) := by
          show _ = _
          rw [PZ.out, if_neg (by simpa using HE.out)]
        obtain ⟨p0, p1, p2, p3, p4, p5, p6, p7⟩ := cells_p C5.out.1
        have HKK : Hid (PP.k = q.k ∧ (q.k = 2 → PP.ot = a.la + 1)) := by rw [HPP.out]; exact PK2
        clear PK2 PZ PK p1 p2 p4 p5 p6 p7
        have C6 : Hid (Cs (w5.setCells w.heap.size 3 (pc PP)) q5 (pc PP)) := C5.out.kept (Chg.of (F := fun k => k = w.heap.size) (grown_setCells w.heap.size (pc PP) 3 w5) (fun k e => by injection e with e; exact e.symm)) (by have := Q5.out; omega) (by have := Q5.out; omega)
        have S6 : Hid (St (fun k => W0.heap.size ≤ k) w (w5.setCells w.heap.size 3 (pc PP)) w.heap.size (w.heap.size + 2) W0.heap.size ⟨a.g, a.la, a.l, PP⟩ u') := S5.out.plan PP
        have TH : Hid (w5.there w.heap.size 3 8) := fun j hj => ⟨by
          have := S5.out.row (3 + j) ((ac a u')[3 + j]'(by simp; omega)) (List.getElem?_eq_getElem _)
          rw [Nat.zero_add] at this
          rw [this]; rfl, S5.out.1.2 _⟩
        go_upto_region 10 with (first
          | (refine load_p q5 0 PP rfl C5.out.1 ?_)
          | (refine store_row (ty := 24) w.heap.size 3 (pa PP) rfl rfl TH.out (by kernel_rfl) (by simp [Value.oneCell']) ?_; intro w6 h6; have H6 : Hid (w6 = w5.setCells w.heap.size 3 (pc PP)) := h6; clear h6))
        have S7 : Hid (St (fun k => W0.heap.size ≤ k) w w6 w.heap.size (w.heap.size + 2) W0.heap.size ⟨a.g, a.la, a.l, PP⟩ u') := by rw [H6.out]; exact S6.out
        have C7 : Hid (Cs w6 q5 (pc PP)) := by rw [H6.out]; exact C6.out
        clear S6 C6 TH S5 C5 p0 p3
        have f0 := C7.out.1 0 _ rfl
        have f3 := C7.out.1 3 _ rfl
        simp only [Nat.zero_add] at f0 f3
        have l1 := S7.out.1.1 1 _ rfl
        have lf := S7.out.1.2 1
        rw [Nat.zero_add] at l1
        cases hk2 : (PP.k == 2) with
        | true =>
          have k2 : q.k = 2 := by rw [← HKK.out.1]; simpa using hk2
          have HM : Hid ((if E ≠ 0 then a else (⟨a.g, if q.k = 2 then a.la + 1 else a.la, a.l, pln a q⟩ : Am)) = ⟨a.g, PP.ot, a.l, PP⟩) := by
            show _ = _
            rw [if_neg (by simpa using HE.out), if_pos k2, HKK.out.2 k2, HPP.out]
          have S8 : Hid (St (fun k => W0.heap.size ≤ k) w (w6.setCell ⟨w.heap.size, 1, none⟩ (.int .i64 PP.ot)) w.heap.size (w.heap.size + 2) W0.heap.size ⟨a.g, PP.ot, a.l, PP⟩ u') := S7.out.last PP.ot
          clear k2
          go_wp2_with (first
            | (refine load_a w.heap.size 0 ⟨a.g, PP.ot, a.l, PP⟩ u' rfl S8.out.row ?_)
            | (refine store_row (ty := 26) (w.heap.size + 2) 0 (aa ⟨a.g, PP.ot, a.l, PP⟩ u') rfl rfl (S8.out.2.1.there (by simp)) (by kernel_rfl) (by simp [Value.oneCell']) ?_; intro w9 h9; have H9 : Hid (_ = _) := h9; clear h9))
          obtain ⟨r9, o9, R9, c9⟩ := S8.out.done H9.out
          refine bodyPost_ret (v := .tuple #[av ⟨a.g, PP.ot, a.l, PP⟩ u', .int .i64 0]) ?_ rfl ?_
          · exact res_row2 (P := Try.prog) (fn := Try.f17) (p := 4) (u := 5) (ty := 26) rfl rfl r9 Try.underlying26 rfl (by kernel_rfl)
          · rw [HMM.out.symm.trans HM.out, HE.out]
            exact ⟨u', rfl, R9, chg_high c9 (by have := Z0.out; omega), S8.out.high (by have := Z0.out; omega)⟩
        | false =>
          have k2 : ¬ q.k = 2 := by rw [← HKK.out.1]; simpa using hk2
          have HM : Hid ((if E ≠ 0 then a else (⟨a.g, if q.k = 2 then a.la + 1 else a.la, a.l, pln a q⟩ : Am)) = ⟨a.g, a.la, a.l, PP⟩) := by
            show _ = _
            rw [if_neg (by simpa using HE.out), if_neg k2, HPP.out]
          clear k2
          go_wp2_with (first
            | (refine load_a w.heap.size 0 ⟨a.g, a.la, a.l, PP⟩ u' rfl S7.out.row ?_)
            | (refine store_row (ty := 26) (w.heap.size + 2) 0 (aa ⟨a.g, a.la, a.l, PP⟩ u') rfl rfl (S7.out.2.1.there (by simp)) (by kernel_rfl) (by simp [Value.oneCell']) ?_; intro w9 h9; have H9 : Hid (_ = _) := h9; clear h9))
          obtain ⟨r9, o9, R9, c9⟩ := S7.out.done H9.out
          refine bodyPost_ret (v := .tuple #[av ⟨a.g, a.la, a.l, PP⟩ u', .int .i64 0]) ?_ rfl ?_
          · exact res_row2 (P := Try.prog) (fn := Try.f17) (p := 4) (u := 5) (ty := 26) rfl rfl r9 Try.underlying26 rfl (by kernel_rfl)
          · rw [HMM.out.symm.trans HM.out, HE.out]
            exact ⟨u', rfl, R9, chg_high c9 (by have := Z0.out; omega), S7.out.high (by have := Z0.out; omega)⟩
      | true =>
        have HE : Hid (E ≠ 0) := (by have := hf; show _ ≠ _; simpa using this)
        have hf2 : (E == 0) = false := by simpa using hf
        clear PK PZ
        go_wp2_with (first
          | (refine load_a w.heap.size 0 a u' rfl S5.out.row ?_)
          | (refine store_row (ty := 26) (w.heap.size + 2) 0 (aa a u') rfl rfl (S5.out.2.1.there (by simp)) (by kernel_rfl) (by simp [Value.oneCell']) ?_; intro w9 h9; have H9 : Hid (_ = _) := h9; clear h9))
        obtain ⟨r9, o9, R9, c9⟩ := S5.out.done H9.out
        refine bodyPost_ret (v := .tuple #[av a u', .int .i64 E]) ?_ rfl ?_
        · exact res_row2 (P := Try.prog) (fn := Try.f17) (p := 4) (u := 5) (ty := 26) rfl rfl r9 Try.underlying26 rfl (by kernel_rfl)
        · rw [← HMM.out, if_pos HE.out]
          exact ⟨u', rfl, R9, chg_high c9 (by have := Z0.out; omega), S5.out.high (by have := Z0.out; omega)⟩

end Go.Proofs.Ytlolhdijadhklaa
