/- Advance. -/
import Derived.Test.YtlolhdijadhklaaAAdv
import Derived.Test.YtlolhdijadhklaaAState
namespace Go.Proofs.Ytlolhdijadhklaa
open Go.RowKit Atl
set_option linter.unusedVariables false
set_option maxRecDepth 10000

theorem step_len {a : Am} (h : Rgt a) : (Atl.step a).l.length ≤ 4096 := by
  have := h.n16
  unfold Atl.step
  split
  · unfold one1 chgL
    split
    · simp; omega
    · split
      · simp; omega
      · simp; omega
  · split <;> (show a.l.length ≤ _; omega)
set_option maxRecDepth 100000 in
set_option maxHeartbeats 64000000 in
theorem advance_any (a : Am) (u : S3) (n : Int) (w : World) (h : Rat w a u) (hz : Szm a) : Calls Try.prog 19 #[av a u, .int .i64 n] w fun e w' => Res w (advM a n) (advE a n) e w' := by
  obtain ⟨W0, hW0⟩ : ∃ W0, W0 = (w.alloc (.cells (aa a u) 26)).alloc (.cells zaa 26) := ⟨_, rfl⟩
  obtain ⟨g0, sz0, r0, k0', k0⟩ := two_boxes w a u zaa _ _ W0 hW0
  have G0 : Hid (w.grownBy W0 none) := g0
  have SZ : Hid (W0.heap.size = w.heap.size + 2) := sz0
  have CA : Hid (∀ W, W0.grownBy W none → Cs W w.heap.size (ac a u)) := k0'
  have CR : Hid (∀ W, W0.grownBy W none → Cs W (w.heap.size + 1) zaa.toList) := k0
  have HW0 : Hid (W0 = _) := hW0
  have RA : Hid (∀ W, w.grownBy W none → Rat W a u) := fun W g => h.grown g
  have HZ : Hid (Szm a) := hz
  have EQ : ∀ W, (binOp .eql 24 (pv a.p) (.agg #[.int .i64 0, .int .i64 0, .int .i64 0, .int .i64 0, .int .i64 0, .int .i64 0, .int .i64 0, .string ⟨#[]⟩])).run Try.prog W = .ok (.bool (peq a.p zP)) W := fun W => eql_plan a.p zP W
  clear g0 sz0 r0 k0' k0 hW0 h hz
  cases hc : chk a with
  | false =>
    have E1 : advM a n = zA := by unfold advM; rw [hc]; rfl
    have E2 : advE a n = 4 := by unfold advE; rw [hc]; rfl
    rw [E1, E2]
    have ON := own_no a u W0 (RA.out W0 G0.out) HZ.out hc
    clear E1 E2 hc RA HZ EQ
    go_enter Try.func19, Try.ntmps19
    go_upto_region 1 with fail
    rw [show (#[Value.int .i64 0, .int .i64 0, .slice none 0 0, .int .i64 0, .int .i64 0, .int .i64 0, .int .i64 0, .int .i64 0, .int .i64 0, .int .i64 0, .string ⟨#[]⟩] : Array Value) = zaa from rfl, ← HW0.out]
    go_wp2_with (first
      | (refine load_a w.heap.size 0 a u rfl (CA.out W0 (grown_refl _ _)).1 ?_)
      | (go_at_call 49; (with_reducible refine ON.mono ?_); rintro e w2 ⟨rfl, g2⟩)
      | (refine store_row (ty := 26) w.heap.size 0 (aa zA nil3) rfl rfl ((CA.out w2 g2).there (by simp)) (by kernel_rfl) (by simp [Value.oneCell']) ?_; intro w3 h3; have S3 : Hid (St (fun k => W0.heap.size ≤ k) w w3 w.heap.size (w.heap.size + 1) W0.heap.size zA nil3) := (by rw [h3]; exact St.start (CA.out w2 g2) (CR.out w2 g2) (Elm.nil _ _) rfl (by simp [zA]) (grown_tr G0.out g2) (Nat.le_refl _) (by omega) (by have := SZ.out; omega) g2.size); clear h3)
      | (refine load_a w.heap.size 0 zA nil3 rfl S3.out.row ?_)
      | (refine store_row (ty := 26) (w.heap.size + 1) 0 (aa zA nil3) rfl rfl (S3.out.2.1.there (by simp)) (by kernel_rfl) (by simp [Value.oneCell']) ?_; intro w9 h9; have H9 : Hid (_ = _) := h9; clear h9))
    obtain ⟨r9, o9, R9, c9⟩ := S3.out.done H9.out
    refine bodyPost_ret (v := .tuple #[av zA nil3, .int .i64 4]) ?_ rfl ?_
    · exact res_row2 (P := Try.prog) (fn := Try.f19) (p := 4) (u := 5) (ty := 26) rfl rfl r9 Try.underlying26 rfl (by kernel_rfl)
    · exact ⟨nil3, rfl, R9, chg_high c9 (by have := SZ.out; omega), S3.out.high (by have := SZ.out; omega)⟩
  | true =>
    have RG := chk_is.1 hc
    have OY := own_yes a u W0 (RA.out W0 G0.out) HZ.out hc
    have l16 : Hid (a.l.length ≤ 16) := RG.n16
    cases hp : peq a.p zP with
    | true =>
      have E1 : advM a n = a := by unfold advM; rw [hc, hp]; simp
      have E2 : advE a n = 4 := by unfold advE; rw [hc, hp]; simp
      rw [E1, E2]
      rw [hp] at EQ
      clear E1 E2 hc RA HZ RG hp
      go_enter Try.func19, Try.ntmps19
      go_upto_region 1 with fail
      rw [show (#[Value.int .i64 0, .int .i64 0, .slice none 0 0, .int .i64 0, .int .i64 0, .int .i64 0, .int .i64 0, .int .i64 0, .int .i64 0, .int .i64 0, .string ⟨#[]⟩] : Array Value) = zaa from rfl, ← HW0.out]
      go_upto_region 2 with (first
        | (refine load_a w.heap.size 0 a u rfl (CA.out W0 (grown_refl _ _)).1 ?_)
        | (go_at_call 49; (with_reducible refine OY.mono ?_); rintro e w2 ⟨u', rfl, n2, o2, g2⟩)
        | (refine store_row (ty := 26) w.heap.size 0 (aa a u') rfl rfl ((CA.out w2 g2).there (by simp)) (by kernel_rfl) (by simp [Value.oneCell']) ?_; intro w3 h3; have S3 : Hid (St (fun k => W0.heap.size ≤ k) w w3 w.heap.size (w.heap.size + 1) W0.heap.size a u') := (by rw [h3]; exact St.start (CA.out w2 g2) (CR.out w2 g2) o2 n2 (by have := l16.out; omega) (grown_tr G0.out g2) (Nat.le_refl _) (by omega) (by have := SZ.out; omega) g2.size); clear h3))
      go_wp2_with (first | (refine load_pg w.heap.size 3 a.p (by rfl) rfl (plan_in S3.out.row) ?_) | (refine load_a w.heap.size 0 a u' rfl S3.out.row ?_) | (refine store_row (ty := 26) (w.heap.size + 1) 0 (aa a u') rfl rfl (S3.out.2.1.there (by simp)) (by kernel_rfl) (by simp [Value.oneCell']) ?_; intro w9 h9; have H9 : Hid (_ = _) := h9; clear h9))
      obtain ⟨r9, o9, R9, c9⟩ := S3.out.done H9.out
      refine bodyPost_ret (v := .tuple #[av a u', .int .i64 4]) ?_ rfl ?_
      · exact res_row2 (P := Try.prog) (fn := Try.f19) (p := 4) (u := 5) (ty := 26) rfl rfl r9 Try.underlying26 rfl (by kernel_rfl)
      · exact ⟨u', rfl, R9, chg_high c9 (by have := SZ.out; omega), S3.out.high (by have := SZ.out; omega)⟩
    | false =>
      rw [hp] at EQ
      cases hn : (a.p.ph != n) with
      | true =>
        have hne : a.p.ph ≠ n := by simpa using hn
        have E1 : advM a n = a := by unfold advM; rw [hc, hp]; simp [hne]
        have E2 : advE a n = 4 := by unfold advE; rw [hc, hp]; simp [hne]
        rw [E1, E2]
        have hn2 : (a.p.ph == n) = false := by simpa using hn
        clear E1 E2 hc RA HZ RG hp hne
        go_enter Try.func19, Try.ntmps19
        go_upto_region 1 with fail
        rw [show (#[Value.int .i64 0, .int .i64 0, .slice none 0 0, .int .i64 0, .int .i64 0, .int .i64 0, .int .i64 0, .int .i64 0, .int .i64 0, .int .i64 0, .string ⟨#[]⟩] : Array Value) = zaa from rfl, ← HW0.out]
        go_upto_region 2 with (first
          | (refine load_a w.heap.size 0 a u rfl (CA.out W0 (grown_refl _ _)).1 ?_)
          | (go_at_call 49; (with_reducible refine OY.mono ?_); rintro e w2 ⟨u', rfl, n2, o2, g2⟩)
          | (refine store_row (ty := 26) w.heap.size 0 (aa a u') rfl rfl ((CA.out w2 g2).there (by simp)) (by kernel_rfl) (by simp [Value.oneCell']) ?_; intro w3 h3; have S3 : Hid (St (fun k => W0.heap.size ≤ k) w w3 w.heap.size (w.heap.size + 1) W0.heap.size a u') := (by rw [h3]; exact St.start (CA.out w2 g2) (CR.out w2 g2) o2 n2 (by have := l16.out; omega) (grown_tr G0.out g2) (Nat.le_refl _) (by omega) (by have := SZ.out; omega) g2.size); clear h3))
        have c4 := (cells_a S3.out.row).2.2.2.2.1
        go_wp2_with (first | (refine load_pg w.heap.size 3 a.p (by rfl) rfl (plan_in S3.out.row) ?_) | (refine load_a w.heap.size 0 a u' rfl S3.out.row ?_) | (refine store_row (ty := 26) (w.heap.size + 1) 0 (aa a u') rfl rfl (S3.out.2.1.there (by simp)) (by kernel_rfl) (by simp [Value.oneCell']) ?_; intro w9 h9; have H9 : Hid (_ = _) := h9; clear h9))
        obtain ⟨r9, o9, R9, c9⟩ := S3.out.done H9.out
        refine bodyPost_ret (v := .tuple #[av a u', .int .i64 4]) ?_ rfl ?_
        · exact res_row2 (P := Try.prog) (fn := Try.f19) (p := 4) (u := 5) (ty := 26) rfl rfl r9 Try.underlying26 rfl (by kernel_rfl)
        · exact ⟨u', rfl, R9, chg_high c9 (by have := SZ.out; omega), S3.out.high (by have := SZ.out; omega)⟩
      | false =>
        have heq : a.p.ph = n := by simpa using hn
        have hn2 : (a.p.ph == n) = true := by simpa using hn
        have E1 : advM a n = Atl.step a := by unfold advM; rw [hc, hp, if_neg (by simp), if_neg (by simp [heq])]
        have E2 : advE a n = 0 := by unfold advE; rw [hc, hp, if_neg (by simp), if_neg (by simp [heq])]
        rw [E1, E2]
        have AD : Hid (∀ (W : World) (u' : S3) (base : Nat), eS.Own W base (.slice u'.a u'.n u'.c) a.l → u'.n = a.l.length → base ≤ W.heap.size → _) := fun W (u' : S3) base o n b => advanced_any a u' W base o n b RG hp
        have HS : Hid ((Atl.step a).l.length ≤ 4096) := step_len RG
        clear E1 E2 hc RA HZ RG hp heq
        go_enter Try.func19, Try.ntmps19
        go_upto_region 1 with fail
        rw [show (#[Value.int .i64 0, .int .i64 0, .slice none 0 0, .int .i64 0, .int .i64 0, .int .i64 0, .int .i64 0, .int .i64 0, .int .i64 0, .int .i64 0, .string ⟨#[]⟩] : Array Value) = zaa from rfl, ← HW0.out]
        go_upto_region 2 with (first
          | (refine load_a w.heap.size 0 a u rfl (CA.out W0 (grown_refl _ _)).1 ?_)
          | (go_at_call 49; (with_reducible refine OY.mono ?_); rintro e w2 ⟨u', rfl, n2, o2, g2⟩)
          | (refine store_row (ty := 26) w.heap.size 0 (aa a u') rfl rfl ((CA.out w2 g2).there (by simp)) (by kernel_rfl) (by simp [Value.oneCell']) ?_; intro w3 h3; have S3 : Hid (St (fun k => W0.heap.size ≤ k) w w3 w.heap.size (w.heap.size + 1) W0.heap.size a u') := (by rw [h3]; exact St.start (CA.out w2 g2) (CR.out w2 g2) o2 n2 (by have := l16.out; omega) (grown_tr G0.out g2) (Nat.le_refl _) (by omega) (by have := SZ.out; omega) g2.size); clear h3))
        have c4 := (cells_a S3.out.row).2.2.2.2.1
        go_wp2_with (first
          | (refine load_pg w.heap.size 3 a.p (by rfl) rfl (plan_in S3.out.row) ?_)
          | (refine load_a w.heap.size 0 a u' rfl S3.out.row ?_)
          | (go_at_call 52; (with_reducible refine (AD.out w3 u' W0.heap.size S3.out.own n2 S3.out.base_le).mono ?_); rintro e w5 ⟨u5, rfl, o5, n5, b5, g5⟩; have TH : Hid (Cs w5 (w.heap.size + 1) zaa.toList) := S3.out.2.1.kept (Chg.of (F := fun k => (Value.slice u'.a u'.n u'.c).ownBlock = some k) g5 (fun k e => e)) (fun e => (S3.out.2.2.2.1 _ e).2 rfl) S3.out.2.2.2.2.2.2.2.2.2.1)
          | (refine store_row (ty := 26) (w.heap.size + 1) 0 (aa (Atl.step a) u5) rfl rfl (TH.out.there (by simp)) (by kernel_rfl) (by simp [Value.oneCell']) ?_; intro w9 h9; have H9 : Hid (w9 = w5.setCells (w.heap.size + 1) 0 (ac (Atl.step a) u5)) := h9; clear h9))
        refine bodyPost_ret (v := .tuple #[av (Atl.step a) u5, .int .i64 0]) ?_ rfl ?_
        · exact res_row2 (P := Try.prog) (fn := Try.f19) (p := 4) (u := 5) (ty := 26) rfl rfl (box_set (cs := ac (Atl.step a) u5) TH.out rfl H9.out) Try.underlying26 rfl (by kernel_rfl)
        · have gs := grown_setCells (w.heap.size + 1) (ac (Atl.step a) u5) 0 w5
          have oh : ∀ k, (Value.slice u5.a u5.n u5.c).ownBlock = some k → W0.heap.size ≤ k := fun k e => by
            rcases b5 k e with h | h
            · exact (S3.out.own.lt k h).1
            · have := S3.out.2.2.2.2.2.2.2.2.2.2.1; omega
          have o9 : eS.Own w9 W0.heap.size (.slice u5.a u5.n u5.c) (Atl.step a).l := by
            rw [H9.out]
            exact o5.but gs (fun k hk e => by have := oh k hk; have := SZ.out; injection e with e; omega)
          refine ⟨u5, rfl, ⟨o9.rx, n5, by have := HS.out; omega⟩, ?_, fun k e => by have := oh k e; have := SZ.out; omega⟩
          rw [H9.out]
          refine chg_high ((S3.out.2.2.2.2.2.2.1.grown g5 (fun k e => .inl (S3.out.own.lt k e).1)).grown gs (fun k e => .inr (by injection e with e; omega))) (by have := SZ.out; omega)
end Go.Proofs.Ytlolhdijadhklaa
