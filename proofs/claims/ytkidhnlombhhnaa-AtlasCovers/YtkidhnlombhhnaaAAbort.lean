/- Abort. -/
import Derived.Test.YtkidhnlombhhnaaAState
import Derived.Test.YtkidhnlombhhnaaAOwn
import Derived.Test.YtkidhnlombhhnaaAPSpan
namespace Go.Proofs.Ytkidhnlombhhnaa
open Go.RowKit Atl
set_option linter.unusedVariables false
set_option maxRecDepth 10000

set_option maxRecDepth 100000 in
set_option maxHeartbeats 64000000 in
theorem abort_any (a : Am) (u : S3) (w : World) (h : Rat w a u) (hz : Szm a) : Calls Try.prog 21 #[av a u] w fun e w' => Res w (aboM a) (aboE a) e w' := by
  obtain ⟨W0, hW0⟩ : ∃ W0, W0 = (w.alloc (.cells (aa a u) 26)).alloc (.cells zaa 26) := ⟨_, rfl⟩
  obtain ⟨g0, sz0, r0, k0', k0⟩ := two_boxes w a u zaa _ _ W0 hW0
  have G0 : Hid (w.grownBy W0 none) := g0
  have SZ : Hid (W0.heap.size = w.heap.size + 2) := sz0
  have CA : Hid (∀ W, W0.grownBy W none → Cs W w.heap.size (ac a u)) := k0'
  have CR : Hid (∀ W, W0.grownBy W none → Cs W (w.heap.size + 1) zaa.toList) := k0
  have HW0 : Hid (W0 = _) := hW0
  have RA : Hid (∀ W, w.grownBy W none → Rat W a u) := fun W g => h.grown g
  have HZ : Hid (Szm a) := hz
  have EQ : ∀ W, (binOp .eql 24 (pv a.p) (.agg #[.int .i64 0, .int .i64 0, .int .i64 0, .int .i64 0, .int .i64 0, .int .i64 0, .int .i64 0, .string ⟨#[]⟩])).run Try.prog W = .ok (.bool (peq a.p zP)) W := fun W => eql_plan a.p zP W
  clear g0 sz0 r0 k0' k0 hW0 h hz
  cases hc : chk a with
  | false =>
    have E1 : aboM a = zA := by unfold aboM; rw [hc]; rfl
    have E2 : aboE a = 4 := by unfold aboE; rw [hc]; rfl
    rw [E1, E2]
    have ON := own_no a u W0 (RA.out W0 G0.out) HZ.out hc
    clear E1 E2 hc RA HZ EQ
    go_enter Try.func21, Try.ntmps21
    go_upto_region 1 with fail
    rw [show (#[Value.int .i64 0, .int .i64 0, .slice none 0 0, .int .i64 0, .int .i64 0, .int .i64 0, .int .i64 0, .int .i64 0, .int .i64 0, .int .i64 0, .string ⟨#[]⟩] : Array Value) = zaa from rfl, ← HW0.out]
    go_wp2_with (first
      | (refine load_a w.heap.size 0 a u rfl (CA.out W0 (grown_refl _ _)).1 ?_)
      | (go_at_call 36; (with_reducible refine ON.mono ?_); rintro e w2 ⟨rfl, g2⟩)
      | (refine store_row (ty := 26) w.heap.size 0 (aa zA nil3) rfl rfl ((CA.out w2 g2).there (by simp)) (by kernel_rfl) (by simp [Value.oneCell']) ?_; intro w3 h3; have S3 : Hid (St (fun k => W0.heap.size ≤ k) w w3 w.heap.size (w.heap.size + 1) W0.heap.size zA nil3) := (by rw [h3]; exact St.start (CA.out w2 g2) (CR.out w2 g2) (Elm.nil _ _) rfl (by simp [zA]) (grown_tr G0.out g2) (Nat.le_refl _) (by omega) (by have := SZ.out; omega) g2.size); clear h3)
      | (refine load_a w.heap.size 0 zA nil3 rfl S3.out.row ?_)
      | (refine store_row (ty := 26) (w.heap.size + 1) 0 (aa zA nil3) rfl rfl (S3.out.2.1.there (by simp)) (by kernel_rfl) (by simp [Value.oneCell']) ?_; intro w9 h9; have H9 : Hid (_ = _) := h9; clear h9))
    obtain ⟨r9, o9, R9, c9⟩ := S3.out.done H9.out
    refine bodyPost_ret (v := .tuple #[av zA nil3, .int .i64 4]) ?_ rfl ?_
    · exact res_row2 (P := Try.prog) (fn := Try.f21) (p := 2) (u := 3) (ty := 26) rfl rfl r9 Try.underlying26 rfl (by kernel_rfl)
    · exact ⟨nil3, rfl, R9, chg_high c9 (by have := SZ.out; omega), S3.out.high (by have := SZ.out; omega)⟩
  | true =>
    have RG := chk_is.1 hc
    have OY := own_yes a u W0 (RA.out W0 G0.out) HZ.out hc
    have l16 : Hid (a.l.length ≤ 16) := RG.n16
    cases hp : peq a.p zP with
    | true =>
      have E1 : aboM a = a := by unfold aboM; rw [hc, hp]; simp
      have E2 : aboE a = 4 := by unfold aboE; rw [hc, hp]; simp
      rw [E1, E2]
      rw [hp] at EQ
      clear E1 E2 hc RA HZ RG hp
      go_enter Try.func21, Try.ntmps21
      go_upto_region 1 with fail
      rw [show (#[Value.int .i64 0, .int .i64 0, .slice none 0 0, .int .i64 0, .int .i64 0, .int .i64 0, .int .i64 0, .int .i64 0, .int .i64 0, .int .i64 0, .string ⟨#[]⟩] : Array Value) = zaa from rfl, ← HW0.out]
      go_upto_region 2 with (first
        | (refine load_a w.heap.size 0 a u rfl (CA.out W0 (grown_refl _ _)).1 ?_)
        | (go_at_call 36; (with_reducible refine OY.mono ?_); rintro e w2 ⟨u', rfl, n2, o2, g2⟩)
        | (refine store_row (ty := 26) w.heap.size 0 (aa a u') rfl rfl ((CA.out w2 g2).there (by simp)) (by kernel_rfl) (by simp [Value.oneCell']) ?_; intro w3 h3; have S3 : Hid (St (fun k => W0.heap.size ≤ k) w w3 w.heap.size (w.heap.size + 1) W0.heap.size a u') := (by rw [h3]; exact St.start (CA.out w2 g2) (CR.out w2 g2) o2 n2 (by have := l16.out; omega) (grown_tr G0.out g2) (Nat.le_refl _) (by omega) (by have := SZ.out; omega) g2.size); clear h3))
      go_wp2_with (first | (refine load_pg w.heap.size 3 a.p (by rfl) rfl (plan_in S3.out.row) ?_) | (refine load_a w.heap.size 0 a u' rfl S3.out.row ?_) | (refine store_row (ty := 26) (w.heap.size + 1) 0 (aa a u') rfl rfl (S3.out.2.1.there (by simp)) (by kernel_rfl) (by simp [Value.oneCell']) ?_; intro w9 h9; have H9 : Hid (_ = _) := h9; clear h9))
      obtain ⟨r9, o9, R9, c9⟩ := S3.out.done H9.out
      refine bodyPost_ret (v := .tuple #[av a u', .int .i64 4]) ?_ rfl ?_
      · exact res_row2 (P := Try.prog) (fn := Try.f21) (p := 2) (u := 3) (ty := 26) rfl rfl r9 Try.underlying26 rfl (by kernel_rfl)
      · exact ⟨u', rfl, R9, chg_high c9 (by have := SZ.out; omega), S3.out.high (by have := SZ.out; omega)⟩
    | false =>
      rw [hp] at EQ
      cases hn : (a.p.ph != 1) with
      | true =>
        have hne : a.p.ph ≠ 1 := by simpa using hn
        have E1 : aboM a = a := by unfold aboM; rw [hc, hp]; simp [hne]
        have E2 : aboE a = 4 := by unfold aboE; rw [hc, hp]; simp [hne]
        rw [E1, E2]
        have hn2 : (a.p.ph == 1) = false := by simpa using hn
        clear E1 E2 hc RA HZ RG hp hne
        go_enter Try.func21, Try.ntmps21
        go_upto_region 1 with fail
        rw [show (#[Value.int .i64 0, .int .i64 0, .slice none 0 0, .int .i64 0, .int .i64 0, .int .i64 0, .int .i64 0, .int .i64 0, .int .i64 0, .int .i64 0, .string ⟨#[]⟩] : Array Value) = zaa from rfl, ← HW0.out]
        go_upto_region 2 with (first
          | (refine load_a w.heap.size 0 a u rfl (CA.out W0 (grown_refl _ _)).1 ?_)
          | (go_at_call 36; (with_reducible refine OY.mono ?_); rintro e w2 ⟨u', rfl, n2, o2, g2⟩)
          | (refine store_row (ty := 26) w.heap.size 0 (aa a u') rfl rfl ((CA.out w2 g2).there (by simp)) (by kernel_rfl) (by simp [Value.oneCell']) ?_; intro w3 h3; have S3 : Hid (St (fun k => W0.heap.size ≤ k) w w3 w.heap.size (w.heap.size + 1) W0.heap.size a u') := (by rw [h3]; exact St.start (CA.out w2 g2) (CR.out w2 g2) o2 n2 (by have := l16.out; omega) (grown_tr G0.out g2) (Nat.le_refl _) (by omega) (by have := SZ.out; omega) g2.size); clear h3))
        have c4 := (cells_a S3.out.row).2.2.2.2.1
        go_wp2_with (first | (refine load_pg w.heap.size 3 a.p (by rfl) rfl (plan_in S3.out.row) ?_) | (refine load_a w.heap.size 0 a u' rfl S3.out.row ?_) | (refine store_row (ty := 26) (w.heap.size + 1) 0 (aa a u') rfl rfl (S3.out.2.1.there (by simp)) (by kernel_rfl) (by simp [Value.oneCell']) ?_; intro w9 h9; have H9 : Hid (_ = _) := h9; clear h9))
        obtain ⟨r9, o9, R9, c9⟩ := S3.out.done H9.out
        refine bodyPost_ret (v := .tuple #[av a u', .int .i64 4]) ?_ rfl ?_
        · exact res_row2 (P := Try.prog) (fn := Try.f21) (p := 2) (u := 3) (ty := 26) rfl rfl r9 Try.underlying26 rfl (by kernel_rfl)
        · exact ⟨u', rfl, R9, chg_high c9 (by have := SZ.out; omega), S3.out.high (by have := SZ.out; omega)⟩
      | false =>
        have heq : a.p.ph = 1 := by simpa using hn
        have hn2 : (a.p.ph == 1) = true := by simpa using hn
        obtain ⟨s, hs, ep1, ep2, hst, hkd, se1, se2⟩ := plan_span RG hp
        have hi := (List.getElem?_eq_some_iff.1 hs).1
        have E1 : aboM a = ⟨a.g, a.la, a.l.set (idx a.l a.p.sh) (aboS s), ⟨a.p.k, 9, a.p.sh, a.p.ot, a.p.gp, a.p.pa, a.p.ep, a.p.key⟩⟩ := by
          unfold aboM
          rw [hc, hp, if_neg (by simp), if_neg (by simp [heq]), List.getD_eq_getElem?_getD, hs, set_chg hi]
          rfl
        have E2 : aboE a = 0 := by unfold aboE; rw [hc, hp, if_neg (by simp), if_neg (by simp [heq])]
        rw [E1, E2]
        have PL : Hid (∀ W u', Rat W a u' → Calls Try.prog 41 #[av a u', .int .i64 a.p.sh] W fun e w' => e = .returned (.int .i64 (idx a.l a.p.sh : Int)) ∧ W.grownBy w' none) := fun W u' r => by
          have := place_any a u' a.p.sh W r
          rwa [plc_some hs] at this
        have dW : IntKind.i64.wrap (s.ep + 2) = s.ep + 2 := by rw [IntKind.wrap_i64]; omega
        have HSS : Hid (a.l[idx a.l a.p.sh]? = some s) := hs
        have HI : Hid (idx a.l a.p.sh < a.l.length) := hi
        clear E1 E2 hc RA HZ RG hp heq hs ep1 ep2 hst hkd se1 se2
        generalize idx a.l a.p.sh = i at *
        go_enter Try.func21, Try.ntmps21
        go_upto_region 1 with fail
        rw [show (#[Value.int .i64 0, .int .i64 0, .slice none 0 0, .int .i64 0, .int .i64 0, .int .i64 0, .int .i64 0, .int .i64 0, .int .i64 0, .int .i64 0, .string ⟨#[]⟩] : Array Value) = zaa from rfl, ← HW0.out]
        go_upto_region 2 with (first
          | (refine load_a w.heap.size 0 a u rfl (CA.out W0 (grown_refl _ _)).1 ?_)
          | (go_at_call 36; (with_reducible refine OY.mono ?_); rintro e w2 ⟨u', rfl, n2, o2, g2⟩)
          | (refine store_row (ty := 26) w.heap.size 0 (aa a u') rfl rfl ((CA.out w2 g2).there (by simp)) (by kernel_rfl) (by simp [Value.oneCell']) ?_; intro w3 h3; have S3 : Hid (St (fun k => W0.heap.size ≤ k) w w3 w.heap.size (w.heap.size + 1) W0.heap.size a u') := (by rw [h3]; exact St.start (CA.out w2 g2) (CR.out w2 g2) o2 n2 (by have := l16.out; omega) (grown_tr G0.out g2) (Nat.le_refl _) (by omega) (by have := SZ.out; omega) g2.size); clear h3))
        have c4 := (cells_a S3.out.row).2.2.2.2.1
        clear OY
        obtain ⟨g, cap, eu, rng, fz⟩ := S3.out.own.at_ HSS.out
        have HN2 : Hid (u'.n = a.l.length) := n2
        obtain ⟨ua, un, uc⟩ := u'
        injection eu with eu en ec
        subst eu en ec
        have hiN : (i : Int) < (a.l.length : Int) := by have := HI.out; omega
        have un16 : (a.l.length : Int) ≤ 9223372036854775807 := by have := l16.out; omega
        have PLW := PL.out w3.drew _ (S3.out.grown (grown_drew (grown_refl _ _))).rat
        clear rng fz n2
        go_upto_region 4 with (first | (refine load_pg w.heap.size 3 a.p (by rfl) rfl (plan_in S3.out.row) ?_))
        obtain ⟨a0, a1, a2, a3, a4, a5, a6, a7, a8, a9, a10⟩ := cells_a S3.out.row
        go_cut [] from 25 to 37 (fun wx => Hid (St (fun k => W0.heap.size ≤ k) w wx w.heap.size (w.heap.size + 1) W0.heap.size ⟨a.g, a.la, a.l.set i (aboS s), a.p⟩ ⟨some ⟨g, 0, none⟩, a.l.length, uc⟩))
        case first =>
          go_region_with (first | (go_at_call 41; (with_reducible refine PLW.mono ?_); rintro e w4 ⟨rfl, g4⟩; have S4 : Hid (St (fun k => W0.heap.size ≤ k) w w4 w.heap.size (w.heap.size + 1) W0.heap.size a ⟨some ⟨g, 0, none⟩, a.l.length, uc⟩) := (S3.out.grown (grown_drew (grown_refl _ _))).grown g4; have e2 := (cells_a S4.out.row).2.2.1; obtain ⟨gg, cap4, ev, rng4, fz4⟩ := S4.out.own.at_ HSS.out; have y3 : w4.cell? ⟨g, i * 5 + 3, none⟩ = some (.int .i64 s.ep) := (by injection ev with ev _ _; injection ev with ev; injection ev with ev _ _; subst ev; exact rng4 3 _ rfl); have f3 : w4.frozen? ⟨g, i * 5 + 3, none⟩ = false := (by injection ev with ev _ _; injection ev with ev; injection ev with ev _ _; subst ev; exact fz4 _); clear ev rng4 fz4))
          all_goals
            go_wp2_with fail
            go_meet
            exact S4.out.span rfl HSS.out 3 (by omega) _ rfl
        case rest =>
          have S5 : Hid (St (fun k => W0.heap.size ≤ k) w wc w.heap.size (w.heap.size + 1) W0.heap.size ⟨a.g, a.la, a.l.set i (aboS s), a.p⟩ ⟨some ⟨g, 0, none⟩, a.l.length, uc⟩) := hcut
          clear hcut a0 a1 a2 a3 a4 a5 a6 a7 a8 a9 a10 c4 PLW PL
          have S6 : Hid (St (fun k => W0.heap.size ≤ k) w (wc.setCell ⟨w.heap.size, 4, none⟩ (.int .i64 9)) w.heap.size (w.heap.size + 1) W0.heap.size ⟨a.g, a.la, a.l.set i (aboS s), ⟨a.p.k, 9, a.p.sh, a.p.ot, a.p.gp, a.p.pa, a.p.ep, a.p.key⟩⟩ ⟨some ⟨g, 0, none⟩, a.l.length, uc⟩) := S5.out.phase 9
          have x4 := S5.out.1.1 4 _ rfl
          rw [Nat.zero_add] at x4
          have xf := S5.out.1.2 4
          go_wp2_with (first
            | (refine load_a w.heap.size 0 ⟨a.g, a.la, a.l.set i (aboS s), ⟨a.p.k, 9, a.p.sh, a.p.ot, a.p.gp, a.p.pa, a.p.ep, a.p.key⟩⟩ ⟨some ⟨g, 0, none⟩, a.l.length, uc⟩ rfl S6.out.row ?_)
            | (refine store_row (ty := 26) (w.heap.size + 1) 0 (aa ⟨a.g, a.la, a.l.set i (aboS s), ⟨a.p.k, 9, a.p.sh, a.p.ot, a.p.gp, a.p.pa, a.p.ep, a.p.key⟩⟩ ⟨some ⟨g, 0, none⟩, a.l.length, uc⟩) rfl rfl (S6.out.2.1.there (by simp)) (by kernel_rfl) (by simp [Value.oneCell']) ?_; intro w9 h9; have H9 : Hid (_ = _) := h9; clear h9))
          obtain ⟨r9, o9, R9, c9⟩ := S6.out.done H9.out
          refine bodyPost_ret (v := .tuple #[av ⟨a.g, a.la, a.l.set i (aboS s), ⟨a.p.k, 9, a.p.sh, a.p.ot, a.p.gp, a.p.pa, a.p.ep, a.p.key⟩⟩ ⟨some ⟨g, 0, none⟩, a.l.length, uc⟩, .int .i64 0]) ?_ rfl ?_
          · exact res_row2 (P := Try.prog) (fn := Try.f21) (p := 2) (u := 3) (ty := 26) rfl rfl r9 Try.underlying26 rfl (by kernel_rfl)
          · exact ⟨_, rfl, R9, chg_high c9 (by have := SZ.out; omega), S6.out.high (by have := SZ.out; omega)⟩
end Go.Proofs.Ytkidhnlombhhnaa
