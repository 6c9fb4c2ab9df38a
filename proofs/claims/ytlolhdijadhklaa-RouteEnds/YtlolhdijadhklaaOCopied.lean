/- A way, copied. -/
import Derived.Test.YtlolhdijadhklaaOReply
namespace Go.Proofs.Ytlolhdijadhklaa
open Go.RowKit Atl
set_option linter.unusedVariables false
set_option maxRecDepth 10000

def setUJ (r : Wy) (u j : S3) : Wy := ⟨r.n, r.nm, r.m, u, r.f, r.nd, r.lf, r.d, r.er, r.tm, j⟩
theorem Cs.jobs {W : World} {Q : Nat} {r : Wy} (h : Cs W Q (rc r)) (j : S3) : Cs (W.setCell ⟨Q, 19, none⟩ (.slice j.a j.n j.c)) Q (rc ⟨r.n, r.nm, r.m, r.u, r.f, r.nd, r.lf, r.d, r.er, r.tm, j⟩) := by
  have := h.set 19 (.slice j.a j.n j.c) (by simp)
  exact this
/-- What is known of a copy of jobs: J says of a world and a slice what is kept. -/
abbrev CopJ (J : World → S3 → Prop) (w : World) (j : S3) : Prop := Calls Try.prog 88 #[.slice j.a j.n j.c] w fun e w' => ∃ j' : S3, e = .returned (.slice j'.a j'.n j'.c) ∧ w.grownBy w' none ∧ (∀ k, (Value.slice j'.a j'.n j'.c).ownBlock = some k → w.heap.size ≤ k) ∧ ∀ W, Chg (fun k => k < w.heap.size) w' W → J W j'
set_option maxRecDepth 100000 in
theorem nilJ_is (w : World) : (binOp .eql 42 (.slice none 0 0) (.slice none 0 0)).run Try.prog w = .ok (.bool true) w := by kernel_rfl
set_option maxRecDepth 100000 in
theorem copj_nil (w : World) : CopJ (fun _ j => j = nil3) w nil3 := by
  have N1 := nilJ_is
  show Calls Try.prog 88 #[.slice none 0 0] w _
  go_enter Try.func88, Try.ntmps88
  go_wp2
  go_ret
  exact ⟨nil3, rfl, grown_refl _ _, fun k hk => by simp [nil3, Value.ownBlock] at hk, fun W _ => rfl⟩
set_option maxRecDepth 100000 in
set_option maxHeartbeats 3200000 in
theorem copied_by (J : World → S3 → Prop) (r : Wy) (w : World) (h : Rdw w r) (hj : ∀ W, w.grownBy W none → CopJ J W r.j) : Calls Try.prog 67 #[rv r] w fun e w' => ∃ u j : S3, e = .returned (rv (setUJ r u j)) ∧ w.grownBy w' none ∧ ∀ W, Chg (fun k => k < w.heap.size) w' W → Rat W r.m u ∧ J W j := by
  have CM : Hid (∀ W, w.grownBy W none → _) := fun W g => copm_any r.m r.u W (h.m.grown g)
  have CJ : Hid (∀ W, w.grownBy W none → _) := fun W g => hj W g
  have RL : Hid (r.m.l.length * 56 ≤ 140737488355328) := h.m.2.2
  obtain ⟨W0, hW0⟩ : ∃ W0, W0 = (w.alloc (.cells (ra r) 60)).alloc (.cells zra 60) := ⟨_, rfl⟩
  obtain ⟨g0, s0, k0, k1⟩ := two_new w _ _ _ _ W0 hW0
  have G0 : Hid (w.grownBy W0 none) := g0
  have SZ : Hid (W0.heap.size = w.heap.size + 2) := s0
  have KR : Hid (∀ W, W0.grownBy W none → Cs W w.heap.size (rc r)) := k0
  have KZ : Hid (∀ W, W0.grownBy W none → Cs W (w.heap.size + 1) zra.toList) := k1
  have HW0 : Hid (W0 = _) := hW0
  clear g0 s0 k0 k1 hW0 h hj
  go_enter Try.func67, Try.ntmps67
  go_upto_region 1 with fail
  rw [show (#[Value.int .i64 0, .string ⟨#[]⟩, .int .i64 0, .int .i64 0, .slice none 0 0, .int .i64 0, .int .i64 0, .int .i64 0, .int .i64 0, .int .i64 0, .int .i64 0, .int .i64 0, .string ⟨#[]⟩, .bool false, .int .i64 0, .int .i64 0, .bool false, .int .i64 0, .int .i64 0, .slice none 0 0] : Array Value) = zra from rfl, ← HW0.out]
  go_upto_region 2 with (first
    | (refine ld_a rfl rfl w.heap.size 2 r.m r.u rfl (map_in (KR.out W0 (grown_refl _ _)).1) ?_)
    | (go_at_call 69; (with_reducible refine (CM.out _ G0.out).mono ?_); rintro e w3 ⟨u', rfl, n3, o3, g3⟩; have N3 : Hid (u'.n = r.m.l.length) := n3; have O3 : Hid (eS.Own w3 W0.heap.size (.slice u'.a u'.n u'.c) r.m.l) := o3; have G3 : Hid (W0.grownBy w3 none) := g3; clear n3 o3 g3)
    | (refine store_row (ty := 26) w.heap.size 2 (aa r.m u') rfl rfl ((KR.out w3 G3.out).there_at (by simp)) (by kernel_rfl) (by simp [Value.oneCell']) ?_; intro w4 h4; have H4 : Hid (w4 = w3.setCells w.heap.size 2 (ac r.m u')) := h4; clear h4))
  have g34 : w3.grownBy w4 (some w.heap.size) := by rw [H4.out]; exact grown_setCells _ _ _ _
  have G34 : Hid (w3.grownBy w4 (some w.heap.size)) := g34
  have K4 : Hid (Cs w4 w.heap.size (rc ⟨r.n, r.nm, r.m, u', r.f, r.nd, r.lf, r.d, r.er, r.tm, r.j⟩)) := by rw [H4.out]; exact (KR.out w3 G3.out).map r.m u'
  have Z4 : Hid (Cs w4 (w.heap.size + 1) zra.toList) := (KZ.out w3 G3.out).but g34 (by omega) (by have h1 := G3.out.size; have h2 := SZ.out; omega)
  have c19 : w4.cell? ⟨w.heap.size, 19, none⟩ = some (.slice r.j.a r.j.n r.j.c) := K4.out.1 19 _ rfl
  have G4 : Hid (w.grownBy w4 none) := grown_more (grown_tr G0.out G3.out) g34 (fun k e => .inr (by injection e with e; omega))
  clear g34 H4
  go_upto_region 3 with (go_at_call 88; (with_reducible refine (CJ.out _ G4.out).mono ?_); rintro e w5 ⟨j', rfl, g5, b5, J5⟩; have c19' := g5.cell c19 (by simp); have K5 : Hid (Cs w5 w.heap.size (rc ⟨r.n, r.nm, r.m, u', r.f, r.nd, r.lf, r.d, r.er, r.tm, r.j⟩)) := K4.out.grown g5 (by have h1 := G34.out.size; have h2 := G3.out.size; have h3 := SZ.out; omega); have f19 := K5.out.2 19; have G5 : Hid (w4.grownBy w5 none) := g5; have B5 : Hid (_ ∧ _) := ⟨b5, J5⟩; clear g5 b5 J5)
  have g56 : w5.grownBy (w5.setCell ⟨w.heap.size, 19, none⟩ (.slice j'.a j'.n j'.c)) (some w.heap.size) := grown_set _ _ _
  have K6 : Hid (Cs (w5.setCell ⟨w.heap.size, 19, none⟩ (.slice j'.a j'.n j'.c)) w.heap.size (rc ⟨r.n, r.nm, r.m, u', r.f, r.nd, r.lf, r.d, r.er, r.tm, j'⟩)) := K5.out.jobs j'
  have G56 : Hid (w5.grownBy (w5.setCell ⟨w.heap.size, 19, none⟩ (.slice j'.a j'.n j'.c)) (some w.heap.size)) := g56
  clear g56 c19 c19' f19 K5 K4
  generalize w5.setCell ⟨w.heap.size, 19, none⟩ (.slice j'.a j'.n j'.c) = w6 at *
  have SZ4 : Hid (w.heap.size + 2 ≤ w4.heap.size ∧ w.heap.size + 2 ≤ w3.heap.size) := ⟨by have h1 := G34.out.size; have h2 := G3.out.size; have h3 := SZ.out; omega, by have h2 := G3.out.size; have h3 := SZ.out; omega⟩
  have Z6 : Hid (Cs w6 (w.heap.size + 1) zra.toList) := (Z4.out.grown G5.out (by have := SZ4.out.1; omega)).but G56.out (by omega) (by have h1 := G5.out.size; have := SZ4.out.1; omega)
  go_wp2_with (first
    | (refine load_r rfl rfl w.heap.size 0 ⟨r.n, r.nm, r.m, u', r.f, r.nd, r.lf, r.d, r.er, r.tm, j'⟩ rfl K6.out.1 ?_)
    | (refine store_row (ty := 60) (w.heap.size + 1) 0 (ra ⟨r.n, r.nm, r.m, u', r.f, r.nd, r.lf, r.d, r.er, r.tm, j'⟩) rfl rfl (Z6.out.there (by simp)) (by kernel_rfl) (by simp [Value.oneCell']) ?_; intro w9 h9; have H9 : Hid (w9 = w6.setCells (w.heap.size + 1) 0 (rc ⟨r.n, r.nm, r.m, u', r.f, r.nd, r.lf, r.d, r.er, r.tm, j'⟩)) := h9; clear h9))
  refine bodyPost_ret (v := rv ⟨r.n, r.nm, r.m, u', r.f, r.nd, r.lf, r.d, r.er, r.tm, j'⟩) ?_ rfl ?_
  · exact res_row1 (P := Try.prog) (fn := Try.f67) (p := 2) (ty := 60) rfl rfl (box_set (cs := rc ⟨r.n, r.nm, r.m, u', r.f, r.nd, r.lf, r.d, r.er, r.tm, j'⟩) Z6.out rfl H9.out) Try.underlying60 rfl (by kernel_rfl)
  · have z3 := SZ.out
    have z4 := SZ4.out
    have g69 : w6.grownBy w9 (some (w.heap.size + 1)) := by rw [H9.out]; exact grown_setCells _ _ _ _
    have x1 := (G34.out).size
    have x2 := G5.out.size
    refine ⟨u', j', rfl, ?_, fun W hW => ⟨⟨?_, N3.out, RL.out⟩, ?_⟩⟩
    · exact box_grown (grown_more (grown_tr G4.out G5.out) G56.out (fun k e => .inr (by injection e with e; omega))) (by omega) H9.out
    · have lt := fun k hk => O3.out.lt k hk
      have o4 := O3.out.but G34.out (fun k hk e => by have := lt k hk; injection e with e; omega)
      have o5 := (o4.grown G5.out).but G56.out (fun k hk e => by have := lt k hk; injection e with e; omega)
      have o9 := o5.but g69 (fun k hk e => by have := lt k hk; injection e with e; omega)
      exact o9.rx.kept' hW (fun _ k hk c => by have := lt k hk; omega)
    · refine B5.out.2 W ?_
      exact ((Chg.of (F := fun k => k < w4.heap.size) G56.out (fun k e => by injection e with e; omega)).trans (Chg.of (F := fun k => k < w4.heap.size) g69 (fun k e => by injection e with e; omega)) (fun k hk => .inl hk)).trans (hW.wide (G := fun k => k < w4.heap.size) (fun k hk => by omega)) (fun k hk => .inl hk)
end Go.Proofs.Ytlolhdijadhklaa
