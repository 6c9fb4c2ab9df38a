/- How a way begins: what isn't refused. -/
import Derived.Test.YtlolhdijadhklaaOBegin
namespace Go.Proofs.Ytlolhdijadhklaa
open Go.RowKit Atl
set_option linter.unusedVariables false
set_option maxRecDepth 10000

/-- The map in a way's box is written. -/
theorem Cs.map {W : World} {Q : Nat} {r : Wy} (h : Cs W Q (rc r)) (a : Am) (u : S3) : Cs (W.setCells Q 2 (ac a u)) Q (rc ⟨r.n, r.nm, a, u, r.f, r.nd, r.lf, r.d, r.er, r.tm, r.j⟩) := by
  have := ((((((((((h.set 2 (.int .i64 a.g) (by simp)).set 3 (.int .i64 a.la) (by simp)).set 4 (.slice u.a u.n u.c) (by simp)).set 5 (.int .i64 a.p.k) (by simp)).set 6 (.int .i64 a.p.ph) (by simp)).set 7 (.int .i64 a.p.sh) (by simp)).set 8 (.int .i64 a.p.ot) (by simp)).set 9 (.int .i64 a.p.gp) (by simp)).set 10 (.int .i64 a.p.pa) (by simp)).set 11 (.int .i64 a.p.ep) (by simp)).set 12 (.string a.p.key) (by simp)
  exact this
theorem Cs.there_at {w : World} {b : Nat} {cs : List Value} (h : Cs w b cs) {o n : Nat} (hn : o + n ≤ cs.length) : w.there b o n := fun j hj => by
  refine ⟨?_, h.2 (o + j)⟩
  have := h.1 (o + j) cs[o + j] (List.getElem?_eq_getElem (by omega))
  rw [Nat.zero_add] at this
  rw [this]
  rfl
theorem Cs.but {w w' : World} {b q : Nat} {cs : List Value} (h : Cs w b cs) (g : w.grownBy w' (some q)) (hq : b ≠ q) (hb : b < w.heap.size) : Cs w' b cs :=
  h.kept (Chg.of (F := fun k => k = q) g (fun k e => by injection e with e; exact e.symm)) hq hb
set_option maxRecDepth 100000 in
set_option maxHeartbeats 6400000 in
theorem begin_no (n : Int) (nm : ByteArray) (a : Am) (u : S3) (t : Int) (w : World) (h : Rat w a u) (hz : Szm a) (hk : nm.size ≤ 140737488351232) (hb : begOk n nm t = true) (hc : chk a = false) : Calls Try.prog 36 #[.int .i64 n, .string nm, av a u, .int .i64 t] w fun e w' => e = .returned (.tuple #[rv (noW n nm t), .int .i64 0]) ∧ w.grownBy w' none := by
  unfold begOk at hb
  have X1 : Hid (∀ W, _) := fun W => within_any n 1 7 W
  have X2 : Hid (∀ W, _) := fun W => within_any t 1 64 W
  have NA : Hid (∀ W, _) := fun W => name_any nm hk W
  have CK : Hid (∀ W, w.grownBy W none → _) := fun W g => check_any a u W (h.grown g) hz
  have CL : Hid (∀ W, w.grownBy W none → _) := fun W g => copm_any a u W (h.grown g)
  have RL : Hid (a.l.length * 56 ≤ 140737488355328) := h.2.2
  obtain ⟨W0, hW0⟩ : ∃ W0, W0 = (w.alloc (.cells (aa a u) 26)).alloc (.cells zra 60) := ⟨_, rfl⟩
  obtain ⟨g0, sz0, r0, k0⟩ := two_boxes_b w a u _ _ W0 hW0
  have G0 : Hid (w.grownBy W0 none) := g0
  have SZ : Hid (W0.heap.size = w.heap.size + 2) := sz0
  have CA : Hid (∀ W, W0.grownBy W none → W.rangeAt w.heap.size 0 (ac a u)) := r0
  have CR : Hid (∀ W, W0.grownBy W none → Cs W (w.heap.size + 1) zra.toList) := k0
  have HW0 : Hid (W0 = _) := hW0
  clear g0 sz0 r0 k0 hW0 hk h hz
  rw [hc] at CK
  clear hc
  generalize wit n 1 7 = b1 at *
  generalize wit t 1 64 = b2 at *
  generalize named nm = b3 at *
  obtain ⟨e1, e2, e3⟩ : b1 = true ∧ b2 = true ∧ b3 = true := by simpa using hb
  subst e1 e2 e3
  clear hb
  go_enter Try.func36, Try.ntmps36
  go_upto_region 1 with fail
  rw [show (#[Value.int .i64 0, .string ⟨#[]⟩, .int .i64 0, .int .i64 0, .slice none 0 0, .int .i64 0, .int .i64 0, .int .i64 0, .int .i64 0, .int .i64 0, .int .i64 0, .int .i64 0, .string ⟨#[]⟩, .bool false, .int .i64 0, .int .i64 0, .bool false, .int .i64 0, .int .i64 0, .slice none 0 0] : Array Value) = zra from rfl, ← HW0.out]
  go_upto_region 4 with (first
    | (go_at_call 68; (with_reducible refine (X1.out _).mono ?_); rintro e w2 ⟨rfl, e2⟩; have e2' := e2.symm; clear e2; subst e2')
    | (go_at_call 68; (with_reducible refine (X2.out _).mono ?_); rintro e w2 ⟨rfl, e2⟩; have e2' := e2.symm; clear e2; subst e2')
    | (go_at_call 37; (with_reducible refine (NA.out _).mono ?_); rintro e w2 ⟨rfl, e2⟩; have e2' := e2.symm; clear e2; subst e2')
    | (refine store_row (ty := 60) W0.heap.size 0 (ra (noW n nm t)) rfl rfl ((cs_new (grown_refl (W0.alloc (.cells zra 60)) none)).there (by simp)) (by kernel_rfl) (by simp [Value.oneCell']) ?_; intro w3 h3; have H3 : Hid (w3 = (W0.alloc (.cells zra 60)).setCells W0.heap.size 0 (rc (noW n nm t))) := h3; clear h3))
  have q0 : Cs w3 W0.heap.size (rc (noW n nm t)) := by
    have := (cs_new (grown_refl (W0.alloc (.cells zra 60)) none)).sets (rc (noW n nm t)) rfl
    rw [H3.out]
    exact this
  have g30 : W0.grownBy w3 none := by
    rw [H3.out]
    exact grown_more (World.grownBy_alloc _ _ none) (grown_setCells _ _ _ _) (fun k e => .inr (by injection e with e; omega))
  have s30 : w3.heap.size = W0.heap.size + 1 := by rw [H3.out, setCells_size]; simp
  have S3' : Hid (w3.heap.size = W0.heap.size + 1) := s30
  have G3 : Hid (W0.grownBy w3 none) := g30
  have C3 : Hid (∀ W, w3.grownBy W none → Cs W W0.heap.size (rc (noW n nm t))) := fun W g => q0.grown g (by omega)
  clear q0 g30 s30 H3 HW0 X1 X2 NA
  go_wp2_with (first
    | (refine ld_a rfl rfl w.heap.size 0 a u rfl (CA.out w3 G3.out) ?_)
    | (go_at_call 14; (with_reducible refine (CK.out _ (grown_tr G0.out G3.out)).mono ?_); rintro e w4 ⟨rfl, g4⟩)
    | (refine load_r rfl rfl W0.heap.size 0 (noW n nm t) rfl (C3.out w4 g4).1 ?_)
    | (refine store_row (ty := 60) (w.heap.size + 1) 0 (ra (noW n nm t)) rfl rfl ((CR.out w4 (grown_tr G3.out g4)).there (by simp)) (by kernel_rfl) (by simp [Value.oneCell']) ?_; intro w9 h9; have H9 : Hid (_ = _) := h9; clear h9))
  refine bodyPost_ret (v := .tuple #[rv (noW n nm t), .int .i64 0]) ?_ rfl ?_
  · exact res_row2 (P := Try.prog) (fn := Try.f36) (p := 8) (u := 9) (ty := 60) rfl rfl (box_set (cs := rc (noW n nm t)) (CR.out w4 (grown_tr G3.out g4)) rfl H9.out) Try.underlying60 rfl (by kernel_rfl)
  · exact ⟨rfl, box_grown (grown_tr G0.out (grown_tr G3.out g4)) (by omega) H9.out⟩
set_option maxRecDepth 100000 in
set_option maxHeartbeats 6400000 in
theorem begin_yes (n : Int) (nm : ByteArray) (a : Am) (u : S3) (t : Int) (w : World) (h : Rat w a u) (hz : Szm a) (hk : nm.size ≤ 140737488351232) (hb : begOk n nm t = true) (hc : chk a = true) : Calls Try.prog 36 #[.int .i64 n, .string nm, av a u, .int .i64 t] w fun e w' => ∃ u', e = .returned (.tuple #[rv (yesW n nm t a u'), .int .i64 0]) ∧ Rat w' a u' ∧ w.grownBy w' none ∧ ∀ k, (Value.slice u'.a u'.n u'.c).ownBlock = some k → w.heap.size ≤ k := by
  unfold begOk at hb
  have X1 : Hid (∀ W, _) := fun W => within_any n 1 7 W
  have X2 : Hid (∀ W, _) := fun W => within_any t 1 64 W
  have NA : Hid (∀ W, _) := fun W => name_any nm hk W
  have CK : Hid (∀ W, w.grownBy W none → _) := fun W g => check_any a u W (h.grown g) hz
  have CL : Hid (∀ W, w.grownBy W none → _) := fun W g => copm_any a u W (h.grown g)
  have RL : Hid (a.l.length * 56 ≤ 140737488355328) := h.2.2
  obtain ⟨W0, hW0⟩ : ∃ W0, W0 = (w.alloc (.cells (aa a u) 26)).alloc (.cells zra 60) := ⟨_, rfl⟩
  obtain ⟨g0, sz0, r0, k0⟩ := two_boxes_b w a u _ _ W0 hW0
  have G0 : Hid (w.grownBy W0 none) := g0
  have SZ : Hid (W0.heap.size = w.heap.size + 2) := sz0
  have CA : Hid (∀ W, W0.grownBy W none → W.rangeAt w.heap.size 0 (ac a u)) := r0
  have CR : Hid (∀ W, W0.grownBy W none → Cs W (w.heap.size + 1) zra.toList) := k0
  have HW0 : Hid (W0 = _) := hW0
  clear g0 sz0 r0 k0 hW0 hk h hz
  rw [hc] at CK
  clear hc
  generalize wit n 1 7 = b1 at *
  generalize wit t 1 64 = b2 at *
  generalize named nm = b3 at *
  obtain ⟨e1, e2, e3⟩ : b1 = true ∧ b2 = true ∧ b3 = true := by simpa using hb
  subst e1 e2 e3
  clear hb
  go_enter Try.func36, Try.ntmps36
  go_upto_region 1 with fail
  rw [show (#[Value.int .i64 0, .string ⟨#[]⟩, .int .i64 0, .int .i64 0, .slice none 0 0, .int .i64 0, .int .i64 0, .int .i64 0, .int .i64 0, .int .i64 0, .int .i64 0, .int .i64 0, .string ⟨#[]⟩, .bool false, .int .i64 0, .int .i64 0, .bool false, .int .i64 0, .int .i64 0, .slice none 0 0] : Array Value) = zra from rfl, ← HW0.out]
  go_upto_region 4 with (first
    | (go_at_call 68; (with_reducible refine (X1.out _).mono ?_); rintro e w2 ⟨rfl, e2⟩; have e2' := e2.symm; clear e2; subst e2')
    | (go_at_call 68; (with_reducible refine (X2.out _).mono ?_); rintro e w2 ⟨rfl, e2⟩; have e2' := e2.symm; clear e2; subst e2')
    | (go_at_call 37; (with_reducible refine (NA.out _).mono ?_); rintro e w2 ⟨rfl, e2⟩; have e2' := e2.symm; clear e2; subst e2')
    | (refine store_row (ty := 60) W0.heap.size 0 (ra (noW n nm t)) rfl rfl ((cs_new (grown_refl (W0.alloc (.cells zra 60)) none)).there (by simp)) (by kernel_rfl) (by simp [Value.oneCell']) ?_; intro w3 h3; have H3 : Hid (w3 = (W0.alloc (.cells zra 60)).setCells W0.heap.size 0 (rc (noW n nm t))) := h3; clear h3))
  have q0 : Cs w3 W0.heap.size (rc (noW n nm t)) := by
    have := (cs_new (grown_refl (W0.alloc (.cells zra 60)) none)).sets (rc (noW n nm t)) rfl
    rw [H3.out]
    exact this
  have g30 : W0.grownBy w3 none := by
    rw [H3.out]
    exact grown_more (World.grownBy_alloc _ _ none) (grown_setCells _ _ _ _) (fun k e => .inr (by injection e with e; omega))
  have s30 : w3.heap.size = W0.heap.size + 1 := by rw [H3.out, setCells_size]; simp
  have S3' : Hid (w3.heap.size = W0.heap.size + 1) := s30
  have G3 : Hid (W0.grownBy w3 none) := g30
  have C3 : Hid (∀ W, w3.grownBy W none → Cs W W0.heap.size (rc (noW n nm t))) := fun W g => q0.grown g (by omega)
  clear q0 g30 s30 H3 HW0 X1 X2 NA
  have sq : Hid (W0.heap.size = w.heap.size + 2) := SZ
  go_upto_region 5 with (first
    | (refine ld_a rfl rfl w.heap.size 0 a u rfl (CA.out w3 G3.out) ?_)
    | (go_at_call 14; (with_reducible refine (CK.out _ (grown_tr G0.out G3.out)).mono ?_); rintro e w4 ⟨rfl, g4⟩))
  have G4 : Hid (w3.grownBy w4 none) := g4
  clear g4
  go_upto_region 6 with (first
    | (refine ld_a rfl rfl w.heap.size 0 a u rfl (CA.out w4 (grown_tr G3.out G4.out)) ?_)
    | (go_at_call 69; (with_reducible refine (CL.out _ (grown_tr G0.out (grown_tr G3.out G4.out))).mono ?_); rintro e w5 ⟨u', rfl, n5, o5, g5⟩; have N5 : Hid (u'.n = a.l.length) := n5; have O5 : Hid (eS.Own w5 w4.heap.size (.slice u'.a u'.n u'.c) a.l) := o5; have G5 : Hid (w4.grownBy w5 none) := g5; clear n5 o5 g5)
    | (refine store_row (ty := 26) W0.heap.size 2 (aa a u') rfl rfl ((C3.out w5 (grown_tr G4.out G5.out)).there_at (by simp)) (by kernel_rfl) (by simp [Value.oneCell']) ?_; intro w6 h6; have H6 : Hid (w6 = w5.setCells W0.heap.size 2 (ac a u')) := h6; clear h6; have q6 : Cs w6 W0.heap.size (rc ⟨n, nm, a, u', true, 1, t, false, 0, 0, nil3⟩) := (by rw [H6.out]; exact (C3.out w5 (grown_tr G4.out G5.out)).map a u'); have c13 : w6.cell? ⟨W0.heap.size, 13, none⟩ = some (.bool true) := q6.1 13 _ rfl; have f13 : w6.frozen? ⟨W0.heap.size, 13, none⟩ = false := q6.2 13; have Q6 : Hid (Cs w6 W0.heap.size (rc ⟨n, nm, a, u', true, 1, t, false, 0, 0, nil3⟩)) := q6; clear q6))
  have q7 : Cs (w6.setCell ⟨W0.heap.size, 13, none⟩ (.bool false)) W0.heap.size (rc (yesW n nm t a u')) := Q6.out.set 13 (.bool false) (by simp)
  have g57 : w5.grownBy (w6.setCell ⟨W0.heap.size, 13, none⟩ (.bool false)) (some W0.heap.size) := by
    rw [H6.out]
    exact grown_more (grown_setCells _ _ _ _) (grown_set _ _ _) (fun k e => .inl e)
  have G57 : Hid (w5.grownBy (w6.setCell ⟨W0.heap.size, 13, none⟩ (.bool false)) (some W0.heap.size)) := g57
  have Q7 : Hid (Cs (w6.setCell ⟨W0.heap.size, 13, none⟩ (.bool false)) W0.heap.size (rc (yesW n nm t a u'))) := q7
  clear q7 g57 c13 f13 Q6 H6
  generalize w6.setCell ⟨W0.heap.size, 13, none⟩ (.bool false) = w7 at *
  have R7 : Hid (Cs w7 (w.heap.size + 1) zra.toList) := (CR.out w5 (grown_tr G3.out (grown_tr G4.out G5.out))).but G57.out (by have := SZ.out; omega) (by have h1 := G3.out.size; have h2 := G4.out.size; have h3 := G5.out.size; have h4 := SZ.out; omega)
  go_wp2_with (first
    | (refine load_r rfl rfl W0.heap.size 0 (yesW n nm t a u') rfl Q7.out.1 ?_)
    | (refine store_row (ty := 60) (w.heap.size + 1) 0 (ra (yesW n nm t a u')) rfl rfl (R7.out.there (by simp)) (by kernel_rfl) (by simp [Value.oneCell']) ?_; intro w9 h9; have H9 : Hid (w9 = w7.setCells (w.heap.size + 1) 0 (rc (yesW n nm t a u'))) := h9; clear h9))
  refine bodyPost_ret (v := .tuple #[rv (yesW n nm t a u'), .int .i64 0]) ?_ rfl ?_
  · exact res_row2 (P := Try.prog) (fn := Try.f36) (p := 8) (u := 9) (ty := 60) rfl rfl (box_set (cs := rc (yesW n nm t a u')) R7.out rfl H9.out) Try.underlying60 rfl (by kernel_rfl)
  · have z1 := SZ.out
    have z3 := G3.out.size
    have z4 := G4.out.size
    have z5 := S3'.out
    refine ⟨u', rfl, ⟨?_, N5.out, RL.out⟩, ?_, fun k hk => by have := O5.out.lt k hk; omega⟩
    · have o7 := O5.out.but G57.out (fun k hk e => by have := O5.out.lt k hk; injection e with e; omega)
      have o9 := o7.but (grown_setCells (w.heap.size + 1) (rc (yesW n nm t a u')) 0 w7) (fun k hk e => by have := O5.out.lt k hk; injection e with e; omega)
      rw [H9.out]
      exact o9.rx
    · exact box_grown (grown_more (grown_tr G0.out (grown_tr G3.out (grown_tr G4.out G5.out))) G57.out (fun k e => .inr (by injection e with e; omega))) (by omega) H9.out
end Go.Proofs.Ytlolhdijadhklaa
