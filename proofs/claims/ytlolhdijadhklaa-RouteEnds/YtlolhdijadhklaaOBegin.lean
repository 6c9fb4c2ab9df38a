/- How a way begins. -/
import Derived.Test.YtlolhdijadhklaaOWhere
import Derived.Test.YtlolhdijadhklaaAOwn
namespace Go.Proofs.Ytlolhdijadhklaa
open Go.RowKit Atl
set_option linter.unusedVariables false
set_option maxRecDepth 10000

/-- What is known behind a map that was copied: the same map, with spans of its own. -/
def CopM (w : World) (a : Am) (e : Ending) (w' : World) : Prop := ∃ u : S3, e = .returned (av a u) ∧ u.n = a.l.length ∧ eS.Own w' w.heap.size (.slice u.a u.n u.c) a.l ∧ w.grownBy w' none
set_option maxRecDepth 100000 in
set_option maxHeartbeats 3200000 in
theorem copm_any (a : Am) (u : S3) (w : World) (h : Rat w a u) : Calls Try.prog 69 #[av a u] w fun e w' => CopM w a e w' := by
  have CL : Hid (∀ W, w.grownBy W none → _) := fun W g => clone_any u a.l W (h.1.grown g) h.2.1 h.2.2
  obtain ⟨W0, hW0⟩ : ∃ W0, W0 = (w.alloc (.cells (aa a u) 26)).alloc (.cells zaa 26) := ⟨_, rfl⟩
  obtain ⟨g0, sz0, r0, k0', k0⟩ := two_boxes w a u zaa _ _ W0 hW0
  have G0 : Hid (w.grownBy W0 none) := g0
  have SZ : Hid (W0.heap.size = w.heap.size + 2) := sz0
  have CA : Hid (∀ W, W0.grownBy W none → Cs W w.heap.size (ac a u)) := k0'
  have CR : Hid (∀ W, W0.grownBy W none → Cs W (w.heap.size + 1) zaa.toList) := k0
  have HW0 : Hid (W0 = _) := hW0
  have c2 := (cells_a (CA.out W0 (grown_refl _ _)).1).2.2.1
  clear g0 sz0 r0 k0 k0' hW0 h
  go_enter Try.func69, Try.ntmps69
  go_upto_region 1 with fail
  rw [show (#[Value.int .i64 0, .int .i64 0, .slice none 0 0, .int .i64 0, .int .i64 0, .int .i64 0, .int .i64 0, .int .i64 0, .int .i64 0, .int .i64 0, .string ⟨#[]⟩] : Array Value) = zaa from rfl, ← HW0.out]
  go_wp2_with (first
    | (go_at_call 79; (with_reducible refine (CL.out _ G0.out).mono ?_); rintro e w3 ⟨u', rfl, n3, o3, g3⟩; have N3 : Hid (u'.n = a.l.length) := n3; clear n3; have c3 := (cells_a (CA.out w3 g3).1).2.2.1; have f3 := (CA.out w3 g3).2 2; have S1 : Hid (Cs (w3.setCell ⟨w.heap.size, 2, none⟩ (.slice u'.a u'.n u'.c)) w.heap.size (ac a u')) := (CA.out w3 g3).set 2 (.slice u'.a u'.n u'.c) (by simp); have S2 : Hid (Cs (w3.setCell ⟨w.heap.size, 2, none⟩ (.slice u'.a u'.n u'.c)) (w.heap.size + 1) zaa.toList) := (CR.out w3 g3).kept (Chg.of (F := fun k => k = w.heap.size) (grown_set w3 ⟨w.heap.size, 2, none⟩ _) (fun k e => by injection e with e; exact e.symm)) (by omega) (by have h2 := g3.size; have h3 := SZ.out; omega))
    | (refine ld_a rfl rfl w.heap.size 0 a u' rfl S1.out.1 ?_)
    | (refine store_row (ty := 26) (w.heap.size + 1) 0 (aa a u') rfl rfl (S2.out.there (by simp)) (by kernel_rfl) (by simp [Value.oneCell']) ?_; intro w9 h9; have H9 : Hid (_ = _) := h9; clear h9))
  have R9 : w9.rangeAt (w.heap.size + 1) 0 (ac a u') := box_set (cs := ac a u') S2.out rfl H9.out
  have gs : W0.heap.size = w.heap.size + 2 := SZ.out
  refine bodyPost_ret (v := av a u') ?_ rfl ?_
  · exact res_row1 (P := Try.prog) (fn := Try.f69) (p := 2) (ty := 26) rfl rfl R9 Try.underlying26 rfl (by kernel_rfl)
  · refine ⟨u', rfl, N3.out, ?_, ?_⟩
    · have o4 := (o3.but (grown_set w3 ⟨w.heap.size, 2, none⟩ (.slice u'.a u'.n u'.c)) (fun k hk e => by have := o3.lt k hk; injection e with e; change w.heap.size = k at e; omega)).but (grown_setCells (w.heap.size + 1) (ac a u') 0 _) (fun k hk e => by have := o3.lt k hk; injection e with e; omega)
      have e9 : w9 = (w3.setCell ⟨w.heap.size, 2, none⟩ (.slice u'.a u'.n u'.c)).setCells (w.heap.size + 1) 0 (ac a u') := H9.out
      rw [e9]
      exact o4.low (by omega)
    · exact box_grown (grown_more (grown_tr G0.out g3) (grown_set _ _ _) (fun k e => .inr (by injection e with e; change w.heap.size = k at e; omega))) (by omega) H9.out

def begOk (n : Int) (nm : ByteArray) (t : Int) : Bool := wit n 1 7 && (wit t 1 64 && named nm)
/-- A way that begins without a map; with one. -/
def noW (n : Int) (nm : ByteArray) (t : Int) : Wy := ⟨n, nm, zA, nil3, true, 1, t, false, 0, 0, nil3⟩
def yesW (n : Int) (nm : ByteArray) (t : Int) (a : Am) (u : S3) : Wy := ⟨n, nm, a, u, false, 1, t, false, 0, 0, nil3⟩
/-- The boxes of Begin: the map, and the answer. -/
theorem two_boxes_b (w : World) (a : Am) (u : S3) (t t' : TypeId) (W0 : World) (h : W0 = (w.alloc (.cells (aa a u) t)).alloc (.cells zra t')) :
    w.grownBy W0 none ∧ W0.heap.size = w.heap.size + 2 ∧ (∀ W, W0.grownBy W none → W.rangeAt w.heap.size 0 (ac a u)) ∧ (∀ W, W0.grownBy W none → Cs W (w.heap.size + 1) zra.toList) := by
  have := two_boxes w a u zra t t' W0 h
  exact ⟨this.1, this.2.1, this.2.2.1, this.2.2.2.2⟩
set_option maxRecDepth 100000 in
set_option maxHeartbeats 6400000 in
theorem begin_bad (n : Int) (nm : ByteArray) (a : Am) (u : S3) (t : Int) (w : World) (hk : nm.size ≤ 140737488351232) (hb : begOk n nm t = false) : Calls Try.prog 36 #[.int .i64 n, .string nm, av a u, .int .i64 t] w fun e w' => e = .returned (.tuple #[rv zW, .int .i64 1]) ∧ w.grownBy w' none := by
  unfold begOk at hb
  have X1 : Hid (∀ W, _) := fun W => within_any n 1 7 W
  have X2 : Hid (∀ W, _) := fun W => within_any t 1 64 W
  have NA : Hid (∀ W, _) := fun W => name_any nm hk W
  obtain ⟨W0, hW0⟩ : ∃ W0, W0 = (w.alloc (.cells (aa a u) 26)).alloc (.cells zra 60) := ⟨_, rfl⟩
  obtain ⟨g0, sz0, r0, k0⟩ := two_boxes_b w a u _ _ W0 hW0
  have G0 : Hid (w.grownBy W0 none) := g0
  have CR : Hid (∀ W, W0.grownBy W none → Cs W (w.heap.size + 1) zra.toList) := k0
  have HW0 : Hid (W0 = _) := hW0
  clear g0 sz0 r0 k0 hW0 hk
  generalize wit n 1 7 = b1 at *
  generalize wit t 1 64 = b2 at *
  generalize named nm = b3 at *
  cases b1
  · clear hb
    go_enter Try.func36, Try.ntmps36
    go_upto_region 1 with fail
    rw [show (#[Value.int .i64 0, .string ⟨#[]⟩, .int .i64 0, .int .i64 0, .slice none 0 0, .int .i64 0, .int .i64 0, .int .i64 0, .int .i64 0, .int .i64 0, .int .i64 0, .int .i64 0, .string ⟨#[]⟩, .bool false, .int .i64 0, .int .i64 0, .bool false, .int .i64 0, .int .i64 0, .slice none 0 0] : Array Value) = zra from rfl, ← HW0.out]
    go_wp2_with (first
      | (go_at_call 68; (with_reducible refine (X1.out _).mono ?_); rintro e w2 ⟨rfl, e2⟩; have e2' := e2.symm; clear e2; subst e2')
      | (refine store_row (ty := 60) (w.heap.size + 1) 0 (ra zW) rfl rfl ((CR.out W0 (grown_refl _ _)).there (by simp)) (by kernel_rfl) (by simp [Value.oneCell']) ?_; intro w9 h9; have H9 : Hid (_ = _) := h9; clear h9))
    refine bodyPost_ret (v := .tuple #[rv zW, .int .i64 1]) ?_ rfl ?_
    · exact res_row2 (P := Try.prog) (fn := Try.f36) (p := 8) (u := 9) (ty := 60) rfl rfl (box_set (cs := rc zW) (CR.out W0 (grown_refl _ _)) rfl H9.out) Try.underlying60 rfl (by kernel_rfl)
    · exact ⟨rfl, box_grown G0.out (by omega) H9.out⟩
  · cases b2
    · clear hb
      go_enter Try.func36, Try.ntmps36
      go_upto_region 1 with fail
      rw [show (#[Value.int .i64 0, .string ⟨#[]⟩, .int .i64 0, .int .i64 0, .slice none 0 0, .int .i64 0, .int .i64 0, .int .i64 0, .int .i64 0, .int .i64 0, .int .i64 0, .int .i64 0, .string ⟨#[]⟩, .bool false, .int .i64 0, .int .i64 0, .bool false, .int .i64 0, .int .i64 0, .slice none 0 0] : Array Value) = zra from rfl, ← HW0.out]
      go_wp2_with (first
        | (go_at_call 68; (with_reducible refine (X1.out _).mono ?_); rintro e w2 ⟨rfl, e2⟩; have e2' := e2.symm; clear e2; subst e2')
        | (go_at_call 68; (with_reducible refine (X2.out _).mono ?_); rintro e w2 ⟨rfl, e2⟩; have e2' := e2.symm; clear e2; subst e2')
        | (refine store_row (ty := 60) (w.heap.size + 1) 0 (ra zW) rfl rfl ((CR.out W0 (grown_refl _ _)).there (by simp)) (by kernel_rfl) (by simp [Value.oneCell']) ?_; intro w9 h9; have H9 : Hid (_ = _) := h9; clear h9))
      refine bodyPost_ret (v := .tuple #[rv zW, .int .i64 1]) ?_ rfl ?_
      · exact res_row2 (P := Try.prog) (fn := Try.f36) (p := 8) (u := 9) (ty := 60) rfl rfl (box_set (cs := rc zW) (CR.out W0 (grown_refl _ _)) rfl H9.out) Try.underlying60 rfl (by kernel_rfl)
      · exact ⟨rfl, box_grown G0.out (by omega) H9.out⟩
    · have b3' : b3 = false := by simpa using hb
      subst b3'
      clear hb
      go_enter Try.func36, Try.ntmps36
      go_upto_region 1 with fail
      rw [show (#[Value.int .i64 0, .string ⟨#[]⟩, .int .i64 0, .int .i64 0, .slice none 0 0, .int .i64 0, .int .i64 0, .int .i64 0, .int .i64 0, .int .i64 0, .int .i64 0, .int .i64 0, .string ⟨#[]⟩, .bool false, .int .i64 0, .int .i64 0, .bool false, .int .i64 0, .int .i64 0, .slice none 0 0] : Array Value) = zra from rfl, ← HW0.out]
      go_wp2_with (first
        | (go_at_call 68; (with_reducible refine (X1.out _).mono ?_); rintro e w2 ⟨rfl, e2⟩; have e2' := e2.symm; clear e2; subst e2')
        | (go_at_call 68; (with_reducible refine (X2.out _).mono ?_); rintro e w2 ⟨rfl, e2⟩; have e2' := e2.symm; clear e2; subst e2')
        | (go_at_call 37; (with_reducible refine (NA.out _).mono ?_); rintro e w2 ⟨rfl, e2⟩; have e2' := e2.symm; clear e2; subst e2')
        | (refine store_row (ty := 60) (w.heap.size + 1) 0 (ra zW) rfl rfl ((CR.out W0 (grown_refl _ _)).there (by simp)) (by kernel_rfl) (by simp [Value.oneCell']) ?_; intro w9 h9; have H9 : Hid (_ = _) := h9; clear h9))
      refine bodyPost_ret (v := .tuple #[rv zW, .int .i64 1]) ?_ rfl ?_
      · exact res_row2 (P := Try.prog) (fn := Try.f36) (p := 8) (u := 9) (ty := 60) rfl rfl (box_set (cs := rc zW) (CR.out W0 (grown_refl _ _)) rfl H9.out) Try.underlying60 rfl (by kernel_rfl)
      · exact ⟨rfl, box_grown G0.out (by omega) H9.out⟩
end Go.Proofs.Ytlolhdijadhklaa
