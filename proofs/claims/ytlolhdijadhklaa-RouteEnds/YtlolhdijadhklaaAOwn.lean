/- own. -/
import Derived.Test.YtlolhdijadhklaaABox
import Derived.Test.YtlolhdijadhklaaACheck
import Derived.Test.YtlolhdijadhklaaAClone
namespace Go.Proofs.Ytlolhdijadhklaa
open Go.RowKit Atl
set_option linter.unusedVariables false
set_option maxRecDepth 10000

/-- What 'own' leaves: a map with spans of its own. -/
def OwnA (w : World) (a : Am) (e : Ending) (w' : World) : Prop := ∃ u : S3, e = .returned (.tuple #[av a u, .bool true]) ∧ u.n = a.l.length ∧ eS.Own w' w.heap.size (.slice u.a u.n u.c) a.l ∧ w.grownBy w' none
set_option maxRecDepth 100000 in
set_option maxHeartbeats 3200000 in
theorem own_yes (a : Am) (u : S3) (w : World) (h : Rat w a u) (hz : Szm a) (hc : chk a = true) : Calls Try.prog 49 #[av a u] w fun e w' => OwnA w a e w' := by
  have CK : Hid (∀ W, w.grownBy W none → _) := fun W g => check_any a u W (h.grown g) hz
  have CL : Hid (∀ W, w.grownBy W none → _) := fun W g => clone_any u a.l W (h.1.grown g) h.2.1 h.2.2
  obtain ⟨W0, hW0⟩ : ∃ W0, W0 = (w.alloc (.cells (aa a u) 26)).alloc (.cells zaa 26) := ⟨_, rfl⟩
  obtain ⟨g0, sz0, r0, k0', k0⟩ := two_boxes w a u zaa _ _ W0 hW0
  have G0 : Hid (w.grownBy W0 none) := g0
  have SZ : Hid (W0.heap.size = w.heap.size + 2) := sz0
  have CA : Hid (∀ W, W0.grownBy W none → Cs W w.heap.size (ac a u)) := k0'
  have CR : Hid (∀ W, W0.grownBy W none → Cs W (w.heap.size + 1) zaa.toList) := k0
  have HW0 : Hid (W0 = _) := hW0
  clear g0 sz0 r0 k0 k0' hW0
  have CK1 := CK.out W0 G0.out
  rw [hc] at CK1
  clear CK h hz hc
  go_enter Try.func49, Try.ntmps49
  go_upto_region 1 with fail
  rw [show (#[Value.int .i64 0, .int .i64 0, .slice none 0 0, .int .i64 0, .int .i64 0, .int .i64 0, .int .i64 0, .int .i64 0, .int .i64 0, .int .i64 0, .string ⟨#[]⟩] : Array Value) = zaa from rfl, ← HW0.out]
  go_wp2_with (first
    | (refine load_a w.heap.size 0 a u rfl (CA.out W0 (grown_refl _ _)).1 ?_)
    | (go_at_call 14; (with_reducible refine CK1.mono ?_); rintro e w2 ⟨rfl, g2⟩; have c2 := (cells_a (CA.out w2 g2).1).2.2.1)
    | (go_at_call 79; (with_reducible refine (CL.out _ (grown_tr G0.out g2)).mono ?_); rintro e w3 ⟨u', rfl, n3, o3, g3⟩; have N3 : Hid (u'.n = a.l.length) := n3; clear n3; have c3 := (cells_a (CA.out w3 (grown_tr g2 g3)).1).2.2.1; have f3 := (CA.out w3 (grown_tr g2 g3)).2 2; have S1 : Hid (Cs (w3.setCell ⟨w.heap.size, 2, none⟩ (.slice u'.a u'.n u'.c)) w.heap.size (ac a u')) := (CA.out w3 (grown_tr g2 g3)).set 2 (.slice u'.a u'.n u'.c) (by simp); have S2 : Hid (Cs (w3.setCell ⟨w.heap.size, 2, none⟩ (.slice u'.a u'.n u'.c)) (w.heap.size + 1) zaa.toList) := (CR.out w3 (grown_tr g2 g3)).kept (Chg.of (F := fun k => k = w.heap.size) (grown_set w3 ⟨w.heap.size, 2, none⟩ _) (fun k e => by injection e with e; exact e.symm)) (by omega) (by have h1 := g2.size; have h2 := g3.size; have h3 := SZ.out; omega))
    | (refine load_a w.heap.size 0 a u' rfl S1.out.1 ?_)
    | (refine store_row (ty := 26) (w.heap.size + 1) 0 (aa a u') rfl rfl (S2.out.there (by simp)) (by kernel_rfl) (by simp [Value.oneCell']) ?_; intro w9 h9; have H9 : Hid (_ = _) := h9; clear h9))
  have R9 : w9.rangeAt (w.heap.size + 1) 0 (ac a u') := box_set (cs := ac a u') S2.out rfl H9.out
  have gs : w2.heap.size ≥ w.heap.size + 2 := by have h1 := g2.size; have h3 := SZ.out; omega
  refine bodyPost_ret (v := .tuple #[av a u', .bool true]) ?_ rfl ?_
  · exact res_row2 (P := Try.prog) (fn := Try.f49) (p := 2) (u := 3) (ty := 26) rfl rfl R9 Try.underlying26 rfl (by kernel_rfl)
  · refine ⟨u', rfl, N3.out, ?_, ?_⟩
    · have o4 := (o3.but (grown_set w3 ⟨w.heap.size, 2, none⟩ (.slice u'.a u'.n u'.c)) (fun k hk e => by have := o3.lt k hk; injection e with e; change w.heap.size = k at e; omega)).but (grown_setCells (w.heap.size + 1) (ac a u') 0 _) (fun k hk e => by have := o3.lt k hk; injection e with e; omega)
      have e9 : w9 = (w3.setCell ⟨w.heap.size, 2, none⟩ (.slice u'.a u'.n u'.c)).setCells (w.heap.size + 1) 0 (ac a u') := H9.out
      rw [e9]
      exact o4.low (by omega)
    · exact box_grown (grown_more (grown_tr G0.out (grown_tr g2 g3)) (grown_set _ _ _) (fun k e => .inr (by injection e with e; change w.heap.size = k at e; omega))) (by omega) H9.out
set_option maxRecDepth 100000 in
set_option maxHeartbeats 3200000 in
theorem own_no (a : Am) (u : S3) (w : World) (h : Rat w a u) (hz : Szm a) (hc : chk a = false) : Calls Try.prog 49 #[av a u] w fun e w' => e = .returned (.tuple #[av zA nil3, .bool false]) ∧ w.grownBy w' none := by
  have CK : Hid (∀ W, w.grownBy W none → _) := fun W g => check_any a u W (h.grown g) hz
  obtain ⟨W0, hW0⟩ : ∃ W0, W0 = (w.alloc (.cells (aa a u) 26)).alloc (.cells zaa 26) := ⟨_, rfl⟩
  obtain ⟨g0, sz0, r0, k0', k0⟩ := two_boxes w a u zaa _ _ W0 hW0
  have G0 : Hid (w.grownBy W0 none) := g0
  have SZ : Hid (W0.heap.size = w.heap.size + 2) := sz0
  have CA : Hid (∀ W, W0.grownBy W none → Cs W w.heap.size (ac a u)) := k0'
  have CR : Hid (∀ W, W0.grownBy W none → Cs W (w.heap.size + 1) zaa.toList) := k0
  have HW0 : Hid (W0 = _) := hW0
  clear g0 sz0 r0 k0 k0' hW0
  have CK1 := CK.out W0 G0.out
  rw [hc] at CK1
  clear CK h hz hc
  go_enter Try.func49, Try.ntmps49
  go_upto_region 1 with fail
  rw [show (#[Value.int .i64 0, .int .i64 0, .slice none 0 0, .int .i64 0, .int .i64 0, .int .i64 0, .int .i64 0, .int .i64 0, .int .i64 0, .int .i64 0, .string ⟨#[]⟩] : Array Value) = zaa from rfl, ← HW0.out]
  go_wp2_with (first
    | (refine load_a w.heap.size 0 a u rfl (CA.out W0 (grown_refl _ _)).1 ?_)
    | (go_at_call 14; (with_reducible refine CK1.mono ?_); rintro e w2 ⟨rfl, g2⟩)
    | (refine store_row (ty := 26) (w.heap.size + 1) 0 (aa zA nil3) rfl rfl ((CR.out w2 g2).there (by simp)) (by kernel_rfl) (by simp [Value.oneCell']) ?_; intro w9 h9; have H9 : Hid (_ = _) := h9; clear h9))
  refine bodyPost_ret (v := .tuple #[av zA nil3, .bool false]) ?_ rfl ?_
  · exact res_row2 (P := Try.prog) (fn := Try.f49) (p := 2) (u := 3) (ty := 26) rfl rfl (box_set (cs := ac zA nil3) (CR.out w2 g2) rfl H9.out) Try.underlying26 rfl (by kernel_rfl)
  · exact ⟨rfl, box_grown (grown_tr G0.out g2) (by omega) H9.out⟩

end Go.Proofs.Ytlolhdijadhklaa
