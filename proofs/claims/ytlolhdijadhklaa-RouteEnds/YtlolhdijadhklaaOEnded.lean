/- A way that ends. -/
import Derived.Test.YtlolhdijadhklaaOReply
namespace Go.Proofs.Ytlolhdijadhklaa
open Go.RowKit Atl
set_option linter.unusedVariables false
set_option maxRecDepth 10000

def endW (r : Wy) (er tm : Int) (j : S3) : Wy := ⟨r.n, r.nm, r.m, r.u, false, r.nd, r.lf, true, er, tm, j⟩
theorem Cs.ended {W : World} {Q : Nat} {r : Wy} (h : Cs W Q (rc r)) (er tm : Int) (j : S3) : Cs (((((W.setCell ⟨Q, 16, none⟩ (.bool true)).setCell ⟨Q, 17, none⟩ (.int .i64 er)).setCell ⟨Q, 18, none⟩ (.int .i64 tm)).setCell ⟨Q, 19, none⟩ (.slice j.a j.n j.c)).setCell ⟨Q, 13, none⟩ (.bool false)) Q (rc (endW r er tm j)) := by
  have := ((((h.set 16 (.bool true) (by simp)).set 17 (.int .i64 er) (by simp)).set 18 (.int .i64 tm) (by simp)).set 19 (.slice j.a j.n j.c) (by simp)).set 13 (.bool false) (by simp)
  exact this
theorem Cs.drawn {W : World} {Q : Nat} {cs : List Value} (h : Cs W Q cs) : Cs W.drew Q cs := h
theorem ended_grown (W : World) (Q : Nat) (er tm : Int) (j : S3) : W.grownBy ((((((W.setCell ⟨Q, 16, none⟩ (.bool true)).setCell ⟨Q, 17, none⟩ (.int .i64 er)).setCell ⟨Q, 18, none⟩ (.int .i64 tm)).setCell ⟨Q, 19, none⟩ (.slice j.a j.n j.c)).setCell ⟨Q, 13, none⟩ (.bool false)).drew) (some Q) :=
  grown_more (grown_more (grown_more (grown_more (grown_more (grown_set W ⟨Q, 16, none⟩ (.bool true)) (grown_set _ ⟨Q, 17, none⟩ (.int .i64 er)) (fun k e => .inl e)) (grown_set _ ⟨Q, 18, none⟩ (.int .i64 tm)) (fun k e => .inl e)) (grown_set _ ⟨Q, 19, none⟩ (.slice j.a j.n j.c)) (fun k e => .inl e)) (grown_set _ ⟨Q, 13, none⟩ (.bool false)) (fun k e => .inl e)) (grown_drew (grown_refl _ none)) (by simp)
set_option maxRecDepth 100000 in
set_option maxHeartbeats 3200000 in
theorem ended_by (r : Wy) (er tm : Int) (j : S3) (w : World) : Calls Try.prog 97 #[rv r, ev er tm j] w fun e w' => e = .returned (rv (endW r er tm j)) ∧ w.grownBy w' none := by
  obtain ⟨W0, hW0⟩ : ∃ W0, W0 = ((w.alloc (.cells (ra r) 60)).alloc (.cells (ea er tm j) 47)).alloc (.cells zra 60) := ⟨_, rfl⟩
  obtain ⟨g0, s0, k0, k1, k2⟩ := three_new w _ _ _ _ _ _ W0 hW0
  have G0 : Hid (w.grownBy W0 none) := g0
  have SZ : Hid (W0.heap.size = w.heap.size + 3) := s0
  have gd : W0.grownBy W0.drew none := grown_drew (grown_refl _ _)
  have KR : Hid (Cs W0 w.heap.size (rc r)) := k0 _ (grown_refl _ _)
  have KZ : Hid (Cs W0 (w.heap.size + 2) zra.toList) := k2 _ (grown_refl _ _)
  have d0 : W0.cell? ⟨w.heap.size + 1, 0, none⟩ = some (.int .i64 er) := (k1 _ (grown_refl _ _)).1 0 _ rfl
  have d1 : W0.cell? ⟨w.heap.size + 1, 1, none⟩ = some (.int .i64 tm) := (k1 _ (grown_refl _ _)).1 1 _ rfl
  have d2 : W0.cell? ⟨w.heap.size + 1, 2, none⟩ = some (.slice j.a j.n j.c) := (k1 _ (grown_refl _ _)).1 2 _ rfl
  have c13 : W0.cell? ⟨w.heap.size, 13, none⟩ = some (.bool r.f) := (k0 _ (grown_refl _ _)).1 13 _ rfl
  have c16 : W0.cell? ⟨w.heap.size, 16, none⟩ = some (.bool r.d) := (k0 _ (grown_refl _ _)).1 16 _ rfl
  have c17 : W0.cell? ⟨w.heap.size, 17, none⟩ = some (.int .i64 r.er) := (k0 _ (grown_refl _ _)).1 17 _ rfl
  have c18 : W0.cell? ⟨w.heap.size, 18, none⟩ = some (.int .i64 r.tm) := (k0 _ (grown_refl _ _)).1 18 _ rfl
  have c19 : W0.cell? ⟨w.heap.size, 19, none⟩ = some (.slice r.j.a r.j.n r.j.c) := (k0 _ (grown_refl _ _)).1 19 _ rfl
  have fz : ∀ i, W0.frozen? ⟨w.heap.size, i, none⟩ = false := (k0 _ (grown_refl _ _)).2
  have HW0 : Hid (W0 = _) := hW0
  clear g0 s0 k0 k1 k2 hW0 gd
  go_enter Try.func97, Try.ntmps97
  go_upto_region 1 with fail
  rw [show (#[Value.int .i64 0, .string ⟨#[]⟩, .int .i64 0, .int .i64 0, .slice none 0 0, .int .i64 0, .int .i64 0, .int .i64 0, .int .i64 0, .int .i64 0, .int .i64 0, .int .i64 0, .string ⟨#[]⟩, .bool false, .int .i64 0, .int .i64 0, .bool false, .int .i64 0, .int .i64 0, .slice none 0 0] : Array Value) = zra from rfl, ← HW0.out]
  go_region
  all_goals
    go_upto_region 2 with fail
    have gE := ended_grown W0 w.heap.size er tm j
    have K3 : Hid (Cs ((((((W0.setCell ⟨w.heap.size, 16, none⟩ (.bool true)).setCell ⟨w.heap.size, 17, none⟩ (.int .i64 er)).setCell ⟨w.heap.size, 18, none⟩ (.int .i64 tm)).setCell ⟨w.heap.size, 19, none⟩ (.slice j.a j.n j.c)).setCell ⟨w.heap.size, 13, none⟩ (.bool false)).drew) w.heap.size (rc (endW r er tm j))) := (KR.out.ended er tm j).drawn
    have GE : Hid (W0.grownBy _ (some w.heap.size)) := gE
    clear gE d0 d1 d2 c13 c16 c17 c18 c19 fz KR
    generalize ((((((W0.setCell ⟨w.heap.size, 16, none⟩ (.bool true)).setCell ⟨w.heap.size, 17, none⟩ (.int .i64 er)).setCell ⟨w.heap.size, 18, none⟩ (.int .i64 tm)).setCell ⟨w.heap.size, 19, none⟩ (.slice j.a j.n j.c)).setCell ⟨w.heap.size, 13, none⟩ (.bool false)).drew) = w3 at *
    have Z3 : Hid (Cs w3 (w.heap.size + 2) zra.toList) := KZ.out.but GE.out (by omega) (by have := SZ.out; omega)
    go_wp2_with (first
      | (refine load_r rfl rfl w.heap.size 0 (endW r er tm j) rfl K3.out.1 ?_)
      | (refine store_row (ty := 60) (w.heap.size + 2) 0 (ra (endW r er tm j)) rfl rfl (Z3.out.there (by simp)) (by kernel_rfl) (by simp [Value.oneCell']) ?_; intro w9 h9; have H9 : Hid (w9 = w3.setCells (w.heap.size + 2) 0 (rc (endW r er tm j))) := h9; clear h9))
    refine bodyPost_ret (v := rv (endW r er tm j)) ?_ rfl ?_
    · exact res_row1 (P := Try.prog) (fn := Try.f97) (p := 4) (ty := 60) rfl rfl (box_set (cs := rc (endW r er tm j)) Z3.out rfl H9.out) Try.underlying60 rfl (by kernel_rfl)
    · exact ⟨rfl, box_grown (grown_more G0.out GE.out (fun k e => .inr (by injection e with e; omega))) (by omega) H9.out⟩
end Go.Proofs.Ytlolhdijadhklaa
