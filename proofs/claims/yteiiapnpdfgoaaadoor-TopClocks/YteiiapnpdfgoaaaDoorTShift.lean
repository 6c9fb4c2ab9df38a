/- A zone that is always so far ahead: the mathematics, and the statement's walk. -/
import Derived.Test.YteiiapnpdfgoaaaDoorDNext
import Derived.Test.YteiiapnpdfgoaaaDoorDArgs
import Derived.Test.YteiiapnpdfgoaaaDoorDNoon
namespace Go.Proofs.YteiiapnpdfgoaaaDoor
open Go.RowKit
set_option linter.unusedVariables false

theorem res_row {P : Program} {fn : Func} {p u : Tmp} {ty : TypeId} {w : World} {q : Nat} {cs : List Value} {tmps : Array Value} {d : TypeDesc} (h : fn.results = #[.cell p ty, .tmp u]) (hp : tmps.getD p undef = .pointer (some ⟨q, 0, none⟩)) (hr : w.rangeAt q 0 cs)
    (hu : P.underlying ty = some d) (hd : d.isRow = true) (hi : (P.info? ty).map (·.size) = some cs.length) : (results fn tmps).run P w = .ok (.tuple #[.agg cs.toArray, tmps.getD u undef]) w := by
  rw [results_cell_tmp h, hp]
  have := run_loadVar_mid (P := P) w q 0 ty cs d hr hu hd hi
  simp only [asAddr, Sem.run_pure, Result.andThen_ok, this]

set_option maxRecDepth 100000 in
set_option maxHeartbeats 1600000 in
theorem daily_noon (w : World) (hG : Gl w) : Calls Tryd.prog 10 #[.int .i64 12, .int .i64 0] w fun e w' => e = .returned (.tuple #[.agg #[.int .u64 1, .int .u64 4096, .int .u64 4294967294, .int .u64 8190, .int .u64 127, .bool true, .bool true], .bool true]) ∧ w.grownBy w' none := by
  have PA : ∀ w, Gl w → Calls Tryd.prog 16 #[.string ⟨#[48, 32, 48, 32, 42, 32, 42, 32, 42]⟩] w fun e w' => e = .returned (.tuple #[.agg #[.int .u64 1, .int .u64 1, .int .u64 4294967294, .int .u64 8190, .int .u64 127, .bool true, .bool true], .int .i64 0, .int .i64 0]) ∧ w.grownBy w' none := fun w hG => by
    have := Parse_any ⟨#[48, 32, 48, 32, 42, 32, 42, 32, 42]⟩ w hG
    rw [show parV (Cro.parse (⟨#[48, 32, 48, 32, 42, 32, 42, 32, 42]⟩ : ByteArray).data.toList) = .tuple #[.agg #[.int .u64 1, .int .u64 1, .int .u64 4294967294, .int .u64 8190, .int .u64 127, .bool true, .bool true], .int .i64 0, .int .i64 0] from by kernel_rfl] at this
    exact this
  have CK : ∀ w, Gl w → Calls Tryd.prog 7 #[.agg #[.int .u64 1, .int .u64 4096, .int .u64 4294967294, .int .u64 8190, .int .u64 127, .bool true, .bool true]] w fun e w' => e = .returned (.bool true) ∧ w.grownBy w' none := fun w hG => by
    have := Check_any cN cN_ok w hG
    rw [decide_eq_true cN_right] at this
    exact this
  go_enter Tryd.func10, Tryd.ntmps10
  go_upto_region 6 with (go_at_call 16; go_must (refine (PA _ (hG.kept (World.grownBy_alloc w _ none))).mono ?_); rintro e w1 ⟨rfl, hg1⟩; have kc := fun o => grown_drew (grown_alloc hg1 o); have G1 := fun o => hG.kept (grown_more (World.grownBy_alloc w _ none) (kc o) (by simp)); have x0 := fun o => cell_kept (kc o) 0 _ rfl; have f0 := fun o => frozen_kept (kc o) 0; have x1 := fun o => cell_kept (kc o) 1 _ rfl; have f1 := fun o => frozen_kept (kc o) 1; have x2 := fun o => cell_kept (kc o) 2 _ rfl; have f2 := fun o => frozen_kept (kc o) 2; have x3 := fun o => cell_kept (kc o) 3 _ rfl; have f3 := fun o => frozen_kept (kc o) 3; have x4 := fun o => cell_kept (kc o) 4 _ rfl; have f4 := fun o => frozen_kept (kc o) 4; have x5 := fun o => cell_kept (kc o) 5 _ rfl; have f5 := fun o => frozen_kept (kc o) 5; have x6 := fun o => cell_kept (kc o) 6 _ rfl; have f6 := fun o => frozen_kept (kc o) 6)
  go_region_with (go_at_call 7; go_must (refine (CK _ (G1 _)).mono ?_); rintro e w2 ⟨rfl, hg2'⟩; have hg2 := grown_more (grown_drew (grown_refl (w1.alloc _) none)) hg2' (by simp); have kd := grown_more (kc _) hg2' (by simp); have y0 := cell_kept hg2 0 _ rfl; have z0 := cell_kept kd 0 _ rfl; have g0 := frozen_kept kd 0; have y1 := cell_kept hg2 1 _ rfl; have z1 := cell_kept kd 1 _ rfl; have g1 := frozen_kept kd 1; have y2 := cell_kept hg2 2 _ rfl; have z2 := cell_kept kd 2 _ rfl; have g2 := frozen_kept kd 2; have y3 := cell_kept hg2 3 _ rfl; have z3 := cell_kept kd 3 _ rfl; have g3 := frozen_kept kd 3; have y4 := cell_kept hg2 4 _ rfl; have z4 := cell_kept kd 4 _ rfl; have g4 := frozen_kept kd 4; have y5 := cell_kept hg2 5 _ rfl; have z5 := cell_kept kd 5 _ rfl; have g5 := frozen_kept kd 5; have y6 := cell_kept hg2 6 _ rfl; have z6 := cell_kept kd 6 _ rfl; have g6 := frozen_kept kd 6)
  all_goals
    have zr : w2.rangeAt w.heap.size 0 [.int .u64 0, .int .u64 0, .int .u64 0, .int .u64 0, .int .u64 0, .bool false, .bool false] := range_kept kd
    have k2 := grown_more (World.grownBy_alloc w _ none) kd (by simp)
    have R7 := range_set (i := 6) (v := .bool true) (range_set (i := 5) (v := .bool true) (range_set (i := 4) (v := .int .u64 127) (range_set (i := 3) (v := .int .u64 8190) (range_set (i := 2) (v := .int .u64 4294967294) (range_set (i := 1) (v := .int .u64 4096) (range_set (i := 0) (v := .int .u64 1) zr))))))
    have G7 := grown_set_new (grown_set_new (grown_set_new (grown_set_new (grown_set_new (grown_set_new (grown_set_new k2 ⟨w.heap.size, 0, none⟩ (Nat.le_refl _) (.int .u64 1)) ⟨w.heap.size, 1, none⟩ (Nat.le_refl _) (.int .u64 4096)) ⟨w.heap.size, 2, none⟩ (Nat.le_refl _) (.int .u64 4294967294)) ⟨w.heap.size, 3, none⟩ (Nat.le_refl _) (.int .u64 8190)) ⟨w.heap.size, 4, none⟩ (Nat.le_refl _) (.int .u64 127)) ⟨w.heap.size, 5, none⟩ (Nat.le_refl _) (.bool true)) ⟨w.heap.size, 6, none⟩ (Nat.le_refl _) (.bool true)
    generalize (((((((w2.setCell ⟨w.heap.size, 0, none⟩ (.int .u64 1)).setCell ⟨w.heap.size, 1, none⟩ (.int .u64 4096)).setCell ⟨w.heap.size, 2, none⟩ (.int .u64 4294967294)).setCell ⟨w.heap.size, 3, none⟩ (.int .u64 8190)).setCell ⟨w.heap.size, 4, none⟩ (.int .u64 127)).setCell ⟨w.heap.size, 5, none⟩ (.bool true)).setCell ⟨w.heap.size, 6, none⟩ (.bool true)) = W at R7 G7 ⊢
    go_wp2
    refine bodyPost_ret (res_row Tryd.results10 rfl R7 Tryd.underlying24 rfl (by kernel_rfl)) rfl ⟨rfl, G7⟩

set_option maxRecDepth 100000 in
set_option maxHeartbeats 1600000 in
theorem awake7_any (w : World) (hG : Gd w) : Calls Tryd.prog 6 #[] w fun e w' => e = .returned (.bool true) ∧ w.grownBy w' none := by
  obtain ⟨P1, h1⟩ := Due.has_P cN (zB 60)
  have N1 : ∀ w, Gd w → Calls Tryd.prog 8 #[.agg #[.int .u64 1, .int .u64 4096, .int .u64 4294967294, .int .u64 8190, .int .u64 127, .bool true, .bool true], .agg #[.int .i64 60, .int .i64 0, .int .i64 0, .int .i64 0, .int .i64 0, .int .i64 0, .int .i64 0, .int .i64 0, .int .i64 0, .int .i64 0], .int .i64 (-1)] w fun e w' => e = .returned (.tuple #[.int .i64 660, .int .i64 0]) ∧ w.grownBy w' none := fun w hG => by
    have := Next_any cN cN_ok (zB 60) P1 h1 (-1) w hG
    rw [noon_next P1 h1] at this
    exact this
  have DN := daily_noon
  clear h1
  go_enter Tryd.func6, Tryd.ntmps6
  go_wp2_with (first
    | (go_at_call 10; go_must (refine (DN _ hG.gl).mono ?_); rintro e w1 ⟨rfl, hg1⟩; have k1 := fun o => grown_alloc hg1 o)
    | (go_at_call 8; go_must (refine (N1 _ (hG.kept (k1 _))).mono ?_); rintro e w2 ⟨rfl, hg2⟩))
  go_ret
  exact ⟨rfl, grown_more (k1 _) hg2 (by simp)⟩
end Go.Proofs.YteiiapnpdfgoaaaDoor
