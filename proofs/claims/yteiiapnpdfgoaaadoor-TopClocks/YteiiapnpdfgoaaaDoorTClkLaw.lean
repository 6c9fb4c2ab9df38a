/- Once a day, as clocks show it: where it asks nothing, and the whole. -/
import Derived.Test.YteiiapnpdfgoaaaDoorTClkW
namespace Go.Proofs.YteiiapnpdfgoaaaDoor
open Go.RowKit
set_option linter.unusedVariables false
set_option maxRecDepth 100000 in
set_option maxHeartbeats 3200000 in
theorem clk_bad (z : Zon.Z) (hz : ¬ z.ok) (h n fr dd : Int) (w : World) (hG : Gd w) : Calls Tryd.prog 4 #[zon z, .int .i64 h, .int .i64 n, .int .i64 fr, .int .i64 dd] w fun r w' => r = .returned (.bool true) ∧ w.grownBy w' none := by
  have hnot : ∀ (x : Bool) (w : World), (Op.unary .not (.bool x)).run Tryd.prog w = .ok (.bool (!x)) w := fun _ _ => rfl
  have AW : ∀ o, _ := fun o => awake7_any (w.alloc o) (hG.kept (World.grownBy_alloc w o none))
  have MK : ∀ W, _ := fun W => make_bad z hz W
  have ZC : Hid (∀ W, (w.alloc (.cells #[.int .i64 z.b, .int .i64 z.s, .int .i64 z.on.m, .int .i64 z.on.k, .int .i64 z.on.d, .int .i64 z.on.a, .int .i64 z.off.m, .int .i64 z.off.k, .int .i64 z.off.d, .int .i64 z.off.a] 33)).grownBy W none → W.cell? ⟨w.heap.size, 0, none⟩ = some (.int .i64 z.b) ∧ W.cell? ⟨w.heap.size, 1, none⟩ = some (.int .i64 z.s) ∧ W.cell? ⟨w.heap.size, 2, none⟩ = some (.int .i64 z.on.m) ∧ W.cell? ⟨w.heap.size, 3, none⟩ = some (.int .i64 z.on.k) ∧ W.cell? ⟨w.heap.size, 4, none⟩ = some (.int .i64 z.on.d) ∧ W.cell? ⟨w.heap.size, 5, none⟩ = some (.int .i64 z.on.a) ∧ W.cell? ⟨w.heap.size, 6, none⟩ = some (.int .i64 z.off.m) ∧ W.cell? ⟨w.heap.size, 7, none⟩ = some (.int .i64 z.off.k) ∧ W.cell? ⟨w.heap.size, 8, none⟩ = some (.int .i64 z.off.d) ∧ W.cell? ⟨w.heap.size, 9, none⟩ = some (.int .i64 z.off.a) ) := fun W g => ⟨cell_kept g 0 _ rfl, cell_kept g 1 _ rfl, cell_kept g 2 _ rfl, cell_kept g 3 _ rfl, cell_kept g 4 _ rfl, cell_kept g 5 _ rfl, cell_kept g 6 _ rfl, cell_kept g 7 _ rfl, cell_kept g 8 _ rfl, cell_kept g 9 _ rfl⟩
  go_enter Tryd.func4, Tryd.ntmps4
  go_wp2_with (first | (go_at_call 6; (with_reducible refine (AW _).mono ?_); rintro e w1 ⟨rfl, H1⟩; obtain ⟨y0, y1, y2, y3, y4, y5, y6, y7, y8, y9⟩ := ZC.out _ H1) | (go_at_call 9; (with_reducible refine (MK _).mono ?_); rintro e w2 ⟨rfl, H2⟩; have L2 := grown_more H1 H2 (by simp)))
  go_ret
  exact ⟨rfl, grown_more (World.grownBy_alloc w _ none) L2 (by simp)⟩
set_option maxRecDepth 100000 in
set_option maxHeartbeats 3200000 in
theorem clk_o0 (z : Zon.Z) (hz : z.ok) (h n fr dd : Int)  (k0 : h < 0) (w : World) (hG : Gd w) : Calls Tryd.prog 4 #[zon z, .int .i64 h, .int .i64 n, .int .i64 fr, .int .i64 dd] w fun r w' => r = .returned (.bool true) ∧ w.grownBy w' none := by
  have hnot : ∀ (x : Bool) (w : World), (Op.unary .not (.bool x)).run Tryd.prog w = .ok (.bool (!x)) w := fun _ _ => rfl
  have AW : ∀ o, _ := fun o => awake7_any (w.alloc o) (hG.kept (World.grownBy_alloc w o none))
  have MK : ∀ W, _ := fun W => make_ok z hz W
  have g0 : decide (h < 0) = true := decide_eq_true k0
  clear k0
  have ZC : Hid (∀ W, (w.alloc (.cells #[.int .i64 z.b, .int .i64 z.s, .int .i64 z.on.m, .int .i64 z.on.k, .int .i64 z.on.d, .int .i64 z.on.a, .int .i64 z.off.m, .int .i64 z.off.k, .int .i64 z.off.d, .int .i64 z.off.a] 33)).grownBy W none → W.cell? ⟨w.heap.size, 0, none⟩ = some (.int .i64 z.b) ∧ W.cell? ⟨w.heap.size, 1, none⟩ = some (.int .i64 z.s) ∧ W.cell? ⟨w.heap.size, 2, none⟩ = some (.int .i64 z.on.m) ∧ W.cell? ⟨w.heap.size, 3, none⟩ = some (.int .i64 z.on.k) ∧ W.cell? ⟨w.heap.size, 4, none⟩ = some (.int .i64 z.on.d) ∧ W.cell? ⟨w.heap.size, 5, none⟩ = some (.int .i64 z.on.a) ∧ W.cell? ⟨w.heap.size, 6, none⟩ = some (.int .i64 z.off.m) ∧ W.cell? ⟨w.heap.size, 7, none⟩ = some (.int .i64 z.off.k) ∧ W.cell? ⟨w.heap.size, 8, none⟩ = some (.int .i64 z.off.d) ∧ W.cell? ⟨w.heap.size, 9, none⟩ = some (.int .i64 z.off.a) ) := fun W g => ⟨cell_kept g 0 _ rfl, cell_kept g 1 _ rfl, cell_kept g 2 _ rfl, cell_kept g 3 _ rfl, cell_kept g 4 _ rfl, cell_kept g 5 _ rfl, cell_kept g 6 _ rfl, cell_kept g 7 _ rfl, cell_kept g 8 _ rfl, cell_kept g 9 _ rfl⟩
  go_enter Tryd.func4, Tryd.ntmps4
  go_wp2_with (first | (go_at_call 6; (with_reducible refine (AW _).mono ?_); rintro e w1 ⟨rfl, H1⟩; obtain ⟨y0, y1, y2, y3, y4, y5, y6, y7, y8, y9⟩ := ZC.out _ H1) | (go_at_call 9; (with_reducible refine (MK _).mono ?_); rintro e w2 ⟨b, rfl, H2, hb1, hb2, hZ2⟩; have L2 := grown_more H1 H2 (by simp)))
  go_ret
  exact ⟨rfl, grown_more (World.grownBy_alloc w _ none) L2 (by simp)⟩
set_option maxRecDepth 100000 in
set_option maxHeartbeats 3200000 in
theorem clk_o1 (z : Zon.Z) (hz : z.ok) (h n fr dd : Int) (k0 : ¬ h < 0) (k1 : (23 : Int) < h) (w : World) (hG : Gd w) : Calls Tryd.prog 4 #[zon z, .int .i64 h, .int .i64 n, .int .i64 fr, .int .i64 dd] w fun r w' => r = .returned (.bool true) ∧ w.grownBy w' none := by
  have hnot : ∀ (x : Bool) (w : World), (Op.unary .not (.bool x)).run Tryd.prog w = .ok (.bool (!x)) w := fun _ _ => rfl
  have AW : ∀ o, _ := fun o => awake7_any (w.alloc o) (hG.kept (World.grownBy_alloc w o none))
  have MK : ∀ W, _ := fun W => make_ok z hz W
  have g0 : decide (h < 0) = false := decide_eq_false k0
  have g1 : decide ((23 : Int) < h) = true := decide_eq_true k1
  clear k0 k1
  have ZC : Hid (∀ W, (w.alloc (.cells #[.int .i64 z.b, .int .i64 z.s, .int .i64 z.on.m, .int .i64 z.on.k, .int .i64 z.on.d, .int .i64 z.on.a, .int .i64 z.off.m, .int .i64 z.off.k, .int .i64 z.off.d, .int .i64 z.off.a] 33)).grownBy W none → W.cell? ⟨w.heap.size, 0, none⟩ = some (.int .i64 z.b) ∧ W.cell? ⟨w.heap.size, 1, none⟩ = some (.int .i64 z.s) ∧ W.cell? ⟨w.heap.size, 2, none⟩ = some (.int .i64 z.on.m) ∧ W.cell? ⟨w.heap.size, 3, none⟩ = some (.int .i64 z.on.k) ∧ W.cell? ⟨w.heap.size, 4, none⟩ = some (.int .i64 z.on.d) ∧ W.cell? ⟨w.heap.size, 5, none⟩ = some (.int .i64 z.on.a) ∧ W.cell? ⟨w.heap.size, 6, none⟩ = some (.int .i64 z.off.m) ∧ W.cell? ⟨w.heap.size, 7, none⟩ = some (.int .i64 z.off.k) ∧ W.cell? ⟨w.heap.size, 8, none⟩ = some (.int .i64 z.off.d) ∧ W.cell? ⟨w.heap.size, 9, none⟩ = some (.int .i64 z.off.a) ) := fun W g => ⟨cell_kept g 0 _ rfl, cell_kept g 1 _ rfl, cell_kept g 2 _ rfl, cell_kept g 3 _ rfl, cell_kept g 4 _ rfl, cell_kept g 5 _ rfl, cell_kept g 6 _ rfl, cell_kept g 7 _ rfl, cell_kept g 8 _ rfl, cell_kept g 9 _ rfl⟩
  go_enter Tryd.func4, Tryd.ntmps4
  go_wp2_with (first | (go_at_call 6; (with_reducible refine (AW _).mono ?_); rintro e w1 ⟨rfl, H1⟩; obtain ⟨y0, y1, y2, y3, y4, y5, y6, y7, y8, y9⟩ := ZC.out _ H1) | (go_at_call 9; (with_reducible refine (MK _).mono ?_); rintro e w2 ⟨b, rfl, H2, hb1, hb2, hZ2⟩; have L2 := grown_more H1 H2 (by simp)))
  go_ret
  exact ⟨rfl, grown_more (World.grownBy_alloc w _ none) L2 (by simp)⟩
set_option maxRecDepth 100000 in
set_option maxHeartbeats 3200000 in
theorem clk_o2 (z : Zon.Z) (hz : z.ok) (h n fr dd : Int) (k0 : ¬ h < 0) (k1 : ¬ (23 : Int) < h) (k2 : n < 0) (w : World) (hG : Gd w) : Calls Tryd.prog 4 #[zon z, .int .i64 h, .int .i64 n, .int .i64 fr, .int .i64 dd] w fun r w' => r = .returned (.bool true) ∧ w.grownBy w' none := by
  have hnot : ∀ (x : Bool) (w : World), (Op.unary .not (.bool x)).run Tryd.prog w = .ok (.bool (!x)) w := fun _ _ => rfl
  have AW : ∀ o, _ := fun o => awake7_any (w.alloc o) (hG.kept (World.grownBy_alloc w o none))
  have MK : ∀ W, _ := fun W => make_ok z hz W
  have g0 : decide (h < 0) = false := decide_eq_false k0
  have g1 : decide ((23 : Int) < h) = false := decide_eq_false k1
  have g2 : decide (n < 0) = true := decide_eq_true k2
  clear k0 k1 k2
  have ZC : Hid (∀ W, (w.alloc (.cells #[.int .i64 z.b, .int .i64 z.s, .int .i64 z.on.m, .int .i64 z.on.k, .int .i64 z.on.d, .int .i64 z.on.a, .int .i64 z.off.m, .int .i64 z.off.k, .int .i64 z.off.d, .int .i64 z.off.a] 33)).grownBy W none → W.cell? ⟨w.heap.size, 0, none⟩ = some (.int .i64 z.b) ∧ W.cell? ⟨w.heap.size, 1, none⟩ = some (.int .i64 z.s) ∧ W.cell? ⟨w.heap.size, 2, none⟩ = some (.int .i64 z.on.m) ∧ W.cell? ⟨w.heap.size, 3, none⟩ = some (.int .i64 z.on.k) ∧ W.cell? ⟨w.heap.size, 4, none⟩ = some (.int .i64 z.on.d) ∧ W.cell? ⟨w.heap.size, 5, none⟩ = some (.int .i64 z.on.a) ∧ W.cell? ⟨w.heap.size, 6, none⟩ = some (.int .i64 z.off.m) ∧ W.cell? ⟨w.heap.size, 7, none⟩ = some (.int .i64 z.off.k) ∧ W.cell? ⟨w.heap.size, 8, none⟩ = some (.int .i64 z.off.d) ∧ W.cell? ⟨w.heap.size, 9, none⟩ = some (.int .i64 z.off.a) ) := fun W g => ⟨cell_kept g 0 _ rfl, cell_kept g 1 _ rfl, cell_kept g 2 _ rfl, cell_kept g 3 _ rfl, cell_kept g 4 _ rfl, cell_kept g 5 _ rfl, cell_kept g 6 _ rfl, cell_kept g 7 _ rfl, cell_kept g 8 _ rfl, cell_kept g 9 _ rfl⟩
  go_enter Tryd.func4, Tryd.ntmps4
  go_wp2_with (first | (go_at_call 6; (with_reducible refine (AW _).mono ?_); rintro e w1 ⟨rfl, H1⟩; obtain ⟨y0, y1, y2, y3, y4, y5, y6, y7, y8, y9⟩ := ZC.out _ H1) | (go_at_call 9; (with_reducible refine (MK _).mono ?_); rintro e w2 ⟨b, rfl, H2, hb1, hb2, hZ2⟩; have L2 := grown_more H1 H2 (by simp)))
  go_ret
  exact ⟨rfl, grown_more (World.grownBy_alloc w _ none) L2 (by simp)⟩
set_option maxRecDepth 100000 in
set_option maxHeartbeats 3200000 in
theorem clk_o3 (z : Zon.Z) (hz : z.ok) (h n fr dd : Int) (k0 : ¬ h < 0) (k1 : ¬ (23 : Int) < h) (k2 : ¬ n < 0) (k3 : (59 : Int) < n) (w : World) (hG : Gd w) : Calls Tryd.prog 4 #[zon z, .int .i64 h, .int .i64 n, .int .i64 fr, .int .i64 dd] w fun r w' => r = .returned (.bool true) ∧ w.grownBy w' none := by
  have hnot : ∀ (x : Bool) (w : World), (Op.unary .not (.bool x)).run Tryd.prog w = .ok (.bool (!x)) w := fun _ _ => rfl
  have AW : ∀ o, _ := fun o => awake7_any (w.alloc o) (hG.kept (World.grownBy_alloc w o none))
  have MK : ∀ W, _ := fun W => make_ok z hz W
  have g0 : decide (h < 0) = false := decide_eq_false k0
  have g1 : decide ((23 : Int) < h) = false := decide_eq_false k1
  have g2 : decide (n < 0) = false := decide_eq_false k2
  have g3 : decide ((59 : Int) < n) = true := decide_eq_true k3
  clear k0 k1 k2 k3
  have ZC : Hid (∀ W, (w.alloc (.cells #[.int .i64 z.b, .int .i64 z.s, .int .i64 z.on.m, .int .i64 z.on.k, .int .i64 z.on.d, .int .i64 z.on.a, .int .i64 z.off.m, .int .i64 z.off.k, .int .i64 z.off.d, .int .i64 z.off.a] 33)).grownBy W none → W.cell? ⟨w.heap.size, 0, none⟩ = some (.int .i64 z.b) ∧ W.cell? ⟨w.heap.size, 1, none⟩ = some (.int .i64 z.s) ∧ W.cell? ⟨w.heap.size, 2, none⟩ = some (.int .i64 z.on.m) ∧ W.cell? ⟨w.heap.size, 3, none⟩ = some (.int .i64 z.on.k) ∧ W.cell? ⟨w.heap.size, 4, none⟩ = some (.int .i64 z.on.d) ∧ W.cell? ⟨w.heap.size, 5, none⟩ = some (.int .i64 z.on.a) ∧ W.cell? ⟨w.heap.size, 6, none⟩ = some (.int .i64 z.off.m) ∧ W.cell? ⟨w.heap.size, 7, none⟩ = some (.int .i64 z.off.k) ∧ W.cell? ⟨w.heap.size, 8, none⟩ = some (.int .i64 z.off.d) ∧ W.cell? ⟨w.heap.size, 9, none⟩ = some (.int .i64 z.off.a) ) := fun W g => ⟨cell_kept g 0 _ rfl, cell_kept g 1 _ rfl, cell_kept g 2 _ rfl, cell_kept g 3 _ rfl, cell_kept g 4 _ rfl, cell_kept g 5 _ rfl, cell_kept g 6 _ rfl, cell_kept g 7 _ rfl, cell_kept g 8 _ rfl, cell_kept g 9 _ rfl⟩
  go_enter Tryd.func4, Tryd.ntmps4
  go_wp2_with (first | (go_at_call 6; (with_reducible refine (AW _).mono ?_); rintro e w1 ⟨rfl, H1⟩; obtain ⟨y0, y1, y2, y3, y4, y5, y6, y7, y8, y9⟩ := ZC.out _ H1) | (go_at_call 9; (with_reducible refine (MK _).mono ?_); rintro e w2 ⟨b, rfl, H2, hb1, hb2, hZ2⟩; have L2 := grown_more H1 H2 (by simp)))
  go_ret
  exact ⟨rfl, grown_more (World.grownBy_alloc w _ none) L2 (by simp)⟩
set_option maxRecDepth 100000 in
set_option maxHeartbeats 3200000 in
theorem clk_o4 (z : Zon.Z) (hz : z.ok) (h n fr dd : Int) (k0 : ¬ h < 0) (k1 : ¬ (23 : Int) < h) (k2 : ¬ n < 0) (k3 : ¬ (59 : Int) < n) (k4 : fr < -1) (w : World) (hG : Gd w) : Calls Tryd.prog 4 #[zon z, .int .i64 h, .int .i64 n, .int .i64 fr, .int .i64 dd] w fun r w' => r = .returned (.bool true) ∧ w.grownBy w' none := by
  have hnot : ∀ (x : Bool) (w : World), (Op.unary .not (.bool x)).run Tryd.prog w = .ok (.bool (!x)) w := fun _ _ => rfl
  have AW : ∀ o, _ := fun o => awake7_any (w.alloc o) (hG.kept (World.grownBy_alloc w o none))
  have MK : ∀ W, _ := fun W => make_ok z hz W
  have g0 : decide (h < 0) = false := decide_eq_false k0
  have g1 : decide ((23 : Int) < h) = false := decide_eq_false k1
  have g2 : decide (n < 0) = false := decide_eq_false k2
  have g3 : decide ((59 : Int) < n) = false := decide_eq_false k3
  have g4 : decide (fr < -1) = true := decide_eq_true k4
  clear k0 k1 k2 k3 k4
  have ZC : Hid (∀ W, (w.alloc (.cells #[.int .i64 z.b, .int .i64 z.s, .int .i64 z.on.m, .int .i64 z.on.k, .int .i64 z.on.d, .int .i64 z.on.a, .int .i64 z.off.m, .int .i64 z.off.k, .int .i64 z.off.d, .int .i64 z.off.a] 33)).grownBy W none → W.cell? ⟨w.heap.size, 0, none⟩ = some (.int .i64 z.b) ∧ W.cell? ⟨w.heap.size, 1, none⟩ = some (.int .i64 z.s) ∧ W.cell? ⟨w.heap.size, 2, none⟩ = some (.int .i64 z.on.m) ∧ W.cell? ⟨w.heap.size, 3, none⟩ = some (.int .i64 z.on.k) ∧ W.cell? ⟨w.heap.size, 4, none⟩ = some (.int .i64 z.on.d) ∧ W.cell? ⟨w.heap.size, 5, none⟩ = some (.int .i64 z.on.a) ∧ W.cell? ⟨w.heap.size, 6, none⟩ = some (.int .i64 z.off.m) ∧ W.cell? ⟨w.heap.size, 7, none⟩ = some (.int .i64 z.off.k) ∧ W.cell? ⟨w.heap.size, 8, none⟩ = some (.int .i64 z.off.d) ∧ W.cell? ⟨w.heap.size, 9, none⟩ = some (.int .i64 z.off.a) ) := fun W g => ⟨cell_kept g 0 _ rfl, cell_kept g 1 _ rfl, cell_kept g 2 _ rfl, cell_kept g 3 _ rfl, cell_kept g 4 _ rfl, cell_kept g 5 _ rfl, cell_kept g 6 _ rfl, cell_kept g 7 _ rfl, cell_kept g 8 _ rfl, cell_kept g 9 _ rfl⟩
  go_enter Tryd.func4, Tryd.ntmps4
  go_wp2_with (first | (go_at_call 6; (with_reducible refine (AW _).mono ?_); rintro e w1 ⟨rfl, H1⟩; obtain ⟨y0, y1, y2, y3, y4, y5, y6, y7, y8, y9⟩ := ZC.out _ H1) | (go_at_call 9; (with_reducible refine (MK _).mono ?_); rintro e w2 ⟨b, rfl, H2, hb1, hb2, hZ2⟩; have L2 := grown_more H1 H2 (by simp)))
  go_ret
  exact ⟨rfl, grown_more (World.grownBy_alloc w _ none) L2 (by simp)⟩
set_option maxRecDepth 100000 in
set_option maxHeartbeats 3200000 in
theorem clk_o5 (z : Zon.Z) (hz : z.ok) (h n fr dd : Int) (k0 : ¬ h < 0) (k1 : ¬ (23 : Int) < h) (k2 : ¬ n < 0) (k3 : ¬ (59 : Int) < n) (k4 : ¬ fr < -1) (k5 : (226157759 : Int) < fr) (w : World) (hG : Gd w) : Calls Tryd.prog 4 #[zon z, .int .i64 h, .int .i64 n, .int .i64 fr, .int .i64 dd] w fun r w' => r = .returned (.bool true) ∧ w.grownBy w' none := by
  have hnot : ∀ (x : Bool) (w : World), (Op.unary .not (.bool x)).run Tryd.prog w = .ok (.bool (!x)) w := fun _ _ => rfl
  have AW : ∀ o, _ := fun o => awake7_any (w.alloc o) (hG.kept (World.grownBy_alloc w o none))
  have MK : ∀ W, _ := fun W => make_ok z hz W
  have g0 : decide (h < 0) = false := decide_eq_false k0
  have g1 : decide ((23 : Int) < h) = false := decide_eq_false k1
  have g2 : decide (n < 0) = false := decide_eq_false k2
  have g3 : decide ((59 : Int) < n) = false := decide_eq_false k3
  have g4 : decide (fr < -1) = false := decide_eq_false k4
  have g5 : decide ((226157759 : Int) < fr) = true := decide_eq_true k5
  clear k0 k1 k2 k3 k4 k5
  have ZC : Hid (∀ W, (w.alloc (.cells #[.int .i64 z.b, .int .i64 z.s, .int .i64 z.on.m, .int .i64 z.on.k, .int .i64 z.on.d, .int .i64 z.on.a, .int .i64 z.off.m, .int .i64 z.off.k, .int .i64 z.off.d, .int .i64 z.off.a] 33)).grownBy W none → W.cell? ⟨w.heap.size, 0, none⟩ = some (.int .i64 z.b) ∧ W.cell? ⟨w.heap.size, 1, none⟩ = some (.int .i64 z.s) ∧ W.cell? ⟨w.heap.size, 2, none⟩ = some (.int .i64 z.on.m) ∧ W.cell? ⟨w.heap.size, 3, none⟩ = some (.int .i64 z.on.k) ∧ W.cell? ⟨w.heap.size, 4, none⟩ = some (.int .i64 z.on.d) ∧ W.cell? ⟨w.heap.size, 5, none⟩ = some (.int .i64 z.on.a) ∧ W.cell? ⟨w.heap.size, 6, none⟩ = some (.int .i64 z.off.m) ∧ W.cell? ⟨w.heap.size, 7, none⟩ = some (.int .i64 z.off.k) ∧ W.cell? ⟨w.heap.size, 8, none⟩ = some (.int .i64 z.off.d) ∧ W.cell? ⟨w.heap.size, 9, none⟩ = some (.int .i64 z.off.a) ) := fun W g => ⟨cell_kept g 0 _ rfl, cell_kept g 1 _ rfl, cell_kept g 2 _ rfl, cell_kept g 3 _ rfl, cell_kept g 4 _ rfl, cell_kept g 5 _ rfl, cell_kept g 6 _ rfl, cell_kept g 7 _ rfl, cell_kept g 8 _ rfl, cell_kept g 9 _ rfl⟩
  go_enter Tryd.func4, Tryd.ntmps4
  go_wp2_with (first | (go_at_call 6; (with_reducible refine (AW _).mono ?_); rintro e w1 ⟨rfl, H1⟩; obtain ⟨y0, y1, y2, y3, y4, y5, y6, y7, y8, y9⟩ := ZC.out _ H1) | (go_at_call 9; (with_reducible refine (MK _).mono ?_); rintro e w2 ⟨b, rfl, H2, hb1, hb2, hZ2⟩; have L2 := grown_more H1 H2 (by simp)))
  go_ret
  exact ⟨rfl, grown_more (World.grownBy_alloc w _ none) L2 (by simp)⟩
set_option maxRecDepth 100000 in
set_option maxHeartbeats 3200000 in
theorem clk_o6 (z : Zon.Z) (hz : z.ok) (h n fr dd : Int) (k0 : ¬ h < 0) (k1 : ¬ (23 : Int) < h) (k2 : ¬ n < 0) (k3 : ¬ (59 : Int) < n) (k4 : ¬ fr < -1) (k5 : ¬ (226157759 : Int) < fr) (k6 : dd < 0) (w : World) (hG : Gd w) : Calls Tryd.prog 4 #[zon z, .int .i64 h, .int .i64 n, .int .i64 fr, .int .i64 dd] w fun r w' => r = .returned (.bool true) ∧ w.grownBy w' none := by
  have hnot : ∀ (x : Bool) (w : World), (Op.unary .not (.bool x)).run Tryd.prog w = .ok (.bool (!x)) w := fun _ _ => rfl
  have AW : ∀ o, _ := fun o => awake7_any (w.alloc o) (hG.kept (World.grownBy_alloc w o none))
  have MK : ∀ W, _ := fun W => make_ok z hz W
  have g0 : decide (h < 0) = false := decide_eq_false k0
  have g1 : decide ((23 : Int) < h) = false := decide_eq_false k1
  have g2 : decide (n < 0) = false := decide_eq_false k2
  have g3 : decide ((59 : Int) < n) = false := decide_eq_false k3
  have g4 : decide (fr < -1) = false := decide_eq_false k4
  have g5 : decide ((226157759 : Int) < fr) = false := decide_eq_false k5
  have g6 : decide (dd < 0) = true := decide_eq_true k6
  clear k0 k1 k2 k3 k4 k5 k6
  have ZC : Hid (∀ W, (w.alloc (.cells #[.int .i64 z.b, .int .i64 z.s, .int .i64 z.on.m, .int .i64 z.on.k, .int .i64 z.on.d, .int .i64 z.on.a, .int .i64 z.off.m, .int .i64 z.off.k, .int .i64 z.off.d, .int .i64 z.off.a] 33)).grownBy W none → W.cell? ⟨w.heap.size, 0, none⟩ = some (.int .i64 z.b) ∧ W.cell? ⟨w.heap.size, 1, none⟩ = some (.int .i64 z.s) ∧ W.cell? ⟨w.heap.size, 2, none⟩ = some (.int .i64 z.on.m) ∧ W.cell? ⟨w.heap.size, 3, none⟩ = some (.int .i64 z.on.k) ∧ W.cell? ⟨w.heap.size, 4, none⟩ = some (.int .i64 z.on.d) ∧ W.cell? ⟨w.heap.size, 5, none⟩ = some (.int .i64 z.on.a) ∧ W.cell? ⟨w.heap.size, 6, none⟩ = some (.int .i64 z.off.m) ∧ W.cell? ⟨w.heap.size, 7, none⟩ = some (.int .i64 z.off.k) ∧ W.cell? ⟨w.heap.size, 8, none⟩ = some (.int .i64 z.off.d) ∧ W.cell? ⟨w.heap.size, 9, none⟩ = some (.int .i64 z.off.a) ) := fun W g => ⟨cell_kept g 0 _ rfl, cell_kept g 1 _ rfl, cell_kept g 2 _ rfl, cell_kept g 3 _ rfl, cell_kept g 4 _ rfl, cell_kept g 5 _ rfl, cell_kept g 6 _ rfl, cell_kept g 7 _ rfl, cell_kept g 8 _ rfl, cell_kept g 9 _ rfl⟩
  go_enter Tryd.func4, Tryd.ntmps4
  go_wp2_with (first | (go_at_call 6; (with_reducible refine (AW _).mono ?_); rintro e w1 ⟨rfl, H1⟩; obtain ⟨y0, y1, y2, y3, y4, y5, y6, y7, y8, y9⟩ := ZC.out _ H1) | (go_at_call 9; (with_reducible refine (MK _).mono ?_); rintro e w2 ⟨b, rfl, H2, hb1, hb2, hZ2⟩; have L2 := grown_more H1 H2 (by simp)))
  go_ret
  exact ⟨rfl, grown_more (World.grownBy_alloc w _ none) L2 (by simp)⟩
set_option maxRecDepth 100000 in
set_option maxHeartbeats 3200000 in
theorem clk_o7 (z : Zon.Z) (hz : z.ok) (h n fr dd : Int) (k0 : ¬ h < 0) (k1 : ¬ (23 : Int) < h) (k2 : ¬ n < 0) (k3 : ¬ (59 : Int) < n) (k4 : ¬ fr < -1) (k5 : ¬ (226157759 : Int) < fr) (k6 : ¬ dd < 0) (k7 : (10 : Int) < dd) (w : World) (hG : Gd w) : Calls Tryd.prog 4 #[zon z, .int .i64 h, .int .i64 n, .int .i64 fr, .int .i64 dd] w fun r w' => r = .returned (.bool true) ∧ w.grownBy w' none := by
  have hnot : ∀ (x : Bool) (w : World), (Op.unary .not (.bool x)).run Tryd.prog w = .ok (.bool (!x)) w := fun _ _ => rfl
  have AW : ∀ o, _ := fun o => awake7_any (w.alloc o) (hG.kept (World.grownBy_alloc w o none))
  have MK : ∀ W, _ := fun W => make_ok z hz W
  have g0 : decide (h < 0) = false := decide_eq_false k0
  have g1 : decide ((23 : Int) < h) = false := decide_eq_false k1
  have g2 : decide (n < 0) = false := decide_eq_false k2
  have g3 : decide ((59 : Int) < n) = false := decide_eq_false k3
  have g4 : decide (fr < -1) = false := decide_eq_false k4
  have g5 : decide ((226157759 : Int) < fr) = false := decide_eq_false k5
  have g6 : decide (dd < 0) = false := decide_eq_false k6
  have g7 : decide ((10 : Int) < dd) = true := decide_eq_true k7
  clear k0 k1 k2 k3 k4 k5 k6 k7
  have ZC : Hid (∀ W, (w.alloc (.cells #[.int .i64 z.b, .int .i64 z.s, .int .i64 z.on.m, .int .i64 z.on.k, .int .i64 z.on.d, .int .i64 z.on.a, .int .i64 z.off.m, .int .i64 z.off.k, .int .i64 z.off.d, .int .i64 z.off.a] 33)).grownBy W none → W.cell? ⟨w.heap.size, 0, none⟩ = some (.int .i64 z.b) ∧ W.cell? ⟨w.heap.size, 1, none⟩ = some (.int .i64 z.s) ∧ W.cell? ⟨w.heap.size, 2, none⟩ = some (.int .i64 z.on.m) ∧ W.cell? ⟨w.heap.size, 3, none⟩ = some (.int .i64 z.on.k) ∧ W.cell? ⟨w.heap.size, 4, none⟩ = some (.int .i64 z.on.d) ∧ W.cell? ⟨w.heap.size, 5, none⟩ = some (.int .i64 z.on.a) ∧ W.cell? ⟨w.heap.size, 6, none⟩ = some (.int .i64 z.off.m) ∧ W.cell? ⟨w.heap.size, 7, none⟩ = some (.int .i64 z.off.k) ∧ W.cell? ⟨w.heap.size, 8, none⟩ = some (.int .i64 z.off.d) ∧ W.cell? ⟨w.heap.size, 9, none⟩ = some (.int .i64 z.off.a) ) := fun W g => ⟨cell_kept g 0 _ rfl, cell_kept g 1 _ rfl, cell_kept g 2 _ rfl, cell_kept g 3 _ rfl, cell_kept g 4 _ rfl, cell_kept g 5 _ rfl, cell_kept g 6 _ rfl, cell_kept g 7 _ rfl, cell_kept g 8 _ rfl, cell_kept g 9 _ rfl⟩
  go_enter Tryd.func4, Tryd.ntmps4
  go_wp2_with (first | (go_at_call 6; (with_reducible refine (AW _).mono ?_); rintro e w1 ⟨rfl, H1⟩; obtain ⟨y0, y1, y2, y3, y4, y5, y6, y7, y8, y9⟩ := ZC.out _ H1) | (go_at_call 9; (with_reducible refine (MK _).mono ?_); rintro e w2 ⟨b, rfl, H2, hb1, hb2, hZ2⟩; have L2 := grown_more H1 H2 (by simp)))
  go_ret
  exact ⟨rfl, grown_more (World.grownBy_alloc w _ none) L2 (by simp)⟩
set_option maxRecDepth 100000 in
set_option maxHeartbeats 3200000 in
theorem clk_to (z : Zon.Z) (hz : z.ok) (h n : Nat) (hh : h < 24) (hn : n < 60) (fr : Int) (f1 : -1 ≤ fr) (f2 : fr ≤ 226157759) (dd : Nat) (hd : dd ≤ 10) (T : Int) (hTT : fr + (dd : Int) * 1440 = T) (hT2 : 226157759 < T) (w : World) (hG : Gd w) :
    Calls Tryd.prog 4 #[zon z, .int .i64 (h : Int), .int .i64 (n : Int), .int .i64 fr, .int .i64 (dd : Int)] w fun r w' => r = .returned (.bool true) ∧ w.grownBy w' none := by
  have hnot : ∀ (x : Bool) (w : World), (Op.unary .not (.bool x)).run Tryd.prog w = .ok (.bool (!x)) w := fun _ _ => rfl
  have AW : ∀ o, _ := fun o => awake7_any (w.alloc o) (hG.kept (World.grownBy_alloc w o none))
  have MK : ∀ W, _ := fun W => make_ok z hz W
  have DA : ∀ W, Gl W → _ := fun W g => daily_any h n hh hn W g
  have g1 : decide ((h : Int) < 0) = false := decide_eq_false (by omega)
  have g2 : decide ((23 : Int) < (h : Int)) = false := decide_eq_false (by omega)
  have g3 : decide ((n : Int) < 0) = false := decide_eq_false (by omega)
  have g4 : decide ((59 : Int) < (n : Int)) = false := decide_eq_false (by omega)
  have g5 : decide (fr < -1) = false := decide_eq_false (by omega)
  have g6 : decide ((226157759 : Int) < fr) = false := decide_eq_false (by omega)
  have g7 : decide ((dd : Int) < 0) = false := decide_eq_false (by omega)
  have g8 : decide ((10 : Int) < (dd : Int)) = false := decide_eq_false (by omega)
  have g9 : decide ((226157759 : Int) < T) = true := decide_eq_true hT2
  have ZC : Hid (∀ W, (w.alloc (.cells #[.int .i64 z.b, .int .i64 z.s, .int .i64 z.on.m, .int .i64 z.on.k, .int .i64 z.on.d, .int .i64 z.on.a, .int .i64 z.off.m, .int .i64 z.off.k, .int .i64 z.off.d, .int .i64 z.off.a] 33)).grownBy W none → W.cell? ⟨w.heap.size, 0, none⟩ = some (.int .i64 z.b) ∧ W.cell? ⟨w.heap.size, 1, none⟩ = some (.int .i64 z.s) ∧ W.cell? ⟨w.heap.size, 2, none⟩ = some (.int .i64 z.on.m) ∧ W.cell? ⟨w.heap.size, 3, none⟩ = some (.int .i64 z.on.k) ∧ W.cell? ⟨w.heap.size, 4, none⟩ = some (.int .i64 z.on.d) ∧ W.cell? ⟨w.heap.size, 5, none⟩ = some (.int .i64 z.on.a) ∧ W.cell? ⟨w.heap.size, 6, none⟩ = some (.int .i64 z.off.m) ∧ W.cell? ⟨w.heap.size, 7, none⟩ = some (.int .i64 z.off.k) ∧ W.cell? ⟨w.heap.size, 8, none⟩ = some (.int .i64 z.off.d) ∧ W.cell? ⟨w.heap.size, 9, none⟩ = some (.int .i64 z.off.a) ) := fun W g => ⟨cell_kept g 0 _ rfl, cell_kept g 1 _ rfl, cell_kept g 2 _ rfl, cell_kept g 3 _ rfl, cell_kept g 4 _ rfl, cell_kept g 5 _ rfl, cell_kept g 6 _ rfl, cell_kept g 7 _ rfl, cell_kept g 8 _ rfl, cell_kept g 9 _ rfl⟩
  go_enter Tryd.func4, Tryd.ntmps4
  go_wp2_with (first | (go_at_call 6; (with_reducible refine (AW _).mono ?_); rintro e w1 ⟨rfl, H1⟩; obtain ⟨y0, y1, y2, y3, y4, y5, y6, y7, y8, y9⟩ := ZC.out _ H1) | (go_at_call 9; (with_reducible refine (MK _).mono ?_); rintro e w2 ⟨b, rfl, H2, hb1, hb2, hZ2⟩; have L2 := grown_more H1 H2 (by simp); have G2 := hG.kept (grown_more (World.grownBy_alloc w _ none) L2 (by simp))) | (go_at_call 10; (with_reducible refine (DA _ G2.gl).mono ?_); rintro e w3 ⟨rfl, H3⟩; have L3 := fun o => grown_alloc (grown_more L2 H3 (by simp)) o))
  go_ret
  exact ⟨rfl, grown_more (World.grownBy_alloc w _ none) (L3 _) (by simp)⟩
theorem tdiv_bd {a : Int} (h : -1 ≤ a) : a.tdiv 1440 * 1440 ≤ a + 1 ∧ a < (a.tdiv 1440 + 1) * 1440 ∧ 0 ≤ a.tdiv 1440 := by
  by_cases h0 : 0 ≤ a
  · rw [Int.tdiv_eq_ediv_of_nonneg h0]; omega
  · obtain rfl : a = -1 := by omega
    decide
theorem topClocks.walk (W : World) (hX : Gd W) (v0 : Value) (o0 : ∃ z, v0 = zon z) (h : Int) (hh : Lit.wf (.int .i64 h) = true) (n : Int) (hn : Lit.wf (.int .i64 n) = true) (fr : Int) (hfr : Lit.wf (.int .i64 fr) = true) (dd : Int) (hdd : Lit.wf (.int .i64 dd) = true) :
    Calls Tryd.prog 4 #[v0, .int .i64 h, .int .i64 n, .int .i64 fr, .int .i64 dd] W fun e W' => e = .returned (.bool true) ∧ Below W.heap.size W W' := by
  obtain ⟨z, rfl⟩ := o0
  refine Calls.mono (?_ : Calls Tryd.prog 4 #[zon z, .int .i64 h, .int .i64 n, .int .i64 fr, .int .i64 dd] W fun r w' => r = .returned (.bool true) ∧ W.grownBy w' none) fun e W' ⟨h1, h2⟩ => ⟨h1, grown_below h2⟩
  by_cases hz : z.ok
  case neg => exact clk_bad z hz h n fr dd W hX
  by_cases k0 : h < 0
  · exact clk_o0 z hz h n fr dd k0 W hX
  by_cases k1 : (23 : Int) < h
  · exact clk_o1 z hz h n fr dd k0 k1 W hX
  by_cases k2 : n < 0
  · exact clk_o2 z hz h n fr dd k0 k1 k2 W hX
  by_cases k3 : (59 : Int) < n
  · exact clk_o3 z hz h n fr dd k0 k1 k2 k3 W hX
  by_cases k4 : fr < -1
  · exact clk_o4 z hz h n fr dd k0 k1 k2 k3 k4 W hX
  by_cases k5 : (226157759 : Int) < fr
  · exact clk_o5 z hz h n fr dd k0 k1 k2 k3 k4 k5 W hX
  by_cases k6 : dd < 0
  · exact clk_o6 z hz h n fr dd k0 k1 k2 k3 k4 k5 k6 W hX
  by_cases k7 : (10 : Int) < dd
  · exact clk_o7 z hz h n fr dd k0 k1 k2 k3 k4 k5 k6 k7 W hX
  obtain ⟨h, rfl⟩ : ∃ x : Nat, h = x := ⟨h.toNat, by omega⟩
  obtain ⟨n, rfl⟩ : ∃ x : Nat, n = x := ⟨n.toNat, by omega⟩
  obtain ⟨dd, rfl⟩ : ∃ x : Nat, dd = x := ⟨dd.toNat, by omega⟩
  by_cases hT : 226157759 < fr + (dd : Int) * 1440
  · exact clk_to z hz h n (by omega) (by omega) fr (by omega) (by omega) dd (by omega) _ rfl hT W hX
  · have b1 := tdiv_bd (a := fr) (by omega)
    have b2 := tdiv_bd (a := fr + (dd : Int) * 1440) (by omega)
    exact clocks_ok z hz h n (by omega) (by omega) fr (by omega) (by omega) dd (by omega) _ rfl (by omega) _ _ rfl rfl b1.1 b1.2.1 b2.1 b2.2.1 b1.2.2 b2.2.2 W hX
end Go.Proofs.YteiiapnpdfgoaaaDoor
