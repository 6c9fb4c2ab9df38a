/- Whether a map is right, which span a key lies in, which maps are new: as the document says: the walk of the statement. -/
import Derived.Test.YtlolhdijadhklaaAAwake
import Derived.Test.YtlolhdijadhklaaARFind
import Derived.Test.YtlolhdijadhklaaASame
import Derived.Test.YtlolhdijadhklaaAArgs
namespace Go.Proofs.Ytlolhdijadhklaa
open Go.RowKit Atl
set_option linter.unusedVariables false
set_option maxRecDepth 10000

namespace atlasTells
set_option maxRecDepth 100000 in
set_option maxHeartbeats 64000000 in
theorem walk (w : World) (v0 : Value) (o0 : ∃ (a : Am) (u : S3), v0 = av a u ∧ Rat w a u ∧ Szm a) (v1 : Value) (o1 : ∃ k : ByteArray, v1 = .string k ∧ k.size ≤ 140737488351232) (n : Int) (wx2 : (Lit.int .i64 n).wf = true) :
    Calls Try.prog 3 #[v0, v1, .int .i64 n] w fun e w' => e = .returned (.bool true) ∧ Below w.heap.size w w' := by
  obtain ⟨a, u, rfl, hr, hz⟩ := o0
  obtain ⟨key, rfl, hk⟩ := o1
  clear wx2
  have AW : Hid (∀ W, _) := fun W => awake_any W
  have CK : Hid (∀ W, w.grownBy W none → Calls Try.prog 14 #[av a u] W fun e w' => e = .returned (.bool (chk a)) ∧ W.grownBy w' none) := fun W g => check_any a u W (hr.grown g) hz
  have RK : Hid (∀ W, w.grownBy W none → Calls Try.prog 15 #[av a u] W fun e w' => e = .returned (.bool (chk a)) ∧ W.grownBy w' none) := fun W g => rcheck_any a u W (hr.grown g) hz
  have FK : Hid (∀ W, w.grownBy W none → Calls Try.prog 10 #[av a u, .string key] W fun e w' => e = .returned (.tuple #[sv (findS a key), .bool (findB a key)]) ∧ W.grownBy w' none) := fun W g => find_any a u key W (hr.grown g) hz hk
  have RF : Hid (∀ W, w.grownBy W none → Calls Try.prog 11 #[av a u, .string key] W fun e w' => e = .returned (.tuple #[sv (findS a key), .bool (findB a key)]) ∧ W.grownBy w' none) := fun W g => rfind_any a u key W (hr.grown g) hz hk
  have NW : Hid (∀ W, Calls Try.prog 12 #[.int .i64 n] W fun e w' => Res W (newM n) (newE n) e w') := fun W => new_any n W
  have RN : Hid (∀ W, Calls Try.prog 13 #[.int .i64 n] W fun e w' => Res W (newM n) (newE n) e w') := fun W => rnew_any n W
  obtain ⟨W0, hW0⟩ : ∃ W0, W0 = w.alloc (.cells (aa a u) 26) := ⟨_, rfl⟩
  have G0 : Hid (w.grownBy W0 none) := by rw [hW0]; exact World.grownBy_alloc _ _ none
  have CA : Hid (∀ W, W0.grownBy W none → W.rangeAt w.heap.size 0 (ac a u)) := fun W g => by rw [hW0] at g; exact (cs_new g).1
  have HW0 : Hid (W0 = _) := hW0
  clear hW0 hr hz hk
  generalize newM n = M at *
  generalize newE n = E at *
  generalize findS a key = S at *
  generalize findB a key = fb at *
  generalize chk a = cb at *
  go_enter Try.func3, Try.ntmps3
  go_upto_region 1 with fail
  rw [← HW0.out]
  go_upto_region 4 with (first
    | (go_at_call 9; (with_reducible refine (AW.out _).mono ?_); rintro e w1 ⟨rfl, g1⟩)
    | (refine load_a w.heap.size 0 a u rfl (CA.out w1 g1) ?_)
    | (go_at_call 10; (with_reducible refine (FK.out _ (grown_tr G0.out g1)).mono ?_); rintro e w2 ⟨rfl, g2⟩))
  have G3 : Hid (W0.grownBy (w2.alloc (.cells (sa S) 29)) none) := grown_alloc (grown_tr g1 g2) _
  have X3 : Hid (∀ W, (w2.alloc (.cells (sa S) 29)).grownBy W none → W.rangeAt w2.heap.size 0 (sc S)) := fun W g => (box_s g).1
  clear AW g1 g2 FK HW0
  generalize w2.alloc (.cells (sa S) 29) = v3 at *
  generalize w2.heap.size = q7 at *
  go_upto_region 5 with (first
    | (refine load_a w.heap.size 0 a u rfl (CA.out v3 G3.out) ?_)
    | (go_at_call 11; (with_reducible refine (RF.out _ (grown_tr G0.out G3.out)).mono ?_); rintro e w4 ⟨rfl, g4⟩))
  have G4 : Hid (v3.grownBy (w4.alloc (.cells (sa S) 29)) none) := grown_alloc g4 _
  have X4 : Hid (∀ W, (w4.alloc (.cells (sa S) 29)).grownBy W none → W.rangeAt w4.heap.size 0 (sc S)) := fun W g => (box_s g).1
  clear g4 RF
  generalize w4.alloc (.cells (sa S) 29) = v4 at *
  generalize w4.heap.size = q9 at *
  go_upto_region 6 with (go_at_call 12; (with_reducible refine (NW.out _).mono ?_); rintro e w5 ⟨u5, rfl, r5, g5, b5⟩)
  have G5 : Hid (v4.grownBy (w5.alloc (.cells (aa M u5) 26)) none) := grown_alloc g5 _
  have X5 : Hid (∀ W, (w5.alloc (.cells (aa M u5) 26)).grownBy W none → W.rangeAt w5.heap.size 0 (ac M u5)) := fun W g => box_a g
  have R5 : Hid (Rat (w5.alloc (.cells (aa M u5) 26)) M u5) := r5.grown (World.grownBy_alloc _ _ none)
  clear r5 g5 b5 NW
  generalize w5.alloc (.cells (aa M u5) 26) = v5 at *
  generalize w5.heap.size = q11 at *
  go_upto_region 7 with (go_at_call 13; (with_reducible refine (RN.out _).mono ?_); rintro e w6 ⟨u6, rfl, r6, g6, b6⟩)
  have G6 : Hid (v5.grownBy (w6.alloc (.cells (aa M u6) 26)) none) := grown_alloc g6 _
  have X6 : Hid (∀ W, (w6.alloc (.cells (aa M u6) 26)).grownBy W none → W.rangeAt w6.heap.size 0 (ac M u6)) := fun W g => box_a g
  have R6 : Hid (Rat (w6.alloc (.cells (aa M u6) 26)) M u6) := r6.grown (World.grownBy_alloc _ _ none)
  clear r6 g6 b6 RN
  generalize w6.alloc (.cells (aa M u6) 26) = v6 at *
  generalize w6.heap.size = q13 at *
  have GV : Hid (W0.grownBy v6 none) := grown_tr G3.out (grown_tr G4.out (grown_tr G5.out G6.out))
  have KA : Hid (∀ W, v6.grownBy W none → W.rangeAt w.heap.size 0 (ac a u)) := fun W g => CA.out W (grown_tr GV.out g)
  have K3 : Hid (∀ W, v6.grownBy W none → W.rangeAt q7 0 (sc S)) := fun W g => X3.out W (grown_tr G4.out (grown_tr G5.out (grown_tr G6.out g)))
  have K4 : Hid (∀ W, v6.grownBy W none → W.rangeAt q9 0 (sc S)) := fun W g => X4.out W (grown_tr G5.out (grown_tr G6.out g))
  have K5 : Hid (∀ W, v6.grownBy W none → W.rangeAt q11 0 (ac M u5)) := fun W g => X5.out W (grown_tr G6.out g)
  have K6 : Hid (∀ W, v6.grownBy W none → W.rangeAt q13 0 (ac M u6)) := X6
  have CC : Hid (∀ W, v6.grownBy W none → Calls Try.prog 14 #[av a u] W fun e w' => e = .returned (.bool cb) ∧ W.grownBy w' none) := fun W g => CK.out W (grown_tr G0.out (grown_tr GV.out g))
  have RC : Hid (∀ W, v6.grownBy W none → Calls Try.prog 15 #[av a u] W fun e w' => e = .returned (.bool cb) ∧ W.grownBy w' none) := fun W g => RK.out W (grown_tr G0.out (grown_tr GV.out g))
  have SM : Hid (∀ W, v6.grownBy W none → Calls Try.prog 16 #[av M u5, av M u6] W fun e w' => e = .returned (.bool true) ∧ W.grownBy w' none) := fun W g => same_any M u5 u6 W (R5.out.grown (grown_tr G6.out g)) (R6.out.grown g)
  have EQ : ∀ W, (binOp .eql 29 (sv S) (sv S)).run Try.prog W = .ok (.bool true) W := fun W => by
    have := eql_span S S W
    rwa [seq_self] at this
  have FIN : Hid (∀ W, v6.grownBy W none → w.grownBy W none) := fun W g => grown_tr G0.out (grown_tr GV.out g)
  clear CA X3 X4 X5 X6 R5 R6 G0 G3 G4 G5 G6 GV CK RK
  have aA : ∀ y : Gr v6, _ := fun y => cells_a (KA.out y.now y.grown)
  have aC : ∀ y : Gr v6, _ := fun y => cells_s (K3.out y.now y.grown)
  have aD : ∀ y : Gr v6, _ := fun y => cells_s (K4.out y.now y.grown)
  have aE : ∀ y : Gr v6, _ := fun y => cells_a (K5.out y.now y.grown)
  have aF : ∀ y : Gr v6, _ := fun y => cells_a (K6.out y.now y.grown)
  have a0 := fun y : Gr v6 => (aA y).1
  have a1 := fun y : Gr v6 => (aA y).2.1
  have a2 := fun y : Gr v6 => (aA y).2.2.1
  have a3 := fun y : Gr v6 => (aA y).2.2.2.1
  have a4 := fun y : Gr v6 => (aA y).2.2.2.2.1
  have a5 := fun y : Gr v6 => (aA y).2.2.2.2.2.1
  have a6 := fun y : Gr v6 => (aA y).2.2.2.2.2.2.1
  have a7 := fun y : Gr v6 => (aA y).2.2.2.2.2.2.2.1
  have a8 := fun y : Gr v6 => (aA y).2.2.2.2.2.2.2.2.1
  have a9 := fun y : Gr v6 => (aA y).2.2.2.2.2.2.2.2.2.1
  have a10 := fun y : Gr v6 => (aA y).2.2.2.2.2.2.2.2.2.2
  have c0 := fun y : Gr v6 => (aC y).1
  have c1 := fun y : Gr v6 => (aC y).2.1
  have c2 := fun y : Gr v6 => (aC y).2.2.1
  have c3 := fun y : Gr v6 => (aC y).2.2.2.1
  have c4 := fun y : Gr v6 => (aC y).2.2.2.2
  have d0 := fun y : Gr v6 => (aD y).1
  have d1 := fun y : Gr v6 => (aD y).2.1
  have d2 := fun y : Gr v6 => (aD y).2.2.1
  have d3 := fun y : Gr v6 => (aD y).2.2.2.1
  have d4 := fun y : Gr v6 => (aD y).2.2.2.2
  have e0 := fun y : Gr v6 => (aE y).1
  have e1 := fun y : Gr v6 => (aE y).2.1
  have e2 := fun y : Gr v6 => (aE y).2.2.1
  have e3 := fun y : Gr v6 => (aE y).2.2.2.1
  have e4 := fun y : Gr v6 => (aE y).2.2.2.2.1
  have e5 := fun y : Gr v6 => (aE y).2.2.2.2.2.1
  have e6 := fun y : Gr v6 => (aE y).2.2.2.2.2.2.1
  have e7 := fun y : Gr v6 => (aE y).2.2.2.2.2.2.2.1
  have e8 := fun y : Gr v6 => (aE y).2.2.2.2.2.2.2.2.1
  have e9 := fun y : Gr v6 => (aE y).2.2.2.2.2.2.2.2.2.1
  have e10 := fun y : Gr v6 => (aE y).2.2.2.2.2.2.2.2.2.2
  have f0 := fun y : Gr v6 => (aF y).1
  have f1 := fun y : Gr v6 => (aF y).2.1
  have f2 := fun y : Gr v6 => (aF y).2.2.1
  have f3 := fun y : Gr v6 => (aF y).2.2.2.1
  have f4 := fun y : Gr v6 => (aF y).2.2.2.2.1
  have f5 := fun y : Gr v6 => (aF y).2.2.2.2.2.1
  have f6 := fun y : Gr v6 => (aF y).2.2.2.2.2.2.1
  have f7 := fun y : Gr v6 => (aF y).2.2.2.2.2.2.2.1
  have f8 := fun y : Gr v6 => (aF y).2.2.2.2.2.2.2.2.1
  have f9 := fun y : Gr v6 => (aF y).2.2.2.2.2.2.2.2.2.1
  have f10 := fun y : Gr v6 => (aF y).2.2.2.2.2.2.2.2.2.2
  clear aA aC aD aE aF KA K3 K4 K5 K6
  have CC' : ∀ y : Gr v6, _ := fun y => CC.out y.now y.grown
  have RC' : ∀ y : Gr v6, _ := fun y => RC.out y.now y.grown
  have SM' : ∀ y : Gr v6, _ := fun y => SM.out y.now y.grown
  have hne : Nonempty (Gr v6) := ⟨v6, grown_refl _ _⟩
  have FIN' : Hid (∀ y : Gr v6, w.grownBy y.now none) := fun y => FIN.out y.now y.grown
  have hcb : (cb == cb) = true := by simp
  have hfb : (fb == fb) = true := by simp
  have hE : (E == E) = true := by simp
  clear CC RC SM FIN
  refine wp_region_quiet_at (C := fun w' => ∃ y : Gr v6, w' = y.now) (by kernel_rfl) (by kernel_rfl) ⟨⟨_, grown_drewN (grown_refl _ _) 1⟩, rfl⟩ ?_
  repeat (go_big_quiet_step (first
    | (go_at_call 14; refine Gr.call (CC' _))
    | (go_at_call 15; refine Gr.call (RC' _))
    | (go_at_call 16; refine Gr.call (SM' _))))
  refine wpQuiet_nil ?_
  rintro _ ⟨y, rfl⟩
  go_wp2_with fail
  go_ret
  exact ⟨rfl, grown_below (FIN'.out y)⟩
end atlasTells
end Go.Proofs.Ytlolhdijadhklaa
