/- What the document's own 'Print' answers. -/
import Derived.Test.YthjfecniipifhaaDoorKRefText
import Derived.Test.YthjfecniipifhaaDoorKRefCheck
namespace Go.Proofs.YthjfecniipifhaaDoor
open Go.RowKit
set_option linter.unusedVariables false

theorem rText (c : Cro.C) (hr : c.right) (j : Nat) (hj : j < 5) (w : World) : Calls Tryd.prog 27 #[.int .u64 (c.set j), .bool (c.any j)] w fun e w' => e = .returned (str (c.word j)) ∧ w.grownBy w' none := by
  unfold Cro.C.word
  cases ha : c.any j
  · rw [if_neg (by simp)]
    exact rText_runs j (c.set j) hj (right_at hr j hj).2 (right_lt hr j hj) w
  · rw [if_pos rfl]
    exact rText_star (c.set j) w

set_option maxRecDepth 100000 in
set_option maxHeartbeats 1600000 in
theorem rPrint_no (c : Cro.C) (hc : c.ok) (hr : ¬ c.right) (w : World) :
    Calls Tryd.prog 13 #[crv c] w fun e w' => e = .returned (.tuple #[.string ⟨#[]⟩, .int .i64 1]) ∧ w.grownBy w' none := by
  have CK := rCheck c hc
  rw [decide_eq_false hr] at CK
  clear hr
  go_enter Tryd.func13, Tryd.ntmps13
  go_wp2_with (go_at_call 15; go_must (refine (CK _).mono ?_); rintro e w1 ⟨rfl, hg⟩)
  go_ret2
  exact ⟨rfl, grown_more (World.grownBy_alloc w _ none) hg (by simp)⟩

set_option maxRecDepth 100000 in
set_option maxHeartbeats 3200000 in
theorem rPrint_by (c : Cro.C) (U0 U1 U3 : Nat) (s0 s1 s3 : Bool) (W0 W1 W2 W3 W4 u1 u2 u3 u4 u5 u6 u7 u8 : List UInt8)
    (e0 : ((c.mi : Int) == (U0 : Int)) = s0) (e1 : ((c.ho : Int) == (U1 : Int)) = s1) (e3 : ((c.mo : Int) == (U3 : Int)) = s3)
    (CK : ∀ w, Calls Tryd.prog 15 #[crv c] w fun e w' => e = .returned (.bool true) ∧ w.grownBy w' none)
    (F0 : ∀ w, Calls Tryd.prog 28 #[.int .i64 0] w fun e w' => e = .returned (.int .u64 U0) ∧ w' = w)
    (F1 : ∀ w, Calls Tryd.prog 28 #[.int .i64 1] w fun e w' => e = .returned (.int .u64 U1) ∧ w' = w)
    (F3 : ∀ w, Calls Tryd.prog 28 #[.int .i64 3] w fun e w' => e = .returned (.int .u64 U3) ∧ w' = w)
    (T0 : ∀ w, Calls Tryd.prog 27 #[.int .u64 c.mi, .bool s0] w fun e w' => e = .returned (str W0) ∧ w.grownBy w' none)
    (T1 : ∀ w, Calls Tryd.prog 27 #[.int .u64 c.ho, .bool s1] w fun e w' => e = .returned (str W1) ∧ w.grownBy w' none)
    (T2 : ∀ w, Calls Tryd.prog 27 #[.int .u64 c.da, .bool c.ad] w fun e w' => e = .returned (str W2) ∧ w.grownBy w' none)
    (T3 : ∀ w, Calls Tryd.prog 27 #[.int .u64 c.mo, .bool s3] w fun e w' => e = .returned (str W3) ∧ w.grownBy w' none)
    (T4 : ∀ w, Calls Tryd.prog 27 #[.int .u64 c.we, .bool c.aw] w fun e w' => e = .returned (str W4) ∧ w.grownBy w' none)
    (A1 : ∀ w, (Op.stringOp .add ⟨W0.toArray⟩ ⟨#[32]⟩).run Tryd.prog w = .ok (str u1) w) (A2 : ∀ w, (Op.stringOp .add ⟨u1.toArray⟩ ⟨W1.toArray⟩).run Tryd.prog w = .ok (str u2) w)
    (A3 : ∀ w, (Op.stringOp .add ⟨u2.toArray⟩ ⟨#[32]⟩).run Tryd.prog w = .ok (str u3) w) (A4 : ∀ w, (Op.stringOp .add ⟨u3.toArray⟩ ⟨W2.toArray⟩).run Tryd.prog w = .ok (str u4) w)
    (A5 : ∀ w, (Op.stringOp .add ⟨u4.toArray⟩ ⟨#[32]⟩).run Tryd.prog w = .ok (str u5) w) (A6 : ∀ w, (Op.stringOp .add ⟨u5.toArray⟩ ⟨W3.toArray⟩).run Tryd.prog w = .ok (str u6) w)
    (A7 : ∀ w, (Op.stringOp .add ⟨u6.toArray⟩ ⟨#[32]⟩).run Tryd.prog w = .ok (str u7) w) (A8 : ∀ w, (Op.stringOp .add ⟨u7.toArray⟩ ⟨W4.toArray⟩).run Tryd.prog w = .ok (str u8) w)
    (w : World) (hG : Gl w) :
    Calls Tryd.prog 13 #[crv c] w fun e w' => e = .returned (.tuple #[str u8, .int .i64 0]) ∧ w.grownBy w' none := by
  have x0 : ∀ x : KW w w.heap.size c, x.now.cell? ⟨w.heap.size, 0, none⟩ = some (.int .u64 c.mi) := fun x => x.good.c0
  have x1 : ∀ x : KW w w.heap.size c, x.now.cell? ⟨w.heap.size, 1, none⟩ = some (.int .u64 c.ho) := fun x => x.good.c1
  have x2 : ∀ x : KW w w.heap.size c, x.now.cell? ⟨w.heap.size, 2, none⟩ = some (.int .u64 c.da) := fun x => x.good.c2
  have x3 : ∀ x : KW w w.heap.size c, x.now.cell? ⟨w.heap.size, 3, none⟩ = some (.int .u64 c.mo) := fun x => x.good.c3
  have x4 : ∀ x : KW w w.heap.size c, x.now.cell? ⟨w.heap.size, 4, none⟩ = some (.int .u64 c.we) := fun x => x.good.c4
  have x5 : ∀ x : KW w w.heap.size c, x.now.cell? ⟨w.heap.size, 5, none⟩ = some (.bool c.ad) := fun x => x.good.c5
  have x6 : ∀ x : KW w w.heap.size c, x.now.cell? ⟨w.heap.size, 6, none⟩ = some (.bool c.aw) := fun x => x.good.c6
  have same : ∀ {f : FuncId} {args : Array Value} {v : Value}, (∀ w, Calls Tryd.prog f args w fun e w' => e = .returned v ∧ w' = w) → ∀ w, Calls Tryd.prog f args w fun e w' => e = .returned v ∧ w.grownBy w' none := fun h w => (h w).mono fun e w' ⟨he, hw⟩ => ⟨he, by rw [hw]; exact grown_refl _ _⟩
  have G0 := same F0
  have G1 := same F1
  have G3 := same F3
  clear same F0 F1 F3
  go_enter Tryd.func13, Tryd.ntmps13
  go_wp2_with (go_at_call 15; go_must (refine (CK _).mono ?_); rintro e w1 ⟨rfl, hg⟩)
  have C1 : CrAt w1 w.heap.size c := (CrAt.new w c _).kept hg
  have hgw : w.grownBy w1 none := grown_more (World.grownBy_alloc w _ none) hg (by simp)
  have hne : Nonempty (KW w w.heap.size c) := ⟨w1, C1, hG.kept hgw, hgw⟩
  refine wp_region_quiet_at (C := fun w' => ∃ x : KW w w.heap.size c, w' = x.now) (by kernel_rfl) (by kernel_rfl) ⟨⟨_, C1.kept (grown_drewN (grown_refl _ _) 1), (hG.kept hgw).kept (grown_drewN (grown_refl _ _) 1), grown_drewN hgw 1⟩, rfl⟩ ?_
  clear C1 hgw hg
  repeat (go_big_quiet_step (first
    | (go_at_call 28; with_reducible refine KW.call (G0 _))
    | (go_at_call 28; with_reducible refine KW.call (G1 _))
    | (go_at_call 28; with_reducible refine KW.call (G3 _))
    | (go_at_call 27; with_reducible refine KW.call (T0 _))
    | (go_at_call 27; with_reducible refine KW.call (T1 _))
    | (go_at_call 27; with_reducible refine KW.call (T2 _))
    | (go_at_call 27; with_reducible refine KW.call (T3 _))
    | (go_at_call 27; with_reducible refine KW.call (T4 _))))
  refine wpQuiet_nil ?_
  rintro _ ⟨x, rfl⟩
  go_wp2
  go_ret2
  exact ⟨rfl, x.grown⟩
theorem rPrint_yes (c : Cro.C) (hc : c.ok) (hr : c.right) (w : World) (hG : Gl w) :
    Calls Tryd.prog 13 #[crv c] w fun e w' => e = .returned (.tuple #[str c.text, .int .i64 0]) ∧ w.grownBy w' none := by
  have CK := rCheck c hc
  rw [decide_eq_true hr] at CK
  have l0 := word_len c 0
  have l1 := word_len c 1
  have l2 := word_len c 2
  have l3 := word_len c 3
  have l4 := word_len c 4
  have T0 := rText c hr 0 (by omega)
  have T1 := rText c hr 1 (by omega)
  have T2 := rText c hr 2 (by omega)
  have T3 := rText c hr 3 (by omega)
  have T4 := rText c hr 4 (by omega)
  have e : c.text = (((((((c.word 0 ++ [32]) ++ c.word 1) ++ [32]) ++ c.word 2) ++ [32]) ++ c.word 3) ++ [32]) ++ c.word 4 := by
    unfold Cro.C.text
    rw [Cro.join_two, Cro.join_two, Cro.join_two, Cro.join_two, Lib.join_one]
    simp
  rw [e]
  refine rPrint_by c _ _ _ _ _ _ _ _ _ _ _ _ _ _ _ _ _ _ _ rfl rfl rfl CK (rFull 0 (by omega)) (rFull 1 (by omega)) (rFull 3 (by omega)) T0 T1 T2 T3 T4
    (fun w => add_to _ [32] _ ?_ ?_ rfl w) (fun w => add_to _ _ _ ?_ ?_ rfl w) (fun w => add_to _ [32] _ ?_ ?_ rfl w) (fun w => add_to _ _ _ ?_ ?_ rfl w)
    (fun w => add_to _ [32] _ ?_ ?_ rfl w) (fun w => add_to _ _ _ ?_ ?_ rfl w) (fun w => add_to _ [32] _ ?_ ?_ rfl w) (fun w => add_to _ _ _ ?_ ?_ rfl w) w hG
  all_goals first | omega | (simp; omega) | simp
end Go.Proofs.YthjfecniipifhaaDoor
