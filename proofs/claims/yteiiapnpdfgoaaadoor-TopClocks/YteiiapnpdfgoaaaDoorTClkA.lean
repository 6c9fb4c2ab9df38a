/- Once a day: the program's expression; lists of instants held together. -/
import Derived.Test.YteiiapnpdfgoaaaDoorTClkMath
import Derived.Test.YteiiapnpdfgoaaaDoorTShift
namespace Go.Proofs.YteiiapnpdfgoaaaDoor
open Go.RowKit
set_option linter.unusedVariables false

set_option maxRecDepth 100000 in
set_option maxHeartbeats 1600000 in
theorem daily_any (h n : Nat) (hh : h < 24) (hn : n < 60) (w : World) (hG : Gl w) : Calls Tryd.prog 10 #[.int .i64 (h : Int), .int .i64 (n : Int)] w fun e w' => e = .returned (.tuple #[crv (Due.cD h n), .bool true]) ∧ w.grownBy w' none := by
  obtain ⟨A, hA⟩ : ∃ A : Nat, A = 2 ^ h := ⟨_, rfl⟩
  obtain ⟨B, hB⟩ : ∃ B : Nat, B = 2 ^ n := ⟨_, rfl⟩
  have hwA : IntKind.u64.wrap ((2 : Int) ^ h) = (A : Int) := by
    have h1 := (Due.cD_ok_all h hh n hn).2
    have e : ((2 : Int) ^ h) = ((2 ^ h : Nat) : Int) := by simp
    rw [e, hA]
    exact IntWalk.u64_in _ ⟨by omega, by have : (Due.cD h n).ho = 2 ^ h := rfl; omega⟩
  have hwB : IntKind.u64.wrap ((2 : Int) ^ n) = (B : Int) := by
    have h1 := (Due.cD_ok_all h hh n hn).1
    have e : ((2 : Int) ^ n) = ((2 ^ n : Nat) : Int) := by simp
    rw [e, hB]
    exact IntWalk.u64_in _ ⟨by omega, by have : (Due.cD h n).mi = 2 ^ n := rfl; omega⟩
  have hcrv : crv (Due.cD h n) = .agg #[.int .u64 (B : Int), .int .u64 (A : Int), .int .u64 4294967294, .int .u64 8190, .int .u64 127, .bool true, .bool true] := by rw [hA, hB]; rfl
  rw [hcrv]
  have PA : ∀ w, Gl w → Calls Tryd.prog 16 #[.string ⟨#[48, 32, 48, 32, 42, 32, 42, 32, 42]⟩] w fun e w' => e = .returned (.tuple #[.agg #[.int .u64 1, .int .u64 1, .int .u64 4294967294, .int .u64 8190, .int .u64 127, .bool true, .bool true], .int .i64 0, .int .i64 0]) ∧ w.grownBy w' none := fun w hG => by
    have := Parse_any ⟨#[48, 32, 48, 32, 42, 32, 42, 32, 42]⟩ w hG
    rw [show parV (Cro.parse (⟨#[48, 32, 48, 32, 42, 32, 42, 32, 42]⟩ : ByteArray).data.toList) = .tuple #[.agg #[.int .u64 1, .int .u64 1, .int .u64 4294967294, .int .u64 8190, .int .u64 127, .bool true, .bool true], .int .i64 0, .int .i64 0] from by kernel_rfl] at this
    exact this
  have CK : ∀ w, Gl w → Calls Tryd.prog 7 #[.agg #[.int .u64 (B : Int), .int .u64 (A : Int), .int .u64 4294967294, .int .u64 8190, .int .u64 127, .bool true, .bool true]] w fun e w' => e = .returned (.bool true) ∧ w.grownBy w' none := fun w hG => by
    have := Check_any (Due.cD h n) (Due.cD_ok hh hn) w hG
    rw [decide_eq_true (Due.cD_right hh hn)] at this
    rw [← hcrv]
    exact this
  clear hcrv hA hB
  go_enter Tryd.func10, Tryd.ntmps10
  go_upto_region 6 with (go_at_call 16; go_must (refine (PA _ (hG.kept (World.grownBy_alloc w _ none))).mono ?_); rintro e w1 ⟨rfl, hg1⟩; have kc := fun o => grown_drew (grown_alloc hg1 o); have G1 := fun o => hG.kept (grown_more (World.grownBy_alloc w _ none) (kc o) (by simp)); have x0 := fun o => cell_kept (kc o) 0 _ rfl; have f0 := fun o => frozen_kept (kc o) 0; have x1 := fun o => cell_kept (kc o) 1 _ rfl; have f1 := fun o => frozen_kept (kc o) 1; have x2 := fun o => cell_kept (kc o) 2 _ rfl; have f2 := fun o => frozen_kept (kc o) 2; have x3 := fun o => cell_kept (kc o) 3 _ rfl; have f3 := fun o => frozen_kept (kc o) 3; have x4 := fun o => cell_kept (kc o) 4 _ rfl; have f4 := fun o => frozen_kept (kc o) 4; have x5 := fun o => cell_kept (kc o) 5 _ rfl; have f5 := fun o => frozen_kept (kc o) 5; have x6 := fun o => cell_kept (kc o) 6 _ rfl; have f6 := fun o => frozen_kept (kc o) 6)
  go_region_with (go_at_call 7; go_must (refine (CK _ (G1 _)).mono ?_); rintro e w2 ⟨rfl, hg2'⟩; have hg2 := grown_more (grown_drew (grown_refl (w1.alloc _) none)) hg2' (by simp); have kd := grown_more (kc _) hg2' (by simp); have y0 := cell_kept hg2 0 _ rfl; have z0 := cell_kept kd 0 _ rfl; have g0 := frozen_kept kd 0; have y1 := cell_kept hg2 1 _ rfl; have z1 := cell_kept kd 1 _ rfl; have g1 := frozen_kept kd 1; have y2 := cell_kept hg2 2 _ rfl; have z2 := cell_kept kd 2 _ rfl; have g2 := frozen_kept kd 2; have y3 := cell_kept hg2 3 _ rfl; have z3 := cell_kept kd 3 _ rfl; have g3 := frozen_kept kd 3; have y4 := cell_kept hg2 4 _ rfl; have z4 := cell_kept kd 4 _ rfl; have g4 := frozen_kept kd 4; have y5 := cell_kept hg2 5 _ rfl; have z5 := cell_kept kd 5 _ rfl; have g5 := frozen_kept kd 5; have y6 := cell_kept hg2 6 _ rfl; have z6 := cell_kept kd 6 _ rfl; have g6 := frozen_kept kd 6)
  all_goals
    have zr : w2.rangeAt w.heap.size 0 [.int .u64 0, .int .u64 0, .int .u64 0, .int .u64 0, .int .u64 0, .bool false, .bool false] := range_kept kd
    have k2 := grown_more (World.grownBy_alloc w _ none) kd (by simp)
    have R7 := range_set (i := 6) (v := .bool true) (range_set (i := 5) (v := .bool true) (range_set (i := 4) (v := .int .u64 127) (range_set (i := 3) (v := .int .u64 8190) (range_set (i := 2) (v := .int .u64 4294967294) (range_set (i := 1) (v := .int .u64 (A : Int)) (range_set (i := 0) (v := .int .u64 (B : Int)) zr))))))
    have G7 := grown_set_new (grown_set_new (grown_set_new (grown_set_new (grown_set_new (grown_set_new (grown_set_new k2 ⟨w.heap.size, 0, none⟩ (Nat.le_refl _) (.int .u64 (B : Int))) ⟨w.heap.size, 1, none⟩ (Nat.le_refl _) (.int .u64 (A : Int))) ⟨w.heap.size, 2, none⟩ (Nat.le_refl _) (.int .u64 4294967294)) ⟨w.heap.size, 3, none⟩ (Nat.le_refl _) (.int .u64 8190)) ⟨w.heap.size, 4, none⟩ (Nat.le_refl _) (.int .u64 127)) ⟨w.heap.size, 5, none⟩ (Nat.le_refl _) (.bool true)) ⟨w.heap.size, 6, none⟩ (Nat.le_refl _) (.bool true)
    generalize (((((((w2.setCell ⟨w.heap.size, 0, none⟩ (.int .u64 (B : Int))).setCell ⟨w.heap.size, 1, none⟩ (.int .u64 (A : Int))).setCell ⟨w.heap.size, 2, none⟩ (.int .u64 4294967294)).setCell ⟨w.heap.size, 3, none⟩ (.int .u64 8190)).setCell ⟨w.heap.size, 4, none⟩ (.int .u64 127)).setCell ⟨w.heap.size, 5, none⟩ (.bool true)).setCell ⟨w.heap.size, 6, none⟩ (.bool true)) = W at R7 G7 ⊢
    go_wp2
    refine bodyPost_ret (res_row Tryd.results10 rfl R7 Tryd.underlying24 rfl (by kernel_rfl)) rfl ⟨rfl, G7⟩


set_option maxRecDepth 100000 in
set_option maxHeartbeats 800000 in
/-- Two lists that hold the same. -/
theorem longs_same {w : World} {b1 b2 : Nat} {v u : Value} {l : List Int} (hv : OwnI w b1 v l) (hu : OwnI w b2 u l) (hl : l.length ≤ 1000) :
    Calls Tryd.prog 14 #[v, u] w fun e w' => e = .returned (.bool true) ∧ w.grownBy w' none := by
  obtain ⟨a1, c1, rfl⟩ := hv.len
  obtain ⟨a2, c2, rfl⟩ := hu.len
  have CV : Hid (∀ i, i < l.length → ∃ g, a1 = some ⟨g, 0, none⟩ ∧ ∀ W, w.grownBy W none → W.cell? ⟨g, i, none⟩ = some (.int .i64 (l.getD i 0))) := fun i hi => by
    rcases hv.row with ⟨e, _⟩ | ⟨g, cap, e, _, hc⟩
    · rw [e] at hi; simp at hi
    · injection e with e
      exact ⟨g, e, fun W gW => gW.cell (hc i hi) (by simp)⟩
  have CU : Hid (∀ i, i < l.length → ∃ g, a2 = some ⟨g, 0, none⟩ ∧ ∀ W, w.grownBy W none → W.cell? ⟨g, i, none⟩ = some (.int .i64 (l.getD i 0))) := fun i hi => by
    rcases hu.row with ⟨e, _⟩ | ⟨g, cap, e, _, hc⟩
    · rw [e] at hi; simp at hi
    · injection e with e
      exact ⟨g, e, fun W gW => gW.cell (hc i hi) (by simp)⟩
  clear hv hu
  obtain ⟨N, hN⟩ : ∃ N, l.length = N := ⟨_, rfl⟩
  rw [hN] at CV CU hl ⊢
  clear hN
  have nn : ((N : Int) != (N : Int)) = false := by simp
  go_enter Tryd.func14, Tryd.ntmps14
  go_wp2_with fail
  go_loopw [5] (fun i wr => ∃ j : Nat, j ≤ N ∧ i = .int .i64 (j : Int) ∧ Hid (w.grownBy wr none)) (fun i _ => N - (intOf i).toNat)
  case atStart => exact ⟨0, by omega, rfl, grown_refl _ _⟩
  case round =>
    obtain ⟨j, hj, rfl, G⟩ := hrel
    by_cases hlt : j < N
    · obtain ⟨g1, e1, y1⟩ := CV.out j hlt
      obtain ⟨g2, e2, y2⟩ := CU.out j hlt
      subst e1 e2
      have x1 : ∀ q, (wr.drewN q).cell? ⟨g1, j, none⟩ = some (.int .i64 (l.getD j 0)) := fun q => y1 _ (grown_drewN G.out q)
      have x2 : ∀ q, (wr.drewN q).cell? ⟨g2, j, none⟩ = some (.int .i64 (l.getD j 0)) := fun q => y2 _ (grown_drewN G.out q)
      have z1 := y1 wr G.out
      have z2 := y2 wr G.out
      generalize l.getD j 0 = x at *
      have xx : (x != x) = false := by simp
      clear y1 y2
      go_upto_region 6 with fail
      go_quiet (fail)
      go_wp2_with fail
      go_roundw
      case rel => exact ⟨j + 1, by omega, by go_num, by first | exact grown_drewN G.out _ | exact grown_drew G.out⟩
      case measure => simp [intOf]; omega
    · have hd : decide ((j : Int) < (N : Int)) = false := decide_eq_false (by omega)
      go_wp2_with fail
      go_ret
      exact ⟨rfl, G.out⟩
end Go.Proofs.YteiiapnpdfgoaaaDoor
