/- What 'awake' answers. -/
import Derived.Test.YthjfecniipifhaaDoorKFive
import Derived.Test.YthjfecniipifhaaDoorKFits
import Derived.Test.YthjfecniipifhaaDoorKText2
namespace Go.Proofs.YthjfecniipifhaaDoor
open Go.RowKit
set_option linter.unusedVariables false

/-- '0 12 * * 1-5'. -/
def cA : Cro.C := ⟨1, 4096, 4294967294, 8190, 62, true, false⟩
theorem cA_ok : cA.ok := ⟨by decide, by decide, by decide, by decide, by decide⟩
theorem parse_A : parV (Cro.parse [48, 32, 49, 50, 32, 42, 32, 42, 32, 49, 45, 53]) = .tuple #[crv cA, .int .i64 0, .int .i64 0] := by kernel_rfl
theorem parse_B : parV (Cro.parse [54, 48, 32, 42, 32, 42, 32, 42, 32, 42]) = .tuple #[crv Cro.zero, .int .i64 0, .int .i64 51] := by kernel_rfl
theorem print_A : prtV (Cro.prt cA) = .tuple #[str [48, 32, 49, 50, 32, 42, 32, 42, 32, 49, 45, 53], .int .i64 0] := by kernel_rfl
theorem fits_A : cA.fits 2024 3 29 12 0 5 = true := by decide +kernel

set_option maxRecDepth 100000 in
set_option maxHeartbeats 1600000 in
theorem awake_any (w : World) (hG : Gl w) : Calls Tryd.prog 9 #[] w fun e w' => e = .returned (.bool true) ∧ w.grownBy w' none := by
  have PA : ∀ w, Gl w → Calls Tryd.prog 10 #[.string ⟨#[48, 32, 49, 50, 32, 42, 32, 42, 32, 49, 45, 53]⟩] w fun e w' => e = .returned (.tuple #[.agg #[.int .u64 1, .int .u64 4096, .int .u64 4294967294, .int .u64 8190, .int .u64 62, .bool true, .bool false], .int .i64 0, .int .i64 0]) ∧ w.grownBy w' none := fun w hG => by
    have := Parse_any ⟨#[48, 32, 49, 50, 32, 42, 32, 42, 32, 49, 45, 53]⟩ w hG
    rw [show parV (Cro.parse (⟨#[48, 32, 49, 50, 32, 42, 32, 42, 32, 49, 45, 53]⟩ : ByteArray).data.toList) = _ from parse_A] at this
    exact this
  have PB : ∀ w, Gl w → Calls Tryd.prog 10 #[.string ⟨#[54, 48, 32, 42, 32, 42, 32, 42, 32, 42]⟩] w fun e w' => e = .returned (.tuple #[.agg #[.int .u64 0, .int .u64 0, .int .u64 0, .int .u64 0, .int .u64 0, .bool false, .bool false], .int .i64 0, .int .i64 51]) ∧ w.grownBy w' none := fun w hG => by
    have := Parse_any ⟨#[54, 48, 32, 42, 32, 42, 32, 42, 32, 42]⟩ w hG
    rw [show parV (Cro.parse (⟨#[54, 48, 32, 42, 32, 42, 32, 42, 32, 42]⟩ : ByteArray).data.toList) = _ from parse_B] at this
    exact this
  have PR : ∀ w, Gl w → Calls Tryd.prog 12 #[.agg #[.int .u64 1, .int .u64 4096, .int .u64 4294967294, .int .u64 8190, .int .u64 62, .bool true, .bool false]] w fun e w' => e = .returned (.tuple #[.string ⟨#[48, 32, 49, 50, 32, 42, 32, 42, 32, 49, 45, 53]⟩, .int .i64 0]) ∧ w.grownBy w' none := fun w hG => by
    have := Print_any cA cA_ok w hG
    rw [print_A] at this
    exact this
  have FT : ∀ w, Gl w → Calls Tryd.prog 16 #[.agg #[.int .u64 1, .int .u64 4096, .int .u64 4294967294, .int .u64 8190, .int .u64 62, .bool true, .bool false], .agg #[.int .i64 2024, .int .i64 3, .int .i64 29, .int .i64 12, .int .i64 0, .int .i64 5]] w fun e w' => e = .returned (.bool true) ∧ w.grownBy w' none := fun w hG => by
    have := Fits_any cA cA_ok 2024 3 29 12 0 5 w hG
    rw [fits_A] at this
    exact this
  go_enter Tryd.func9, Tryd.ntmps9
  go_wp2_with (first
    | (go_at_call 10; with_reducible refine (PA _ hG).mono ?_; rintro e w1 ⟨rfl, hg1⟩; have G1 := fun o => (hG.kept hg1).kept (World.grownBy_alloc w1 o none))
    | (go_at_call 10; with_reducible refine (PB _ (G1 _)).mono ?_; rintro e w2 ⟨rfl, hg2⟩; have G2 := fun o => ((G1 _).kept hg2).kept (World.grownBy_alloc w2 o none); have K2 := fun o => grown_more hg2 (World.grownBy_alloc w2 o none) (by simp); have c0 := fun o => cell_kept (K2 o) 0 _ rfl; have c1 := fun o => cell_kept (K2 o) 1 _ rfl; have c2 := fun o => cell_kept (K2 o) 2 _ rfl; have c3 := fun o => cell_kept (K2 o) 3 _ rfl; have c4 := fun o => cell_kept (K2 o) 4 _ rfl; have c5 := fun o => cell_kept (K2 o) 5 _ rfl; have c6 := fun o => cell_kept (K2 o) 6 _ rfl)
    | (go_at_call 12; go_must (refine (PR _ (G2 _)).mono ?_); rintro e w3 ⟨rfl, hg3⟩; have G3 := (G2 _).kept hg3; have K3 := grown_more (K2 _) hg3 (by simp); have e0 := cell_kept K3 0 _ rfl; have e1 := cell_kept K3 1 _ rfl; have e2 := cell_kept K3 2 _ rfl; have e3 := cell_kept K3 3 _ rfl; have e4 := cell_kept K3 4 _ rfl; have e5 := cell_kept K3 5 _ rfl; have e6 := cell_kept K3 6 _ rfl)
    | (go_at_call 16; go_must (refine (FT _ G3).mono ?_); rintro e w4 ⟨rfl, hg4⟩))
  go_ret
  exact ⟨rfl, grown_more (grown_alloc hg1 _) (grown_more K3 hg4 (by simp)) (by simp)⟩
end Go.Proofs.YthjfecniipifhaaDoor
