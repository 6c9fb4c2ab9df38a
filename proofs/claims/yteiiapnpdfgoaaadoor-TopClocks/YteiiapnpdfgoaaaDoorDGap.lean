/- What 'TrailingZeros64', 'gap' answer; what the world must hold. -/
import Derived.Test.YteiiapnpdfgoaaaDoorDLeap
import Derived.Laws.Bits64b
namespace Go.Proofs.YteiiapnpdfgoaaaDoor
open Go.RowKit
set_option linter.unusedVariables false

/-- The library's table of trailing zeros. -/
def Tb (w : World) : Prop := ∀ j, j < 64 → w.cell? ⟨1, j, none⟩ = some (.int .u8 (Lib.deBruijn64tab.getD j 0))
/-- The package-level variables hold. -/
structure Gd (w : World) : Prop where
  gl : Gl w
  tb : Tb w
theorem Gd.kept {w w' : World} (h : Gd w) (g : w.grownBy w' none) : Gd w' := ⟨h.gl.kept g, fun j hj => g.cell (h.tb j hj) (by simp)⟩

theorem tz_key (x a : Nat) (hx : x < 18446744073709551616) (hx0 : x ≠ 0) (hlow : x &&& (18446744073709551616 - x) = a) :
    IntKind.u64.wrap (bits BinOp.and IntKind.u64 (x : Int) (IntKind.u64.wrap (-(x : Int))) * 285870213051353865) / 288230376151711744 = ((a * 285870213051353865 % 18446744073709551616 / 288230376151711744 : Nat) : Int) := by
  have e1 : IntKind.u64.wrap (-(x : Int)) = ((18446744073709551616 - x : Nat) : Int) := by rw [IntKind.wrap_u64]; omega
  rw [e1, bits_and_u64_nat x _ hx (by omega), hlow, IntKind.wrap_u64]
  omega
set_option maxRecDepth 100000 in
set_option maxHeartbeats 1000000 in
theorem tz_core (x k idx : Nat) (w : World) (hx0 : ((x : Int) == 0) = false)
    (key : IntKind.u64.wrap (bits BinOp.and IntKind.u64 (x : Int) (IntKind.u64.wrap (-(x : Int))) * 285870213051353865) / 288230376151711744 = (idx : Int))
    (hi : idx < 64) (hk : k < 64) (hcell : w.cell? ⟨1, idx, none⟩ = some (.int .u8 k)) :
    Calls Tryd.prog 57 #[.int .u64 x] w fun e w' => e = .returned (.int .i64 k) ∧ w' = w := by
  go_enter Tryd.func57, Tryd.ntmps57
  go_wp2_with (simp only [key])
  go_ret
  exact ⟨rfl, rfl⟩
set_option maxRecDepth 100000 in
theorem tz_zero (w : World) : Calls Tryd.prog 57 #[.int .u64 0] w fun e w' => e = .returned (.int .i64 64) ∧ w' = w := by
  go_enter Tryd.func57, Tryd.ntmps57
  go_wp2
  go_ret
  exact ⟨rfl, rfl⟩
theorem tz_any (x : Nat) (hx : x < 18446744073709551616) (w : World) (hT : Tb w) :
    Calls Tryd.prog 57 #[.int .u64 x] w fun e w' => e = .returned (.int .i64 (Lib.ctz 64 x)) ∧ w' = w := by
  by_cases hx0 : x = 0
  · subst hx0
    exact tz_zero w
  · obtain ⟨hlow, hk⟩ := Lib.lowest_bit 64 x hx0 hx
    obtain ⟨hi, htab⟩ := Lib.deBruijn64_at _ hk
    have hcell := hT _ hi
    rw [htab] at hcell
    exact tz_core x _ _ w (by simp; omega) (tz_key x _ hx hx0 hlow) hi hk hcell
set_option maxRecDepth 100000 in
set_option maxHeartbeats 1000000 in
theorem gap_any (s n e : Nat) (hs : s < 18446744073709551616) (hn : n < 64) (he : e ≤ 60) (hne : n ≤ e) (w : World) (hT : Tb w) :
    Calls Tryd.prog 48 #[.int .u64 s, .int .i64 n, .int .i64 e] w fun r w' => r = .returned (.int .i64 (Due.gp s n e : Nat)) ∧ w' = w := by
  have T := tz_any (s / 2 ^ n) (Nat.lt_of_le_of_lt (Nat.div_le_self _ _) hs) w hT
  have hc := Due.ctz_le (s / 2 ^ n) (Nat.lt_of_le_of_lt (Nat.div_le_self _ _) hs)
  have HG : Hid (∀ c : Nat, c = Lib.ctz 64 (s / 2 ^ n) → ((min (n + c) e - n : Nat)) = Due.gp s n e) := fun c hc => by rw [hc]; rfl
  obtain ⟨c, hcc⟩ : ∃ c, c = Lib.ctz 64 (s / 2 ^ n) := ⟨_, rfl⟩
  rw [← hcc] at T hc
  have HGc := HG.out c hcc
  rw [← HGc]
  clear HG HGc hcc hT
  go_enter Tryd.func48, Tryd.ntmps48
  go_wp2_with (go_at_call 57; go_must (refine T.mono ?_); rintro r w1 ⟨rfl, rfl⟩)
  go_ret
  exact ⟨ret_int (by omega), rfl⟩
end Go.Proofs.YteiiapnpdfgoaaaDoor
