/- Noon of each day: when it is due. -/
import Derived.Test.YteiiapnpdfgoaaaDoorDNext
namespace Go.Proofs.YteiiapnpdfgoaaaDoor
open Go.RowKit
set_option linter.unusedVariables false

/-- Noon of each day. -/
def cN : Cro.C := ⟨1, 4096, 4294967294, 8190, 127, true, true⟩
theorem cN_ok : cN.ok := ⟨by decide, by decide, by decide, by decide, by decide⟩
theorem cN_right : cN.right := by decide +kernel
def zB (b : Int) : Zon.Z := ⟨b, 0, ⟨0, 0, 0, 0⟩, ⟨0, 0, 0, 0⟩⟩
theorem zB_at (b t : Int) : (zB b).at t = b := Zon.at_zero rfl t
theorem noon_bits : ∀ n, n < 60 → Nat.testBit 1 n = decide (n = 0) := by decide +kernel
theorem noon_hour : ∀ n, n < 24 → Nat.testBit 4096 n = decide (n = 12) := by decide +kernel
theorem noon_month : ∀ n, n < 13 → 1 ≤ n → Nat.testBit 8190 n = true := by decide +kernel
theorem noon_day : ∀ n, n < 32 → 1 ≤ n → Nat.testBit 4294967294 n = true := by decide +kernel
theorem noon_week : ∀ n, n < 7 → Nat.testBit 127 n = true := by decide +kernel
theorem noon_fit (L : Int) (h0 : 0 ≤ L) (h1 : L ≤ 226157759) : Due.Fit cN L ↔ L % 1440 = 720 := by
  obtain ⟨y, m, d, hA⟩ := Civ.At.is (n := L / 1440) (by omega) (by omega)
  rw [Due.fit_iff cN_right hA]
  have m1 := hA.m1
  have m2 := hA.m2
  have d1 := hA.d1
  have d2 := hA.d2
  have d3 := Civ.dim_bd y m
  have hw : (Civ.wk (L / 1440)).toNat < 7 := by unfold Civ.wk; omega
  have hd : cN.day m.toNat d.toNat (Civ.wk (L / 1440)).toNat = true := by
    unfold Cro.C.day cN
    simp only
    rw [noon_month _ (by omega) (by omega), noon_day _ (by omega) (by omega), noon_week _ hw]
    rfl
  rw [hd, show cN.mi = 1 from rfl, show cN.ho = 4096 from rfl, noon_bits _ (by omega), noon_hour _ (by omega)]
  simp
  omega
theorem noon_P (b : Int) (P : Nat → Bool) (hP : Due.IsP cN (zB b) P) (t : Nat) (h0 : 0 ≤ (t : Int) + b) (h1 : (t : Int) + b ≤ 226157759) : P t = decide (((t : Int) + b) % 1440 = 720) := by
  rw [Bool.eq_iff_iff, hP t, zB_at, noon_fit _ h0 h1, decide_eq_true_iff]
theorem noon_next (P : Nat → Bool) (hP : Due.IsP cN (zB 60) P) : Due.nxV P cN (zB 60) (-1) = (660, 0) := by
  unfold Due.nxV
  rw [if_neg (fun h => h cN_right), if_neg (fun h => h (by decide)), if_neg (by decide)]
  have : Due.nx P 226157759 ((-1 : Int) + 1).toNat = some 660 := Due.nx_is (by decide) (by decide) (by rw [noon_P 60 P hP 660 (by decide) (by decide)]; decide) (fun u h1 h2 => by rw [noon_P 60 P hP u (by omega) (by omega)]; simp; omega)
  rw [this]
  rfl
theorem zero_next (P : Nat → Bool) (z : Zon.Z) (a : Int) : Due.nxV P Cro.zero z a = (0, 1) := by
  unfold Due.nxV
  rw [if_pos (by decide +kernel)]
end Go.Proofs.YteiiapnpdfgoaaaDoor
