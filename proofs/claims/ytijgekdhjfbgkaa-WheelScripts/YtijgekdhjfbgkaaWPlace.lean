/- In which place an instant lies. -/
import Derived.Test.YtijgekdhjfbgkaaWLess
import Derived.Test.YtijgekdhjfbgkaaWShelf
import Derived.Lib.ItoaNum
namespace Go.Proofs.Ytijgekdhjfbgkaa
open Go.RowKit Whl
set_option linter.unusedVariables false

theorem xor_nat (n t : Nat) (hn : n ≤ 226157759) (ht : t ≤ 226157759) : bits BinOp.xor IntKind.i64 (n : Int) (t : Int) = ((n ^^^ t : Nat) : Int) ∧ n ^^^ t < 268435456 := by
  have h : n ^^^ t < 2 ^ 28 := Nat.xor_lt_two_pow (by omega) (by omega)
  refine ⟨?_, h⟩
  have h1 : (BitVec.ofInt 64 (n : Int)).toNat = n := by rw [BitVec.ofInt_natCast, BitVec.toNat_ofNat]; exact Nat.mod_eq_of_lt (by omega)
  have h2 : (BitVec.ofInt 64 (t : Int)).toNat = t := by rw [BitVec.ofInt_natCast, BitVec.toNat_ofNat]; exact Nat.mod_eq_of_lt (by omega)
  show IntKind.i64.wrap ((BitVec.ofInt 64 (n : Int) ^^^ BitVec.ofInt 64 (t : Int)).toNat : Int) = _
  rw [BitVec.toNat_xor, h1, h2, IntWalk.i64_left]
  exact IntWalk.wrap64_in _ ⟨by omega, by omega⟩
theorem len_lt {x k : Nat} (hx : x < 268435456) (hk : x < 2 ^ k) (h64 : k ≤ 64) : Lib.bitLen x ≤ k := Lib.bitLen_le x k h64 hk
theorem len_ge {x k : Nat} (hx : x < 268435456) (hk : 2 ^ k ≤ x) : k + 1 ≤ Lib.bitLen x := by
  have h0 : x ≠ 0 := by have := Nat.two_pow_pos k; omega
  have := (Lib.bitLenAux_bounds 64 x (by omega) h0).2.2
  rcases Nat.lt_or_ge (Lib.bitLen x) (k + 1) with c | c
  · have h2 : 2 ^ Lib.bitLen x ≤ 2 ^ k := Nat.pow_le_pow_right (by omega) (by omega)
    have h3 : x < 2 ^ Lib.bitLen x := this
    omega
  · exact c
set_option maxRecDepth 100000 in
set_option maxHeartbeats 800000 in
/-- 'placeOf', where the ring is known. -/
theorem place_ring (n t : Nat) (hn : n ≤ 226157759) (ht : t ≤ 226157759) (w : World) (L r : Nat) (hL : Lib.bitLen (n ^^^ t) = L) (h1 : L ≤ 28) (hr : ((max ((L : Int) - 1) 0) / 6) = r) (hr3 : r < 3) (q : Nat) (hq : (q : Int) = r * 64 + t / 2 ^ (r * 6) % 64) :
    Calls Try.prog 21 #[.int .i64 n, .int .i64 t] w fun e w' => e = .returned (.int .i64 q) ∧ w' = w := by
  obtain ⟨hx, hx2⟩ := xor_nat n t hn ht
  have BL : ∀ w, Calls Try.prog 26 #[.int .u64 (IntKind.u64.wrap (bits BinOp.xor IntKind.i64 (n : Int) (t : Int)))] w fun e w' => e = .returned (.int .i64 L) ∧ w' = w := fun w => by
    have e : IntKind.u64.wrap (bits BinOp.xor IntKind.i64 (n : Int) (t : Int)) = ((n ^^^ t : Nat) : Int) := by rw [hx]; exact IntWalk.u64_in _ ⟨by omega, by omega⟩
    have := Any.bits_Len64 Try.lenL ((n ^^^ t : Nat) : Int) w (by omega) (by omega)
    rw [Int.toNat_natCast, hL] at this
    rw [e]
    exact this
  clear hx hL
  go_enter Try.func21, Try.ntmps21
  go_wp2_with (go_at_call 26; (with_reducible refine (BL _).mono ?_); rintro e w1 ⟨rfl, rfl⟩)
  go_ret
  refine ⟨ret_int ?_, rfl⟩
  have e1 : ((t : Int) / 2 ^ (r * 6)).tmod 64 = (t : Int) / 2 ^ (r * 6) % 64 := Int.tmod_eq_emod_of_nonneg (Int.ediv_nonneg (by omega) (by exact Int.le_of_lt (Int.pow_pos (by omega))))
  rw [e1, ← hq]
  have : (q : Int) < 1000 := by have := Int.emod_lt_of_pos ((t : Int) / 2 ^ (r * 6)) (show (0 : Int) < 64 by omega); omega
  exact IntWalk.wrap64_in _ ⟨by omega, by omega⟩
set_option maxRecDepth 100000 in
set_option maxHeartbeats 800000 in
/-- 'placeOf', beyond the rings. -/
theorem place_far (n t : Nat) (hn : n ≤ 226157759) (ht : t ≤ 226157759) (w : World) (L : Nat) (hL : Lib.bitLen (n ^^^ t) = L) (h1 : L ≤ 28) (h2 : 19 ≤ L) :
    Calls Try.prog 21 #[.int .i64 n, .int .i64 t] w fun e w' => e = .returned (.int .i64 192) ∧ w' = w := by
  obtain ⟨hx, hx2⟩ := xor_nat n t hn ht
  have BL : ∀ w, Calls Try.prog 26 #[.int .u64 (IntKind.u64.wrap (bits BinOp.xor IntKind.i64 (n : Int) (t : Int)))] w fun e w' => e = .returned (.int .i64 L) ∧ w' = w := fun w => by
    have e : IntKind.u64.wrap (bits BinOp.xor IntKind.i64 (n : Int) (t : Int)) = ((n ^^^ t : Nat) : Int) := by rw [hx]; exact IntWalk.u64_in _ ⟨by omega, by omega⟩
    have := Any.bits_Len64 Try.lenL ((n ^^^ t : Nat) : Int) w (by omega) (by omega)
    rw [Int.toNat_natCast, hL] at this
    rw [e]
    exact this
  clear hx hL
  go_enter Try.func21, Try.ntmps21
  go_wp2_with (go_at_call 26; (with_reducible refine (BL _).mono ?_); rintro e w1 ⟨rfl, rfl⟩)
  go_ret
  exact ⟨rfl, rfl⟩
theorem place_any (n t : Nat) (hn : n ≤ 226157759) (ht : t ≤ 226157759) (w : World) : Calls Try.prog 21 #[.int .i64 n, .int .i64 t] w fun e w' => e = .returned (.int .i64 (plc n t : Nat)) ∧ w' = w := by
  have hx := (xor_nat n t hn ht).2
  have e6 := @xor_lt n t 6
  have e12 := @xor_lt n t 12
  have e18 := @xor_lt n t 18
  simp only [show (2 : Nat) ^ 6 = 64 from rfl, show (2 : Nat) ^ 12 = 4096 from rfl, show (2 : Nat) ^ 18 = 262144 from rfl] at e6 e12 e18
  have l28 := len_lt (k := 28) hx (by omega) (by omega)
  by_cases h6 : n ^^^ t < 64
  · have l6 := len_lt (k := 6) hx (by omega) (by omega)
    have : plc n t = t % 64 := by unfold plc; rw [if_pos (e6.1 (by omega))]
    rw [this]
    exact place_ring n t hn ht w _ 0 rfl l28 (by omega) (by omega) _ (by simp)
  · have g6 := len_ge (k := 6) hx (by omega)
    have n6 : ¬ n / 64 = t / 64 := fun h => by have := e6.2 h; omega
    by_cases h12 : n ^^^ t < 4096
    · have l6 := len_lt (k := 12) hx (by omega) (by omega)
      have : plc n t = 64 + t / 64 % 64 := by unfold plc; rw [if_neg n6, if_pos (e12.1 (by omega))]
      rw [this]
      exact place_ring n t hn ht w _ 1 rfl l28 (by omega) (by omega) _ (by simp)
    · have g12 := len_ge (k := 12) hx (by omega)
      have n12 : ¬ n / 4096 = t / 4096 := fun h => by have := e12.2 h; omega
      by_cases h18 : n ^^^ t < 262144
      · have l6 := len_lt (k := 18) hx (by omega) (by omega)
        have : plc n t = 128 + t / 4096 % 64 := by unfold plc; rw [if_neg n6, if_neg n12, if_pos (e18.1 (by omega))]
        rw [this]
        exact place_ring n t hn ht w _ 2 rfl l28 (by omega) (by omega) _ (by simp)
      · have g18 := len_ge (k := 18) hx (by omega)
        have n18 : ¬ n / 262144 = t / 262144 := fun h => by have := e18.2 h; omega
        have : plc n t = 192 := by unfold plc; rw [if_neg n6, if_neg n12, if_neg n18]
        rw [this]
        exact place_far n t hn ht w _ rfl l28 (by omega)
end Go.Proofs.Ytijgekdhjfbgkaa
