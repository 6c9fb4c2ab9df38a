/- Sets of numbers as bits: what 'has', 'full', 'holds', 'set', 'number' answer. -/
import Derived.Test.YteiiapnpdfgoaaaDoorKTo
import Derived.Test.YteiiapnpdfgoaaaDoorKMath
import Derived.Laws.Bits64b
import Derived.Lib.IndexBytes
namespace Go.Proofs.YteiiapnpdfgoaaaDoor
open Go.RowKit

theorem and_one (s n : Nat) (hs : s < 18446744073709551616) : (bits BinOp.and IntKind.u64 ((s : Int) / 2 ^ n) 1 == 1) = s.testBit n := by
  have e : ((s : Int) / 2 ^ n) = ((s / 2 ^ n : Nat) : Int) := by simp
  have h := bits_and_u64_nat (s / 2 ^ n) 1 (Nat.lt_of_le_of_lt (Nat.div_le_self _ _) hs) (by omega)
  rw [e, show (1 : Int) = ((1 : Nat) : Int) from rfl, h, Nat.and_one_is_mod, Nat.testBit_eq_decide_div_mod_eq]
  rw [Bool.eq_iff_iff]
  simp
  omega

set_option maxRecDepth 100000 in
theorem has_any (s n : Nat) (hs : s < 18446744073709551616) (hn : n ≤ 64) (w : World) :
    Calls Tryd.prog 56 #[.int .u64 s, .int .i64 n] w fun e w' => e = .returned (.bool (s.testBit n)) ∧ w' = w := by
  go_enter Tryd.func56, Tryd.ntmps56
  go_wp2
  go_ret
  exact ⟨ret_bool (and_one s n hs), rfl⟩

/-- A field's numbers, an item's, as values. -/
abbrev spn (f : Cro.Sp) : Value := .agg #[.int .i64 f.lo, .int .i64 f.hi, .int .i64 f.last]
abbrev itv (i : Cro.It) : Value := .agg #[.int .i64 i.a, .int .i64 i.b, .int .i64 i.s]

theorem full_wrap (a c : Nat) (h1 : c ≤ 62) (h2 : a ≤ c) : IntKind.u64.wrap (IntKind.u64.wrap (2 ^ (c + 1)) - IntKind.u64.wrap (2 ^ a)) = ((2 ^ (c + 1) - 2 ^ a : Nat) : Int) := by
  have hc : (2 : Nat) ^ (c + 1) ≤ 2 ^ 63 := Nat.pow_le_pow_right (by omega) (by omega)
  have ha : (2 : Nat) ^ a ≤ 2 ^ (c + 1) := Nat.pow_le_pow_right (by omega) (by omega)
  have e1 : (2 : Int) ^ (c + 1) = ((2 ^ (c + 1) : Nat) : Int) := by simp
  have e2 : (2 : Int) ^ a = ((2 ^ a : Nat) : Int) := by simp
  rw [e1, e2]
  generalize (2 : Nat) ^ (c + 1) = x at *
  generalize (2 : Nat) ^ a = y at *
  simp only [IntKind.wrap_u64]
  omega
set_option maxRecDepth 100000 in
theorem full_any (f : Cro.Sp) (h1 : f.last ≤ 62) (h2 : f.lo ≤ f.last) (w : World) :
    Calls Tryd.prog 19 #[spn f] w fun e w' => e = .returned (.int .u64 (f.full : Nat)) ∧ w.grownBy w' none := by
  obtain ⟨a, b, c⟩ := f
  go_enter Tryd.func19, Tryd.ntmps19
  go_wp2
  go_region
  go_wp2
  go_ret
  exact ⟨ret_int (full_wrap a c h1 h2), grown_drewN (World.grownBy_alloc w _ none) 1⟩

set_option maxRecDepth 100000 in
theorem holds_any (f : Cro.Sp) (i : Cro.It) (w : World) :
    Calls Tryd.prog 44 #[spn f, itv i] w fun e w' => e = .returned (.bool (f.holdsB i)) ∧ w.grownBy w' none := by
  obtain ⟨a, b, c⟩ := f
  obtain ⟨x, y, z⟩ := i
  go_enter Tryd.func44, Tryd.ntmps44
  go_wp2
  all_goals
    go_ret
    refine ⟨ret_bool ?_, grown_alloc (World.grownBy_alloc w _ none) _⟩
    (simp_all [Cro.Sp.holdsB]) <;> omega

theorem or_bit (x n : Nat) (hx : x < 18446744073709551616) (hn : n < 64) : bits BinOp.or IntKind.u64 (x : Int) (IntKind.u64.wrap (2 ^ n)) = ((x ||| 2 ^ n : Nat) : Int) := by
  have hp : (2 : Nat) ^ n < 2 ^ 64 := Nat.pow_lt_pow_right (by omega) hn
  have e : IntKind.u64.wrap ((2 : Int) ^ n) = ((2 ^ n : Nat) : Int) := by
    rw [show (2 : Int) ^ n = ((2 ^ n : Nat) : Int) by simp, IntKind.wrap_u64]
    generalize (2 : Nat) ^ n = p at *
    omega
  rw [e, bits_or_u64_nat _ _ hx (by omega)]

set_option maxRecDepth 100000 in
set_option maxHeartbeats 400000 in
theorem set_any (f : Cro.Sp) (i : Cro.It) (h1 : f.last < 64) (h2 : f.lo < 64) (hs : 0 < i.s) (hb : i.b ≤ 100000) (hs2 : i.s ≤ 100000) (w : World) :
    Calls Tryd.prog 45 #[spn f, itv i] w fun e w' => e = .returned (.int .u64 (f.set i : Nat)) ∧ w.grownBy w' none := by
  obtain ⟨a, b, c⟩ := f
  obtain ⟨x, y, z⟩ := i
  simp only at h1 h2 hs hb hs2
  have HG : Hid (w.grownBy ((w.alloc (.cells #[.int .i64 a, .int .i64 b, .int .i64 c] 59)).alloc (.cells #[.int .i64 x, .int .i64 y, .int .i64 z] 108)) none) := grown_alloc (World.grownBy_alloc w _ none) _
  have HZ : Hid (∀ k n u v, y + 1 ≤ n + k → Cro.bts ⟨a, b, c⟩ y z k n u = v → v = Cro.bts ⟨a, b, c⟩ y z (y + 1) x 0 → y < n → u = Cro.Sp.set ⟨a, b, c⟩ ⟨x, y, z⟩) := fun k n u v h e1 e2 hn => by
    rw [Cro.bts_end _ _ _ _ _ _ hn] at e1
    rw [e1, e2]
    rfl
  go_enter Tryd.func45, Tryd.ntmps45
  go_wp2
  go_loop [5, 6] (fun s n => ∃ (k : Nat) (u v : Nat), n = .int .i64 u ∧ s = .int .u64 v ∧ v < 18446744073709551616 ∧ y + 1 ≤ u + k ∧ Hid (Cro.bts ⟨a, b, c⟩ y z k u v = Cro.bts ⟨a, b, c⟩ y z (y + 1) x 0)) (fun _ n => (y + 1 - (intOf n).toNat))
  case atStart => exact ⟨y + 1, x, 0, rfl, rfl, by omega, by omega, rfl⟩
  case round =>
    obtain ⟨k, u, v, rfl, rfl, hv, hk, HB⟩ := hrel
    by_cases hle : u ≤ y
    · obtain ⟨k, rfl⟩ : ∃ k', k = k' + 1 := ⟨k - 1, by omega⟩
      have HB' := HB.out
      rw [Cro.bts, if_pos hle] at HB'
      simp only at HB'
      by_cases hlt : c < u
      · rw [if_pos hlt] at HB'
        have HBn : Hid (Cro.bts ⟨a, b, c⟩ y z k (u + z) (v ||| 2 ^ a) = Cro.bts ⟨a, b, c⟩ y z (y + 1) x 0) := HB'
        clear HB HB'
        have he : Hid (bits BinOp.or IntKind.u64 (v : Int) (IntKind.u64.wrap (2 ^ a)) = ((v ||| 2 ^ a : Nat) : Int)) := or_bit v a hv (by omega)
        have hlt2 : v ||| 2 ^ a < 2 ^ 64 := Nat.or_lt_two_pow hv (Nat.pow_lt_pow_right (by omega) (by omega))
        have HLT : Hid (v ||| 2 ^ a < 18446744073709551616) := hlt2
        clear hlt2
        go_wp2
        go_round
        case rel => exact ⟨k, u + z, v ||| 2 ^ a, by go_num, by rw [he.out], HLT.out, by omega, HBn⟩
        case measure => simp [intOf]; omega
      · rw [if_neg hlt] at HB'
        have HBn : Hid (Cro.bts ⟨a, b, c⟩ y z k (u + z) (v ||| 2 ^ u) = Cro.bts ⟨a, b, c⟩ y z (y + 1) x 0) := HB'
        clear HB HB'
        have he : Hid (bits BinOp.or IntKind.u64 (v : Int) (IntKind.u64.wrap (2 ^ u)) = ((v ||| 2 ^ u : Nat) : Int)) := or_bit v u hv (by omega)
        have hlt2 : v ||| 2 ^ u < 2 ^ 64 := Nat.or_lt_two_pow hv (Nat.pow_lt_pow_right (by omega) (by omega))
        have HLT : Hid (v ||| 2 ^ u < 18446744073709551616) := hlt2
        clear hlt2
        go_wp2
        go_round
        case rel => exact ⟨k, u + z, v ||| 2 ^ u, by go_num, by rw [he.out], HLT.out, by omega, HBn⟩
        case measure => simp [intOf]; omega
    · go_wp2
      go_ret
      exact ⟨ret_int (by rw [HZ.out k u v _ hk HB.out rfl (by omega)]), HG.out⟩
end Go.Proofs.YteiiapnpdfgoaaaDoor
