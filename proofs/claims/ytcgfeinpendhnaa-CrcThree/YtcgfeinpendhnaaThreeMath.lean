/- The plain mathematics of three lists put together by exclusive or. -/
import Derived.Test.YtcgfeinpendhnaaTurnedMath
namespace Go.Proofs.Ytcgfeinpendhnaa.Crc

/-- The first k places of three lists, put together by exclusive or. -/
def mix (a b c : List Int) (k : Nat) : List Int := (List.range k).map fun i => (((a.getD i 0).toNat ^^^ (b.getD i 0).toNat ^^^ (c.getD i 0).toNat : Nat) : Int)
theorem mix_length (a b c : List Int) (k : Nat) : (mix a b c k).length = k := by simp [mix]
theorem mix_succ (a b c : List Int) (k : Nat) : mix a b c (k + 1) = mix a b c k ++ [(((a.getD k 0).toNat ^^^ (b.getD k 0).toNat ^^^ (c.getD k 0).toNat : Nat) : Int)] := by
  simp [mix, List.range_succ]
theorem mix_bytes {a b c : List Int} (ha : Bytes a) (hb : Bytes b) (hc : Bytes c) (k : Nat) : Bytes (mix a b c k) := by
  intro x hx
  unfold mix at hx
  obtain ⟨i, _, rfl⟩ := List.mem_map.mp hx
  exact byte_nat (xor_lt 8 (xor_lt 8 (ha.getD i) (hb.getD i)) (hc.getD i))

theorem take_snoc {l : List Int} (hl : Bytes l) {k : Nat} (hk : k < l.length) : l.take (k + 1) = l.take k ++ [((l.getD k 0).toNat : Int)] := by
  rw [List.take_succ_eq_append_getElem hk]
  have h := hl l[k] (List.getElem_mem hk)
  unfold Byte at h
  have e : l.getD k 0 = l[k] := by simp [List.getD, hk]
  rw [e, Int.toNat_of_nonneg h.1]

theorem run_three {a b c : List Int} (ha : Bytes a) (hb : Bytes b) (hc : Bytes c) (r1 r2 r3 : Nat) (k : Nat) (h1 : k ≤ a.length) (h2 : k ≤ b.length) (h3 : k ≤ c.length) :
    run (r1 ^^^ r2 ^^^ r3) (mix a b c k) = run r1 (a.take k) ^^^ run r2 (b.take k) ^^^ run r3 (c.take k) := by
  induction k with
  | zero => simp [mix, run_nil]
  | succ k ih =>
    rw [mix_succ, take_snoc ha (by omega), take_snoc hb (by omega), take_snoc hc (by omega), run_snoc, run_snoc, run_snoc, run_snoc, ih (by omega) (by omega) (by omega)]
    simp only [Int.toNat_natCast]
    rw [stp_xor, stp_xor]

theorem three {a b c : List Int} (ha : Bytes a) (hb : Bytes b) (hc : Bytes c) (k : Nat) (h1 : k ≤ a.length) (h2 : k ≤ b.length) (h3 : k ≤ c.length) :
    more 0 (mix a b c k) = more 0 (a.take k) ^^^ more 0 (b.take k) ^^^ more 0 (c.take k) := by
  have e : inv 0 = inv 0 ^^^ inv 0 ^^^ inv 0 := by decide
  have h := run_three ha hb hc (inv 0) (inv 0) (inv 0) k h1 h2 h3
  rw [← e] at h
  have l0 := run_lt (mix a b c k) (mix_bytes ha hb hc k) (inv 0) (inv_lt _)
  have la := run_lt (a.take k) (ha.take k) (inv 0) (inv_lt _)
  have lb := run_lt (b.take k) (hb.take k) (inv 0) (inv_lt _)
  have lc := run_lt (c.take k) (hc.take k) (inv 0) (inv_lt _)
  unfold more
  rw [inv_xor l0, inv_xor la, inv_xor lb, inv_xor lc, h]
  generalize run (inv 0) (a.take k) = x
  generalize run (inv 0) (b.take k) = y
  generalize run (inv 0) (c.take k) = z
  apply Nat.eq_of_testBit_eq
  intro i
  simp only [Nat.testBit_xor]
  cases x.testBit i <;> cases y.testBit i <;> cases z.testBit i <;> cases Nat.testBit 4294967295 i <;> rfl
end Go.Proofs.Ytcgfeinpendhnaa.Crc
