/- The plain mathematics of three statements on sums: bytes with their own sum behind, three lists put together, bytes changed within 32 bits. -/
import Derived.Test.YtmolldednpdicaaMath
namespace Go.Proofs.Ytmolldednpdicaa.Crc

theorem mod_xor_div (s : Nat) (k : Nat) : s = s % 2 ^ k ^^^ 2 ^ k * (s / 2 ^ k) := by
  apply Nat.eq_of_testBit_eq
  intro i
  rw [Nat.testBit_xor, Nat.testBit_two_pow_mul, Nat.testBit_mod_two_pow, Nat.testBit_div_two_pow]
  by_cases h : i < k
  · simp [h, show ¬ k ≤ i by omega]
  · simp [h, show k ≤ i by omega]

/-- Eight shifts later the byte at the bottom is gone, and what lay above it has come down. -/
theorem shN8_split (s : Nat) : shN 8 s = shN 8 (s % 256) ^^^ s / 256 := by
  have h := mod_xor_div s 8
  have e : shN 8 s = shN 8 (s % 2 ^ 8 ^^^ 2 ^ 8 * (s / 2 ^ 8)) := by rw [← h]
  rw [e, shN_xor, shN_pow]

/-- A register into which a number of any many bytes goes, lowest byte first: all at once, or byte by byte. -/
theorem stp_two (r s : Nat) : stp (stp r (s % 256)) (s / 256) = shN 16 (r ^^^ s) := by
  rw [stp_eq, stp_eq, shN_add 8 8]
  congr 1
  rw [shN_xor, shN_xor, shN8_split s, Nat.xor_assoc]

/-- The four bytes of s, lowest first, put into the register r. -/
theorem four (r s : Nat) : stp (stp (stp (stp r (s % 256)) (s / 256 % 256)) (s / 65536 % 256)) (s / 16777216) = shN 32 (r ^^^ s) := by
  have h3 : ∀ q t, stp (stp q (t % 256)) (t / 256) = shN 16 (q ^^^ t) := stp_two
  -- the upper two bytes
  have a : stp (stp (stp (stp r (s % 256)) (s / 256 % 256)) (s / 65536 % 256)) (s / 16777216) = shN 16 (stp (stp r (s % 256)) (s / 256 % 256) ^^^ s / 65536) := by
    rw [← h3]
    congr 1
    omega
  -- the lower two
  have b : stp (stp r (s % 256)) (s / 256 % 256) = shN 16 (r ^^^ s % 65536) := by
    have := h3 r (s % 65536)
    rw [← this]
    congr 1
    · congr 1; omega
    · omega
  rw [a, b]
  refine Eq.trans ?_ (shN_add 16 16 (r ^^^ s)).symm
  refine congrArg (shN 16) ?_
  have e : r ^^^ s = r ^^^ s % 65536 ^^^ 2 ^ 16 * (s / 65536) := by
    rw [Nat.xor_assoc]
    congr 1
    exact mod_xor_div s 16
  rw [e, shN_xor 16 (r ^^^ s % 65536), shN_pow]

def low (s : Nat) : List Int := [((s % 256 : Nat) : Int), ((s / 256 % 256 : Nat) : Int), ((s / 65536 % 256 : Nat) : Int), ((s / 16777216 : Nat) : Int)]
theorem low_bytes (s : Nat) (h : s < 4294967296) : Bytes (low s) := by
  intro x hx
  unfold low at hx
  unfold Byte
  simp only [List.mem_cons, List.not_mem_nil, or_false] at hx
  omega

theorem all_ones : shN 32 4294967295 = inv 558161692 := by decide +kernel

/-- Behind any bytes their own sum, lowest byte first, makes one sum. -/
theorem residue (l : List Int) (hl : Bytes l) : more 0 (l ++ low (more 0 l)) = 558161692 := by
  have hr : run (inv 0) l < 4294967296 := run_lt l hl _ (inv_lt _)
  unfold more
  rw [run_append]
  obtain ⟨r, hr'⟩ : ∃ r, r = run (inv 0) l := ⟨_, rfl⟩
  rw [← hr'] at hr ⊢
  have hi := inv_lt r
  have e : run r (low (inv r)) = shN 32 (r ^^^ inv r) := by
    rw [← four]
    show stp (stp (stp (stp r _) _) _) _ = _
    simp only [Int.toNat_natCast]
  rw [e, inv_xor hr, ← Nat.xor_assoc, Nat.xor_self, Nat.zero_xor, all_ones]
  decide
end Go.Proofs.Ytmolldednpdicaa.Crc
