/- The plain mathematics of bytes that are changed within 32 bits: they have another sum. -/
import Derived.Test.YtmolldednpdicaaLaws
namespace Go.Proofs.Ytmolldednpdicaa.Crc

theorem sh1_eq_zero {x : Nat} (h : x < 4294967296) (e : sh1 x = 0) : x = 0 := by
  unfold sh1 at e
  split at e
  · have : x / 2 = poly := by
      have := congrArg (· ^^^ poly) e
      simpa [Nat.xor_assoc] using this
    unfold poly at this
    omega
  · omega
theorem shN_eq_zero {k x : Nat} (h : x < 4294967296) (e : shN k x = 0) : x = 0 := by
  induction k with
  | zero => exact e
  | succ k ih => exact ih (sh1_eq_zero (shN_lt k h) e)
theorem xor_eq_zero {a b : Nat} (h : a ^^^ b = 0) : a = b := by
  have := congrArg (· ^^^ b) h
  simpa [Nat.xor_assoc] using this
theorem shN_inj {k a b : Nat} (ha : a < 4294967296) (hb : b < 4294967296) (e : shN k a = shN k b) : a = b := by
  refine xor_eq_zero (shN_eq_zero (k := k) (xor_lt 32 ha hb) ?_)
  rw [shN_xor, e, Nat.xor_self]
theorem stp_inj {a b x : Nat} (ha : a < 4294967296) (hb : b < 4294967296) (hx : x < 256) (e : stp a x = stp b x) : a = b := by
  rw [stp_eq, stp_eq] at e
  have h := shN_inj (xor_lt 32 ha (by omega)) (xor_lt 32 hb (by omega)) e
  have := congrArg (· ^^^ x) h
  simpa [Nat.xor_assoc] using this
theorem run_inj {l : List Int} (hl : Bytes l) {a b : Nat} (ha : a < 4294967296) (hb : b < 4294967296) (e : run a l = run b l) : a = b := by
  induction l generalizing a b with
  | nil => exact e
  | cons x l ih =>
    have hx := hl.head
    unfold Byte at hx
    rw [run_cons, run_cons] at e
    exact stp_inj ha hb (by omega) (ih hl.tail (stp_lt ha (by omega)) (stp_lt hb (by omega)) e)

/-- Five bytes of T, lowest first, put into an empty register. -/
theorem five (T : Nat) : stp (stp (stp (stp (stp 0 (T % 256)) (T / 256 % 256)) (T / 65536 % 256)) (T / 16777216 % 256)) (T / 4294967296) = shN 40 T := by
  have h := four 0 (T % 4294967296)
  rw [show T % 4294967296 % 256 = T % 256 by omega, show T % 4294967296 / 256 % 256 = T / 256 % 256 by omega, show T % 4294967296 / 65536 % 256 = T / 65536 % 256 by omega,
    show T % 4294967296 / 16777216 = T / 16777216 % 256 by omega, Nat.zero_xor] at h
  rw [h, stp_eq]
  have e : T = T % 4294967296 ^^^ 4294967296 * (T / 4294967296) := mod_xor_div T 32
  have e2 : shN 32 T = shN 32 (T % 4294967296) ^^^ T / 4294967296 := by
    have p : shN 32 (4294967296 * (T / 4294967296)) = T / 4294967296 := shN_pow 32 (T / 4294967296)
    rw [show shN 32 T = shN 32 (T % 4294967296 ^^^ 4294967296 * (T / 4294967296)) from congrArg (shN 32) e, shN_xor, p]
  rw [← e2]
  exact (shN_add 8 32 T).symm

/-- Bits that were moved up by less than 8 places, shifted by 40: not nought. -/
theorem turn_ne {bits s : Nat} (hb : bits < 4294967296) (h0 : bits ≠ 0) (hs : s < 8) : shN 40 (bits * 2 ^ s) ≠ 0 := by
  intro e
  have h : shN 40 (bits * 2 ^ s) = shN (40 - s) bits := by
    have := shN_add (40 - s) s (bits * 2 ^ s)
    rw [show 40 - s + s = 40 by omega] at this
    rw [this, Nat.mul_comm, shN_pow]
  rw [h] at e
  exact h0 (shN_eq_zero hb e)

/-- The bytes l with the k lowest bytes of T put, by exclusive or, to the k bytes from place p on. -/
def tw (l : List Int) (p T : Nat) : Nat → List Int
  | 0 => l
  | k + 1 => (tw l p T k).set (p + k) ((((tw l p T k).getD (p + k) 0).toNat ^^^ (T / 2 ^ (8 * k) % 256) : Nat) : Int)
theorem tw_length (l : List Int) (p T k : Nat) : (tw l p T k).length = l.length := by
  induction k with
  | zero => rfl
  | succ k ih => simp [tw, ih]
theorem byte_nat {n : Nat} (h : n < 256) : Byte (n : Int) := by unfold Byte; omega
theorem Bytes.getD {l : List Int} (h : Bytes l) (i : Nat) : (l.getD i 0).toNat < 256 := by
  by_cases hi : i < l.length
  · have := h l[i] (List.getElem_mem hi)
    unfold Byte at this
    simp [hi]
    omega
  · simp [List.getD, hi]
theorem Bytes.nonneg {l : List Int} (h : Bytes l) (i : Nat) : 0 ≤ l.getD i 0 := by
  by_cases hi : i < l.length
  · have := h l[i] (List.getElem_mem hi)
    unfold Byte at this
    simp [hi]
    omega
  · simp [List.getD, hi]
theorem Bytes.set {l : List Int} (h : Bytes l) (i n : Nat) (hn : n < 256) : Bytes (l.set i (n : Int)) := fun x hx => by
  rcases List.mem_or_eq_of_mem_set hx with h1 | h1
  · exact h x h1
  · subst h1; exact byte_nat hn
theorem tw_bytes {l : List Int} (h : Bytes l) (p T k : Nat) : Bytes (tw l p T k) := by
  induction k with
  | zero => exact h
  | succ k ih => exact ih.set _ _ (xor_lt 8 (ih.getD _) (by omega))

theorem five_of (l : List Int) (p : Nat) (h : p + 5 ≤ l.length) : ∃ A m0 m1 m2 m3 m4 B, l = A ++ m0 :: m1 :: m2 :: m3 :: m4 :: B ∧ A.length = p := by
  refine ⟨l.take p, l[p], l[p + 1], l[p + 2], l[p + 3], l[p + 4], l.drop (p + 5), ?_, by simp; omega⟩
  rw [← List.drop_eq_getElem_cons (i := p + 4), ← List.drop_eq_getElem_cons (i := p + 3), ← List.drop_eq_getElem_cons (i := p + 2), ← List.drop_eq_getElem_cons (i := p + 1), ← List.drop_eq_getElem_cons (i := p), List.take_append_drop]

theorem tw_five (A B : List Int) (m0 m1 m2 m3 m4 : Int) (p T : Nat) (hp : A.length = p) :
    tw (A ++ m0 :: m1 :: m2 :: m3 :: m4 :: B) p T 5 = A ++ ((m0.toNat ^^^ (T % 256) : Nat) : Int) :: ((m1.toNat ^^^ (T / 256 % 256) : Nat) : Int) :: ((m2.toNat ^^^ (T / 65536 % 256) : Nat) : Int) ::
      ((m3.toNat ^^^ (T / 16777216 % 256) : Nat) : Int) :: ((m4.toNat ^^^ (T / 4294967296 % 256) : Nat) : Int) :: B := by
  subst hp
  simp [tw]

theorem toNat_byte {m : Int} (h : Byte m) : m.toNat < 256 := by unfold Byte at h; omega

/-- Bytes that are changed within 32 bits in a row have another sum. -/
theorem turned (l : List Int) (hl : Bytes l) (p bits s : Nat) (h : p + 5 ≤ l.length) (hb : bits < 4294967296) (h0 : bits ≠ 0) (hs : s < 8) :
    more 0 (tw l p (bits * 2 ^ s) 5) ≠ more 0 l := by
  obtain ⟨A, m0, m1, m2, m3, m4, B, e, hp⟩ := five_of l p h
  obtain ⟨T, hT⟩ : ∃ T, T = bits * 2 ^ s := ⟨_, rfl⟩
  have hn : shN 40 T ≠ 0 := by rw [hT]; exact turn_ne hb h0 hs
  have hT40 : T < 1099511627776 := by
    have : 2 ^ s ≤ 2 ^ 7 := Nat.pow_le_pow_right (by omega) (by omega)
    have h2 := Nat.mul_le_mul (Nat.le_of_lt hb) this
    have h3 : bits * 2 ^ s ≤ 4294967295 * 2 ^ 7 := Nat.mul_le_mul (by omega) this
    omega
  rw [← hT]
  subst e
  have hA : Bytes A := fun x hx => hl x (by simp [hx])
  have hB : Bytes B := fun x hx => hl x (by simp [hx])
  have b0 := hl m0 (by simp)
  have b1 := hl m1 (by simp)
  have b2 := hl m2 (by simp)
  have b3 := hl m3 (by simp)
  have b4 := hl m4 (by simp)
  rw [tw_five A B m0 m1 m2 m3 m4 p T hp]
  intro e
  unfold more at e
  have hq : run (inv 0) A < 4294967296 := run_lt A hA _ (inv_lt _)
  rw [run_append, run_append] at e
  obtain ⟨q, hq'⟩ : ∃ q, q = run (inv 0) A := ⟨_, rfl⟩
  rw [← hq'] at e hq
  simp only [run_cons, Int.toNat_natCast] at e
  have L : ∀ {r x : Nat}, r < 4294967296 → x < 256 → stp r x < 4294967296 := fun h1 h2 => stp_lt h1 h2
  have t4 : T / 4294967296 % 256 = T / 4294967296 := by omega
  rw [t4] at e
  have hx : ∀ {m : Int} {t : Nat}, Byte m → t < 256 → m.toNat ^^^ t < 256 := fun h1 h2 => xor_lt 8 (toNat_byte h1) h2
  have lt1 := L (L (L (L (L hq (hx b0 (show T % 256 < 256 by omega))) (hx b1 (show T / 256 % 256 < 256 by omega))) (hx b2 (show T / 65536 % 256 < 256 by omega))) (hx b3 (show T / 16777216 % 256 < 256 by omega))) (hx b4 (show T / 4294967296 < 256 by omega))
  have lt2 := L (L (L (L (L hq (toNat_byte b0)) (toNat_byte b1)) (toNat_byte b2)) (toNat_byte b3)) (toNat_byte b4)
  have h1 := congrArg inv e
  rw [inv_inv (run_lt B hB _ lt1), inv_inv (run_lt B hB _ lt2)] at h1
  have e2 := run_inj hB lt1 lt2 h1
  have k : stp (stp (stp (stp (stp q (m0.toNat ^^^ T % 256)) (m1.toNat ^^^ T / 256 % 256)) (m2.toNat ^^^ T / 65536 % 256)) (m3.toNat ^^^ T / 16777216 % 256)) (m4.toNat ^^^ T / 4294967296) =
      stp (stp (stp (stp (stp q m0.toNat) m1.toNat) m2.toNat) m3.toNat) m4.toNat ^^^ shN 40 T := by
    rw [← five T, ← stp_xor, ← stp_xor, ← stp_xor, ← stp_xor, ← stp_xor, Nat.xor_zero]
  rw [k] at e2
  apply hn
  have := congrArg (stp (stp (stp (stp (stp q m0.toNat) m1.toNat) m2.toNat) m3.toNat) m4.toNat ^^^ ·) e2
  simpa [← Nat.xor_assoc] using this
end Go.Proofs.Ytmolldednpdicaa.Crc
