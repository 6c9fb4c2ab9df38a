/- The plain mathematics of CRC-32 on natural numbers: one shift, eight shifts, the register over a list of bytes; that shifts go together with exclusive or, and that no two registers are shifted to one. The plain mathematics of three statements on sums: bytes with their own sum behind, three lists put together, bytes changed within 32 bits. The plain mathematics of bytes that are changed within 32 bits: they have another sum. The plain mathematics of numbers, fields and lists as bytes: how they are written, how they are read, and that the two go there and back. -/
import Derived.Laws.BitsAllLaws
namespace Go.Proofs.YtapdhkgeolcogaaGreatDoor.Cd.Crc

def poly : Nat := 3988292384
def sh1 (r : Nat) : Nat := if r % 2 = 1 then (r / 2) ^^^ poly else r / 2
def shN : Nat → Nat → Nat
  | 0, r => r
  | k + 1, r => sh1 (shN k r)
def stp (r x : Nat) : Nat := (r / 256) ^^^ shN 8 ((r % 256) ^^^ x)
def run (r : Nat) (l : List Int) : Nat := l.foldl (fun r x => stp r x.toNat) r
def inv (r : Nat) : Nat := 4294967295 - r
def more (s : Nat) (l : List Int) : Nat := inv (run (inv s) l)

def Byte (x : Int) : Prop := 0 ≤ x ∧ x < 256
def Bytes (l : List Int) : Prop := ∀ x ∈ l, Byte x

theorem xor_lt {a b : Nat} (k : Nat) (ha : a < 2 ^ k) (hb : b < 2 ^ k) : a ^^^ b < 2 ^ k := Nat.xor_lt_two_pow ha hb

theorem sh1_lt {r : Nat} (h : r < 4294967296) : sh1 r < 4294967296 := by
  unfold sh1
  split
  · exact xor_lt 32 (by omega) (by decide)
  · omega

theorem shN_lt (k : Nat) {r : Nat} (h : r < 4294967296) : shN k r < 4294967296 := by
  induction k with
  | zero => exact h
  | succ k ih => exact sh1_lt ih

theorem stp_lt {r x : Nat} (h : r < 4294967296) (hx : x < 256) : stp r x < 4294967296 := by
  unfold stp
  exact xor_lt 32 (by omega) (shN_lt 8 (Nat.lt_trans (xor_lt 8 (by omega) hx) (by omega)))

theorem run_nil (r : Nat) : run r [] = r := rfl
theorem run_cons (r : Nat) (x : Int) (l : List Int) : run r (x :: l) = run (stp r x.toNat) l := rfl
theorem run_append (r : Nat) (a b : List Int) : run r (a ++ b) = run (run r a) b := by
  simp [run, List.foldl_append]
theorem run_snoc (r : Nat) (a : List Int) (x : Int) : run r (a ++ [x]) = stp (run r a) x.toNat := by
  rw [run_append]; rfl

theorem Bytes.tail {x : Int} {l : List Int} (h : Bytes (x :: l)) : Bytes l := fun y hy => h y (List.mem_cons_of_mem _ hy)
theorem Bytes.head {x : Int} {l : List Int} (h : Bytes (x :: l)) : Byte x := h x (List.mem_cons_self ..)
theorem Bytes.take {l : List Int} (h : Bytes l) (k : Nat) : Bytes (l.take k) := fun y hy => h y (List.mem_of_mem_take hy)
theorem Bytes.drop {l : List Int} (h : Bytes l) (k : Nat) : Bytes (l.drop k) := fun y hy => h y (List.mem_of_mem_drop hy)
theorem Bytes.append {a b : List Int} (ha : Bytes a) (hb : Bytes b) : Bytes (a ++ b) := fun y hy => by
  rcases List.mem_append.mp hy with h | h
  · exact ha y h
  · exact hb y h

theorem run_lt (l : List Int) (hl : Bytes l) (r : Nat) (h : r < 4294967296) : run r l < 4294967296 := by
  induction l generalizing r with
  | nil => exact h
  | cons x l ih =>
    rw [run_cons]
    have := hl.head
    exact ih hl.tail _ (stp_lt h (by unfold Byte at this; omega))

theorem inv_lt (r : Nat) : inv r < 4294967296 := by unfold inv; omega
theorem inv_inv {r : Nat} (h : r < 4294967296) : inv (inv r) = r := by unfold inv; omega
theorem more_lt (s : Nat) (l : List Int) : more s l < 4294967296 := inv_lt _

/-- A sum goes on from any place. -/
theorem more_append (s : Nat) (a b : List Int) (ha : Bytes a) : more s (a ++ b) = more (more s a) b := by
  unfold more
  rw [run_append, inv_inv (run_lt a ha _ (inv_lt _))]

theorem inv_xor {r : Nat} (h : r < 4294967296) : inv r = r ^^^ 4294967295 := by
  have e : (BitVec.ofNat 32 r).toNat = r := by rw [BitVec.toNat_ofNat]; exact Nat.mod_eq_of_lt h
  have h1 : (~~~ (BitVec.ofNat 32 r)).toNat = 2 ^ 32 - 1 - r := by rw [BitVec.toNat_not, e]
  have h2 : ~~~ (BitVec.ofNat 32 r) = BitVec.ofNat 32 r ^^^ BitVec.allOnes 32 := by rw [BitVec.xor_allOnes]
  rw [h2, BitVec.toNat_xor, e, BitVec.toNat_allOnes] at h1
  unfold inv
  have : (2 : Nat) ^ 32 - 1 = 4294967295 := by decide
  rw [this] at h1
  exact h1.symm

theorem xor_mod2 (a b : Nat) : (a ^^^ b) % 2 = (a % 2 + b % 2) % 2 := by
  have h := Nat.testBit_xor a b 0
  simp only [Nat.testBit_zero] at h
  have ha : a % 2 = 0 ∨ a % 2 = 1 := by omega
  have hb : b % 2 = 0 ∨ b % 2 = 1 := by omega
  have hc : (a ^^^ b) % 2 = 0 ∨ (a ^^^ b) % 2 = 1 := by omega
  rcases ha with ha | ha <;> rcases hb with hb | hb <;> rcases hc with hc | hc <;> simp [ha, hb, hc] at h ⊢

theorem xor_div2 (a b : Nat) : (a ^^^ b) / 2 = a / 2 ^^^ b / 2 := by
  apply Nat.eq_of_testBit_eq
  intro i
  rw [← Nat.testBit_succ, Nat.testBit_xor, Nat.testBit_xor, Nat.testBit_succ, Nat.testBit_succ]

theorem sh1_xor (a b : Nat) : sh1 (a ^^^ b) = sh1 a ^^^ sh1 b := by
  unfold sh1
  rw [xor_mod2, xor_div2]
  have ha : a % 2 = 0 ∨ a % 2 = 1 := by omega
  have hb : b % 2 = 0 ∨ b % 2 = 1 := by omega
  rcases ha with ha | ha <;> rcases hb with hb | hb <;> simp [ha, hb]
  · exact Nat.xor_assoc _ _ _
  · rw [Nat.xor_assoc, Nat.xor_assoc, Nat.xor_comm (b / 2) poly]
  · rw [Nat.xor_assoc, Nat.xor_comm poly (b / 2 ^^^ poly), Nat.xor_assoc (b / 2), Nat.xor_self, Nat.xor_zero]

theorem shN_xor (k a b : Nat) : shN k (a ^^^ b) = shN k a ^^^ shN k b := by
  induction k with
  | zero => rfl
  | succ k ih => simp only [shN]; rw [ih, sh1_xor]

theorem shN_add (j k r : Nat) : shN (j + k) r = shN j (shN k r) := by
  induction j with
  | zero => simp [shN]
  | succ j ih => rw [Nat.succ_add]; simp only [shN]; rw [ih]

theorem sh1_zero : sh1 0 = 0 := by decide
theorem shN_zero (k : Nat) : shN k 0 = 0 := by
  induction k with
  | zero => rfl
  | succ k ih => simp only [shN]; rw [ih, sh1_zero]

theorem sh1_twice (q : Nat) : sh1 (2 * q) = q := by
  unfold sh1; rw [if_neg (by omega)]; omega
theorem shN_pow (k q : Nat) : shN k (2 ^ k * q) = q := by
  induction k generalizing q with
  | zero => simp [shN]
  | succ k ih =>
    rw [Nat.pow_succ, Nat.mul_assoc]
    simp only [shN]
    rw [ih, sh1_twice]

/-- The register with its lowest byte apart: all bits are those of the two parts. -/
theorem split256 (r : Nat) : r = 256 * (r / 256) ^^^ r % 256 := by
  apply Nat.eq_of_testBit_eq
  intro i
  rw [Nat.testBit_xor, show (256 : Nat) = 2 ^ 8 by decide, Nat.testBit_two_pow_mul, Nat.testBit_mod_two_pow, Nat.testBit_div_two_pow]
  by_cases h : i < 8
  · simp [h, show ¬ 8 ≤ i by omega]
  · simp [h, show 8 ≤ i by omega]

/-- The table's step is the eight shifts of the register that the byte was put into. -/
theorem stp_eq (r x : Nat) : stp r x = shN 8 (r ^^^ x) := by
  have h : r ^^^ x = 256 * (r / 256) ^^^ (r % 256 ^^^ x) := by
    rw [← Nat.xor_assoc, ← split256]
  rw [h, shN_xor]
  unfold stp
  have : shN 8 (256 * (r / 256)) = r / 256 := shN_pow 8 (r / 256)
  rw [this]

theorem stp_xor (r r' x x' : Nat) : stp (r ^^^ r') (x ^^^ x') = stp r x ^^^ stp r' x' := by
  rw [stp_eq, stp_eq, stp_eq, ← shN_xor]
  congr 1
  rw [Nat.xor_assoc, Nat.xor_assoc, ← Nat.xor_assoc r' x x', Nat.xor_comm r' x, Nat.xor_assoc x r' x']

/-! In the walk's own spelling -/
theorem and_one (m : Nat) (h : m < 4294967296) : bits .and .u32 (m : Int) 1 = ((m % 2 : Nat) : Int) := by
  have := u32_and_nat m 1 h (by decide)
  rw [nat_mask1] at this
  exact this
theorem shift_hit (m : Nat) (h : m < 4294967296) (t : (bits .and .u32 (m : Int) 1 == 1) = true) : bits .xor .u32 ((m : Int) / 2) 3988292384 = ((sh1 m : Nat) : Int) := by
  rw [and_one m h] at t
  have t' : m % 2 = 1 := by have e : ((m % 2 : Nat) : Int) = 1 := beq_iff_eq.mp t; omega
  have := u32_xor_nat (m / 2) 3988292384 (by omega) (by decide)
  unfold sh1 poly
  rw [if_pos t', ← this]
  rfl
theorem shift_miss (m : Nat) (h : m < 4294967296) (t : (bits .and .u32 (m : Int) 1 == 1) = false) : (m : Int) / 2 = ((sh1 m : Nat) : Int) := by
  rw [and_one m h] at t
  have t' : ¬ m % 2 = 1 := by intro e; rw [e] at t; simp at t
  unfold sh1
  rw [if_neg t']
  rfl

theorem not_u32 (s : Nat) (h : s < 4294967296) : bits .xor .u32 IntKind.u32.max (s : Int) = ((inv s : Nat) : Int) := by
  have := u32_xor_nat 4294967295 s (by decide) h
  rw [inv_xor h, Nat.xor_comm]
  exact this
theorem xor_u8 (r x : Nat) (hx : x < 256) : bits .xor .u8 ((r : Int) % 256) (x : Int) = ((r % 256 ^^^ x : Nat) : Int) := by
  have := u8_xor_nat (r % 256) x (by omega) hx
  rw [← this]
  rfl
theorem xor_u32 (r t : Nat) (hr : r < 4294967296) (ht : t < 4294967296) : bits .xor .u32 ((r : Int) / 256) (t : Int) = ((r / 256 ^^^ t : Nat) : Int) := by
  have := u32_xor_nat (r / 256) t (by omega) ht
  rw [← this]
  rfl
theorem xor8_lt {r x : Nat} (hx : x < 256) : r % 256 ^^^ x < 256 := xor_lt 8 (by omega) hx

theorem byte_of {l : List Int} (hb : Bytes l) (k : Nat) (hk : k < l.length) : ∃ x : Nat, x < 256 ∧ l.getD k 0 = (x : Int) ∧ l.take (k + 1) = l.take k ++ [(x : Int)] := by
  have h := hb l[k] (List.getElem_mem hk)
  unfold Byte at h
  have e : l.getD k 0 = l[k] := by simp [List.getD, hk]
  refine ⟨l[k].toNat, by omega, by rw [e]; omega, ?_⟩
  rw [List.take_succ_eq_append_getElem hk]
  congr 2
  omega

end Go.Proofs.YtapdhkgeolcogaaGreatDoor.Cd.Crc
namespace Go.Proofs.YtapdhkgeolcogaaGreatDoor.Cd.Crc

theorem mod_xor_div (s : Nat) (k : Nat) : s = s % 2 ^ k ^^^ 2 ^ k * (s / 2 ^ k) := by
  apply Nat.eq_of_testBit_eq
  intro i
  rw [Nat.testBit_xor, Nat.testBit_two_pow_mul, Nat.testBit_mod_two_pow, Nat.testBit_div_two_pow]
  by_cases h : i < k
  · simp [h, show ¬ k ≤ i by omega]
  · simp [h, show k ≤ i by omega]

/-- Eight shifts later the byte at the bottom is gone, and what lay above it has come down. -/
theorem shN8_split (s : Nat) : shN 8 s = shN 8 (s % 256) ^^^ s / 256 := by
  have h := mod_xor_div s 8
  have e : shN 8 s = shN 8 (s % 2 ^ 8 ^^^ 2 ^ 8 * (s / 2 ^ 8)) := by rw [← h]
  rw [e, shN_xor, shN_pow]

/-- A register into which a number of any many bytes goes, lowest byte first: all at once, or byte by byte. -/
theorem stp_two (r s : Nat) : stp (stp r (s % 256)) (s / 256) = shN 16 (r ^^^ s) := by
  rw [stp_eq, stp_eq, shN_add 8 8]
  congr 1
  rw [shN_xor, shN_xor, shN8_split s, Nat.xor_assoc]

/-- The four bytes of s, lowest first, put into the register r. -/
theorem four (r s : Nat) : stp (stp (stp (stp r (s % 256)) (s / 256 % 256)) (s / 65536 % 256)) (s / 16777216) = shN 32 (r ^^^ s) := by
  have h3 : ∀ q t, stp (stp q (t % 256)) (t / 256) = shN 16 (q ^^^ t) := stp_two
  -- the upper two bytes
  have a : stp (stp (stp (stp r (s % 256)) (s / 256 % 256)) (s / 65536 % 256)) (s / 16777216) = shN 16 (stp (stp r (s % 256)) (s / 256 % 256) ^^^ s / 65536) := by
    rw [← h3]
    congr 1
    omega
  -- the lower two
  have b : stp (stp r (s % 256)) (s / 256 % 256) = shN 16 (r ^^^ s % 65536) := by
    have := h3 r (s % 65536)
    rw [← this]
    congr 1
    · congr 1; omega
    · omega
  rw [a, b]
  refine Eq.trans ?_ (shN_add 16 16 (r ^^^ s)).symm
  refine congrArg (shN 16) ?_
  have e : r ^^^ s = r ^^^ s % 65536 ^^^ 2 ^ 16 * (s / 65536) := by
    rw [Nat.xor_assoc]
    congr 1
    exact mod_xor_div s 16
  rw [e, shN_xor 16 (r ^^^ s % 65536), shN_pow]

def low (s : Nat) : List Int := [((s % 256 : Nat) : Int), ((s / 256 % 256 : Nat) : Int), ((s / 65536 % 256 : Nat) : Int), ((s / 16777216 : Nat) : Int)]
theorem low_bytes (s : Nat) (h : s < 4294967296) : Bytes (low s) := by
  intro x hx
  unfold low at hx
  unfold Byte
  simp only [List.mem_cons, List.not_mem_nil, or_false] at hx
  omega

theorem all_ones : shN 32 4294967295 = inv 558161692 := by decide +kernel

/-- Behind any bytes their own sum, lowest byte first, makes one sum. -/
theorem residue (l : List Int) (hl : Bytes l) : more 0 (l ++ low (more 0 l)) = 558161692 := by
  have hr : run (inv 0) l < 4294967296 := run_lt l hl _ (inv_lt _)
  unfold more
  rw [run_append]
  obtain ⟨r, hr'⟩ : ∃ r, r = run (inv 0) l := ⟨_, rfl⟩
  rw [← hr'] at hr ⊢
  have hi := inv_lt r
  have e : run r (low (inv r)) = shN 32 (r ^^^ inv r) := by
    rw [← four]
    show stp (stp (stp (stp r _) _) _) _ = _
    simp only [Int.toNat_natCast]
  rw [e, inv_xor hr, ← Nat.xor_assoc, Nat.xor_self, Nat.zero_xor, all_ones]
  decide
end Go.Proofs.YtapdhkgeolcogaaGreatDoor.Cd.Crc
namespace Go.Proofs.YtapdhkgeolcogaaGreatDoor.Cd.Crc

theorem sh1_eq_zero {x : Nat} (h : x < 4294967296) (e : sh1 x = 0) : x = 0 := by
  unfold sh1 at e
  split at e
  · have : x / 2 = poly := by
      have := congrArg (· ^^^ poly) e
      simpa [Nat.xor_assoc] using this
    unfold poly at this
    omega
  · omega
theorem shN_eq_zero {k x : Nat} (h : x < 4294967296) (e : shN k x = 0) : x = 0 := by
  induction k with
  | zero => exact e
  | succ k ih => exact ih (sh1_eq_zero (shN_lt k h) e)
theorem xor_eq_zero {a b : Nat} (h : a ^^^ b = 0) : a = b := by
  have := congrArg (· ^^^ b) h
  simpa [Nat.xor_assoc] using this
theorem shN_inj {k a b : Nat} (ha : a < 4294967296) (hb : b < 4294967296) (e : shN k a = shN k b) : a = b := by
  refine xor_eq_zero (shN_eq_zero (k := k) (xor_lt 32 ha hb) ?_)
  rw [shN_xor, e, Nat.xor_self]
theorem stp_inj {a b x : Nat} (ha : a < 4294967296) (hb : b < 4294967296) (hx : x < 256) (e : stp a x = stp b x) : a = b := by
  rw [stp_eq, stp_eq] at e
  have h := shN_inj (xor_lt 32 ha (by omega)) (xor_lt 32 hb (by omega)) e
  have := congrArg (· ^^^ x) h
  simpa [Nat.xor_assoc] using this
theorem run_inj {l : List Int} (hl : Bytes l) {a b : Nat} (ha : a < 4294967296) (hb : b < 4294967296) (e : run a l = run b l) : a = b := by
  induction l generalizing a b with
  | nil => exact e
  | cons x l ih =>
    have hx := hl.head
    unfold Byte at hx
    rw [run_cons, run_cons] at e
    exact stp_inj ha hb (by omega) (ih hl.tail (stp_lt ha (by omega)) (stp_lt hb (by omega)) e)

/-- Five bytes of T, lowest first, put into an empty register. -/
theorem five (T : Nat) : stp (stp (stp (stp (stp 0 (T % 256)) (T / 256 % 256)) (T / 65536 % 256)) (T / 16777216 % 256)) (T / 4294967296) = shN 40 T := by
  have h := four 0 (T % 4294967296)
  rw [show T % 4294967296 % 256 = T % 256 by omega, show T % 4294967296 / 256 % 256 = T / 256 % 256 by omega, show T % 4294967296 / 65536 % 256 = T / 65536 % 256 by omega,
    show T % 4294967296 / 16777216 = T / 16777216 % 256 by omega, Nat.zero_xor] at h
  rw [h, stp_eq]
  have e : T = T % 4294967296 ^^^ 4294967296 * (T / 4294967296) := mod_xor_div T 32
  have e2 : shN 32 T = shN 32 (T % 4294967296) ^^^ T / 4294967296 := by
    have p : shN 32 (4294967296 * (T / 4294967296)) = T / 4294967296 := shN_pow 32 (T / 4294967296)
    rw [show shN 32 T = shN 32 (T % 4294967296 ^^^ 4294967296 * (T / 4294967296)) from congrArg (shN 32) e, shN_xor, p]
  rw [← e2]
  exact (shN_add 8 32 T).symm

/-- Bits that were moved up by less than 8 places, shifted by 40: not nought. -/
theorem turn_ne {bits s : Nat} (hb : bits < 4294967296) (h0 : bits ≠ 0) (hs : s < 8) : shN 40 (bits * 2 ^ s) ≠ 0 := by
  intro e
  have h : shN 40 (bits * 2 ^ s) = shN (40 - s) bits := by
    have := shN_add (40 - s) s (bits * 2 ^ s)
    rw [show 40 - s + s = 40 by omega] at this
    rw [this, Nat.mul_comm, shN_pow]
  rw [h] at e
  exact h0 (shN_eq_zero hb e)

/-- The bytes l with the k lowest bytes of T put, by exclusive or, to the k bytes from place p on. -/
def tw (l : List Int) (p T : Nat) : Nat → List Int
  | 0 => l
  | k + 1 => (tw l p T k).set (p + k) ((((tw l p T k).getD (p + k) 0).toNat ^^^ (T / 2 ^ (8 * k) % 256) : Nat) : Int)
theorem tw_length (l : List Int) (p T k : Nat) : (tw l p T k).length = l.length := by
  induction k with
  | zero => rfl
  | succ k ih => simp [tw, ih]
theorem byte_nat {n : Nat} (h : n < 256) : Byte (n : Int) := by unfold Byte; omega
theorem Bytes.getD {l : List Int} (h : Bytes l) (i : Nat) : (l.getD i 0).toNat < 256 := by
  by_cases hi : i < l.length
  · have := h l[i] (List.getElem_mem hi)
    unfold Byte at this
    simp [hi]
    omega
  · simp [List.getD, hi]
theorem Bytes.nonneg {l : List Int} (h : Bytes l) (i : Nat) : 0 ≤ l.getD i 0 := by
  by_cases hi : i < l.length
  · have := h l[i] (List.getElem_mem hi)
    unfold Byte at this
    simp [hi]
    omega
  · simp [List.getD, hi]
theorem Bytes.set {l : List Int} (h : Bytes l) (i n : Nat) (hn : n < 256) : Bytes (l.set i (n : Int)) := fun x hx => by
  rcases List.mem_or_eq_of_mem_set hx with h1 | h1
  · exact h x h1
  · subst h1; exact byte_nat hn
theorem tw_bytes {l : List Int} (h : Bytes l) (p T k : Nat) : Bytes (tw l p T k) := by
  induction k with
  | zero => exact h
  | succ k ih => exact ih.set _ _ (xor_lt 8 (ih.getD _) (by omega))

theorem five_of (l : List Int) (p : Nat) (h : p + 5 ≤ l.length) : ∃ A m0 m1 m2 m3 m4 B, l = A ++ m0 :: m1 :: m2 :: m3 :: m4 :: B ∧ A.length = p := by
  refine ⟨l.take p, l[p], l[p + 1], l[p + 2], l[p + 3], l[p + 4], l.drop (p + 5), ?_, by simp; omega⟩
  rw [← List.drop_eq_getElem_cons (i := p + 4), ← List.drop_eq_getElem_cons (i := p + 3), ← List.drop_eq_getElem_cons (i := p + 2), ← List.drop_eq_getElem_cons (i := p + 1), ← List.drop_eq_getElem_cons (i := p), List.take_append_drop]

theorem tw_five (A B : List Int) (m0 m1 m2 m3 m4 : Int) (p T : Nat) (hp : A.length = p) :
    tw (A ++ m0 :: m1 :: m2 :: m3 :: m4 :: B) p T 5 = A ++ ((m0.toNat ^^^ (T % 256) : Nat) : Int) :: ((m1.toNat ^^^ (T / 256 % 256) : Nat) : Int) :: ((m2.toNat ^^^ (T / 65536 % 256) : Nat) : Int) ::
      ((m3.toNat ^^^ (T / 16777216 % 256) : Nat) : Int) :: ((m4.toNat ^^^ (T / 4294967296 % 256) : Nat) : Int) :: B := by
  subst hp
  simp [tw]

theorem toNat_byte {m : Int} (h : Byte m) : m.toNat < 256 := by unfold Byte at h; omega

/-- Bytes that are changed within 32 bits in a row have another sum. -/
theorem turned (l : List Int) (hl : Bytes l) (p bits s : Nat) (h : p + 5 ≤ l.length) (hb : bits < 4294967296) (h0 : bits ≠ 0) (hs : s < 8) :
    more 0 (tw l p (bits * 2 ^ s) 5) ≠ more 0 l := by
  obtain ⟨A, m0, m1, m2, m3, m4, B, e, hp⟩ := five_of l p h
  obtain ⟨T, hT⟩ : ∃ T, T = bits * 2 ^ s := ⟨_, rfl⟩
  have hn : shN 40 T ≠ 0 := by rw [hT]; exact turn_ne hb h0 hs
  have hT40 : T < 1099511627776 := by
    have : 2 ^ s ≤ 2 ^ 7 := Nat.pow_le_pow_right (by omega) (by omega)
    have h2 := Nat.mul_le_mul (Nat.le_of_lt hb) this
    have h3 : bits * 2 ^ s ≤ 4294967295 * 2 ^ 7 := Nat.mul_le_mul (by omega) this
    omega
  rw [← hT]
  subst e
  have hA : Bytes A := fun x hx => hl x (by simp [hx])
  have hB : Bytes B := fun x hx => hl x (by simp [hx])
  have b0 := hl m0 (by simp)
  have b1 := hl m1 (by simp)
  have b2 := hl m2 (by simp)
  have b3 := hl m3 (by simp)
  have b4 := hl m4 (by simp)
  rw [tw_five A B m0 m1 m2 m3 m4 p T hp]
  intro e
  unfold more at e
  have hq : run (inv 0) A < 4294967296 := run_lt A hA _ (inv_lt _)
  rw [run_append, run_append] at e
  obtain ⟨q, hq'⟩ : ∃ q, q = run (inv 0) A := ⟨_, rfl⟩
  rw [← hq'] at e hq
  simp only [run_cons, Int.toNat_natCast] at e
  have L : ∀ {r x : Nat}, r < 4294967296 → x < 256 → stp r x < 4294967296 := fun h1 h2 => stp_lt h1 h2
  have t4 : T / 4294967296 % 256 = T / 4294967296 := by omega
  rw [t4] at e
  have hx : ∀ {m : Int} {t : Nat}, Byte m → t < 256 → m.toNat ^^^ t < 256 := fun h1 h2 => xor_lt 8 (toNat_byte h1) h2
  have lt1 := L (L (L (L (L hq (hx b0 (show T % 256 < 256 by omega))) (hx b1 (show T / 256 % 256 < 256 by omega))) (hx b2 (show T / 65536 % 256 < 256 by omega))) (hx b3 (show T / 16777216 % 256 < 256 by omega))) (hx b4 (show T / 4294967296 < 256 by omega))
  have lt2 := L (L (L (L (L hq (toNat_byte b0)) (toNat_byte b1)) (toNat_byte b2)) (toNat_byte b3)) (toNat_byte b4)
  have h1 := congrArg inv e
  rw [inv_inv (run_lt B hB _ lt1), inv_inv (run_lt B hB _ lt2)] at h1
  have e2 := run_inj hB lt1 lt2 h1
  have k : stp (stp (stp (stp (stp q (m0.toNat ^^^ T % 256)) (m1.toNat ^^^ T / 256 % 256)) (m2.toNat ^^^ T / 65536 % 256)) (m3.toNat ^^^ T / 16777216 % 256)) (m4.toNat ^^^ T / 4294967296) =
      stp (stp (stp (stp (stp q m0.toNat) m1.toNat) m2.toNat) m3.toNat) m4.toNat ^^^ shN 40 T := by
    rw [← five T, ← stp_xor, ← stp_xor, ← stp_xor, ← stp_xor, ← stp_xor, Nat.xor_zero]
  rw [k] at e2
  apply hn
  have := congrArg (stp (stp (stp (stp (stp q m0.toNat) m1.toNat) m2.toNat) m3.toNat) m4.toNat ^^^ ·) e2
  simpa [← Nat.xor_assoc] using this
end Go.Proofs.YtapdhkgeolcogaaGreatDoor.Cd.Crc
namespace Go.Proofs.YtapdhkgeolcogaaGreatDoor.Cd.Code
open Crc (Bytes Byte)

/-- A number as bytes, seven bits a byte. -/
def put (n : Nat) : List Int := if n < 128 then [(n : Int)] else ((n % 128 + 128 : Nat) : Int) :: put (n / 128)
  termination_by n
  decreasing_by omega

theorem put_small {n : Nat} (h : n < 128) : put n = [(n : Int)] := by rw [put]; simp [h]
theorem put_big {n : Nat} (h : 128 ≤ n) : put n = ((n % 128 + 128 : Nat) : Int) :: put (n / 128) := by rw [put]; simp [Nat.not_lt.mpr h]

def val : List Int → Nat
  | [] => 0
  | x :: r => x.toNat % 128 + 128 * val r

/-- The place of the first byte below 128. -/
def idx : List Int → Option Nat
  | [] => none
  | x :: r => if x < 128 then some 0 else (idx r).map (· + 1)

abbrev Bad (l : List Int) (k : Nat) : Prop := (1 ≤ k ∧ l.getD k 0 = 0) ∨ 10 < k + 1 ∨ (k + 1 = 10 ∧ 1 < l.getD k 0)

def rNum (l : List Int) : Except Int (Nat × Nat) :=
  match idx l with
  | none => .error 20
  | some k => if Bad l k then .error 21 else .ok (val (l.take (k + 1)), k + 1)

theorem put_ne (n : Nat) : put n ≠ [] := by rw [put]; split <;> simp
theorem put_pos (n : Nat) : 1 ≤ (put n).length := by
  have := put_ne n
  cases h : put n with
  | nil => exact absurd h this
  | cons => simp

theorem put_bytes (n : Nat) : Bytes (put n) := by
  induction n using Nat.strongRecOn with
  | _ n ih =>
    by_cases h : n < 128
    · rw [put_small h]; intro x hx; simp at hx; subst hx; unfold Byte; omega
    · rw [put_big (by omega)]
      intro x hx
      rcases List.mem_cons.1 hx with rfl | hx
      · unfold Byte; omega
      · exact ih (n / 128) (by omega) x hx

theorem put_len (k n : Nat) (hn : n < 128 ^ (k + 1)) : (put n).length ≤ k + 1 := by
  induction k generalizing n with
  | zero => rw [put_small (by simpa using hn)]; simp
  | succ k ih =>
    by_cases h : n < 128
    · rw [put_small h]; simp
    · rw [put_big (by omega)]
      have : n / 128 < 128 ^ (k + 1) := by
        rw [Nat.div_lt_iff_lt_mul (by decide)]; rwa [Nat.pow_succ] at hn
      have := ih _ this
      simp; omega

theorem put_len10 {n : Nat} (hn : n < 18446744073709551616) : (put n).length ≤ 10 :=
  put_len 9 n (Nat.lt_of_lt_of_le hn (by decide))

theorem put_len3 {n : Nat} (hn : n ≤ 65536) : (put n).length ≤ 3 :=
  put_len 2 n (Nat.lt_of_le_of_lt hn (by decide))

theorem val_put (n : Nat) : val (put n) = n := by
  induction n using Nat.strongRecOn with
  | _ n ih =>
    by_cases h : n < 128
    · rw [put_small h]; simp [val]; omega
    · rw [put_big (by omega), val, ih _ (by omega)]; omega

/-- The last byte of a number: below 128, not 0 in a number of several bytes, and no greater than the number lets it be. -/
theorem put_last (n : Nat) : ∃ x : Nat, (put n).getD ((put n).length - 1) 0 = (x : Int) ∧ x < 128 ∧ x * 128 ^ ((put n).length - 1) ≤ n ∧ (1 ≤ n → 1 ≤ x) := by
  induction n using Nat.strongRecOn with
  | _ n ih =>
    by_cases h : n < 128
    · rw [put_small h]; exact ⟨n, by simp, h, by simp, fun h => h⟩
    · obtain ⟨x, h1, h2, h3, h4⟩ := ih (n / 128) (by omega)
      have hp := put_pos (n / 128)
      rw [put_big (by omega)]
      refine ⟨x, ?_, h2, ?_, fun _ => h4 (by omega)⟩
      · obtain ⟨m, hm⟩ : ∃ m, (put (n / 128)).length = m + 1 := ⟨_, (Nat.sub_add_cancel hp).symm⟩
        rw [hm] at h1
        simp [hm] at h1 ⊢
        exact h1
      · obtain ⟨m, hm⟩ : ∃ m, (put (n / 128)).length = m + 1 := ⟨_, (Nat.sub_add_cancel hp).symm⟩
        simp only [hm, List.length_cons, Nat.add_sub_cancel] at h3 ⊢
        rw [Nat.pow_succ, ← Nat.mul_assoc]
        have := Nat.mul_le_mul_right 128 h3
        omega

theorem idx_put (n : Nat) (r : List Int) : idx (put n ++ r) = some ((put n).length - 1) := by
  induction n using Nat.strongRecOn with
  | _ n ih =>
    by_cases h : n < 128
    · rw [put_small h]; simp [idx]; omega
    · rw [put_big (by omega), List.cons_append, idx, if_neg (by omega), ih _ (by omega)]
      have hp := put_pos (n / 128)
      simp; omega

theorem idx_some {l : List Int} {k : Nat} (h : idx l = some k) : k < l.length ∧ l.getD k 0 < 128 ∧ ∀ i, i < k → ¬ l.getD i 0 < 128 := by
  induction l generalizing k with
  | nil => cases h
  | cons x r ih =>
    rw [idx] at h
    split at h
    · injection h with h; subst h; exact ⟨by simp, by simpa, fun i hi => by omega⟩
    · cases hr : idx r with
      | none => rw [hr] at h; cases h
      | some j =>
        rw [hr] at h
        simp at h
        subst h
        obtain ⟨h1, h2, h3⟩ := ih hr
        refine ⟨by simp; omega, by simpa using h2, fun i hi => ?_⟩
        cases i with
        | zero => simp; omega
        | succ i => simpa using h3 i (by omega)

theorem idx_none {l : List Int} (h : idx l = none) : ∀ i, i < l.length → ¬ l.getD i 0 < 128 := by
  induction l with
  | nil => intro i hi; simp at hi
  | cons x r ih =>
    rw [idx] at h
    split at h
    · cases h
    · have hr : idx r = none := by cases hr : idx r with
        | none => rfl
        | some j => rw [hr] at h; cases h
      intro i hi
      cases i with
      | zero => simp; omega
      | succ i => simpa using ih hr i (by simpa using hi)

/-- What tells idx by its places. -/
theorem idx_of {l : List Int} {k : Nat} (h1 : k < l.length) (h2 : l.getD k 0 < 128) (h3 : ∀ i, i < k → ¬ l.getD i 0 < 128) : idx l = some k := by
  cases h : idx l with
  | none => exact absurd h2 (idx_none h k h1)
  | some j =>
    obtain ⟨g1, g2, g3⟩ := idx_some h
    have : j = k := by
      rcases Nat.lt_trichotomy j k with hlt | rfl | hgt
      · exact absurd g2 (h3 j hlt)
      · rfl
      · exact absurd h2 (g3 k hgt)
    rw [this]
theorem idx_of_none {l : List Int} (h3 : ∀ i, i < l.length → ¬ l.getD i 0 < 128) : idx l = none := by
  cases h : idx l with
  | none => rfl
  | some j => obtain ⟨g1, g2, g3⟩ := idx_some h; exact absurd g2 (h3 j g1)

theorem val_pos {l : List Int} {k : Nat} (hk : k < l.length) (h0 : 0 ≤ l.getD k 0) (h1 : l.getD k 0 ≠ 0) (h2 : l.getD k 0 < 128) : 1 ≤ val (l.take (k + 1)) := by
  induction l generalizing k with
  | nil => simp at hk
  | cons x r ih =>
    cases k with
    | zero => simp [val] at h0 h1 h2 ⊢; omega
    | succ k =>
      have := ih (k := k) (by simpa using hk) (by simpa using h0) (by simpa using h1) (by simpa using h2)
      simp only [List.take_succ_cons, val]
      omega

theorem put_val {l : List Int} (hb : Bytes l) {k : Nat} (h : idx l = some k) (hz : 1 ≤ k → l.getD k 0 ≠ 0) : put (val (l.take (k + 1))) = l.take (k + 1) := by
  induction l generalizing k with
  | nil => cases h
  | cons x r ih =>
    have hx := hb.head
    unfold Byte at hx
    rw [idx] at h
    split at h
    · injection h with h; subst h
      simp only [List.take_succ_cons, List.take_zero, val]
      rw [put_small (by omega)]
      congr 1; omega
    · cases hr : idx r with
      | none => rw [hr] at h; cases h
      | some j =>
        rw [hr] at h
        simp at h
        subst h
        have hz' : r.getD j 0 ≠ 0 := by simpa using hz (by omega)
        have hi := ih hb.tail hr (fun _ => hz')
        obtain ⟨g1, g2, g3⟩ := idx_some hr
        have g0 : 0 ≤ r.getD j 0 := by
          simp [g1]
          exact (hb.tail _ (List.getElem_mem g1)).1
        have hp := val_pos g1 g0 hz' g2
        simp only [List.take_succ_cons, val]
        rw [put_big (by omega)]
        rw [show (x.toNat % 128 + 128 * val (r.take (j + 1))) / 128 = val (r.take (j + 1)) from by omega, hi]
        congr 1; omega

theorem val_lt {l : List Int} {k : Nat} (hk : k < l.length) (h0 : 0 ≤ l.getD k 0) (h2 : l.getD k 0 < 128) : val (l.take (k + 1)) < ((l.getD k 0).toNat + 1) * 128 ^ k := by
  induction l generalizing k with
  | nil => simp at hk
  | cons x r ih =>
    cases k with
    | zero => simp [val] at h0 h2 ⊢; omega
    | succ k =>
      have := ih (k := k) (by simpa using hk) (by simpa using h0) (by simpa using h2)
      simp only [List.take_succ_cons, val, List.getD_cons_succ]
      rw [Nat.pow_succ, ← Nat.mul_assoc]
      omega

theorem good_lt {l : List Int} (hb : Bytes l) {k : Nat} (h : idx l = some k) (hz : ¬ Bad l k) : val (l.take (k + 1)) < 18446744073709551616 := by
  obtain ⟨g1, g2, _⟩ := idx_some h
  have g0 : 0 ≤ l.getD k 0 := by simp [g1]; exact (hb _ (List.getElem_mem g1)).1
  have := val_lt g1 g0 g2
  unfold Bad at hz
  by_cases h9 : k = 9
  · subst h9
    have : l.getD 9 0 ≤ 1 := by omega
    have : (l.getD 9 0).toNat + 1 ≤ 2 := by omega
    have := Nat.mul_le_mul_right (128 ^ 9) this
    have e : 2 * 128 ^ 9 = 18446744073709551616 := by decide
    omega
  · have hk : k ≤ 8 := by omega
    have h1 : (l.getD k 0).toNat + 1 ≤ 128 := by omega
    have h2 := Nat.mul_le_mul_right (128 ^ k) h1
    have h3 : 128 ^ k ≤ 128 ^ 8 := Nat.pow_le_pow_right (by decide) hk
    have h4 := Nat.mul_le_mul_left 128 h3
    have e : 128 * 128 ^ 8 ≤ 18446744073709551616 := by decide
    omega

theorem put_good {n : Nat} (hn : n < 18446744073709551616) (r : List Int) : ¬ Bad (put n ++ r) ((put n).length - 1) := by
  obtain ⟨x, h1, h2, h3, h4⟩ := put_last n
  have hp := put_pos n
  have hl := put_len10 hn
  have hg : (put n ++ r).getD ((put n).length - 1) 0 = (x : Int) := by
    rw [← h1, List.getD_eq_getElem?_getD, List.getD_eq_getElem?_getD, List.getElem?_append_left (by omega)]
  unfold Bad
  rw [hg]
  rintro (⟨h, h'⟩ | h | ⟨h, h'⟩)
  · have : 1 ≤ x := h4 (by
      by_cases h0 : n < 128
      · rw [put_small h0] at h; simp at h
      · omega)
    omega
  · omega
  · have e : (put n).length - 1 = 9 := by omega
    rw [e] at h3
    have := Nat.mul_le_mul_right (128 ^ 9) (show 2 ≤ x by omega)
    have e : 2 * 128 ^ 9 = 18446744073709551616 := by decide
    omega

theorem rNum_put {n : Nat} (hn : n < 18446744073709551616) (r : List Int) : rNum (put n ++ r) = .ok (n, (put n).length) := by
  have hp := put_pos n
  unfold rNum
  rw [idx_put]
  simp only [if_neg (put_good hn r)]
  rw [Nat.sub_add_cancel hp, List.take_left, val_put]

theorem rNum_ok {l : List Int} (hb : Bytes l) {n s : Nat} (h : rNum l = .ok (n, s)) : n < 18446744073709551616 ∧ 1 ≤ s ∧ s ≤ l.length ∧ l.take s = put n := by
  unfold rNum at h
  cases hi : idx l with
  | none => rw [hi] at h; cases h
  | some k =>
    rw [hi] at h
    simp only at h
    split at h
    · cases h
    · rename_i hbad
      injection h with h
      injection h with h1 h2
      subst h1 h2
      obtain ⟨g1, _, _⟩ := idx_some hi
      refine ⟨good_lt hb hi hbad, by omega, g1, ?_⟩
      exact (put_val hb hi (fun hk he => hbad (.inl ⟨hk, he⟩))).symm

/-- What the loop from the last byte down reckons. -/
theorem val_drop_step {l : List Int} {i : Nat} (hi : i < l.length) : val (l.drop i) = (l.getD i 0).toNat % 128 + 128 * val (l.drop (i + 1)) := by
  rw [List.drop_eq_getElem_cons hi, val]
  simp [hi]
theorem val_drop_le (l : List Int) (i : Nat) : val (l.drop i) ≤ val l := by
  induction l generalizing i with
  | nil => simp
  | cons x r ih =>
    cases i with
    | zero => simp
    | succ i => have := ih i; simp only [List.drop_succ_cons, val]; omega

/-! Fields. -/
structure Fd where
  k : Int
  n : Int
  s : ByteArray

def toB (s : ByteArray) : List Int := s.data.toList.map fun b => (b.toNat : Int)
def ofB (l : List Int) : ByteArray := ⟨(l.map fun x => UInt8.ofNat x.toNat).toArray⟩

theorem toB_bytes (s : ByteArray) : Bytes (toB s) := by
  intro x hx
  obtain ⟨b, _, rfl⟩ := List.mem_map.1 hx
  have := b.toNat_lt
  unfold Byte
  omega
theorem toB_len (s : ByteArray) : (toB s).length = s.size := by unfold toB; rw [List.length_map, Array.length_toList]; rfl
theorem toB_ofB {l : List Int} (h : Bytes l) : toB (ofB l) = l := by
  unfold toB ofB
  simp only [List.map_map]
  conv => rhs; rw [← List.map_id l]
  refine List.map_congr_left fun x hx => ?_
  have := h x hx
  unfold Byte at this
  simp
  omega
theorem ofB_toB (s : ByteArray) : ofB (toB s) = s := by
  unfold toB ofB
  rw [List.map_map]
  have : (List.map ((fun x : Int => UInt8.ofNat x.toNat) ∘ fun b : UInt8 => (b.toNat : Int)) s.data.toList) = s.data.toList := by
    conv => rhs; rw [← List.map_id s.data.toList]
    refine List.map_congr_left fun x hx => ?_
    simp
  rw [this]
theorem ofB_inj {a b : List Int} (ha : Bytes a) (hb : Bytes b) : ofB a = ofB b ↔ a = b :=
  ⟨fun h => by rw [← toB_ofB ha, h, toB_ofB hb], fun h => by rw [h]⟩
theorem ofB_size (l : List Int) : (ofB l).size = l.length := by simp [ofB, ByteArray.size]
theorem ofB_nil : ofB [] = ByteArray.empty := rfl

abbrev Fits (f : Fd) : Prop := (f.k = 1 ∧ 0 ≤ f.n) ∨ f.k = 2 ∨ (f.k = 3 ∧ f.s.size ≤ 65536)

def In64 (n : Int) : Prop := -9223372036854775808 ≤ n ∧ n < 9223372036854775808

def fold (n : Int) : Nat := if n < 0 then (2 * (-n - 1) + 1).toNat else (2 * n).toNat
def unfold (m : Nat) : Int := if m % 2 = 1 then -((m / 2 : Nat) : Int) - 1 else ((m / 2 : Nat) : Int)
theorem fold_lt {n : Int} (h : In64 n) : fold n < 18446744073709551616 := by unfold fold In64 at *; split <;> omega
theorem unfold_fold (n : Int) : unfold (fold n) = n := by unfold unfold fold; split <;> split <;> omega
theorem fold_unfold (m : Nat) : fold (unfold m) = m := by unfold fold unfold; split <;> split <;> omega
theorem unfold_in {m : Nat} (h : m < 18446744073709551616) : In64 (unfold m) := by unfold unfold In64; split <;> omega

/-- A field's bytes. -/
def fb (f : Fd) : List Int := if f.k = 2 then put (fold f.n) else if f.k = 3 then put f.s.size ++ toB f.s else put f.n.toNat
def norm (f : Fd) : Fd := if f.k = 3 then ⟨3, 0, f.s⟩ else ⟨f.k, f.n, ofB []⟩

theorem fb_bytes (f : Fd) : Bytes (fb f) := by
  unfold fb
  split
  · exact put_bytes _
  · split
    · exact (put_bytes _).append (toB_bytes _)
    · exact put_bytes _
theorem fb_len {f : Fd} (h : Fits f) (hn : In64 f.n) : (fb f).length ≤ 65546 := by
  unfold fb
  split
  · have := put_len10 (fold_lt hn); omega
  · split
    · rcases h with h | h | h
      · omega
      · omega
      · have := put_len3 h.2
        rw [List.length_append, toB_len]; omega
    · have := put_len10 (n := f.n.toNat) (by unfold In64 at hn; omega); omega

def enc (fs : List Fd) : List Int := fs.flatMap fb
theorem enc_nil : enc [] = [] := rfl
theorem enc_cons (f : Fd) (fs : List Fd) : enc (f :: fs) = fb f ++ enc fs := rfl
theorem enc_append (a b : List Fd) : enc (a ++ b) = enc a ++ enc b := by simp [enc]
theorem enc_bytes (fs : List Fd) : Bytes (enc fs) := by
  induction fs with
  | nil => intro x hx; cases hx
  | cons f fs ih => exact (fb_bytes f).append ih

theorem enc_len {fs : List Fd} (h : ∀ f ∈ fs, Fits f ∧ In64 f.n) {k : Nat} (hk : fs.length ≤ k) : (enc fs).length ≤ k * 65546 := by
  have key : (enc fs).length ≤ fs.length * 65546 := by
    clear hk
    induction fs with
    | nil => simp [enc]
    | cons f fs ih =>
      have h1 := fb_len (h f (List.mem_cons_self ..)).1 (h f (List.mem_cons_self ..)).2
      have h2 := ih fun g hg => h g (List.mem_cons_of_mem _ hg)
      rw [enc_cons, List.length_append, List.length_cons, Nat.add_mul]
      omega
  exact Nat.le_trans key (Nat.mul_le_mul_right 65546 hk)

def rText (l : List Int) : Except Int (Nat × Nat) :=
  match rNum l with
  | .error e => .error e
  | .ok (n, s) => if 65536 < n then .error 21 else if l.length < s + n then .error 20 else .ok (s, s + n)

def rField (k : Int) (l : List Int) : Except Int (Fd × Nat) :=
  if k = 1 then
    match rNum l with
    | .error e => .error e
    | .ok (n, s) => if 9223372036854775807 < n then .error 21 else .ok (⟨k, n, ofB []⟩, s)
  else if k = 2 then
    match rNum l with
    | .error e => .error e
    | .ok (n, s) => .ok (⟨k, unfold n, ofB []⟩, s)
  else if k = 3 then
    match rText l with
    | .error e => .error e
    | .ok (lo, hi) => .ok (⟨k, 0, ofB ((l.drop lo).take (hi - lo))⟩, hi)
  else .error 1

def dec : List Int → List Int → Except Int (List Fd)
  | [], l => if l = [] then .ok [] else .error 21
  | k :: ks, l =>
    match rField k l with
    | .error e => .error e
    | .ok (f, s) => (dec ks (l.drop s)).map (f :: ·)

theorem rText_put {l r : List Int} (hl : l.length ≤ 65536) : rText (put l.length ++ (l ++ r)) = .ok ((put l.length).length, (put l.length).length + l.length) := by
  unfold rText
  rw [rNum_put (by omega)]
  simp only
  rw [if_neg (by omega), if_neg (by simp <;> omega)]

theorem rText_ok {l : List Int} (hb : Bytes l) {lo hi : Nat} (h : rText l = .ok (lo, hi)) :
    lo ≤ hi ∧ hi ≤ l.length ∧ hi - lo ≤ 65536 ∧ 1 ≤ lo ∧ lo ≤ 10 ∧ l.take hi = put (hi - lo) ++ (l.drop lo).take (hi - lo) := by
  unfold rText at h
  cases hn : rNum l with
  | error e => rw [hn] at h; cases h
  | ok p =>
    obtain ⟨n, s⟩ := p
    rw [hn] at h
    simp only at h
    split at h
    · cases h
    · split at h
      · cases h
      · injection h with h
        injection h with h1 h2
        subst h1 h2
        obtain ⟨g1, g2, g3, g4⟩ := rNum_ok hb hn
        have hl : s ≤ 10 := by
          have := congrArg List.length g4
          have h10 := put_len10 g1
          simp at this
          omega
        refine ⟨by omega, by omega, by omega, g2, hl, ?_⟩
        rw [Nat.add_sub_cancel_left, ← g4, List.take_add]

theorem rField_fb {f : Fd} (h : Fits f) (hn : In64 f.n) (r : List Int) : rField f.k (fb f ++ r) = .ok (norm f, (fb f).length) := by
  have hn' := hn
  unfold In64 at hn'
  rcases f with ⟨k, n, s⟩
  unfold Fits at h
  simp only at h hn hn'
  rcases h with ⟨rfl, h0⟩ | rfl | ⟨rfl, h0⟩
  · simp only [rField, fb, norm, if_pos, if_neg (show ¬ (1 : Int) = 2 by decide), if_neg (show ¬ (1 : Int) = 3 by decide)]
    rw [rNum_put (by omega)]
    simp only
    rw [if_neg (by omega)]
    simp only [Except.ok.injEq, Prod.mk.injEq, Fd.mk.injEq, true_and, and_true]
    omega
  · simp only [rField, fb, norm, if_pos, if_neg (show ¬ (2 : Int) = 1 by decide), if_neg (show ¬ (2 : Int) = 3 by decide)]
    rw [rNum_put (fold_lt hn)]
    simp only [unfold_fold]
  · simp only [rField, fb, norm, if_pos, if_neg (show ¬ (3 : Int) = 1 by decide), if_neg (show ¬ (3 : Int) = 2 by decide)]
    rw [List.append_assoc, ← toB_len s, rText_put (by rw [toB_len]; exact h0)]
    simp only [Nat.add_sub_cancel_left, List.drop_left, List.take_left, ofB_toB, List.length_append]

theorem rField_ok {k : Int} {l : List Int} (hb : Bytes l) {f : Fd} {s : Nat} (h : rField k l = .ok (f, s)) :
    f.k = k ∧ Fits f ∧ In64 f.n ∧ norm f = f ∧ s ≤ l.length ∧ l.take s = fb f := by
  unfold rField at h
  split at h
  · rename_i hk
    subst hk
    cases hn : rNum l with
    | error e => rw [hn] at h; cases h
    | ok p =>
      obtain ⟨n, z⟩ := p
      rw [hn] at h
      simp only at h
      split at h
      · cases h
      · injection h with h
        injection h with h1 h2
        subst h1 h2
        obtain ⟨g1, g2, g3, g4⟩ := rNum_ok hb hn
        refine ⟨rfl, .inl ⟨rfl, by simp⟩, ⟨by simp only; omega, by simp only; omega⟩, rfl, g3, ?_⟩
        rw [g4]; simp [fb]
  · split at h
    · rename_i hk
      subst hk
      cases hn : rNum l with
      | error e => rw [hn] at h; cases h
      | ok p =>
        obtain ⟨n, z⟩ := p
        rw [hn] at h
        simp only at h
        injection h with h
        injection h with h1 h2
        subst h1 h2
        obtain ⟨g1, g2, g3, g4⟩ := rNum_ok hb hn
        refine ⟨rfl, .inr (.inl rfl), unfold_in g1, rfl, g3, ?_⟩
        rw [g4]; simp [fb, fold_unfold]
    · split at h
      · rename_i hk
        subst hk
        cases hn : rText l with
        | error e => rw [hn] at h; cases h
        | ok p =>
          obtain ⟨lo, hi⟩ := p
          rw [hn] at h
          simp only at h
          injection h with h
          injection h with h1 h2
          subst h1 h2
          obtain ⟨g1, g2, g3, g4, _, g5⟩ := rText_ok hb hn
          have hlen : ((l.drop lo).take (hi - lo)).length = hi - lo := by simp; omega
          refine ⟨rfl, .inr (.inr ⟨rfl, by rw [ofB_size, hlen]; exact g3⟩), ⟨by simp, by simp⟩, rfl, g2, ?_⟩
          rw [g5]
          simp only [fb, if_neg (show ¬ (3 : Int) = 2 by decide), if_pos]
          rw [ofB_size, hlen, toB_ofB ((hb.drop lo).take _)]
      · cases h

theorem dec_enc {fs : List Fd} (h : ∀ f ∈ fs, Fits f ∧ In64 f.n) : dec (fs.map (·.k)) (enc fs) = .ok (fs.map norm) := by
  induction fs with
  | nil => rfl
  | cons f fs ih =>
    obtain ⟨h1, h2⟩ := h f (List.mem_cons_self ..)
    rw [enc_cons, List.map_cons, dec, rField_fb h1 h2]
    simp only [List.drop_left]
    rw [ih fun g hg => h g (List.mem_cons_of_mem _ hg)]
    rfl

theorem dec_ok {ks : List Int} {l : List Int} (hb : Bytes l) {fs : List Fd} (h : dec ks l = .ok fs) : (∀ f ∈ fs, Fits f ∧ In64 f.n) ∧ enc fs = l := by
  induction ks generalizing l fs with
  | nil =>
    rw [dec] at h
    split at h
    · injection h with h; subst h; rename_i e; subst e; exact ⟨fun _ hm => (List.not_mem_nil hm).elim, rfl⟩
    · cases h
  | cons k ks ih =>
    rw [dec] at h
    cases hr : rField k l with
    | error e => rw [hr] at h; cases h
    | ok p =>
      obtain ⟨f, s⟩ := p
      rw [hr] at h
      simp only at h
      cases hd : dec ks (l.drop s) with
      | error e => rw [hd] at h; cases h
      | ok gs =>
        rw [hd] at h
        simp only [Except.map] at h
        injection h with h
        subst h
        obtain ⟨g1, g2, g3, g4, g5, g6⟩ := rField_ok hb hr
        obtain ⟨i1, i2⟩ := ih (hb.drop s) hd
        refine ⟨fun g hg => ?_, ?_⟩
        · rcases List.mem_cons.1 hg with rfl | hg
          · exact ⟨g2, g3⟩
          · exact i1 g hg
        · rw [enc_cons, i2, ← g6, List.take_append_drop]
end Go.Proofs.YtapdhkgeolcogaaGreatDoor.Cd.Code
