/- The plain mathematics of CRC-32 on natural numbers: one shift, eight shifts, the register over a list of bytes; that shifts go together with exclusive or, and that no two registers are shifted to one. -/
import Derived.Laws.BitsAllLaws
namespace Go.Proofs.Ytmolldednpdicaa.Crc

def poly : Nat := 3988292384
def sh1 (r : Nat) : Nat := if r % 2 = 1 then (r / 2) ^^^ poly else r / 2
def shN : Nat → Nat → Nat
  | 0, r => r
  | k + 1, r => sh1 (shN k r)
def stp (r x : Nat) : Nat := (r / 256) ^^^ shN 8 ((r % 256) ^^^ x)
def run (r : Nat) (l : List Int) : Nat := l.foldl (fun r x => stp r x.toNat) r
def inv (r : Nat) : Nat := 4294967295 - r
def more (s : Nat) (l : List Int) : Nat := inv (run (inv s) l)

def Byte (x : Int) : Prop := 0 ≤ x ∧ x < 256
def Bytes (l : List Int) : Prop := ∀ x ∈ l, Byte x

theorem xor_lt {a b : Nat} (k : Nat) (ha : a < 2 ^ k) (hb : b < 2 ^ k) : a ^^^ b < 2 ^ k := Nat.xor_lt_two_pow ha hb

theorem sh1_lt {r : Nat} (h : r < 4294967296) : sh1 r < 4294967296 := by
  unfold sh1
  split
  · exact xor_lt 32 (by omega) (by decide)
  · omega

theorem shN_lt (k : Nat) {r : Nat} (h : r < 4294967296) : shN k r < 4294967296 := by
  induction k with
  | zero => exact h
  | succ k ih => exact sh1_lt ih

theorem stp_lt {r x : Nat} (h : r < 4294967296) (hx : x < 256) : stp r x < 4294967296 := by
  unfold stp
  exact xor_lt 32 (by omega) (shN_lt 8 (Nat.lt_trans (xor_lt 8 (by omega) hx) (by omega)))

theorem run_nil (r : Nat) : run r [] = r := rfl
theorem run_cons (r : Nat) (x : Int) (l : List Int) : run r (x :: l) = run (stp r x.toNat) l := rfl
theorem run_append (r : Nat) (a b : List Int) : run r (a ++ b) = run (run r a) b := by
  simp [run, List.foldl_append]
theorem run_snoc (r : Nat) (a : List Int) (x : Int) : run r (a ++ [x]) = stp (run r a) x.toNat := by
  rw [run_append]; rfl

theorem Bytes.tail {x : Int} {l : List Int} (h : Bytes (x :: l)) : Bytes l := fun y hy => h y (List.mem_cons_of_mem _ hy)
theorem Bytes.head {x : Int} {l : List Int} (h : Bytes (x :: l)) : Byte x := h x (List.mem_cons_self ..)
theorem Bytes.take {l : List Int} (h : Bytes l) (k : Nat) : Bytes (l.take k) := fun y hy => h y (List.mem_of_mem_take hy)
theorem Bytes.drop {l : List Int} (h : Bytes l) (k : Nat) : Bytes (l.drop k) := fun y hy => h y (List.mem_of_mem_drop hy)
theorem Bytes.append {a b : List Int} (ha : Bytes a) (hb : Bytes b) : Bytes (a ++ b) := fun y hy => by
  rcases List.mem_append.mp hy with h | h
  · exact ha y h
  · exact hb y h

theorem run_lt (l : List Int) (hl : Bytes l) (r : Nat) (h : r < 4294967296) : run r l < 4294967296 := by
  induction l generalizing r with
  | nil => exact h
  | cons x l ih =>
    rw [run_cons]
    have := hl.head
    exact ih hl.tail _ (stp_lt h (by unfold Byte at this; omega))

theorem inv_lt (r : Nat) : inv r < 4294967296 := by unfold inv; omega
theorem inv_inv {r : Nat} (h : r < 4294967296) : inv (inv r) = r := by unfold inv; omega
theorem more_lt (s : Nat) (l : List Int) : more s l < 4294967296 := inv_lt _

/-- A sum goes on from any place. -/
theorem more_append (s : Nat) (a b : List Int) (ha : Bytes a) : more s (a ++ b) = more (more s a) b := by
  unfold more
  rw [run_append, inv_inv (run_lt a ha _ (inv_lt _))]

theorem inv_xor {r : Nat} (h : r < 4294967296) : inv r = r ^^^ 4294967295 := by
  have e : (BitVec.ofNat 32 r).toNat = r := by rw [BitVec.toNat_ofNat]; exact Nat.mod_eq_of_lt h
  have h1 : (~~~ (BitVec.ofNat 32 r)).toNat = 2 ^ 32 - 1 - r := by rw [BitVec.toNat_not, e]
  have h2 : ~~~ (BitVec.ofNat 32 r) = BitVec.ofNat 32 r ^^^ BitVec.allOnes 32 := by rw [BitVec.xor_allOnes]
  rw [h2, BitVec.toNat_xor, e, BitVec.toNat_allOnes] at h1
  unfold inv
  have : (2 : Nat) ^ 32 - 1 = 4294967295 := by decide
  rw [this] at h1
  exact h1.symm

theorem xor_mod2 (a b : Nat) : (a ^^^ b) % 2 = (a % 2 + b % 2) % 2 := by
  have h := Nat.testBit_xor a b 0
  simp only [Nat.testBit_zero] at h
  have ha : a % 2 = 0 ∨ a % 2 = 1 := by omega
  have hb : b % 2 = 0 ∨ b % 2 = 1 := by omega
  have hc : (a ^^^ b) % 2 = 0 ∨ (a ^^^ b) % 2 = 1 := by omega
  rcases ha with ha | ha <;> rcases hb with hb | hb <;> rcases hc with hc | hc <;> simp [ha, hb, hc] at h ⊢

theorem xor_div2 (a b : Nat) : (a ^^^ b) / 2 = a / 2 ^^^ b / 2 := by
  apply Nat.eq_of_testBit_eq
  intro i
  rw [← Nat.testBit_succ, Nat.testBit_xor, Nat.testBit_xor, Nat.testBit_succ, Nat.testBit_succ]

theorem sh1_xor (a b : Nat) : sh1 (a ^^^ b) = sh1 a ^^^ sh1 b := by
  unfold sh1
  rw [xor_mod2, xor_div2]
  have ha : a % 2 = 0 ∨ a % 2 = 1 := by omega
  have hb : b % 2 = 0 ∨ b % 2 = 1 := by omega
  rcases ha with ha | ha <;> rcases hb with hb | hb <;> simp [ha, hb]
  · exact Nat.xor_assoc _ _ _
  · rw [Nat.xor_assoc, Nat.xor_assoc, Nat.xor_comm (b / 2) poly]
  · rw [Nat.xor_assoc, Nat.xor_comm poly (b / 2 ^^^ poly), Nat.xor_assoc (b / 2), Nat.xor_self, Nat.xor_zero]

theorem shN_xor (k a b : Nat) : shN k (a ^^^ b) = shN k a ^^^ shN k b := by
  induction k with
  | zero => rfl
  | succ k ih => simp only [shN]; rw [ih, sh1_xor]

theorem shN_add (j k r : Nat) : shN (j + k) r = shN j (shN k r) := by
  induction j with
  | zero => simp [shN]
  | succ j ih => rw [Nat.succ_add]; simp only [shN]; rw [ih]

theorem sh1_zero : sh1 0 = 0 := by decide
theorem shN_zero (k : Nat) : shN k 0 = 0 := by
  induction k with
  | zero => rfl
  | succ k ih => simp only [shN]; rw [ih, sh1_zero]

theorem sh1_twice (q : Nat) : sh1 (2 * q) = q := by
  unfold sh1; rw [if_neg (by omega)]; omega
theorem shN_pow (k q : Nat) : shN k (2 ^ k * q) = q := by
  induction k generalizing q with
  | zero => simp [shN]
  | succ k ih =>
    rw [Nat.pow_succ, Nat.mul_assoc]
    simp only [shN]
    rw [ih, sh1_twice]

/-- The register with its lowest byte apart: all bits are those of the two parts. -/
theorem split256 (r : Nat) : r = 256 * (r / 256) ^^^ r % 256 := by
  apply Nat.eq_of_testBit_eq
  intro i
  rw [Nat.testBit_xor, show (256 : Nat) = 2 ^ 8 by decide, Nat.testBit_two_pow_mul, Nat.testBit_mod_two_pow, Nat.testBit_div_two_pow]
  by_cases h : i < 8
  · simp [h, show ¬ 8 ≤ i by omega]
  · simp [h, show 8 ≤ i by omega]

/-- The table's step is the eight shifts of the register that the byte was put into. -/
theorem stp_eq (r x : Nat) : stp r x = shN 8 (r ^^^ x) := by
  have h : r ^^^ x = 256 * (r / 256) ^^^ (r % 256 ^^^ x) := by
    rw [← Nat.xor_assoc, ← split256]
  rw [h, shN_xor]
  unfold stp
  have : shN 8 (256 * (r / 256)) = r / 256 := shN_pow 8 (r / 256)
  rw [this]

theorem stp_xor (r r' x x' : Nat) : stp (r ^^^ r') (x ^^^ x') = stp r x ^^^ stp r' x' := by
  rw [stp_eq, stp_eq, stp_eq, ← shN_xor]
  congr 1
  rw [Nat.xor_assoc, Nat.xor_assoc, ← Nat.xor_assoc r' x x', Nat.xor_comm r' x, Nat.xor_assoc x r' x']

/-! In the walk's own spelling -/
theorem and_one (m : Nat) (h : m < 4294967296) : bits .and .u32 (m : Int) 1 = ((m % 2 : Nat) : Int) := by
  have := u32_and_nat m 1 h (by decide)
  rw [nat_mask1] at this
  exact this
theorem shift_hit (m : Nat) (h : m < 4294967296) (t : (bits .and .u32 (m : Int) 1 == 1) = true) : bits .xor .u32 ((m : Int) / 2) 3988292384 = ((sh1 m : Nat) : Int) := by
  rw [and_one m h] at t
  have t' : m % 2 = 1 := by have e : ((m % 2 : Nat) : Int) = 1 := beq_iff_eq.mp t; omega
  have := u32_xor_nat (m / 2) 3988292384 (by omega) (by decide)
  unfold sh1 poly
  rw [if_pos t', ← this]
  rfl
theorem shift_miss (m : Nat) (h : m < 4294967296) (t : (bits .and .u32 (m : Int) 1 == 1) = false) : (m : Int) / 2 = ((sh1 m : Nat) : Int) := by
  rw [and_one m h] at t
  have t' : ¬ m % 2 = 1 := by intro e; rw [e] at t; simp at t
  unfold sh1
  rw [if_neg t']
  rfl

theorem not_u32 (s : Nat) (h : s < 4294967296) : bits .xor .u32 IntKind.u32.max (s : Int) = ((inv s : Nat) : Int) := by
  have := u32_xor_nat 4294967295 s (by decide) h
  rw [inv_xor h, Nat.xor_comm]
  exact this
theorem xor_u8 (r x : Nat) (hx : x < 256) : bits .xor .u8 ((r : Int) % 256) (x : Int) = ((r % 256 ^^^ x : Nat) : Int) := by
  have := u8_xor_nat (r % 256) x (by omega) hx
  rw [← this]
  rfl
theorem xor_u32 (r t : Nat) (hr : r < 4294967296) (ht : t < 4294967296) : bits .xor .u32 ((r : Int) / 256) (t : Int) = ((r / 256 ^^^ t : Nat) : Int) := by
  have := u32_xor_nat (r / 256) t (by omega) ht
  rw [← this]
  rfl
theorem xor8_lt {r x : Nat} (hx : x < 256) : r % 256 ^^^ x < 256 := xor_lt 8 (by omega) hx

theorem byte_of {l : List Int} (hb : Bytes l) (k : Nat) (hk : k < l.length) : ∃ x : Nat, x < 256 ∧ l.getD k 0 = (x : Int) ∧ l.take (k + 1) = l.take k ++ [(x : Int)] := by
  have h := hb l[k] (List.getElem_mem hk)
  unfold Byte at h
  have e : l.getD k 0 = l[k] := by simp [List.getD, hk]
  refine ⟨l[k].toNat, by omega, by rw [e]; omega, ?_⟩
  rw [List.take_succ_eq_append_getElem hk]
  congr 2
  omega

end Go.Proofs.Ytmolldednpdicaa.Crc
