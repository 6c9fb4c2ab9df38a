/- Expressions of five fields, their texts and their sets of numbers: no program's run in this text. -/
import Derived.Lib.IndexMore
namespace Go.Proofs.YteiiapnpdfgoaaaDoor
namespace Cro

/-- Is it a digit? -/
def dig (b : UInt8) : Bool := decide (48 ≤ b.toNat) && decide (b.toNat ≤ 57)
def val (l : List UInt8) : Nat := l.foldl (fun n b => n * 10 + (b.toNat - 48)) 0
/-- A number of one to four digits. -/
def num (l : List UInt8) : Option Nat := if 1 ≤ l.length ∧ l.length ≤ 4 ∧ l.all dig = true then some (val l) else none
theorem val_snoc (l : List UInt8) (b : UInt8) : val (l ++ [b]) = val l * 10 + (b.toNat - 48) := by simp [val]
theorem val_le : ∀ (k : Nat) (l : List UInt8), l.length = k → l.all dig = true → val l < 10 ^ k
  | 0, l, h, _ => by
    have : l = [] := List.length_eq_zero_iff.mp h
    subst this
    decide
  | k + 1, l, h, ha => by
    obtain ⟨t, b, rfl⟩ : ∃ t b, l = t ++ [b] := ⟨l.dropLast, l.getLast (by intro e; simp [e] at h), (List.dropLast_concat_getLast _).symm⟩
    have ht : t.length = k := by simpa using h
    rw [List.all_append] at ha
    simp only [Bool.and_eq_true, List.all_cons, List.all_nil, Bool.and_true] at ha
    have := val_le k t ht ha.1
    have hb := ha.2
    unfold dig at hb
    simp at hb
    rw [val_snoc, Nat.pow_succ]
    omega
theorem num_le {l : List UInt8} {n : Nat} (h : num l = some n) : n ≤ 9999 := by
  unfold num at h
  split at h
  · rename_i c
    injection h with h
    subst h
    have := val_le l.length l rfl c.2.2
    have : 10 ^ l.length ≤ 10 ^ 4 := Nat.pow_le_pow_right (by omega) c.2.1
    omega
  · cases h

/-- A field's numbers: from lo to hi in a text, to last as bits. -/
structure Sp where
  lo : Nat
  hi : Nat
  last : Nat
def sp : Nat → Sp
  | 0 => ⟨0, 59, 59⟩
  | 1 => ⟨0, 23, 23⟩
  | 2 => ⟨1, 31, 31⟩
  | 3 => ⟨1, 12, 12⟩
  | _ => ⟨0, 7, 6⟩
/-- What an item says. -/
structure It where
  a : Nat
  b : Nat
  s : Nat
/-- What may take a step: all, or from one number to another. -/
def bnds (f : Sp) (l : List UInt8) : Option (Nat × Nat) :=
  if l = [42] then some (f.lo, f.hi) else
  match num (Lib.cut l [45]).1, num (Lib.cut l [45]).2.1 with
  | some a, some b => some (a, b)
  | _, _ => none
theorem bnds_le {f : Sp} (hf : f.lo ≤ 9999 ∧ f.hi ≤ 9999) {l : List UInt8} {a b : Nat} (h : bnds f l = some (a, b)) : a ≤ 9999 ∧ b ≤ 9999 := by
  unfold bnds at h
  split at h
  · simp at h
    omega
  · split at h
    · rename_i e1 e2
      simp at h
      have := num_le e1
      have := num_le e2
      omega
    · cases h
/-- An item. -/
def itm (f : Sp) (l : List UInt8) : Option It :=
  if (Lib.cut l [47]).2.2 = true then
    match bnds f (Lib.cut l [47]).1, num (Lib.cut l [47]).2.1 with
    | some (a, b), some s => some ⟨a, b, s⟩
    | _, _ => none
  else
    match num (Lib.cut l [47]).1 with
    | some n => some ⟨n, n, 1⟩
    | none => match bnds f (Lib.cut l [47]).1 with
      | some (a, b) => some ⟨a, b, 1⟩
      | none => none
/-- Are an item's numbers the field's? -/
def Sp.holds (f : Sp) (i : It) : Prop := f.lo ≤ i.a ∧ i.a ≤ i.b ∧ i.b ≤ f.hi ∧ 0 < i.s
abbrev Sp.holdsB (f : Sp) (i : It) : Bool := decide (f.lo ≤ i.a ∧ i.a ≤ i.b ∧ i.b ≤ f.hi ∧ 0 < i.s)
/-- The bits of the numbers from n on, every s-th, up to b. -/
def bts (f : Sp) (b s : Nat) : Nat → Nat → Nat → Nat
  | 0, _, x => x
  | k + 1, n, x => if n ≤ b then bts f b s k (n + s) (x ||| 2 ^ (if f.last < n then f.lo else n)) else x
def Sp.set (f : Sp) (i : It) : Nat := bts f i.b i.s (i.b + 1) i.a 0
theorem bts_end (f : Sp) (b s k n x : Nat) (h : b < n) : bts f b s k n x = x := by
  cases k with
  | zero => rfl
  | succ k => rw [bts, if_neg (by omega)]
/-- As much fuel as there are numbers is enough. -/
theorem bts_fuel (f : Sp) (b s : Nat) (hs : 0 < s) : ∀ (k j n x : Nat), b + 1 ≤ n + k → b + 1 ≤ n + j → bts f b s k n x = bts f b s j n x
  | 0, j, n, x, h, _ => by rw [bts_end f b s j n x (by omega), bts]
  | k + 1, 0, n, x, _, h => by rw [bts_end f b s (k + 1) n x (by omega), bts]
  | k + 1, j + 1, n, x, h, h' => by
    rw [bts, bts]
    split
    · exact bts_fuel f b s hs k j _ _ (by omega) (by omega)
    · rfl
theorem bts_or (f : Sp) (b s : Nat) : ∀ (k n x : Nat), bts f b s k n x = x ||| bts f b s k n 0
  | 0, n, x => by simp [bts]
  | k + 1, n, x => by
    rw [bts, bts]
    split
    · rw [bts_or f b s k, bts_or f b s k (n + s) (0 ||| _), Nat.zero_or, Nat.or_assoc]
    · simp
theorem bts_lt (f : Sp) (b s N : Nat) (hl : f.last < N) (hlo : f.lo < N) : ∀ (k n x : Nat), x < 2 ^ N → bts f b s k n x < 2 ^ N
  | 0, n, x, h => h
  | k + 1, n, x, h => by
    rw [bts]
    split
    · refine bts_lt f b s N hl hlo k _ _ (Nat.or_lt_two_pow h ?_)
      refine Nat.pow_lt_pow_right (by omega) ?_
      split <;> omega
    · exact h
theorem set_lt (f : Sp) (i : It) (N : Nat) (hl : f.last < N) (hlo : f.lo < N) : f.set i < 2 ^ N := bts_lt f i.b i.s N hl hlo _ _ _ (Nat.two_pow_pos N)
/-- All numbers of a field. -/
def Sp.full (f : Sp) : Nat := 2 ^ (f.last + 1) - 2 ^ f.lo

/-- All items, or none if one of them isn't. -/
def itms (f : Sp) : List (List UInt8) → Option (List It)
  | [] => some []
  | l :: t => match itm f l, itms f t with
    | some i, some r => some (i :: r)
    | _, _ => none
def sets (f : Sp) (x : Nat) : List It → Nat
  | [] => x
  | i :: t => sets f (x ||| f.set i) t
/-- What a word's items say: the set and 0, or an error. -/
def fld (f : Sp) (l : List (List UInt8)) : Nat × Int :=
  match itms f l with
  | none => (0, 50)
  | some r => if r.all f.holdsB = true then (sets f 0 r, 0) else (0, 51)
end Cro
end Go.Proofs.YteiiapnpdfgoaaaDoor
