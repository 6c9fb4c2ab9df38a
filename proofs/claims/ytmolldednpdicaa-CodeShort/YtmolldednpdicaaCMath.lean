/- The plain mathematics of numbers, fields and lists as bytes: how they are written, how they are read, and that the two go there and back. -/
import Derived.Test.YtmolldednpdicaaMath
namespace Go.Proofs.Ytmolldednpdicaa.Code
open Crc (Bytes Byte)

/-- A number as bytes, seven bits a byte. -/
def put (n : Nat) : List Int := if n < 128 then [(n : Int)] else ((n % 128 + 128 : Nat) : Int) :: put (n / 128)
  termination_by n
  decreasing_by omega

theorem put_small {n : Nat} (h : n < 128) : put n = [(n : Int)] := by rw [put]; simp [h]
theorem put_big {n : Nat} (h : 128 ≤ n) : put n = ((n % 128 + 128 : Nat) : Int) :: put (n / 128) := by rw [put]; simp [Nat.not_lt.mpr h]

def val : List Int → Nat
  | [] => 0
  | x :: r => x.toNat % 128 + 128 * val r

/-- The place of the first byte below 128. -/
def idx : List Int → Option Nat
  | [] => none
  | x :: r => if x < 128 then some 0 else (idx r).map (· + 1)

abbrev Bad (l : List Int) (k : Nat) : Prop := (1 ≤ k ∧ l.getD k 0 = 0) ∨ 10 < k + 1 ∨ (k + 1 = 10 ∧ 1 < l.getD k 0)

def rNum (l : List Int) : Except Int (Nat × Nat) :=
  match idx l with
  | none => .error 20
  | some k => if Bad l k then .error 21 else .ok (val (l.take (k + 1)), k + 1)

theorem put_ne (n : Nat) : put n ≠ [] := by rw [put]; split <;> simp
theorem put_pos (n : Nat) : 1 ≤ (put n).length := by
  have := put_ne n
  cases h : put n with
  | nil => exact absurd h this
  | cons => simp

theorem put_bytes (n : Nat) : Bytes (put n) := by
  induction n using Nat.strongRecOn with
  | _ n ih =>
    by_cases h : n < 128
    · rw [put_small h]; intro x hx; simp at hx; subst hx; unfold Byte; omega
    · rw [put_big (by omega)]
      intro x hx
      rcases List.mem_cons.1 hx with rfl | hx
      · unfold Byte; omega
      · exact ih (n / 128) (by omega) x hx

theorem put_len (k n : Nat) (hn : n < 128 ^ (k + 1)) : (put n).length ≤ k + 1 := by
  induction k generalizing n with
  | zero => rw [put_small (by simpa using hn)]; simp
  | succ k ih =>
    by_cases h : n < 128
    · rw [put_small h]; simp
    · rw [put_big (by omega)]
      have : n / 128 < 128 ^ (k + 1) := by
        rw [Nat.div_lt_iff_lt_mul (by decide)]; rwa [Nat.pow_succ] at hn
      have := ih _ this
      simp; omega

theorem put_len10 {n : Nat} (hn : n < 18446744073709551616) : (put n).length ≤ 10 :=
  put_len 9 n (Nat.lt_of_lt_of_le hn (by decide))

theorem put_len3 {n : Nat} (hn : n ≤ 65536) : (put n).length ≤ 3 :=
  put_len 2 n (Nat.lt_of_le_of_lt hn (by decide))

theorem val_put (n : Nat) : val (put n) = n := by
  induction n using Nat.strongRecOn with
  | _ n ih =>
    by_cases h : n < 128
    · rw [put_small h]; simp [val]; omega
    · rw [put_big (by omega), val, ih _ (by omega)]; omega

/-- The last byte of a number: below 128, not 0 in a number of several bytes, and no greater than the number lets it be. -/
theorem put_last (n : Nat) : ∃ x : Nat, (put n).getD ((put n).length - 1) 0 = (x : Int) ∧ x < 128 ∧ x * 128 ^ ((put n).length - 1) ≤ n ∧ (1 ≤ n → 1 ≤ x) := by
  induction n using Nat.strongRecOn with
  | _ n ih =>
    by_cases h : n < 128
    · rw [put_small h]; exact ⟨n, by simp, h, by simp, fun h => h⟩
    · obtain ⟨x, h1, h2, h3, h4⟩ := ih (n / 128) (by omega)
      have hp := put_pos (n / 128)
      rw [put_big (by omega)]
      refine ⟨x, ?_, h2, ?_, fun _ => h4 (by omega)⟩
      · obtain ⟨m, hm⟩ : ∃ m, (put (n / 128)).length = m + 1 := ⟨_, (Nat.sub_add_cancel hp).symm⟩
        rw [hm] at h1
        simp [hm] at h1 ⊢
        exact h1
      · obtain ⟨m, hm⟩ : ∃ m, (put (n / 128)).length = m + 1 := ⟨_, (Nat.sub_add_cancel hp).symm⟩
        simp only [hm, List.length_cons, Nat.add_sub_cancel] at h3 ⊢
        rw [Nat.pow_succ, ← Nat.mul_assoc]
        have := Nat.mul_le_mul_right 128 h3
        omega

theorem idx_put (n : Nat) (r : List Int) : idx (put n ++ r) = some ((put n).length - 1) := by
  induction n using Nat.strongRecOn with
  | _ n ih =>
    by_cases h : n < 128
    · rw [put_small h]; simp [idx]; omega
    · rw [put_big (by omega), List.cons_append, idx, if_neg (by omega), ih _ (by omega)]
      have hp := put_pos (n / 128)
      simp; omega

theorem idx_some {l : List Int} {k : Nat} (h : idx l = some k) : k < l.length ∧ l.getD k 0 < 128 ∧ ∀ i, i < k → ¬ l.getD i 0 < 128 := by
  induction l generalizing k with
  | nil => cases h
  | cons x r ih =>
    rw [idx] at h
    split at h
    · injection h with h; subst h; exact ⟨by simp, by simpa, fun i hi => by omega⟩
    · cases hr : idx r with
      | none => rw [hr] at h; cases h
      | some j =>
        rw [hr] at h
        simp at h
        subst h
        obtain ⟨h1, h2, h3⟩ := ih hr
        refine ⟨by simp; omega, by simpa using h2, fun i hi => ?_⟩
        cases i with
        | zero => simp; omega
        | succ i => simpa using h3 i (by omega)

theorem idx_none {l : List Int} (h : idx l = none) : ∀ i, i < l.length → ¬ l.getD i 0 < 128 := by
  induction l with
  | nil => intro i hi; simp at hi
  | cons x r ih =>
    rw [idx] at h
    split at h
    · cases h
    · have hr : idx r = none := by cases hr : idx r with
        | none => rfl
        | some j => rw [hr] at h; cases h
      intro i hi
      cases i with
      | zero => simp; omega
      | succ i => simpa using ih hr i (by simpa using hi)

/-- What tells idx by its places. -/
theorem idx_of {l : List Int} {k : Nat} (h1 : k < l.length) (h2 : l.getD k 0 < 128) (h3 : ∀ i, i < k → ¬ l.getD i 0 < 128) : idx l = some k := by
  cases h : idx l with
  | none => exact absurd h2 (idx_none h k h1)
  | some j =>
    obtain ⟨g1, g2, g3⟩ := idx_some h
    have : j = k := by
      rcases Nat.lt_trichotomy j k with hlt | rfl | hgt
      · exact absurd g2 (h3 j hlt)
      · rfl
      · exact absurd h2 (g3 k hgt)
    rw [this]
theorem idx_of_none {l : List Int} (h3 : ∀ i, i < l.length → ¬ l.getD i 0 < 128) : idx l = none := by
  cases h : idx l with
  | none => rfl
  | some j => obtain ⟨g1, g2, g3⟩ := idx_some h; exact absurd g2 (h3 j g1)

theorem val_pos {l : List Int} {k : Nat} (hk : k < l.length) (h0 : 0 ≤ l.getD k 0) (h1 : l.getD k 0 ≠ 0) (h2 : l.getD k 0 < 128) : 1 ≤ val (l.take (k + 1)) := by
  induction l generalizing k with
  | nil => simp at hk
  | cons x r ih =>
    cases k with
    | zero => simp [val] at h0 h1 h2 ⊢; omega
    | succ k =>
      have := ih (k := k) (by simpa using hk) (by simpa using h0) (by simpa using h1) (by simpa using h2)
      simp only [List.take_succ_cons, val]
      omega

theorem put_val {l : List Int} (hb : Bytes l) {k : Nat} (h : idx l = some k) (hz : 1 ≤ k → l.getD k 0 ≠ 0) : put (val (l.take (k + 1))) = l.take (k + 1) := by
  induction l generalizing k with
  | nil => cases h
  | cons x r ih =>
    have hx := hb.head
    unfold Byte at hx
    rw [idx] at h
    split at h
    · injection h with h; subst h
      simp only [List.take_succ_cons, List.take_zero, val]
      rw [put_small (by omega)]
      congr 1; omega
    · cases hr : idx r with
      | none => rw [hr] at h; cases h
      | some j =>
        rw [hr] at h
        simp at h
        subst h
        have hz' : r.getD j 0 ≠ 0 := by simpa using hz (by omega)
        have hi := ih hb.tail hr (fun _ => hz')
        obtain ⟨g1, g2, g3⟩ := idx_some hr
        have g0 : 0 ≤ r.getD j 0 := by
          simp [g1]
          exact (hb.tail _ (List.getElem_mem g1)).1
        have hp := val_pos g1 g0 hz' g2
        simp only [List.take_succ_cons, val]
        rw [put_big (by omega)]
        rw [show (x.toNat % 128 + 128 * val (r.take (j + 1))) / 128 = val (r.take (j + 1)) from by omega, hi]
        congr 1; omega

theorem val_lt {l : List Int} {k : Nat} (hk : k < l.length) (h0 : 0 ≤ l.getD k 0) (h2 : l.getD k 0 < 128) : val (l.take (k + 1)) < ((l.getD k 0).toNat + 1) * 128 ^ k := by
  induction l generalizing k with
  | nil => simp at hk
  | cons x r ih =>
    cases k with
    | zero => simp [val] at h0 h2 ⊢; omega
    | succ k =>
      have := ih (k := k) (by simpa using hk) (by simpa using h0) (by simpa using h2)
      simp only [List.take_succ_cons, val, List.getD_cons_succ]
      rw [Nat.pow_succ, ← Nat.mul_assoc]
      omega

theorem good_lt {l : List Int} (hb : Bytes l) {k : Nat} (h : idx l = some k) (hz : ¬ Bad l k) : val (l.take (k + 1)) < 18446744073709551616 := by
  obtain ⟨g1, g2, _⟩ := idx_some h
  have g0 : 0 ≤ l.getD k 0 := by simp [g1]; exact (hb _ (List.getElem_mem g1)).1
  have := val_lt g1 g0 g2
  unfold Bad at hz
  by_cases h9 : k = 9
  · subst h9
    have : l.getD 9 0 ≤ 1 := by omega
    have : (l.getD 9 0).toNat + 1 ≤ 2 := by omega
    have := Nat.mul_le_mul_right (128 ^ 9) this
    have e : 2 * 128 ^ 9 = 18446744073709551616 := by decide
    omega
  · have hk : k ≤ 8 := by omega
    have h1 : (l.getD k 0).toNat + 1 ≤ 128 := by omega
    have h2 := Nat.mul_le_mul_right (128 ^ k) h1
    have h3 : 128 ^ k ≤ 128 ^ 8 := Nat.pow_le_pow_right (by decide) hk
    have h4 := Nat.mul_le_mul_left 128 h3
    have e : 128 * 128 ^ 8 ≤ 18446744073709551616 := by decide
    omega

theorem put_good {n : Nat} (hn : n < 18446744073709551616) (r : List Int) : ¬ Bad (put n ++ r) ((put n).length - 1) := by
  obtain ⟨x, h1, h2, h3, h4⟩ := put_last n
  have hp := put_pos n
  have hl := put_len10 hn
  have hg : (put n ++ r).getD ((put n).length - 1) 0 = (x : Int) := by
    rw [← h1, List.getD_eq_getElem?_getD, List.getD_eq_getElem?_getD, List.getElem?_append_left (by omega)]
  unfold Bad
  rw [hg]
  rintro (⟨h, h'⟩ | h | ⟨h, h'⟩)
  · have : 1 ≤ x := h4 (by
      by_cases h0 : n < 128
      · rw [put_small h0] at h; simp at h
      · omega)
    omega
  · omega
  · have e : (put n).length - 1 = 9 := by omega
    rw [e] at h3
    have := Nat.mul_le_mul_right (128 ^ 9) (show 2 ≤ x by omega)
    have e : 2 * 128 ^ 9 = 18446744073709551616 := by decide
    omega

theorem rNum_put {n : Nat} (hn : n < 18446744073709551616) (r : List Int) : rNum (put n ++ r) = .ok (n, (put n).length) := by
  have hp := put_pos n
  unfold rNum
  rw [idx_put]
  simp only [if_neg (put_good hn r)]
  rw [Nat.sub_add_cancel hp, List.take_left, val_put]

theorem rNum_ok {l : List Int} (hb : Bytes l) {n s : Nat} (h : rNum l = .ok (n, s)) : n < 18446744073709551616 ∧ 1 ≤ s ∧ s ≤ l.length ∧ l.take s = put n := by
  unfold rNum at h
  cases hi : idx l with
  | none => rw [hi] at h; cases h
  | some k =>
    rw [hi] at h
    simp only at h
    split at h
    · cases h
    · rename_i hbad
      injection h with h
      injection h with h1 h2
      subst h1 h2
      obtain ⟨g1, _, _⟩ := idx_some hi
      refine ⟨good_lt hb hi hbad, by omega, g1, ?_⟩
      exact (put_val hb hi (fun hk he => hbad (.inl ⟨hk, he⟩))).symm

/-- What the loop from the last byte down reckons. -/
theorem val_drop_step {l : List Int} {i : Nat} (hi : i < l.length) : val (l.drop i) = (l.getD i 0).toNat % 128 + 128 * val (l.drop (i + 1)) := by
  rw [List.drop_eq_getElem_cons hi, val]
  simp [hi]
theorem val_drop_le (l : List Int) (i : Nat) : val (l.drop i) ≤ val l := by
  induction l generalizing i with
  | nil => simp
  | cons x r ih =>
    cases i with
    | zero => simp
    | succ i => have := ih i; simp only [List.drop_succ_cons, val]; omega

/-! Fields. -/
structure Fd where
  k : Int
  n : Int
  s : ByteArray

def toB (s : ByteArray) : List Int := s.data.toList.map fun b => (b.toNat : Int)
def ofB (l : List Int) : ByteArray := ⟨(l.map fun x => UInt8.ofNat x.toNat).toArray⟩

theorem toB_bytes (s : ByteArray) : Bytes (toB s) := by
  intro x hx
  obtain ⟨b, _, rfl⟩ := List.mem_map.1 hx
  have := b.toNat_lt
  unfold Byte
  omega
theorem toB_len (s : ByteArray) : (toB s).length = s.size := by unfold toB; rw [List.length_map, Array.length_toList]; rfl
theorem toB_ofB {l : List Int} (h : Bytes l) : toB (ofB l) = l := by
  unfold toB ofB
  simp only [List.map_map]
  conv => rhs; rw [← List.map_id l]
  refine List.map_congr_left fun x hx => ?_
  have := h x hx
  unfold Byte at this
  simp
  omega
theorem ofB_toB (s : ByteArray) : ofB (toB s) = s := by
  unfold toB ofB
  rw [List.map_map]
  have : (List.map ((fun x : Int => UInt8.ofNat x.toNat) ∘ fun b : UInt8 => (b.toNat : Int)) s.data.toList) = s.data.toList := by
    conv => rhs; rw [← List.map_id s.data.toList]
    refine List.map_congr_left fun x hx => ?_
    simp
  rw [this]
theorem ofB_inj {a b : List Int} (ha : Bytes a) (hb : Bytes b) : ofB a = ofB b ↔ a = b :=
  ⟨fun h => by rw [← toB_ofB ha, h, toB_ofB hb], fun h => by rw [h]⟩
theorem ofB_size (l : List Int) : (ofB l).size = l.length := by simp [ofB, ByteArray.size]
theorem ofB_nil : ofB [] = ByteArray.empty := rfl

abbrev Fits (f : Fd) : Prop := (f.k = 1 ∧ 0 ≤ f.n) ∨ f.k = 2 ∨ (f.k = 3 ∧ f.s.size ≤ 65536)

def In64 (n : Int) : Prop := -9223372036854775808 ≤ n ∧ n < 9223372036854775808

def fold (n : Int) : Nat := if n < 0 then (2 * (-n - 1) + 1).toNat else (2 * n).toNat
def unfold (m : Nat) : Int := if m % 2 = 1 then -((m / 2 : Nat) : Int) - 1 else ((m / 2 : Nat) : Int)
theorem fold_lt {n : Int} (h : In64 n) : fold n < 18446744073709551616 := by unfold fold In64 at *; split <;> omega
theorem unfold_fold (n : Int) : unfold (fold n) = n := by unfold unfold fold; split <;> split <;> omega
theorem fold_unfold (m : Nat) : fold (unfold m) = m := by unfold fold unfold; split <;> split <;> omega
theorem unfold_in {m : Nat} (h : m < 18446744073709551616) : In64 (unfold m) := by unfold unfold In64; split <;> omega

/-- A field's bytes. -/
def fb (f : Fd) : List Int := if f.k = 2 then put (fold f.n) else if f.k = 3 then put f.s.size ++ toB f.s else put f.n.toNat
def norm (f : Fd) : Fd := if f.k = 3 then ⟨3, 0, f.s⟩ else ⟨f.k, f.n, ofB []⟩

theorem fb_bytes (f : Fd) : Bytes (fb f) := by
  unfold fb
  split
  · exact put_bytes _
  · split
    · exact (put_bytes _).append (toB_bytes _)
    · exact put_bytes _
theorem fb_len {f : Fd} (h : Fits f) (hn : In64 f.n) : (fb f).length ≤ 65546 := by
  unfold fb
  split
  · have := put_len10 (fold_lt hn); omega
  · split
    · rcases h with h | h | h
      · omega
      · omega
      · have := put_len3 h.2
        rw [List.length_append, toB_len]; omega
    · have := put_len10 (n := f.n.toNat) (by unfold In64 at hn; omega); omega

def enc (fs : List Fd) : List Int := fs.flatMap fb
theorem enc_nil : enc [] = [] := rfl
theorem enc_cons (f : Fd) (fs : List Fd) : enc (f :: fs) = fb f ++ enc fs := rfl
theorem enc_append (a b : List Fd) : enc (a ++ b) = enc a ++ enc b := by simp [enc]
theorem enc_bytes (fs : List Fd) : Bytes (enc fs) := by
  induction fs with
  | nil => intro x hx; cases hx
  | cons f fs ih => exact (fb_bytes f).append ih

theorem enc_len {fs : List Fd} (h : ∀ f ∈ fs, Fits f ∧ In64 f.n) {k : Nat} (hk : fs.length ≤ k) : (enc fs).length ≤ k * 65546 := by
  have key : (enc fs).length ≤ fs.length * 65546 := by
    clear hk
    induction fs with
    | nil => simp [enc]
    | cons f fs ih =>
      have h1 := fb_len (h f (List.mem_cons_self ..)).1 (h f (List.mem_cons_self ..)).2
      have h2 := ih fun g hg => h g (List.mem_cons_of_mem _ hg)
      rw [enc_cons, List.length_append, List.length_cons, Nat.add_mul]
      omega
  exact Nat.le_trans key (Nat.mul_le_mul_right 65546 hk)

def rText (l : List Int) : Except Int (Nat × Nat) :=
  match rNum l with
  | .error e => .error e
  | .ok (n, s) => if 65536 < n then .error 21 else if l.length < s + n then .error 20 else .ok (s, s + n)

def rField (k : Int) (l : List Int) : Except Int (Fd × Nat) :=
  if k = 1 then
    match rNum l with
    | .error e => .error e
    | .ok (n, s) => if 9223372036854775807 < n then .error 21 else .ok (⟨k, n, ofB []⟩, s)
  else if k = 2 then
    match rNum l with
    | .error e => .error e
    | .ok (n, s) => .ok (⟨k, unfold n, ofB []⟩, s)
  else if k = 3 then
    match rText l with
    | .error e => .error e
    | .ok (lo, hi) => .ok (⟨k, 0, ofB ((l.drop lo).take (hi - lo))⟩, hi)
  else .error 1

def dec : List Int → List Int → Except Int (List Fd)
  | [], l => if l = [] then .ok [] else .error 21
  | k :: ks, l =>
    match rField k l with
    | .error e => .error e
    | .ok (f, s) => (dec ks (l.drop s)).map (f :: ·)

theorem rText_put {l r : List Int} (hl : l.length ≤ 65536) : rText (put l.length ++ (l ++ r)) = .ok ((put l.length).length, (put l.length).length + l.length) := by
  unfold rText
  rw [rNum_put (by omega)]
  simp only
  rw [if_neg (by omega), if_neg (by simp <;> omega)]

theorem rText_ok {l : List Int} (hb : Bytes l) {lo hi : Nat} (h : rText l = .ok (lo, hi)) :
    lo ≤ hi ∧ hi ≤ l.length ∧ hi - lo ≤ 65536 ∧ 1 ≤ lo ∧ lo ≤ 10 ∧ l.take hi = put (hi - lo) ++ (l.drop lo).take (hi - lo) := by
  unfold rText at h
  cases hn : rNum l with
  | error e => rw [hn] at h; cases h
  | ok p =>
    obtain ⟨n, s⟩ := p
    rw [hn] at h
    simp only at h
    split at h
    · cases h
    · split at h
      · cases h
      · injection h with h
        injection h with h1 h2
        subst h1 h2
        obtain ⟨g1, g2, g3, g4⟩ := rNum_ok hb hn
        have hl : s ≤ 10 := by
          have := congrArg List.length g4
          have h10 := put_len10 g1
          simp at this
          omega
        refine ⟨by omega, by omega, by omega, g2, hl, ?_⟩
        rw [Nat.add_sub_cancel_left, ← g4, List.take_add]

theorem rField_fb {f : Fd} (h : Fits f) (hn : In64 f.n) (r : List Int) : rField f.k (fb f ++ r) = .ok (norm f, (fb f).length) := by
  have hn' := hn
  unfold In64 at hn'
  rcases f with ⟨k, n, s⟩
  unfold Fits at h
  simp only at h hn hn'
  rcases h with ⟨rfl, h0⟩ | rfl | ⟨rfl, h0⟩
  · simp only [rField, fb, norm, if_pos, if_neg (show ¬ (1 : Int) = 2 by decide), if_neg (show ¬ (1 : Int) = 3 by decide)]
    rw [rNum_put (by omega)]
    simp only
    rw [if_neg (by omega)]
    simp only [Except.ok.injEq, Prod.mk.injEq, Fd.mk.injEq, true_and, and_true]
    omega
  · simp only [rField, fb, norm, if_pos, if_neg (show ¬ (2 : Int) = 1 by decide), if_neg (show ¬ (2 : Int) = 3 by decide)]
    rw [rNum_put (fold_lt hn)]
    simp only [unfold_fold]
  · simp only [rField, fb, norm, if_pos, if_neg (show ¬ (3 : Int) = 1 by decide), if_neg (show ¬ (3 : Int) = 2 by decide)]
    rw [List.append_assoc, ← toB_len s, rText_put (by rw [toB_len]; exact h0)]
    simp only [Nat.add_sub_cancel_left, List.drop_left, List.take_left, ofB_toB, List.length_append]

theorem rField_ok {k : Int} {l : List Int} (hb : Bytes l) {f : Fd} {s : Nat} (h : rField k l = .ok (f, s)) :
    f.k = k ∧ Fits f ∧ In64 f.n ∧ norm f = f ∧ s ≤ l.length ∧ l.take s = fb f := by
  unfold rField at h
  split at h
  · rename_i hk
    subst hk
    cases hn : rNum l with
    | error e => rw [hn] at h; cases h
    | ok p =>
      obtain ⟨n, z⟩ := p
      rw [hn] at h
      simp only at h
      split at h
      · cases h
      · injection h with h
        injection h with h1 h2
        subst h1 h2
        obtain ⟨g1, g2, g3, g4⟩ := rNum_ok hb hn
        refine ⟨rfl, .inl ⟨rfl, by simp⟩, ⟨by simp only; omega, by simp only; omega⟩, rfl, g3, ?_⟩
        rw [g4]; simp [fb]
  · split at h
    · rename_i hk
      subst hk
      cases hn : rNum l with
      | error e => rw [hn] at h; cases h
      | ok p =>
        obtain ⟨n, z⟩ := p
        rw [hn] at h
        simp only at h
        injection h with h
        injection h with h1 h2
        subst h1 h2
        obtain ⟨g1, g2, g3, g4⟩ := rNum_ok hb hn
        refine ⟨rfl, .inr (.inl rfl), unfold_in g1, rfl, g3, ?_⟩
        rw [g4]; simp [fb, fold_unfold]
    · split at h
      · rename_i hk
        subst hk
        cases hn : rText l with
        | error e => rw [hn] at h; cases h
        | ok p =>
          obtain ⟨lo, hi⟩ := p
          rw [hn] at h
          simp only at h
          injection h with h
          injection h with h1 h2
          subst h1 h2
          obtain ⟨g1, g2, g3, g4, _, g5⟩ := rText_ok hb hn
          have hlen : ((l.drop lo).take (hi - lo)).length = hi - lo := by simp; omega
          refine ⟨rfl, .inr (.inr ⟨rfl, by rw [ofB_size, hlen]; exact g3⟩), ⟨by simp, by simp⟩, rfl, g2, ?_⟩
          rw [g5]
          simp only [fb, if_neg (show ¬ (3 : Int) = 2 by decide), if_pos]
          rw [ofB_size, hlen, toB_ofB ((hb.drop lo).take _)]
      · cases h

theorem dec_enc {fs : List Fd} (h : ∀ f ∈ fs, Fits f ∧ In64 f.n) : dec (fs.map (·.k)) (enc fs) = .ok (fs.map norm) := by
  induction fs with
  | nil => rfl
  | cons f fs ih =>
    obtain ⟨h1, h2⟩ := h f (List.mem_cons_self ..)
    rw [enc_cons, List.map_cons, dec, rField_fb h1 h2]
    simp only [List.drop_left]
    rw [ih fun g hg => h g (List.mem_cons_of_mem _ hg)]
    rfl

theorem dec_ok {ks : List Int} {l : List Int} (hb : Bytes l) {fs : List Fd} (h : dec ks l = .ok fs) : (∀ f ∈ fs, Fits f ∧ In64 f.n) ∧ enc fs = l := by
  induction ks generalizing l fs with
  | nil =>
    rw [dec] at h
    split at h
    · injection h with h; subst h; rename_i e; subst e; exact ⟨fun _ hm => (List.not_mem_nil hm).elim, rfl⟩
    · cases h
  | cons k ks ih =>
    rw [dec] at h
    cases hr : rField k l with
    | error e => rw [hr] at h; cases h
    | ok p =>
      obtain ⟨f, s⟩ := p
      rw [hr] at h
      simp only at h
      cases hd : dec ks (l.drop s) with
      | error e => rw [hd] at h; cases h
      | ok gs =>
        rw [hd] at h
        simp only [Except.map] at h
        injection h with h
        subst h
        obtain ⟨g1, g2, g3, g4, g5, g6⟩ := rField_ok hb hr
        obtain ⟨i1, i2⟩ := ih (hb.drop s) hd
        refine ⟨fun g hg => ?_, ?_⟩
        · rcases List.mem_cons.1 hg with rfl | hg
          · exact ⟨g2, g3⟩
          · exact i1 g hg
        · rw [enc_cons, i2, ← g6, List.take_append_drop]
end Go.Proofs.Ytmolldednpdicaa.Code
