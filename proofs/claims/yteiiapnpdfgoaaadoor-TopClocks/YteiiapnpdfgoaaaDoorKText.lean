/- Texts cut at a byte, split, and parted into words: no program's run in this text. -/
import Derived.Test.YteiiapnpdfgoaaaDoorKMath
import Derived.Lib.Split
import Derived.Lib.CountLaws
import Derived.Lib.IndexBytes
import Derived.Lib.FieldsP
import Derived.Lib.SpaceUEq
import Derived.Lib.MapLaws
namespace Go.Proofs.YteiiapnpdfgoaaaDoor
namespace Cro

/-- Where a byte stands first. -/
theorem first (c : UInt8) : ∀ l : List UInt8, (c ∉ l ∧ Lib.index l [c] = -1) ∨ ∃ a r, l = a ++ c :: r ∧ c ∉ a ∧ Lib.index l [c] = (a.length : Int)
  | [] => .inl ⟨by simp, rfl⟩
  | b :: l => by
    rw [Lib.index_one]
    by_cases hb : b = c
    · subst hb
      exact .inr ⟨[], l, rfl, by simp, by simp [Lib.indexByte]⟩
    · have hb' : (b == c) = false := by simpa using hb
      rcases first c l with ⟨h1, h2⟩ | ⟨a, r, h1, h2, h3⟩
      · rw [Lib.index_one] at h2
        refine .inl ⟨?_, by simp [Lib.indexByte, hb', h2]⟩
        intro h
        rcases List.mem_cons.mp h with h | h
        · exact hb h.symm
        · exact h1 h
      · rw [Lib.index_one] at h3
        refine .inr ⟨b :: a, r, by rw [h1]; rfl, ?_, ?_⟩
        · intro h
          rcases List.mem_cons.mp h with h | h
          · exact hb h.symm
          · exact h2 h
        · simp only [Lib.indexByte, hb', h3]
          simp
theorem index_no {c : UInt8} {l : List UInt8} (h : c ∉ l) : Lib.index l [c] = -1 := by
  rcases first c l with ⟨_, h2⟩ | ⟨a, r, h1, _, _⟩
  · exact h2
  · exact absurd (by rw [h1]; simp) h
theorem index_yes {c : UInt8} {a r : List UInt8} (h : c ∉ a) : Lib.index (a ++ c :: r) [c] = (a.length : Int) := by
  rcases first c (a ++ c :: r) with ⟨h1, _⟩ | ⟨a', r', h1, h2, h3⟩
  · exact absurd (by simp) h1
  · rw [h3]
    have : a = a' := by
      clear h3
      induction a generalizing a' with
      | nil =>
        cases a' with
        | nil => rfl
        | cons x a' => simp at h1; rw [h1.1] at h2; simp at h2
      | cons y a ih =>
        cases a' with
        | nil => simp at h1; rw [h1.1] at h; simp at h
        | cons x a' =>
          simp at h1 h h2
          rw [h1.1, ih h.2 a' h1.2 h2.2]
    rw [this]
theorem cut_no {c : UInt8} {l : List UInt8} (h : c ∉ l) : Lib.cut l [c] = (l, [], false) := by
  unfold Lib.cut
  rw [index_no h]
  rfl
theorem cut_yes {c : UInt8} {a r : List UInt8} (h : c ∉ a) : Lib.cut (a ++ c :: r) [c] = (a, r, true) := by
  unfold Lib.cut
  rw [index_yes h, if_pos (by omega)]
  simp

/-- A text split at each c. -/
def spl (c : UInt8) : List UInt8 → List (List UInt8)
  | [] => [[]]
  | b :: t => if b = c then [] :: spl c t else match spl c t with
    | [] => [[b]]
    | h :: r => (b :: h) :: r
theorem spl_ne (c : UInt8) : ∀ l, spl c l ≠ []
  | [] => by simp [spl]
  | b :: t => by
    rw [spl]
    split
    · simp
    · split <;> simp
theorem spl_no {c : UInt8} : ∀ {l : List UInt8}, c ∉ l → spl c l = [l]
  | [], _ => rfl
  | b :: t, h => by
    have hb : ¬ b = c := fun e => h (by simp [e])
    rw [spl, if_neg hb, spl_no (fun e => h (by simp [e]))]
theorem spl_yes {c : UInt8} : ∀ {a r : List UInt8}, c ∉ a → spl c (a ++ c :: r) = a :: spl c r
  | [], r, _ => by simp [spl]
  | b :: a, r, h => by
    have hb : ¬ b = c := fun e => h (by simp [e])
    rw [List.cons_append, spl, if_neg hb, spl_yes (fun e => h (by simp [e]))]
theorem spl_append (c : UInt8) : ∀ a b : List UInt8, spl c (a ++ c :: b) = spl c a ++ spl c b
  | [], b => by simp [spl]
  | x :: a, b => by
    rw [List.cons_append, spl, spl, spl_append c a b]
    split
    · rfl
    · have := spl_ne c a
      cases h : spl c a with
      | nil => exact absurd h this
      | cons y r => rfl
theorem spl_len (c : UInt8) : ∀ l, ∀ x ∈ spl c l, x.length ≤ l.length
  | [], x, h => by simp [spl] at h; simp [h]
  | b :: t, x, h => by
    rw [spl] at h
    split at h
    · rcases List.mem_cons.mp h with rfl | h
      · simp
      · have := spl_len c t x h; simp; omega
    · cases e : spl c t with
      | nil => exact absurd e (spl_ne c t)
      | cons y r =>
        rw [e] at h
        rcases List.mem_cons.mp h with rfl | h
        · have := spl_len c t y (by simp [e]); simp; omega
        · have := spl_len c t x (by simp [e, h]); simp; omega
theorem spl_many (c : UInt8) : ∀ l, (spl c l).length ≤ l.length + 1
  | [] => by simp [spl]
  | b :: t => by
    have := spl_many c t
    rw [spl]
    split
    · simp; omega
    · cases e : spl c t with
      | nil => simp
      | cons y r => rw [e] at this; simp at this ⊢; omega
/-- strings.Split at one byte. -/
theorem split_spl (c : UInt8) : ∀ (n : Nat) (l : List UInt8), l.length ≤ n → Lib.splitK [c] 0 (Lib.count l [c]) l = spl c l ∧ (spl c l).length = Lib.count l [c] + 1
  | n, l, hn => by
    rcases first c l with ⟨h1, h2⟩ | ⟨a, r, h1, h2, h3⟩
    · rw [Lib.count_miss h2, spl_no h1]
      exact ⟨rfl, rfl⟩
    · have hc := Lib.count_hit (sub := [c]) (by simp) h3
      have hd : l.drop (a.length + [c].length) = r := by rw [h1]; simp
      rw [hd] at hc
      cases n with
      | zero => rw [h1] at hn; simp at hn
      | succ n =>
        have ih := split_spl c n r (by rw [h1] at hn; simp at hn; omega)
        have e : Lib.index l [c] ≠ -1 := by rw [h3]; omega
        rw [hc, Nat.add_comm 1, Lib.splitK, if_neg (by simpa using e), h3, Int.toNat_natCast, Nat.add_zero, hd, ih.1, h1, spl_yes h2]
        refine ⟨by simp, ?_⟩
        rw [List.length_cons, ih.2]

/-- Blanks part words. -/
def blk (b : UInt8) : Bool := b == 32 || b == 9
def wds : List UInt8 → List UInt8 → List (List UInt8)
  | cur, [] => if cur = [] then [] else [cur]
  | cur, b :: t => if blk b = true then (if cur = [] then wds [] t else cur :: wds [] t) else wds (cur ++ [b]) t
theorem wds_skip : ∀ (k : Nat) (cur l : List UInt8), k ≤ l.length → (∀ j, j < k → blk (l.getD j 0) = false) → wds cur l = wds (cur ++ l.take k) (l.drop k)
  | 0, cur, l, _, _ => by simp
  | k + 1, cur, [], h, _ => by simp at h
  | k + 1, cur, b :: t, h, hz => by
    have h0 : blk b = false := by simpa using hz 0 (by omega)
    rw [wds, if_neg (by simp [h0]), wds_skip k (cur ++ [b]) t (by simp at h; omega) (fun j hj => by have := hz (j + 1) (by omega); simpa using this)]
    simp
def blkR (r : Nat) : Bool := r == 32 || r == 9
/-- A rune is a blank just where a blank byte stands; and none of a rune's other bytes is one. -/
theorem decode_blk (l : List UInt8) (hne : l ≠ []) : (blk (l.getD 0 0) = true ∧ blkR (Lib.decodeL l).1 = true ∧ (Lib.decodeL l).2 = 1) ∨
    (blkR (Lib.decodeL l).1 = false ∧ (Lib.decodeL l).2 ≤ l.length ∧ ∀ j, j < (Lib.decodeL l).2 → blk (l.getD j 0) = false) := by
  have hl : 0 < l.length := List.length_pos_iff.2 hne
  have hle := Lib.decodeL_le l hne
  have hw := Lib.decodeL_width l
  have hc := Lib.decodeN_conts l.length (l.getD 0 0).toNat (l.getD 1 0).toNat (l.getD 2 0).toNat (l.getD 3 0).toNat
  have hs := Lib.decodeN_shape l.length (l.getD 0 0).toNat (l.getD 1 0).toNat (l.getD 2 0).toNat (l.getD 3 0).toNat
  rw [← Lib.decodeL_N] at hc hs
  obtain ⟨c2, c3, c4, c5⟩ := hc
  have hb : ∀ b : UInt8, blk b = true ↔ (b.toNat = 32 ∨ b.toNat = 9) := by
    intro b
    unfold blk
    simp only [Bool.or_eq_true, beq_iff_eq]
    constructor
    · rintro (rfl | rfl)
      · exact .inl rfl
      · exact .inr rfl
    · rintro (h | h)
      · exact .inl (UInt8.toNat_inj.1 h)
      · exact .inr (UInt8.toNat_inj.1 h)
  have hbf : ∀ b : UInt8, b.toNat ≠ 32 → b.toNat ≠ 9 → blk b = false := by
    intro b h1 h2
    cases h : blk b
    · rfl
    · have := (hb b).mp h
      omega
  have hrf : ∀ r : Nat, r ≠ 32 → r ≠ 9 → blkR r = false := by
    intro r h1 h2
    simp [blkR, h1, h2]
  by_cases hB : blk (l.getD 0 0) = true
  · left
    have := (hb _).mp hB
    rcases hs with ⟨_, e⟩ | ⟨q, _⟩ | ⟨q, _⟩ | ⟨q, _⟩ | e
    · rw [e]
      refine ⟨hB, ?_, rfl⟩
      simp only [blkR, Bool.or_eq_true, beq_iff_eq]
      exact this
    · omega
    · omega
    · omega
    · have h128 : (l.getD 0 0).toNat < 128 := by omega
      rw [Lib.decodeL_N, Lib.decodeN_ascii _ _ _ _ _ h128]
      refine ⟨hB, ?_, rfl⟩
      simp only [blkR, Bool.or_eq_true, beq_iff_eq]
      exact this
  · right
    have h0 : ¬ ((l.getD 0 0).toNat = 32 ∨ (l.getD 0 0).toNat = 9) := fun e => hB ((hb _).mpr e)
    refine ⟨?_, hle, fun j hj => ?_⟩
    · rcases hs with ⟨_, e⟩ | ⟨q, _, _, q4, e⟩ | ⟨q, _, _, _, q4, _, e⟩ | ⟨q, _, _, _, _, q4, _, e⟩ | e
      all_goals
        rw [e]
        exact hrf _ (by simp only; omega) (by simp only; omega)
    · match j, hj with
      | 0, _ => simpa using hB
      | 1, hj => have := (c2 (by omega)).1; exact hbf _ (by omega) (by omega)
      | 2, hj => have := (c3 (by omega)).1; exact hbf _ (by omega) (by omega)
      | 3, hj => have := (c4 (by omega)).1; exact hbf _ (by omega) (by omega)
      | j + 4, hj => omega
theorem piece_self (l : List UInt8) (a k : Nat) : Lib.pieceU l a (a + k) = (l.drop a).take k := by unfold Lib.pieceU; rw [Nat.add_sub_cancel_left]
theorem spans_wds (s : ByteArray) : ∀ (f pos : Nat) (st : Option Nat) (acc : List (Nat × Nat)), pos ≤ s.size → s.size ≤ pos + f → (∀ a, st = some a → a < pos) →
    (Lib.closeSpans s (Lib.spansFromP blkR s f pos st acc)).map (fun x => Lib.pieceU s.data.toList x.1 x.2) = acc.map (fun x => Lib.pieceU s.data.toList x.1 x.2) ++ wds (Lib.openPiece s.data.toList st pos) (s.data.toList.drop pos) := by
  intro f
  have hlen : s.data.toList.length = s.size := by simp
  induction f with
  | zero =>
    intro pos st acc h1 h2 h3
    obtain rfl : pos = s.size := by omega
    rw [Lib.spansFromP_end _ _ _ _ _ _ (by omega), List.drop_eq_nil_of_le (by omega)]
    cases st with
    | none => simp [Lib.closeSpans, Lib.openPiece, wds]
    | some a =>
      have := Lib.pieceU_ne s.data.toList a s.size (h3 a rfl) (by omega)
      simp [Lib.closeSpans, Lib.openPiece, wds, this]
  | succ f ih =>
    intro pos st acc h1 h2 h3
    by_cases hlt : pos < s.size
    · have hne : s.data.toList.drop pos ≠ [] := by
        intro e
        have := congrArg List.length e
        rw [List.length_drop] at this
        simp at this
        omega
      have hdec := Lib.decodeL_drop s pos
      have hd := decode_blk _ hne
      rw [hdec] at hd
      have hcons : s.data.toList.drop pos = (s.data.toList.drop pos).getD 0 0 :: s.data.toList.drop (pos + 1) := by
        rw [List.drop_eq_getElem_cons (by omega)]
        simp
      have hwd := Lib.width_pos s pos
      unfold Lib.spansFromP
      rw [if_pos hlt]
      rcases hd with ⟨hb, hr, hk⟩ | ⟨hr, hk, hj⟩
      · rw [if_pos hr, hk]
        cases st with
        | none =>
          simp only
          rw [ih (pos + 1) none acc (by omega) (by omega) (fun a e => by cases e)]
          congr 1
          rw [hcons, wds, if_pos hb]
          simp [Lib.openPiece]
        | some a =>
          simp only
          rw [ih (pos + 1) none (acc ++ [(a, pos)]) (by omega) (by omega) (fun a e => by cases e)]
          have := Lib.pieceU_ne s.data.toList a pos (h3 a rfl) (by omega)
          rw [hcons, wds, if_pos hb]
          simp [Lib.openPiece, this]
      · rw [List.length_drop] at hk
        rw [if_neg (by simp [hr])]
        cases st with
        | none =>
          simp only
          rw [ih _ (some pos) acc (by omega) (by omega) (fun a e => by injection e with e; omega), wds_skip _ _ (s.data.toList.drop pos) (by rw [List.length_drop]; exact hk) hj]
          simp only [Lib.openPiece, List.nil_append, List.drop_drop, piece_self]
        | some a =>
          simp only
          have ha := h3 a rfl
          rw [ih _ (some a) acc (by omega) (by omega) (fun a' e => by injection e with e; omega), wds_skip _ _ (s.data.toList.drop pos) (by rw [List.length_drop]; exact hk) hj]
          simp only [Lib.openPiece, List.drop_drop]
          rw [Lib.pieceU_grow _ _ _ _ (by omega)]
    · obtain rfl : pos = s.size := by omega
      rw [Lib.spansFromP_end _ _ _ _ _ _ (by omega), List.drop_eq_nil_of_le (by omega)]
      cases st with
      | none => simp [Lib.closeSpans, Lib.openPiece, wds]
      | some a =>
        have := Lib.pieceU_ne s.data.toList a s.size (h3 a rfl) (by omega)
        simp [Lib.closeSpans, Lib.openPiece, wds, this]
/-- strings.FieldsFunc at blanks. -/
theorem fields_wds (s : ByteArray) : (Lib.goFieldsP blkR s).map (·.data.toList) = wds [] s.data.toList := by
  have h := spans_wds s s.size 0 none [] (by omega) (by omega) (fun a e => by cases e)
  unfold Lib.goFieldsP Lib.spansOfP
  rw [List.map_map]
  simp only [List.map_nil, List.nil_append, Lib.openPiece, List.drop_zero] at h
  rw [← h]
  congr 1
  funext x
  simp [Lib.pieceU, ByteArray.data_extract, Array.toList_extract]
theorem wds_len : ∀ (l cur : List UInt8), ∀ x ∈ wds cur l, x.length ≤ cur.length + l.length
  | [], cur, x, h => by
    rw [wds] at h
    split at h
    · simp at h
    · simp at h; simp [h]
  | b :: t, cur, x, h => by
    rw [wds] at h
    split at h
    · split at h
      · have := wds_len t [] x h; simp at this ⊢; omega
      · rcases List.mem_cons.mp h with rfl | h
        · omega
        · have := wds_len t [] x h; simp at this ⊢; omega
    · have := wds_len t (cur ++ [b]) x h; simp at this ⊢; omega
end Cro
end Go.Proofs.YteiiapnpdfgoaaaDoor
