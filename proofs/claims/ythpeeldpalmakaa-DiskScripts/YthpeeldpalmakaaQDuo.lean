/- Two disks that have nothing in common. -/
import Derived.Test.YthpeeldpalmakaaQLaw
namespace Go.Proofs.Ythpeeldpalmakaa
open Go.RowKit Dsk
set_option linter.unusedVariables false

/-- Two disks that were made since W; their blocks are S's. -/
def Du (W : World) (S : Nat → Prop) (w : World) (b1 b2 : Nat) (s1 s2 : St) : Prop := ∃ F1 F2, Lv W w b1 s1 F1 ∧ Lv W w b2 s2 F2 ∧ (∀ k, F1 k → ¬ F2 k) ∧ ∀ k, S k ↔ (F1 k ∨ F2 k)
theorem Du.symm {W w : World} {S : Nat → Prop} {b1 b2 : Nat} {s1 s2 : St} (h : Du W S w b1 b2 s1 s2) : Du W S w b2 b1 s2 s1 := by
  obtain ⟨F1, F2, h1, h2, h3, h4⟩ := h
  exact ⟨F2, F1, h2, h1, fun k a c => h3 k c a, fun k => by rw [h4]; exact Or.comm⟩
theorem Du.grown {W w w' : World} {S : Nat → Prop} {b1 b2 : Nat} {s1 s2 : St} (h : Du W S w b1 b2 s1 s2) (g : w.grownBy w' none) : Du W S w' b1 b2 s1 s2 := by
  obtain ⟨F1, F2, h1, h2, h3, h4⟩ := h
  exact ⟨F1, F2, h1.grown g, h2.grown g, h3, h4⟩
theorem Du.kept {W w w' : World} {S T : Nat → Prop} {b1 b2 : Nat} {s1 s2 : St} (h : Du W S w b1 b2 s1 s2) (g : Chg T w w') (hd : ∀ k, S k → ¬ T k) (hT : ∀ k, T k → W.heap.size ≤ k) : Du W S w' b1 b2 s1 s2 := by
  obtain ⟨F1, F2, h1, h2, h3, h4⟩ := h
  exact ⟨F1, F2, ⟨h1.1.kept g fun k hk => hd k ((h4 k).2 (.inl hk)), h1.2.1, Chg.low h1.2.2 g hT⟩, ⟨h2.1.kept g fun k hk => hd k ((h4 k).2 (.inr hk)), h2.2.1, Chg.low h2.2.2 g hT⟩, h3, h4⟩
theorem Du.lt {W w : World} {S : Nat → Prop} {b1 b2 : Nat} {s1 s2 : St} (h : Du W S w b1 b2 s1 s2) : ∀ k, S k → k < w.heap.size := by
  obtain ⟨F1, F2, h1, h2, h3, h4⟩ := h
  intro k hk
  rcases (h4 k).1 hk with e | e
  · exact h1.1.lt k e
  · exact h2.1.lt k e
theorem Du.low {W w : World} {S : Nat → Prop} {b1 b2 : Nat} {s1 s2 : St} (h : Du W S w b1 b2 s1 s2) : ∀ k, S k → W.heap.size ≤ k := by
  obtain ⟨F1, F2, h1, h2, h3, h4⟩ := h
  intro k hk
  rcases (h4 k).1 hk with e | e
  · exact h1.2.1 k e
  · exact h2.2.1 k e
theorem Du.below {W w : World} {S : Nat → Prop} {b1 b2 : Nat} {s1 s2 : St} (h : Du W S w b1 b2 s1 s2) : Below W.heap.size W w := by
  obtain ⟨F1, F2, h1, _⟩ := h
  exact h1.2.2
theorem Du.ok {W w : World} {S : Nat → Prop} {b1 b2 : Nat} {s1 s2 : St} (h : Du W S w b1 b2 s1 s2) : Ok s1 := by
  obtain ⟨F1, F2, h1, _⟩ := h
  exact h1.1.ok
/-- What a call on the first one leaves. -/
def DuOut (W : World) (S : Nat → Prop) (b1 b2 : Nat) (s1' s2 : St) (w w' : World) : Prop := ∃ S', Du W S' w' b1 b2 s1' s2 ∧ (∀ k, S' k → S k ∨ w.heap.size ≤ k) ∧ Chg S w w'
theorem Du.step {W w w' : World} {F1 F2 S : Nat → Prop} {b1 b2 : Nat} {s1 s1' s2 : St} (h1 : Lv W w b1 s1 F1) (h2 : Lv W w b2 s2 F2) (h3 : ∀ k, F1 k → ¬ F2 k) (h4 : ∀ k, S k ↔ (F1 k ∨ F2 k)) (ho : ∃ F', Lv W w' b1 s1' F' ∧ (∀ k, F' k → F1 k ∨ w.heap.size ≤ k) ∧ Chg F1 w w') : DuOut W S b1 b2 s1' s2 w w' := by
  obtain ⟨F', a, f, C⟩ := ho
  refine ⟨fun k => F' k ∨ F2 k, ⟨F', F2, a, ⟨h2.1.kept C fun k hk c => h3 k c hk, h2.2.1, Chg.low h2.2.2 C h1.2.1⟩, fun k c d => ?_, fun _ => Iff.rfl⟩, fun k hk => ?_, C.wide fun k hk => (h4 k).2 (.inl hk)⟩
  · rcases f k c with e | e
    · exact h3 k e d
    · have := h2.1.lt k d; omega
  · rcases hk with e | e
    · exact (f k e).imp (fun c => (h4 k).2 (.inl c)) id
    · exact .inl ((h4 k).2 (.inr e))
theorem DuOut.symm {W w w' : World} {S : Nat → Prop} {b1 b2 : Nat} {s1 s2 : St} (h : DuOut W S b1 b2 s1 s2 w w') : DuOut W S b2 b1 s2 s1 w w' := by
  obtain ⟨S', a, f, C⟩ := h
  exact ⟨S', a.symm, f, C⟩
section
variable {W w : World} {S : Nat → Prop} {b1 b2 : Nat} {s1 s2 : St}
theorem du_does (h : Du W S w b1 b2 s1 s2) (m1 : s1.m ≤ 1000000000) {o : Dd} {g q : Nat} (ho : DoAt W g q o) :
    Calls Try.prog 14 #[.pointer (some ⟨b1, 0, none⟩), .agg #[.int .i64 o.kd, .string o.nm, o.v, .int .i64 o.keep, .int .i64 o.torn]] w fun e w' => e = .returned (.int .i64 (stepE s1 o)) ∧ DuOut W S b1 b2 (stepS s1 o) s2 w w' := by
  obtain ⟨F1, F2, h1, h2, h3, h4⟩ := h
  exact (does_lv h1 m1 ho).mono fun e w' ⟨he, o⟩ => ⟨he, Du.step h1 h2 h3 h4 o⟩
/-- .. with bytes of one's own. -/
theorem du_does_own (h : Du W S w b1 b2 s1 s2) (m1 : s1.m ≤ 1000000000) {o : Dd} (hX : eB.Rx w o.v o.b) (hb : o.b.length ≤ 140737488351232) (hn : o.nm.size ≤ 140737488351232) (hk : o.keep ≤ 9223372036854775807) (hdj : o.b ≠ [] → ∀ k, o.v.ownBlock = some k → ¬ S k) :
    Calls Try.prog 14 #[.pointer (some ⟨b1, 0, none⟩), .agg #[.int .i64 o.kd, .string o.nm, o.v, .int .i64 o.keep, .int .i64 o.torn]] w fun e w' => e = .returned (.int .i64 (stepE s1 o)) ∧ DuOut W S b1 b2 (stepS s1 o) s2 w w' := by
  obtain ⟨F1, F2, h1, h2, h3, h4⟩ := h
  exact (does_any b1 s1 F1 o w h1.1 m1 hX hb hn hk fun hne k hk c => hdj hne k hk ((h4 k).2 (.inl c))).mono fun e w' ⟨he, o⟩ => ⟨he, Du.step h1 h2 h3 h4 (h1.out o)⟩
theorem du_crash (h : Du W S w b1 b2 s1 s2) (m1 : s1.m ≤ 1000000000) (keep torn : Int) (hk : keep ≤ 9223372036854775807) :
    Calls Try.prog 21 #[.pointer (some ⟨b1, 0, none⟩), .int .i64 keep, .int .i64 torn] w fun e w' => e = .returned (.tuple #[]) ∧ DuOut W S b1 b2 (crashS s1 keep torn) s2 w w' := by
  obtain ⟨F1, F2, h1, h2, h3, h4⟩ := h
  exact (crash_any b1 s1 F1 keep torn hk w h1.1 m1).mono fun e w' ⟨he, o⟩ => ⟨he, Du.step h1 h2 h3 h4 (h1.out o)⟩
theorem du_names (h : Du W S w b1 b2 s1 s2) :
    Calls Try.prog 20 #[.pointer (some ⟨b1, 0, none⟩)] w fun e w' => ∃ ad n c, e = .returned (.slice ad n c) ∧ eS.Own w' w.heap.size (.slice ad n c) (srtS (s1.l.map (·.1))) ∧ w.grownBy w' none := by
  obtain ⟨F1, F2, h1, h2, h3, h4⟩ := h
  exact names_any b1 s1 F1 w h1.1
theorem du_read (h : Du W S w b1 b2 s1 s2) (x : List UInt8) (hx : x.length ≤ 140737488351232) :
    Calls Try.prog 15 #[.pointer (some ⟨b1, 0, none⟩), .string ⟨x.toArray⟩] w fun e w' => ∃ ad n c, e = .returned (.tuple #[.slice ad n c, .int .i64 (hasE s1.l x)]) ∧ eB.Own w' w.heap.size (.slice ad n c) (rdB s1.l x) ∧ w.grownBy w' none := by
  obtain ⟨F1, F2, h1, h2, h3, h4⟩ := h
  exact read_l h1 x hx
theorem du_read_s (h : Du W S w b1 b2 s1 s2) (nm : ByteArray) (hx : nm.size ≤ 140737488351232) :
    Calls Try.prog 15 #[.pointer (some ⟨b1, 0, none⟩), .string nm] w fun e w' => ∃ ad n c, e = .returned (.tuple #[.slice ad n c, .int .i64 (hasE s1.l nm.data.toList)]) ∧ eB.Own w' w.heap.size (.slice ad n c) (rdB s1.l nm.data.toList) ∧ w.grownBy w' none := by
  obtain ⟨F1, F2, h1, h2, h3, h4⟩ := h
  exact (read_any b1 s1 F1 nm hx w h1.1).mono fun e w' ⟨ad, c, he, o, g⟩ => ⟨ad, _, c, he, o, g⟩
end
theorem Du.start {W w w1 w2 : World} {F G : Nat → Prop} {b1 b2 : Nat} (K : W.grownBy w none) (h1 : Dk w1 b1 newS F) (f1 : ∀ k, F k → w.heap.size ≤ k) (k1 : w.grownBy w1 none) (h2 : Dk w2 b2 newS G) (f2 : ∀ k, G k → w1.heap.size ≤ k) (k2 : w1.grownBy w2 none) : ∃ S, Du W S w2 b1 b2 newS newS := by
  have z := K.size
  have z1 := k1.size
  refine ⟨fun k => F k ∨ G k, F, G, ⟨h1.grown k2, fun k hk => by have := f1 k hk; omega, grown_below (grown_more (grown_more K k1 (by simp)) k2 (by simp))⟩, ⟨h2, fun k hk => by have := f2 k hk; omega, grown_below (grown_more (grown_more K k1 (by simp)) k2 (by simp))⟩, fun k a c => ?_, fun _ => Iff.rfl⟩
  have := h1.lt k a
  have := f2 k c
  omega
namespace Dsk
theorem stays_mono {n1 n2 torn : Int} (h : n1 ≤ n2) (p : Int × Nat) : stays n1 torn p ≤ stays n2 torn p := by
  unfold stays
  split <;> split <;> (try split) <;> (try split) <;> omega
theorem lost_mono {n1 n2 torn : Int} (h : n1 ≤ n2) (ws : List (Int × Nat)) : lost n2 torn ws ≤ lost n1 torn ws := by
  unfold lost
  induction ws with
  | nil => exact Nat.le_refl _
  | cons p ws ih =>
    have := stays_mono (torn := torn) h p
    simp only [List.map_cons, List.sum_cons]
    omega
theorem sorted_le (l : List Int) {i j : Nat} (hij : i ≤ j) (hj : j < (sorted l).length) : (sorted l).getD i 0 ≤ (sorted l).getD j 0 := by
  have h := List.pairwise_mergeSort (le := fun x y : Int => decide (x ≤ y)) (fun a b c h1 h2 => by simp only [decide_eq_true_eq] at *; omega) (fun a b => by simp only [Bool.or_eq_true, decide_eq_true_eq]; omega) l
  have h' : (sorted l).Pairwise fun x y => x ≤ y := h.imp fun h => by simpa using h
  by_cases e : i = j
  · rw [e]; exact Int.le_refl _
  · have := List.pairwise_iff_getElem.1 h' i j (by omega) hj (by omega)
    simp [List.getD, show i < (sorted l).length by omega, hj]
    exact this
theorem behind_mono {s : St} (h : Ok s) {a b : Nat} (hab : a ≤ b) : behind s a ≤ behind s b := by
  have hl : (sorted (nums s.l)).length = (nums s.l).length := (List.mergeSort_perm _ _).length_eq
  unfold behind
  by_cases ha : (nums s.l).length ≤ a
  · rw [if_pos ha, if_pos (by omega)]; exact Int.le_refl _
  · rw [if_neg ha]
    by_cases hb : (nums s.l).length ≤ b
    · rw [if_pos hb]
      have hlt : a < (sorted (nums s.l)).length := by omega
      have hm : (sorted (nums s.l)).getD a 0 ∈ nums s.l := by
        have : (sorted (nums s.l)).getD a 0 ∈ sorted (nums s.l) := by simp [List.getD, hlt]
        exact (List.mergeSort_perm _ _).mem_iff.1 this
      have := (h.num _ hm).2
      omega
    · rw [if_neg hb]
      exact sorted_le _ hab (by omega)
theorem keys_crash (s : St) (keep torn : Int) : (crashS s keep torn).l.map (·.1) = s.l.map (·.1) := by
  unfold crashS
  simp
theorem rdB_crash {s : St} (h : Ok s) (keep torn : Int) {x : List UInt8} {f : Fl} (hf : (x, f) ∈ s.l) : rdB (crashS s keep torn).l x = f.by_.take (f.by_.length - lost (behind s keep.toNat) torn f.ws) := by
  exact rdB_mem (L := (crashS s keep torn).l) (f := f.crash (behind s keep.toNat) torn) (by rw [keys_crash]; exact h.nd) (List.mem_map.2 ⟨_, hf, rfl⟩)
/-- A crash that keeps more leaves what one that keeps less leaves, and perhaps more. -/
theorem crash_more {s : St} (h : Ok s) (keep torn : Int) {x : List UInt8} (hx : x ∈ s.l.map (·.1)) :
    (rdB (crashS s keep torn).l x).length ≤ (rdB (crashS s (keep + 1) torn).l x).length ∧ (rdB (crashS s (keep + 1) torn).l x).take (rdB (crashS s keep torn).l x).length = rdB (crashS s keep torn).l x := by
  obtain ⟨⟨y, f⟩, hf, e⟩ := List.mem_map.1 hx
  simp only at e
  subst e
  rw [rdB_crash h keep torn hf, rdB_crash h (keep + 1) torn hf]
  have h1 := behind_mono h (show keep.toNat ≤ (keep + 1).toNat by omega)
  have h2 := lost_mono (torn := torn) h1 f.ws
  generalize lost (behind s keep.toNat) torn f.ws = l1 at h2 ⊢
  generalize lost (behind s (keep + 1).toNat) torn f.ws = l2 at h2 ⊢
  refine ⟨by simp only [List.length_take]; omega, ?_⟩
  rw [List.take_take, List.length_take]
  congr 1
  omega
end Dsk
end Go.Proofs.Ythpeeldpalmakaa
