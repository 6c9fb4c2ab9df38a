/- Fields that the call gathers: slices of fields appended; strings held against one another. -/
import Derived.Test.YtmolldednpdicaaCAwake
namespace Go.Proofs.Ytmolldednpdicaa
open Go.RowKit

/-- 'append(v, x...)', v the call's own fields, x any fields. -/
theorem wpList_append_fl {w : World} {ops : Array Oper} {rest : List Oper} {o : Oper} {a : Act} {Q : Exit → Act → World → Prop} (hgd : o.guard = none) (s x : Operand)
    (ho : o.op = .call { callee := .builtin .append, args := #[s, x], argTypes := #[22, 22] })
    (base : Nat) (v : Value) (f0 : List Code.Fd) (hs : a.eval s = v) (hown : OwnF w base v f0) (X : Value) (fs : List Code.Fd) (hx : a.eval x = X) (hX : Fl w X fs)
    (hb : f0.length + fs.length ≤ 4398046511000) (hbase : base ≤ w.heap.size)
    (h : ∀ v' w', OwnF w' base v' (f0 ++ fs) → w.grownBy w' v.ownBlock → wpList Try.prog ops Q rest (a.put o.dst v') w') : wpList Try.prog ops Q (o :: rest) a w := by
  obtain ⟨i, hi, hz0, hz1, hz2⟩ := info_parts infoField
  have cells : ∀ ad m c (_ : fs.length = m) (_ : X = .slice (some ad) m c) (_ : ∀ j u, (fcs fs)[j]? = some u → w.cell? (ad.add j) = some u), wpList Try.prog ops Q (o :: rest) a w := by
    intro ad m c hl e hc
    subst hl
    refine wpList_append_own w hgd s x 22 ho base 38 i _ 3 32 Try.underlying22 hi hz0 hz1 hz2 rfl (by decide) v f0.length (fcs f0) hs hown ad fs.length c (fcs fs) (hx.trans e) (fcs_len fs) hc ?_ ?_ (by omega) hbase ?_
    · intro u hu
      obtain ⟨f, _, hf⟩ := List.mem_flatMap.1 hu
      simp [fc] at hf
      rcases hf with rfl | rfl | rfl <;> rfl
    · unfold maxLen; omega
    · intro v' w' hown' hg _
      refine h v' w' ?_ hg
      unfold OwnF
      rw [fcs_append, List.length_append]
      exact hown'
  rcases hX.val with ⟨rfl, e | ⟨ad, cap, e⟩⟩ | ⟨b, off, cap, e, hc⟩
  · refine wpList_append_own_none hgd s x 22 ho base 38 i 3 Try.underlying22 hi v f0.length (fcs f0) hs hown (hx.trans e) ?_
    exact h v w (by simpa using hown) (grown_refl _ _)
  · exact cells ad 0 cap rfl e (by simp [fcs])
  · refine cells ⟨b, off, none⟩ fs.length cap rfl e fun j u hu => ?_
    have hj : j < fs.length * 3 := by
      have := (List.getElem?_eq_some_iff.1 hu).1
      rw [fcs_len] at this
      exact this
    have hA := hc (j / 3) (by omega)
    obtain ⟨c1, c2, c3⟩ := fcs_get fs (j / 3) (by omega)
    rw [Addr.add_lit]
    have h3 : j % 3 = 0 ∨ j % 3 = 1 ∨ j % 3 = 2 := by omega
    rcases h3 with e3 | e3 | e3
    · have ej : j = j / 3 * 3 := by omega
      rw [← ej] at c1
      rw [c1] at hu
      injection hu with hu
      rw [← hu]
      have := hA.k
      rwa [← ej] at this
    · have ej : j = j / 3 * 3 + 1 := by omega
      rw [← ej] at c2
      rw [c2] at hu
      injection hu with hu
      rw [← hu]
      have := hA.n
      rwa [Nat.add_assoc, ← ej] at this
    · have ej : j = j / 3 * 3 + 2 := by omega
      rw [← ej] at c3
      rw [c3] at hu
      injection hu with hu
      rw [← hu]
      have := hA.s
      rwa [Nat.add_assoc, ← ej] at this

theorem ownF_empty (w : World) (n : Nat) (hn : n = w.heap.size) : OwnF (w.alloc (.cells #[] 38)) n (.slice (some ⟨n, 0, none⟩) 0 0) [] := by
  subst hn
  exact World.ownsRow_made w #[] 0 (Nat.le_refl _) (by unfold maxLen; omega) (by simp)

theorem toList_eq (s : ByteArray) : s.toList = s.data.toList := by
  have key : ∀ (n i : Nat) (r : List UInt8), s.size - i = n → ByteArray.toList.loop s i r = r.reverse ++ s.data.toList.drop i := by
    intro n
    induction n with
    | zero =>
      intro i r hi
      rw [ByteArray.toList.loop, if_neg (by omega), List.drop_eq_nil_of_le (by rw [Array.length_toList]; show s.size ≤ i; omega), List.append_nil]
    | succ n ih =>
      intro i r hi
      have hlt : i < s.size := by omega
      rw [ByteArray.toList.loop, if_pos hlt, ih (i + 1) _ (by omega), List.reverse_cons, List.append_assoc]
      congr 1
      have hlt' : i < s.data.toList.length := by rw [Array.length_toList]; exact hlt
      rw [List.drop_eq_getElem_cons hlt', List.cons_append, List.nil_append]
      congr 1
      have hlt2 : i < s.data.size := hlt
      simp [ByteArray.get!]
      exact getElem!_pos s.data i hlt2
  have := key s.size 0 [] (by omega)
  simpa [ByteArray.toList] using this
theorem toList_inj {s t : ByteArray} : s.toList = t.toList ↔ s = t := by
  rw [toList_eq, toList_eq]
  constructor
  · intro h
    cases s; cases t
    simp at h
    rw [h]
  · intro h; rw [h]
theorem str_eq {a b : List Int} (ha : Crc.Bytes a) (hb : Crc.Bytes b) : ((Code.ofB a).toList == (Code.ofB b).toList) = decide (a = b) := by
  by_cases h : a = b
  · subst h; simp
  · rw [decide_eq_false h]
    have : ¬ (Code.ofB a).toList = (Code.ofB b).toList := fun e => h ((Code.ofB_inj ha hb).1 (toList_inj.1 e))
    simpa using this
theorem ofB_append (a b : List Int) : Code.ofB (a ++ b) = Code.ofB a ++ Code.ofB b := by
  apply ByteArray.ext
  simp [Code.ofB]
end Go.Proofs.Ytmolldednpdicaa
