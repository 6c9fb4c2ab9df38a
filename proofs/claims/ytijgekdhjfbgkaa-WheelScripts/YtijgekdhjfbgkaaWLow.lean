/- What lies below stays; insertions in either order; steps of an advance. -/
import Derived.Test.YtijgekdhjfbgkaaWArgs
import Derived.Deep.CutRange
import Derived.StillTailTactics
namespace Go.Proofs.Ytijgekdhjfbgkaa
open Go.RowKit Go.Sort Whl
set_option linter.unusedVariables false

theorem Ri.low {w w' : World} {v : Value} {l : List It} (h : Ri w v l) (hb : Below w.heap.size w w') : Ri w' v l := by
  obtain ⟨ad, c, rfl, h0 | ⟨g, off, rfl, h1⟩⟩ := h
  · exact ⟨ad, c, rfl, .inl h0⟩
  · exact ⟨_, c, rfl, .inr ⟨g, off, rfl, fun j a hj => ⟨(hb.cell (p := ⟨g, off + j * 2, none⟩) (World.block_lt_of_cell? w _ (h1 j a hj).1)).trans (h1 j a hj).1, (hb.cell (p := ⟨g, off + j * 2 + 1, none⟩) (World.block_lt_of_cell? w _ (h1 j a hj).2)).trans (h1 j a hj).2⟩⟩⟩
theorem Chg.low {S : Nat → Prop} {W w w' : World} (hb : Below W.heap.size W w) (h : Chg S w w') (hS : ∀ k, S k → W.heap.size ≤ k) : Below W.heap.size W w' := hb.trans (h.below hb.size hS)
theorem grown_low {W w w' : World} (hb : Below W.heap.size W w) (h : w.grownBy w' none) : Below W.heap.size W w' := hb.grown h hb.size (by simp)
theorem Rn.idx {w : World} {v : Value} {T : TypeId} {l : List Int} (hT : T = 44 ∨ T = 45) (h : Rn w v T l) {j : Nat} {x : Int} (hj : l[j]? = some x) : ∃ g o, (∀ W, (Instr.indexAt T v (.int .i64 (j : Int))).run Try.prog W = .ok (.pointer (some ⟨g, o, none⟩)) W) ∧ w.cell? ⟨g, o, none⟩ = some (.int .i64 x) := by
  obtain ⟨hlt, _⟩ := List.getElem?_eq_some_iff.1 hj
  obtain ⟨⟨ad, c, rfl, rfl | ⟨g, off, rfl, h1⟩⟩, _⟩ := h
  · simp at hj
  · refine ⟨g, off + j, fun W => ?_, h1 j x hj⟩
    rcases hT with rfl | rfl
    · rw [run_indexAt_slice (P := Try.prog) W 44 ⟨g, off, none⟩ l.length c .i64 (j : Int) (by kernel_rfl), if_pos ⟨by omega, by omega⟩, show Try.prog.elem 44 = 3 by kernel_rfl, Try.sizeOf3 W]
      show Result.ok (Value.pointer (some ((⟨g, off, none⟩ : Addr).add ((j : Int).toNat * 1)))) W = _
      rw [Addr.add_lit]
      simp
    · rw [run_indexAt_slice (P := Try.prog) W 45 ⟨g, off, none⟩ l.length c .i64 (j : Int) (by kernel_rfl), if_pos ⟨by omega, by omega⟩, show Try.prog.elem 45 = 2 by kernel_rfl, Try.sizeOf2 W]
      show Result.ok (Value.pointer (some ((⟨g, off, none⟩ : Addr).add ((j : Int).toNat * 1)))) W = _
      rw [Addr.add_lit]
      simp
namespace Whl
/-- An instant that may be put in. -/
def Gd (now : Int) (a : It) : Prop := ¬ (a.2 ≤ now ∨ 226157759 < a.2 ∨ 262144 < a.2 - now)
theorem fold_mem (now : Int) : ∀ (l L : List It), Srt L → L.length + l.length ≤ 4096 → (l.Pairwise fun a b => a.1 ≠ b.1) → (∀ a ∈ L, ∀ b ∈ l, a.1 ≠ b.1) → Srt (l.foldl (insL now) L) ∧ ∀ a, a ∈ l.foldl (insL now) L ↔ a ∈ L ∨ (a ∈ l ∧ Gd now a)
  | [], L, h1, _, _, _ => ⟨h1, fun a => by simp⟩
  | b :: l, L, h1, h2, h3, h4 => by
    obtain ⟨p1, p2⟩ := List.pairwise_cons.1 h3
    rw [List.foldl_cons]
    have hn : ∀ a ∈ L, a.1 ≠ b.1 := fun a ha => h4 a ha b (by simp)
    have hany : (L.any fun a => a.1 == b.1) = false := by
      rw [List.any_eq_false]
      intro a ha
      simpa using hn a ha
    rw [List.length_cons] at h2
    by_cases hg : Gd now b
    · have e : insL now L b = ins b L := by
        have e0 : insE now L b = 0 := by
          unfold insE
          rw [if_neg hg, hany, if_neg (by simp), if_neg (by omega)]
        unfold insL
        rw [if_pos e0]
      rw [e]
      obtain ⟨s1, s2⟩ := fold_mem now l (ins b L) (srt_ins h1 hn) (by rw [len_ins]; omega) p2 (fun a ha c hc => by
        rcases mem_ins.1 ha with e | e
        · rw [e]; exact p1 c hc
        · exact h4 a e c (by simp [hc]))
      refine ⟨s1, fun a => ?_⟩
      rw [s2, mem_ins, List.mem_cons]
      constructor
      · rintro ((e | e) | ⟨e, f⟩)
        · exact .inr ⟨.inl e, e ▸ hg⟩
        · exact .inl e
        · exact .inr ⟨.inr e, f⟩
      · rintro (e | ⟨e | e, f⟩)
        · exact .inl (.inr e)
        · exact .inl (.inl e)
        · exact .inr ⟨e, f⟩
    · have e : insL now L b = L := by
        unfold insL insE
        rw [if_pos (Classical.not_not.1 hg), if_neg (by decide)]
      rw [e]
      obtain ⟨s1, s2⟩ := fold_mem now l L h1 (by omega) p2 (fun a ha c hc => h4 a ha c (by simp [hc]))
      refine ⟨s1, fun a => ?_⟩
      rw [s2, List.mem_cons]
      constructor
      · rintro (e | ⟨e, f⟩)
        · exact .inl e
        · exact .inr ⟨.inr e, f⟩
      · rintro (e | ⟨e | e, f⟩)
        · exact .inl e
        · exact absurd (e ▸ f) hg
        · exact .inr ⟨e, f⟩
end Whl
theorem order_same (now : Int) (l : List It) (hl : l.length ≤ 100) (hd : ∀ (q : Nat) (y : It), l[q]? = some y → ∀ (p : Nat) (x : It), p < q → l[p]? = some x → x.1 ≠ y.1) : insN now l.reverse l.length = insN now l l.length := by
  have hp : l.Pairwise fun a b => a.1 ≠ b.1 := by
    rw [List.pairwise_iff_getElem]
    intro i j hi hj hij
    exact hd j _ (List.getElem?_eq_getElem hj) i _ hij (List.getElem?_eq_getElem hi)
  have hq : l.reverse.Pairwise fun a b => a.1 ≠ b.1 := by
    rw [List.pairwise_reverse]
    exact hp.imp fun h => h.symm
  unfold insN
  rw [List.take_length, show l.reverse.take l.length = l.reverse by rw [← List.length_reverse, List.take_length]]
  obtain ⟨a1, a2⟩ := fold_mem now l [] List.Pairwise.nil (by simp; omega) hp (by simp)
  obtain ⟨b1, b2⟩ := fold_mem now l.reverse [] List.Pairwise.nil (by simp; omega) hq (by simp)
  exact srt_ext b1 a1 fun a => by rw [a2, b2]; simp
end Go.Proofs.Ytijgekdhjfbgkaa
