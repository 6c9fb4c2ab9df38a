/- What 'Between' answers, against asking again and again; slices of numbers put one behind the other. -/
import Derived.Test.YtegekjgjabckgaaGreatDoorDAwake
import Derived.Test.YtegekjgjabckgaaGreatDoorDArgs
import Derived.Test.YtegekjgjabckgaaGreatDoorDNxV
import Derived.Laws.AppendOwnNone
import Derived.StillTailTactics
namespace Go.Proofs.YtegekjgjabckgaaGreatDoor
open Go.RowKit
set_option linter.unusedVariables false

theorem Due.bw_btw (P : Nat → Bool) {M e : Nat} (he : e ≤ M + 1) : ∀ k s, Due.bw P e k s = Due.btw P M e k s
  | 0, s => rfl
  | k + 1, s => by
    rw [Due.bw, Due.btw]
    cases h : Due.nx P M s with
    | none =>
      rw [Due.nxt_no fun u h1 h2 => Due.nx_none h u h1 (by omega)]
    | some t =>
      obtain ⟨t1, t2, t3, t4⟩ := Due.nx_some h
      simp only
      by_cases c : t < e
      · rw [if_pos c, Due.nxt_is t1 (by omega) t3 t4]
        show t :: Due.bw P e k (t + 1) = _
        rw [Due.bw_btw P he k (t + 1)]
      · rw [if_neg c, Due.nxt_no fun u h1 h2 => t4 u h1 (by omega)]
theorem OwnI.idx {w : World} {base : Nat} {v : Value} {l : List Int} (h : OwnI w base v l) {j : Nat} {x : Int} (hj : l[j]? = some x) : ∃ g, (∀ W, (Instr.indexAt 29 v (.int .i64 (j : Int))).run Tryz.prog W = .ok (.pointer (some ⟨g, j, none⟩)) W) ∧ w.cell? ⟨g, j, none⟩ = some (.int .i64 x) := by
  obtain ⟨hlt, hx⟩ := List.getElem?_eq_some_iff.1 hj
  rcases h.row with ⟨rfl, _⟩ | ⟨g, cap, rfl, hg, hc⟩
  · simp at hj
  · refine ⟨g, fun W => ?_, ?_⟩
    · rw [run_indexAt_slice (P := Tryz.prog) W 29 ⟨g, 0, none⟩ l.length cap .i64 (j : Int) (by kernel_rfl), if_pos ⟨by omega, by omega⟩, show Tryz.prog.elem 29 = 2 by kernel_rfl, Tryz.sizeOf2 W]
      show Result.ok (Value.pointer (some ((⟨g, 0, none⟩ : Addr).add ((j : Int).toNat * 1)))) W = _
      rw [Addr.add_lit]
      simp
    · rw [hc j hlt, List.getD_eq_getElem?_getD, hj]
      rfl
/-- 'append(v, x...)', both its own. -/
theorem wpList_append_i64 {w : World} {ops : Array Oper} {rest : List Oper} {o : Oper} {a : Act} {Q : Exit → Act → World → Prop} (hgd : o.guard = none) (s x : Operand)
    (ho : o.op = .call { callee := .builtin .append, args := #[s, x], argTypes := #[29, 29] })
    (base : Nat) (V : Value) (l0 : List Int) (hs : a.eval s = V) (hown : OwnI w base V l0) (base' : Nat) (X : Value) (l : List Int) (hx : a.eval x = X) (hX : OwnI w base' X l)
    (hb : l0.length + l.length ≤ 100000) (hbase : base ≤ w.heap.size)
    (h : ∀ ad c w', OwnI w' base (.slice ad (l0 ++ l).length c) (l0 ++ l) → w.grownBy w' V.ownBlock → wpList Tryz.prog ops Q rest (a.put o.dst (.slice ad (l0 ++ l).length c)) w') : wpList Tryz.prog ops Q (o :: rest) a w := by
  obtain ⟨i, hi, hz0, hz1, hz2⟩ := info_parts info_i64
  rcases hX.2 with ⟨e, h0⟩ | ⟨g, cap, cur, e, hg, hh, h1, h2, h3, h4⟩
  · have hl : l = [] := List.eq_nil_of_length_eq_zero h0
    subst hl
    refine wpList_append_own_none hgd s x 29 ho base 2 i 1 Tryz.underlying29 hi _ l0.length (l0.map (Value.int .i64)) hs hown (hx.trans e) ?_
    obtain ⟨ad, c, e2⟩ := hown.len
    subst e2
    have := h ad c w (by simpa using hown) (grown_refl _ _)
    simpa using this
  · refine wpList_append_own w hgd s x 29 ho base 2 i (.int .i64 0) 1 8 Tryz.underlying29 hi hz0 hz1 hz2 rfl (by decide) _ l0.length (l0.map (Value.int .i64)) hs hown ⟨g, 0, none⟩ l.length cap (l.map (Value.int .i64)) (hx.trans e) (by simp) ?_ ?_ (by unfold maxLen; omega) (by omega) hbase ?_
    · intro j u hu
      exact World.ownsRow.cells hX (g := g) (by rw [e]; rfl) j u hu
    · intro u hu
      obtain ⟨z, _, rfl⟩ := List.mem_map.mp hu
      rfl
    · intro v' w' hO hgr _
      have hO' : OwnI w' base v' (l0 ++ l) := by unfold OwnI; simpa using hO
      obtain ⟨ad, c, rfl⟩ := hO'.len
      exact h ad c w' hO' hgr
theorem region_still {P : Program} {id : Nat} {Q : Exit → Act → World → Prop} {a : Act} {w : World} {l : List Oper} (hm : P.follows .mixedOrders = true) (hB : Region.lexB .any l.toArray = true)
    (h : wpStill P l.toArray w.drew (fun a' => Q .normal a' w.drew) l a) : (Code.region id l.toArray true).wp P Q a w := wp_region_still_lit hm hB h
end Go.Proofs.YtegekjgjabckgaaGreatDoor
