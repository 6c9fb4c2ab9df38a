/- An advance, item by item: what holds in between. -/
import Derived.Test.YtijgekdhjfbgkaaWAdvM
namespace Go.Proofs.Ytijgekdhjfbgkaa
open Go.RowKit Go.Sort Whl
set_option linter.unusedVariables false

/-- 'now' is another one now. -/
theorem WhD.now {w : World} {b : Nat} {now : Int} {bm : Nat} {D : DataW Unit} {v : Nat → Value} {ls : Nat → List Int} (h : WhD w b now bm D v ls) (to : Int) : WhD (w.setCell ⟨b, 0, none⟩ (.int .i64 to)) b to bm D v ls := by
  have gs := grown_set w ⟨b, 0, none⟩ (.int .i64 to)
  have ne : ∀ i, i ≠ 0 → (⟨b, 0, none⟩ : Addr) ≠ ⟨b, i, none⟩ := fun i hi e => hi (by injection e with _ e; exact e.symm)
  refine ⟨set_same h.c0, by rw [set_other (ne 1 (by omega))]; exact h.c1, fun p hp => by rw [set_other (ne (2 + p) (by omega))]; exact h.cp p hp, fun i => by rw [World.frozen?_setCell]; exact h.fr i, h.map.setCell (fun e => h.bb e.symm) _, fun p hp => kept_ne (h.row p hp) gs fun k hk e => h.nb p hp (by rw [hk]; exact e.symm), h.apart, h.nb, h.nm, h.bb⟩
/-- When j of the items have come by. -/
structure AdvI (w : World) (b bm m : Nat) (L aa : List It) (F : Nat → Prop) (rs : Value) (wr : World) (j : Nat) (D : DataW Unit) (v : Nat → Value) (ls : Nat → List Int) (du : Value) : Prop where
  wh : WhD wr b m bm D v ls
  tl : Tells D (L.filter (lf aa m j))
  held : HeldJ m L aa j ls
  due : wr.ownsRow w.heap.size 33 2 du (dueJ aa m j).length (cells (dueJ aa m j))
  rsr : wr.ownsRow w.heap.size 3 1 rs (aa.map Prod.fst).length ((aa.map Prod.fst).map (Value.int .i64))
  fv : ∀ p, p < 193 → ∀ k, (v p).ownBlock = some k → (F k ∨ w.heap.size ≤ k) ∧ rs.ownBlock ≠ some k ∧ du.ownBlock ≠ some k
  ap : ∀ k, rs.ownBlock = some k → du.ownBlock ≠ some k
  chg : Chg F w wr
section
variable {w wr : World} {b bm m j : Nat} {L aa : List It} {F : Nat → Prop} {rs du : Value} {D : DataW Unit} {v : Nat → Value} {ls : Nat → List Int}
/-- Another block, and nothing else. -/
theorem AdvI.alloc (h : AdvI w b bm m L aa F rs wr j D v ls du) (o : Obj) : AdvI w b bm m L aa F rs (wr.alloc o) j D v ls du := by
  have g := World.grownBy_alloc wr o none
  exact ⟨h.wh.kept (F := fun _ => False) (Chg.of g (by simp)) id id (fun _ _ _ _ => id), h.tl, h.held, kept_ne h.due g (by simp), kept_ne h.rsr g (by simp), h.fv, h.ap, h.chg.grown g (by simp)⟩
/-- An item that isn't due is laid into its new place. -/
theorem AdvI.late (h : AdvI w b bm m L aa F rs wr j D v ls du) (hb : F b) (hlt : b < w.heap.size) (hu : Uni L) (hn : aa.Nodup) {a : It} (ha : a ∈ L) (hj : aa[j]? = some a) (ht : (m : Int) < a.2) {w' : World} {v' : Value}
    (hW : WhD w' b m bm D (upd v (plc m a.2.toNat) v') (upd ls (plc m a.2.toNat) (ls (plc m a.2.toNat) ++ [a.1]))) (hv : ∀ k, v'.ownBlock = some k → (v (plc m a.2.toNat)).ownBlock = some k ∨ wr.heap.size ≤ k)
    (hC : Chg (fun k => k = b ∨ (v (plc m a.2.toNat)).ownBlock = some k) wr w') : ∃ v2 ls2, AdvI w b bm m L aa F rs w' (j + 1) D v2 ls2 du := by
  have hp := plc_lt m a.2.toNat
  have rlt : ∀ k, rs.ownBlock = some k → w.heap.size ≤ k ∧ k < wr.heap.size := fun k hk => h.rsr.lt k hk
  have dlt : ∀ k, du.ownBlock = some k → w.heap.size ≤ k ∧ k < wr.heap.size := fun k hk => h.due.lt k hk
  refine ⟨_, _, hW, by rw [lf_late hj ht]; exact h.tl, h.held.late hu hn ha hj ht, ?_, ?_, fun p hp' k hk => ?_, h.ap, h.chg.trans hC fun k hk => ?_⟩
  · rw [due_late hj ht]
    refine hC.owns h.due fun k hk c => ?_
    rcases c with c | c
    · have := (dlt k hk).1; omega
    · exact (h.fv _ hp k c).2.2 hk
  · refine hC.owns h.rsr fun k hk c => ?_
    rcases c with c | c
    · have := (rlt k hk).1; omega
    · exact (h.fv _ hp k c).2.1 hk
  · by_cases e : p = plc m a.2.toNat
    · subst e
      rw [upd_same] at hk
      rcases hv k hk with c | c
      · exact h.fv _ hp k c
      · have := h.chg.size
        exact ⟨.inr (by omega), fun c' => by have := (rlt k c').2; omega, fun c' => by have := (dlt k c').2; omega⟩
    · rw [upd_other _ _ e] at hk
      exact h.fv p hp' k hk
  · rcases hk with rfl | c
    · exact .inl hb
    · exact (h.fv _ hp k c).1
/-- An item that is due waits no more, and is told. -/
theorem AdvI.soon (h : AdvI w b bm m L aa F rs wr j D v ls du) (hm : F bm) (hltb : b < w.heap.size) (hlt : bm < w.heap.size) (hu : Uni L) (hs : L.Nodup) (hn : aa.Nodup) {a : It} (ha : a ∈ L) (hj : aa[j]? = some a) (ht : ¬ (m : Int) < a.2) {w2 w4 : World} {n : Nat} {du4 : Value} {o : Obj}
    (hM : w2.ownsMap Try.prog 3 (plainElem Try.prog 2) bm n (D.del (.int .i64 a.1))) (hg2 : wr.grownBy w2 (some bm)) (hO4 : w4.ownsRow w.heap.size 33 2 du4 (dueJ aa m j ++ [a]).length (cells (dueJ aa m j ++ [a])))
    (hg4 : (w2.alloc o).grownBy w4 du.ownBlock) (hl4 : du4.ownBlock = du.ownBlock ∨ du4.ownBlock = some (w2.alloc o).heap.size) : AdvI w b bm m L aa F rs w4 (j + 1) (D.del (.int .i64 a.1)) v ls du4 := by
  have rlt : ∀ k, rs.ownBlock = some k → w.heap.size ≤ k ∧ k < wr.heap.size := fun k hk => h.rsr.lt k hk
  have dlt : ∀ k, du.ownBlock = some k → w.heap.size ≤ k ∧ k < wr.heap.size := fun k hk => h.due.lt k hk
  have vlt : ∀ p, p < 193 → ∀ k, (v p).ownBlock = some k → k < wr.heap.size := fun p hp k hk => ((h.wh.row p hp).lt k hk).2
  have hblt : b < wr.heap.size := World.block_lt_of_cell? wr _ h.wh.c0
  have W2 := h.wh.put hg2 hM
  have g3 : w2.grownBy w4 du.ownBlock := grown_more ((World.grownBy_alloc w2 o none).but _) hg4 (fun _ e => .inl e)
  have hbd : ∀ k, du.ownBlock = some k → k ≠ b ∧ k ≠ bm := fun k hk => by
    have h1 := dlt k hk
    exact ⟨by omega, by omega⟩
  have s2 := hg2.size
  have W4 : WhD w4 b m bm (D.del (.int .i64 a.1)) v ls := W2.kept (F := fun k => du.ownBlock = some k) (Chg.of g3 fun _ e => e) (fun c => (hbd b c).1 rfl) (fun c => (hbd bm c).2 rfl) fun p hp k hk => (h.fv p hp k hk).2.2
  have new : ∀ k, du4.ownBlock = some k → du.ownBlock = some k ∨ wr.heap.size < k + 1 := fun k hk => by
    rcases hl4 with e | e
    · exact .inl (by rw [← e]; exact hk)
    · rw [e] at hk
      injection hk with hk
      simp at hk
      exact .inr (by omega)
  refine ⟨W4, by rw [lf_soon hu ha hj ht]; exact h.tl.drop (h.wh.map.tidy mapLaw) (uni_filter hu _) (hs.filter _) (lf_has ha (not_yet hn hj)), h.held.soon hj ht, by rw [due_soon hj ht]; exact hO4, ?_, fun p hp k hk => ?_, fun k hk c => ?_, ?_⟩
  · refine kept_ne (kept_ne h.rsr hg2 fun k hk e => ?_) g3 fun k hk => h.ap k hk
    injection e with e
    have := (rlt k hk).1
    omega
  · obtain ⟨f1, f2, f3⟩ := h.fv p hp k hk
    refine ⟨f1, f2, fun c => ?_⟩
    rcases new k c with e | e
    · exact f3 e
    · have := vlt p hp k hk; omega
  · rcases new k c with e | e
    · exact h.ap k hk e
    · have := (rlt k hk).2; omega
  · refine (h.chg.grown hg2 fun k e => .inl (by injection e with e; rw [← e]; exact hm)).grown g3 fun k e => .inr (dlt k e).1
end
end Go.Proofs.Ytijgekdhjfbgkaa
