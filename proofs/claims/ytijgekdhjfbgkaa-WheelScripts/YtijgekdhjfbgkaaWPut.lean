/- An item laid into its place. -/
import Derived.Test.YtijgekdhjfbgkaaWNew
import Derived.Maps.AppendAt
import Derived.Deep.RegionLaw
namespace Go.Proofs.Ytijgekdhjfbgkaa
open Go.RowKit Whl
set_option linter.unusedVariables false

def upd {α : Type} (f : Nat → α) (p : Nat) (x : α) : Nat → α := fun q => if q = p then x else f q
theorem upd_same {α : Type} (f : Nat → α) (p : Nat) (x : α) : upd f p x p = x := by simp [upd]
theorem upd_other {α : Type} (f : Nat → α) {p q : Nat} (x : α) (h : q ≠ p) : upd f p x q = f q := by simp [upd, h]
theorem step_of {ops : Array Oper} {o : Oper} {a : Act} {w : World} {K : Act → World → Prop} {Q : Exit → Act → World → Prop} {E : Prop} (hg : o.guard = none) (h : o.wp Try.prog a w K Q) :
    if Region.wanted o (yielded ops a.tmps) = true then o.wp Try.prog a w K Q else E := by
  rw [if_pos (by simp [Region.wanted, hg])]
  exact h
theorem info_int : (Try.prog.info? 3).map (fun i => (i.zero, i.size, i.bytes)) = some (some (.int .i64 0), 1, 8) := by kernel_rfl
/-- 'append(v, x)', v a slice of its own. -/
theorem wp_append_int {w : World} {o : Oper} {a : Act} {K : Act → World → Prop} {Q : Exit → Act → World → Prop} (s x : Operand)
    (ho : o.op = .call { callee := .builtin .append, args := #[s, x], argTypes := #[44, 44] })
    (v : Value) (l0 : List Int) (hs : a.eval s = v) (hown : w.ownsRow 0 3 1 v l0.length (l0.map (Value.int .i64))) (q : Nat) (t : Int) (hx : a.eval x = .slice (some ⟨q, 0, none⟩) 1 1) (hc : w.cell? ⟨q, 0, none⟩ = some (.int .i64 t))
    (hb : l0.length ≤ 100000)
    (h : ∀ ad m c w', w'.ownsRow 0 3 1 (.slice ad m c) (l0 ++ [t]).length ((l0 ++ [t]).map (Value.int .i64)) → w.grownBy w' v.ownBlock → ((Value.slice ad m c).ownBlock = v.ownBlock ∨ (Value.slice ad m c).ownBlock = some w.heap.size) → K (a.put o.dst (.slice ad m c)) w') : o.wp Try.prog a w K Q := by
  obtain ⟨i, hi, hz0, hz1, hz2⟩ := info_parts info_int
  obtain ⟨v', w', hr, h2, h3, h4, h5⟩ := run_append_own_at (P := Try.prog) w 0 44 o.type 3 i (.int .i64 0) 1 8 Try.underlying44 hi hz0 hz1 hz2 rfl (by decide) v l0.length (l0.map (Value.int .i64)) hown ⟨q, 0, none⟩ 1 1 [.int .i64 t] rfl
    (fun j u hu => by
      cases j with
      | zero => simp at hu; subst hu; rw [Addr.add_lit]; exact hc
      | succ j => simp at hu) (fun u hu => by simp at hu; subst hu; rfl) (by unfold maxLen; omega) (by omega) (Nat.zero_le _)
  unfold Oper.wp execOp
  simp only [ho, resolve, invoke, builtin, Sem.run_bind, Sem.run_pure, Result.andThen_ok, List.map_toArray, List.map_cons, List.map_nil, hs, hx, hr]
  obtain ⟨ad, m, c, rfl⟩ : ∃ ad m c, v' = .slice ad m c := by
    rcases h2.2 with ⟨e, _⟩ | ⟨g, cap, cur, e, _⟩
    · exact ⟨_, _, _, e⟩
    · exact ⟨_, _, _, e⟩
  exact h ad m c w' (by simpa using h2) h3 h5
/-- A region whose operations leave the world as it is. -/
theorem region_still {P : Program} {id : Nat} {Q : Exit → Act → World → Prop} {a : Act} {w : World} {l : List Oper} (hm : P.follows .mixedOrders = true) (hB : Region.lexB .any l.toArray = true)
    (h : wpStill P l.toArray w.drew (fun a' => Q .normal a' w.drew) l a) : (Code.region id l.toArray true).wp P Q a w := wp_region_still_lit hm hB h

theorem set_other {w : World} {a b : Addr} {v : Value} (h : a ≠ b) : (w.setCell a v).cell? b = w.cell? b := by apply World.cell?_setCell_other; exact h
theorem set_same {w : World} {a : Addr} {v u : Value} (h : w.cell? a = some u) : (w.setCell a v).cell? a = some v := by apply World.cell?_setCell_same; exact h
theorem kept_ne {w w' : World} {base : Nat} {e : TypeId} {size : Nat} {v : Value} {n : Nat} {xs : List Value} {row : Option Nat} (h : w.ownsRow base e size v n xs) (g : w.grownBy w' row) (hne : ∀ k, v.ownBlock = some k → row ≠ some k) : w'.ownsRow base e size v n xs := by
  refine World.ownsRow.kept h g ?_
  cases hv : v.ownBlock with
  | none => exact .inl rfl
  | some k => exact .inr fun e => hne k hv e.symm
/-- A place's slice is another one now: nothing else has turned. -/
theorem WhD.lay {w w2 : World} {b : Nat} {now : Int} {bm : Nat} {D : DataW Unit} {v : Nat → Value} {ls : Nat → List Int} (h : WhD w b now bm D v ls) {p : Nat} (hp : p < 193) (g : w.grownBy w2 (v p).ownBlock) (v' : Value) (l' : List Int)
    (ho : w2.ownsRow 0 3 1 v' l'.length (l'.map (Value.int .i64))) (hl : ∀ k, v'.ownBlock = some k → (v p).ownBlock = some k ∨ w.heap.size ≤ k) :
    WhD (w2.setCell ⟨b, 2 + p, none⟩ v') b now bm D (upd v p v') (upd ls p l') ∧ Chg (fun k => k = b ∨ (v p).ownBlock = some k) w (w2.setCell ⟨b, 2 + p, none⟩ v') := by
  have hb : b < w.heap.size := World.block_lt_of_cell? w _ h.c0
  have hm : bm < w.heap.size := h.map.lt
  have nb : some b ≠ (v p).ownBlock := fun e => h.nb p hp e.symm
  have nm : some bm ≠ (v p).ownBlock := fun e => h.nm p hp e.symm
  have gs := grown_set w2 ⟨b, 2 + p, none⟩ v'
  have ne : ∀ i, i ≠ 2 + p → (⟨b, 2 + p, none⟩ : Addr) ≠ ⟨b, i, none⟩ := fun i hi e => hi (by injection e with _ e; exact e.symm)
  have vb : ∀ k, v'.ownBlock = some k → k ≠ b ∧ k ≠ bm := fun k hk => by
    rcases hl k hk with e | e
    · exact ⟨fun c => h.nb p hp (by rw [e, c]), fun c => h.nm p hp (by rw [e, c])⟩
    · exact ⟨by omega, by omega⟩
  have vq : ∀ q, q < 193 → ∀ k, (v q).ownBlock = some k → k < w.heap.size := fun q hq k hk => ((h.row q hq).lt k hk).2
  refine ⟨⟨?_, ?_, fun q hq => ?_, fun i => ?_, ?_, fun q hq => ?_, fun q r hq hr hqr k hk => ?_, fun q hq => ?_, fun q hq => ?_, h.bb⟩, ?_⟩
  · rw [set_other (ne 0 (by omega))]; exact g.cell h.c0 nb
  · rw [set_other (ne 1 (by omega))]; exact g.cell h.c1 nb
  · by_cases e : q = p
    · subst e
      rw [upd_same, set_same (g.cell (h.cp q hq) nb)]
    · rw [upd_other _ _ e, set_other (ne (2 + q) (by omega))]
      exact g.cell (h.cp q hq) nb
  · rw [World.frozen?_setCell, World.frozen?_of_block (w := w) (a := ⟨b, i, none⟩) (g.block b hb nb)]
    exact h.fr i
  · exact (h.map.kept g nm).setCell (fun e => h.bb e.symm) _
  · by_cases e : q = p
    · subst e
      rw [upd_same, upd_same]
      exact kept_ne ho gs fun k hk e => (vb k hk).1 (by injection e with e; exact e.symm)
    · rw [upd_other _ _ e, upd_other _ _ e]
      exact kept_ne (kept_ne (h.row q hq) g fun k hk c => h.apart q p hq hp e k hk c) gs fun k hk c => h.nb q hq (by rw [hk]; exact c.symm)
  · by_cases e1 : q = p
    · subst e1
      rw [upd_same] at hk
      rw [upd_other _ _ (Ne.symm hqr)]
      rcases hl k hk with e | e
      · exact h.apart q r hq hr hqr k e
      · exact fun c => by have := vq r hr k c; omega
    · rw [upd_other _ _ e1] at hk
      by_cases e2 : r = p
      · subst e2
        rw [upd_same]
        intro c
        rcases hl k c with e | e
        · exact h.apart q r hq hr hqr k hk e
        · have := vq q hq k hk; omega
      · rw [upd_other _ _ e2]
        exact h.apart q r hq hr hqr k hk
  · by_cases e : q = p
    · subst e; rw [upd_same]; exact fun c => (vb b c).1 rfl
    · rw [upd_other _ _ e]; exact h.nb q hq
  · by_cases e : q = p
    · subst e; rw [upd_same]; exact fun c => (vb bm c).2 rfl
    · rw [upd_other _ _ e]; exact h.nm q hq
  · exact (Chg.of g fun k hk => .inr hk).grown gs fun k hk => .inl (.inl (by injection hk with hk; exact hk.symm))

set_option maxRecDepth 100000 in
set_option maxHeartbeats 1600000 in
theorem put_any (b n : Nat) (bm : Nat) (D : DataW Unit) (v : Nat → Value) (ls : Nat → List Int) (id : Int) (t : Nat) (hn : n ≤ 226157759) (ht : t ≤ 226157759) (w : World) (hW : WhD w b n bm D v ls) (hl : (ls (plc n t)).length ≤ 100000) :
    Calls Try.prog 20 #[.pointer (some ⟨b, 0, none⟩), .agg #[.int .i64 id, .int .i64 t]] w fun e w' => e = .returned (.tuple #[]) ∧ ∃ v', WhD w' b n bm D (upd v (plc n t) v') (upd ls (plc n t) (ls (plc n t) ++ [id])) ∧ (∀ k, v'.ownBlock = some k → (v (plc n t)).ownBlock = some k ∨ w.heap.size ≤ k) ∧ Chg (fun k => k = b ∨ (v (plc n t)).ownBlock = some k) w w' := by
  have PL := place_any n t hn ht
  have hp := plc_lt n t
  generalize plc n t = p at PL hp hl ⊢
  have hblt : b < w.heap.size := World.block_lt_of_cell? w _ hW.c0
  have c0 : ∀ o, (w.alloc o).cell? ⟨b, 0, none⟩ = some (.int .i64 n) := fun o => (World.grownBy_alloc w o none).cell hW.c0 (by simp)
  have cp : ∀ o, (w.alloc o).cell? ⟨b, 2 + p, none⟩ = some (v p) := fun o => (World.grownBy_alloc w o none).cell (hW.cp p hp) (by simp)
  have hpi : (p : Int) < 193 := by omega
  have HW : Hid (WhD w b n bm D v ls) := hW
  clear hW
  go_enter Try.func20, Try.ntmps20
  go_upto_region 1 with fail
  refine region_still (by kernel_rfl) (by kernel_rfl) ?_
  iterate 6 still_step
  still_call (PL _)
  still_step
  refine wpStill_nil ?_
  go_upto_region 2 with fail
  have hrow : ∀ o1 o2, ((w.alloc o1).alloc o2).drew.drew.ownsRow 0 3 1 (v p) (ls p).length ((ls p).map (Value.int .i64)) := fun o1 o2 => ((HW.out.row p hp).alloc o1).alloc o2
  have kb : ∀ {o1 o2 w2}, ((w.alloc o1).alloc o2).drew.drew.grownBy w2 (v p).ownBlock → w2.cell? ⟨b, 2 + p, none⟩ = some (v p) ∧ w2.frozen? ⟨b, 2 + p, none⟩ = false := fun {o1 o2 w2} g => by
    have k1 := grown_alloc (World.grownBy_alloc w o1 none) o2
    have hnb : some b ≠ (v p).ownBlock := fun e => HW.out.nb p hp e.symm
    have h1 : ((w.alloc o1).alloc o2).drew.drew.cell? ⟨b, 2 + p, none⟩ = some (v p) := k1.cell (HW.out.cp p hp) (by simp)
    refine ⟨g.cell h1 hnb, ?_⟩
    rw [World.frozen?_of_block (w := ((w.alloc o1).alloc o2).drew.drew) (g.block b (World.block_lt_of_cell? _ _ h1) hnb)]
    exact (World.frozen?_of_block (w := w) (a := ⟨b, 2 + p, none⟩) (k1.block b hblt (by simp))).trans (HW.out.fr _)
  have hid : ∀ o1, ((w.alloc o1).alloc (Obj.cells #[Value.int IntKind.i64 id] 3)).drew.drew.cell? ⟨w.heap.size + 1, 0, none⟩ = some (.int .i64 id) := fun o1 => new_at (w.alloc o1) (by simp) rfl
  go_region_law (refine step_of rfl (wp_append_int (.tmp 19) (.tmp 22) rfl (v p) (ls p) rfl (hrow _ _) _ id rfl (hid _) hl ?_); intro ad m c w2 hO2 hg2 hl2; have c2 := (kb hg2).1; have f2 := (kb hg2).2)
  all_goals
    go_end0
    have gg : w.grownBy w2 (v p).ownBlock := grown_more ((grown_drew (grown_drew (grown_alloc (World.grownBy_alloc w _ none) _))).but _) hg2 (fun _ e => .inl e)
    have LK : ∀ k, (Value.slice ad m c).ownBlock = some k → (v p).ownBlock = some k ∨ w.heap.size ≤ k := fun k hk => by
      rcases hl2 with e | e
      · exact .inl (by rw [← e]; exact hk)
      · exact .inr (by rw [e] at hk; injection hk with hk; simp at hk; omega)
    have R := HW.out.lay hp gg (.slice ad m c) (ls p ++ [id]) hO2 LK
    exact ⟨rfl, _, R.1, LK, R.2⟩
end Go.Proofs.Ytijgekdhjfbgkaa
