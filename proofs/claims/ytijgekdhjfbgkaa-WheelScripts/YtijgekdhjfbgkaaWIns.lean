/- 'Insert'. -/
import Derived.Test.YtijgekdhjfbgkaaWMap
namespace Go.Proofs.Ytijgekdhjfbgkaa
open Go.RowKit Whl
set_option linter.unusedVariables false

set_option maxRecDepth 100000 in
set_option maxHeartbeats 1600000 in
theorem ins_time (b : Nat) (now x t : Int) (h : t ≤ now ∨ 226157759 < t ∨ 262144 < t - now) (h0 : 0 ≤ now) (h1 : now ≤ 226157759) (w : World) (c0 : w.cell? ⟨b, 0, none⟩ = some (.int .i64 now)) :
    Calls Try.prog 10 #[.pointer (some ⟨b, 0, none⟩), .agg #[.int .i64 x, .int .i64 t]] w fun e w' => e = .returned (.int .i64 30) ∧ w.grownBy w' none := by
  have hc0 : ∀ o, (w.alloc o).cell? ⟨b, 0, none⟩ = some (.int .i64 now) := fun o => (World.grownBy_alloc w o none).cell c0 (by simp)
  clear c0
  by_cases g1 : t ≤ now
  · go_enter Try.func10, Try.ntmps10
    go_wp2
    go_quiet (fail)
    go_wp2
    go_ret
    exact ⟨rfl, grown_drewN (World.grownBy_alloc w _ none) _⟩
  · have d1 : decide (t ≤ now) = false := decide_eq_false g1
    by_cases g2 : 226157759 < t
    · go_enter Try.func10, Try.ntmps10
      go_wp2
      go_quiet (fail)
      go_wp2
      go_ret
      exact ⟨rfl, grown_drewN (World.grownBy_alloc w _ none) _⟩
    · have d2 : decide (226157759 < t) = false := decide_eq_false g2
      have g3 : 262144 < t - now := by omega
      clear h
      go_enter Try.func10, Try.ntmps10
      go_wp2
      go_quiet (fail)
      go_wp2
      go_ret
      exact ⟨rfl, grown_drewN (World.grownBy_alloc w _ none) _⟩

set_option maxRecDepth 100000 in
set_option maxHeartbeats 1600000 in
theorem ins_has (b bm : Nat) (now x t : Int) (c : Int) (g1 : now < t) (g2 : t ≤ 226157759) (g3 : t - now ≤ 262144) (h0 : 0 ≤ now) (w : World) (c0 : w.cell? ⟨b, 0, none⟩ = some (.int .i64 now)) (c1 : w.cell? ⟨b, 1, none⟩ = some (.map (some bm)))
    (hl : ∀ W, w.grownBy W none → (Instr.lookup 51 (.map (some bm)) (.int .i64 x) true).run Try.prog W = .ok (.tuple #[.int .i64 c, .bool true]) W) :
    Calls Try.prog 10 #[.pointer (some ⟨b, 0, none⟩), .agg #[.int .i64 x, .int .i64 t]] w fun e w' => e = .returned (.int .i64 150) ∧ w.grownBy w' none := by
  have hc0 : ∀ o, (w.alloc o).cell? ⟨b, 0, none⟩ = some (.int .i64 now) := fun o => (World.grownBy_alloc w o none).cell c0 (by simp)
  have hc1 : ∀ o, (w.alloc o).cell? ⟨b, 1, none⟩ = some (.map (some bm)) := fun o => (World.grownBy_alloc w o none).cell c1 (by simp)
  clear c0 c1
  have d1 : decide (t ≤ now) = false := decide_eq_false (by omega)
  have d2 : decide (226157759 < t) = false := decide_eq_false (by omega)
  have d3 : decide (262144 < t - now) = false := decide_eq_false (by omega)
  have hl' : ∀ o n, (Instr.lookup 51 (.map (some bm)) (.int .i64 x) true).run Try.prog ((w.alloc o).drewN n) = .ok (.tuple #[.int .i64 c, .bool true]) ((w.alloc o).drewN n) := fun o n => hl _ (grown_drewN (World.grownBy_alloc w o none) n)
  clear hl
  go_enter Try.func10, Try.ntmps10
  go_wp2
  go_quiet (fail)
  go_upto_region 5 with fail
  refine region_still (by kernel_rfl) (by kernel_rfl) ?_
  iterate 12 still_step
  refine wpStill_nil ?_
  go_wp2
  go_ret
  exact ⟨rfl, grown_drew (grown_drewN (World.grownBy_alloc w _ none) _)⟩

set_option maxRecDepth 100000 in
set_option maxHeartbeats 1600000 in
theorem ins_full (b bm : Nat) (now x t : Int) (D : DataW Unit) (n : Nat) (hD : Maps.size D = 4096) (g1 : now < t) (g2 : t ≤ 226157759) (g3 : t - now ≤ 262144) (h0 : 0 ≤ now) (w : World) (c0 : w.cell? ⟨b, 0, none⟩ = some (.int .i64 now)) (c1 : w.cell? ⟨b, 1, none⟩ = some (.map (some bm)))
    (hm : w.ownsMap Try.prog 3 (plainElem Try.prog 2) bm n D)
    (hl : ∀ W, w.grownBy W none → (Instr.lookup 51 (.map (some bm)) (.int .i64 x) true).run Try.prog W = .ok (.tuple #[.int .i64 0, .bool false]) W) :
    Calls Try.prog 10 #[.pointer (some ⟨b, 0, none⟩), .agg #[.int .i64 x, .int .i64 t]] w fun e w' => e = .returned (.int .i64 3) ∧ w.grownBy w' none := by
  have hc0 : ∀ o, (w.alloc o).cell? ⟨b, 0, none⟩ = some (.int .i64 now) := fun o => (World.grownBy_alloc w o none).cell c0 (by simp)
  have hc1 : ∀ o, (w.alloc o).cell? ⟨b, 1, none⟩ = some (.map (some bm)) := fun o => (World.grownBy_alloc w o none).cell c1 (by simp)
  clear c0 c1
  have d1 : decide (t ≤ now) = false := decide_eq_false (by omega)
  have d2 : decide (226157759 < t) = false := decide_eq_false (by omega)
  have d3 : decide (262144 < t - now) = false := decide_eq_false (by omega)
  have hl' : ∀ o n, (Instr.lookup 51 (.map (some bm)) (.int .i64 x) true).run Try.prog ((w.alloc o).drewN n) = .ok (.tuple #[.int .i64 0, .bool false]) ((w.alloc o).drewN n) := fun o n => hl _ (grown_drewN (World.grownBy_alloc w o none) n)
  have hm' : Hid (∀ o k, ((w.alloc o).drewN k).ownsMap Try.prog 3 (plainElem Try.prog 2) bm n D) := fun o k => hm.kept (grown_drewN (World.grownBy_alloc w o none) k) (by simp)
  clear hl hm
  go_enter Try.func10, Try.ntmps10
  go_wp2
  go_quiet (fail)
  go_upto_region 5 with fail
  refine region_still (by kernel_rfl) (by kernel_rfl) ?_
  iterate 12 still_step
  refine wpStill_nil ?_
  go_wp2_with (at_len; refine wpList_len_own _ rfl _ 51 rfl 3 2 Try.underlying51 _ bm n D rfl (hm'.out _ _) ?_)
  go_ret
  exact ⟨rfl, grown_drewN (World.grownBy_alloc w _ none) _⟩

/-- The map is another one now: nothing else has turned. -/
theorem WhD.put {w w2 : World} {b : Nat} {now : Int} {bm : Nat} {D D' : DataW Unit} {v : Nat → Value} {ls : Nat → List Int} (h : WhD w b now bm D v ls) (g : w.grownBy w2 (some bm)) {n : Nat} (hm : w2.ownsMap Try.prog 3 (plainElem Try.prog 2) bm n D') : WhD w2 b now bm D' v ls := by
  have nb : some b ≠ some bm := fun e => h.bb (by injection e)
  have hb : b < w.heap.size := World.block_lt_of_cell? w _ h.c0
  refine ⟨g.cell h.c0 nb, g.cell h.c1 nb, fun p hp => g.cell (h.cp p hp) nb, fun i => ?_, owns_tight hm, fun p hp => kept_ne (h.row p hp) g fun k hk e => h.nm p hp (by rw [hk]; exact e.symm), h.apart, h.nb, h.nm, h.bb⟩
  rw [World.frozen?_of_block (w := w) (a := ⟨b, i, none⟩) (g.block b hb nb)]
  exact h.fr i
/-- Whose blocks they are behind a call. -/
def grF (F : Nat → Prop) (w w' : World) : Nat → Prop := fun k => k < w'.heap.size ∧ (F k ∨ w.heap.size ≤ k)
theorem Foot.more {w w' : World} {b bm : Nat} {now' : Int} {D' : DataW Unit} {v v' : Nat → Value} {ls' : Nat → List Int} {F : Nat → Prop} (h : Foot w b bm v F) (hW : WhD w' b now' bm D' v' ls')
    (hv : ∀ q, q < 193 → ∀ k, (v' q).ownBlock = some k → F k ∨ w.heap.size ≤ k) : Foot w' b bm v' (grF F w w') :=
  ⟨⟨World.block_lt_of_cell? w' _ hW.c0, .inl h.fb⟩, ⟨hW.map.lt, .inl h.fm⟩, fun p hp k hk => ⟨((hW.row p hp).lt k hk).2, hv p hp k hk⟩, fun k hk => hk.1⟩
theorem Held.add {now : Int} {L : List It} {ls : Nat → List Int} (h : Held now L ls) {i : It} (hn : ∀ a ∈ L, a.1 ≠ i.1) : Held now (ins i L) (upd ls (plc now.toNat i.2.toNat) (ls (plc now.toNat i.2.toNat) ++ [i.1])) := by
  intro q hq
  obtain ⟨h1, h2⟩ := h q hq
  by_cases e : q = plc now.toNat i.2.toNat
  · subst e
    rw [upd_same]
    refine ⟨?_, fun id => ?_⟩
    · refine List.nodup_append.2 ⟨h1, by simp, fun a ha b hb => ?_⟩
      simp at hb
      subst hb
      rintro rfl
      obtain ⟨c, hc, e, _⟩ := (h2 _).1 ha
      exact hn c hc e
    · rw [List.mem_append, h2, List.mem_singleton]
      constructor
      · rintro (⟨a, ha, e1, e2⟩ | e)
        · exact ⟨a, mem_ins.2 (.inr ha), e1, e2⟩
        · exact ⟨i, mem_ins.2 (.inl rfl), e.symm, rfl⟩
      · rintro ⟨a, ha, e1, e2⟩
        rcases mem_ins.1 ha with c | c
        · exact .inr (by rw [← e1, c])
        · exact .inl ⟨a, c, e1, e2⟩
  · rw [upd_other _ _ e]
    refine ⟨h1, fun id => ?_⟩
    rw [h2]
    constructor
    · rintro ⟨a, ha, e1, e2⟩
      exact ⟨a, mem_ins.2 (.inr ha), e1, e2⟩
    · rintro ⟨a, ha, e1, e2⟩
      rcases mem_ins.1 ha with c | c
      · exact absurd (by rw [← e2, c]) e
      · exact ⟨a, c, e1, e2⟩
theorem Held.len {now : Int} {L : List It} {ls : Nat → List Int} (h : Held now L ls) {p : Nat} (hp : p < 193) : (ls p).length ≤ L.length := by
  obtain ⟨h1, h2⟩ := h p hp
  have := List.Nodup.length_le_of_subset h1 (l₂ := L.map Prod.fst) fun id hid => by
    obtain ⟨a, ha, e, _⟩ := (h2 id).1 hid
    exact List.mem_map.2 ⟨a, ha, e⟩
  simpa using this
end Go.Proofs.Ytijgekdhjfbgkaa
