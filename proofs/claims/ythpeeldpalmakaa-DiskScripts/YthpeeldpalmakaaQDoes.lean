/- One of a script done to a disk; lists of names compared. -/
import Derived.Test.YthpeeldpalmakaaQArgs
namespace Go.Proofs.Ythpeeldpalmakaa
open Go.RowKit Dsk
set_option linter.unusedVariables false

def stepE (s : St) (o : Dd) : Int := if o.kd = 0 then appE s.l o.nm.data.toList o.b.length else if o.kd = 1 then hasE s.l o.nm.data.toList else if o.kd = 2 then hasE s.l o.nm.data.toList else 0
def stepS (s : St) (o : Dd) : St := if o.kd = 0 then appS s o.nm.data.toList o.b else if o.kd = 1 then syncS s o.nm.data.toList else if o.kd = 2 then remS s o.nm.data.toList else crashS s o.keep o.torn
theorem step_m (s : St) (o : Dd) : (stepS s o).m ≤ s.m + 1 := by
  unfold stepS
  split
  · unfold appS
    split
    · exact Int.le_refl _
    · omega
  · split
    · show s.m ≤ _; omega
    · split
      · show s.m ≤ _; omega
      · show s.m ≤ _; omega
/-- What a call on a disk leaves. -/
def Out (b : Nat) (s' : St) (F : Nat → Prop) (w w' : World) : Prop := ∃ F', Dk w' b s' F' ∧ (∀ k, F' k → F k ∨ w.heap.size ≤ k) ∧ Chg F w w'
theorem Out.late {b : Nat} {s' : St} {F : Nat → Prop} {w w1 w' : World} (g : w.grownBy w1 none) (h : Out b s' F w1 w') : Out b s' F w w' := by
  obtain ⟨F', h1, h2, h3⟩ := h
  have := g.size
  exact ⟨F', h1, fun k hk => (h2 k hk).imp id (fun e => by omega), (Chg.of (F := F) g (by simp)).trans h3 fun k hk => .inl hk⟩
set_option maxRecDepth 100000 in
set_option maxHeartbeats 1600000 in
theorem does_any (b : Nat) (s : St) (F : Nat → Prop) (o : Dd) (w : World) (h : Dk w b s F) (m1 : s.m ≤ 1000000000) (hX : eB.Rx w o.v o.b) (hb : o.b.length ≤ 140737488351232) (hn : o.nm.size ≤ 140737488351232) (hk : o.keep ≤ 9223372036854775807) (hdj : o.b ≠ [] → ∀ k, o.v.ownBlock = some k → ¬ F k) :
    Calls Try.prog 14 #[.pointer (some ⟨b, 0, none⟩), .agg #[.int .i64 o.kd, .string o.nm, o.v, .int .i64 o.keep, .int .i64 o.torn]] w fun e w' => e = .returned (.int .i64 (stepE s o)) ∧ Out b (stepS s o) F w w' := by
  have GA : ∀ ob, w.grownBy (w.alloc ob) none := fun ob => World.grownBy_alloc w ob none
  by_cases k0 : o.kd = 0
  · have A : ∀ ob, Calls Try.prog 23 #[.pointer (some ⟨b, 0, none⟩), .string o.nm, o.v] (w.alloc ob) fun e w' => e = .returned (.int .i64 (stepE s o)) ∧ Out b (stepS s o) F (w.alloc ob) w' := fun ob => by
      unfold stepE stepS
      rw [if_pos k0, if_pos k0]
      exact append_any b s F o.nm hn o.v o.b (w.alloc ob) (h.grown (GA ob)) m1 (hX.grown (GA ob)) hb hdj
    generalize stepE s o = E at A ⊢
    generalize stepS s o = S at A ⊢
    obtain ⟨kd, nm, v, bb, kp, tn⟩ := o
    simp only at k0 A ⊢
    subst k0
    clear h hX hdj
    go_enter Try.func14, Try.ntmps14
    go_wp2_with (go_at_call 23; (with_reducible refine (A _).mono ?_); rintro e w1 ⟨rfl, hO⟩)
    go_ret
    exact ⟨rfl, hO.late (GA _)⟩
  · by_cases k1 : o.kd = 1
    · have A : ∀ ob, Calls Try.prog 22 #[.pointer (some ⟨b, 0, none⟩), .string o.nm] (w.alloc ob) fun e w' => e = .returned (.int .i64 (stepE s o)) ∧ Out b (stepS s o) F (w.alloc ob) w' := fun ob => by
        unfold stepE stepS
        rw [if_neg k0, if_neg k0, if_pos k1, if_pos k1]
        exact sync_any b s F o.nm hn (w.alloc ob) (h.grown (GA ob))
      generalize stepE s o = E at A ⊢
      generalize stepS s o = S at A ⊢
      obtain ⟨kd, nm, v, bb, kp, tn⟩ := o
      simp only at k0 k1 A ⊢
      subst k1
      clear h hX hdj k0
      go_enter Try.func14, Try.ntmps14
      go_wp2_with (go_at_call 22; (with_reducible refine (A _).mono ?_); rintro e w1 ⟨rfl, hO⟩)
      go_ret
      exact ⟨rfl, hO.late (GA _)⟩
    · by_cases k2 : o.kd = 2
      · have A : ∀ ob, Calls Try.prog 27 #[.pointer (some ⟨b, 0, none⟩), .string o.nm] (w.alloc ob) fun e w' => e = .returned (.int .i64 (stepE s o)) ∧ Out b (stepS s o) F (w.alloc ob) w' := fun ob => by
          unfold stepE stepS
          rw [if_neg k0, if_neg k0, if_neg k1, if_neg k1, if_pos k2, if_pos k2]
          exact remove_any b s F o.nm hn (w.alloc ob) (h.grown (GA ob))
        generalize stepE s o = E at A ⊢
        generalize stepS s o = S at A ⊢
        obtain ⟨kd, nm, v, bb, kp, tn⟩ := o
        simp only at k0 k1 k2 A ⊢
        subst k2
        clear h hX hdj k0 k1
        go_enter Try.func14, Try.ntmps14
        go_wp2_with (go_at_call 27; (with_reducible refine (A _).mono ?_); rintro e w1 ⟨rfl, hO⟩)
        go_ret
        exact ⟨rfl, hO.late (GA _)⟩
      · have A : ∀ ob, Calls Try.prog 21 #[.pointer (some ⟨b, 0, none⟩), .int .i64 o.keep, .int .i64 o.torn] (w.alloc ob) fun e w' => e = .returned (.tuple #[]) ∧ Out b (stepS s o) F (w.alloc ob) w' := fun ob => by
          unfold stepS
          rw [if_neg k0, if_neg k1, if_neg k2]
          exact crash_any b s F o.keep o.torn hk (w.alloc ob) (h.grown (GA ob)) m1
        have e0 : stepE s o = 0 := by unfold stepE; rw [if_neg k0, if_neg k1, if_neg k2]
        rw [e0]
        generalize stepS s o = S at A ⊢
        obtain ⟨kd, nm, v, bb, kp, tn⟩ := o
        simp only at k0 k1 k2 A ⊢
        have q0 : (kd == 0) = false := by simpa using k0
        have q1 : (kd == 1) = false := by simpa using k1
        have q2 : (kd == 2) = false := by simpa using k2
        clear h hX hdj e0
        go_enter Try.func14, Try.ntmps14
        go_wp2_with (go_at_call 21; (with_reducible refine (A _).mono ?_); rintro e w1 ⟨rfl, hO⟩)
        go_ret
        exact ⟨rfl, hO.late (GA _)⟩
set_option maxRecDepth 100000 in
set_option maxHeartbeats 1600000 in
theorem texts_same (va vb : Value) (l : List (List UInt8)) (hl : l.length ≤ 1000000) (w : World) (ha : eS.Rx w va l) (hb : eS.Rx w vb l) :
    Calls Try.prog 19 #[va, vb] w fun e w' => e = .returned (.bool true) ∧ w.grownBy w' none := by
  obtain ⟨a1, c1, rfl⟩ := ha.form
  obtain ⟨a2, c2, rfl⟩ := hb.form
  have HA : Hid (eS.Rx w (.slice a1 l.length c1) l) := ha
  have HB : Hid (eS.Rx w (.slice a2 l.length c2) l) := hb
  clear ha hb
  go_enter Try.func19, Try.ntmps19
  go_wp2
  go_loopw [5] (fun i wr => ∃ k : Nat, k ≤ l.length ∧ i = Value.int .i64 (k : Int) ∧ ∃ q, wr = w.drewN q) (fun i _ => l.length - (intOf i).toNat)
  case atStart => exact ⟨0, Nat.zero_le _, rfl, 0, rfl⟩
  case round =>
    obtain ⟨k, hk, rfl, q, rfl⟩ := hrel
    by_cases hlt : k < l.length
    · obtain ⟨x, hx⟩ : ∃ x, l[k]? = some x := ⟨_, List.getElem?_eq_getElem hlt⟩
      obtain ⟨g1, q1, i1, y1, _⟩ := HA.out.idx (by omega) hx
      obtain ⟨g2, q2, i2, y2, _⟩ := HB.out.idx (by omega) hx
      have i1' : ∀ W, (Instr.indexAt 27 (.slice a1 l.length c1) (.int .i64 (k : Int))).run Try.prog W = .ok (.pointer (some ⟨g1, q1, none⟩)) W := i1
      have i2' : ∀ W, (Instr.indexAt 27 (.slice a2 l.length c2) (.int .i64 (k : Int))).run Try.prog W = .ok (.pointer (some ⟨g2, q2, none⟩)) W := i2
      have z1 : w.cell? ⟨g1, q1, none⟩ = some (.string ⟨x.toArray⟩) := y1 0 _ rfl
      have z2 : w.cell? ⟨g2, q2, none⟩ = some (.string ⟨x.toArray⟩) := y2 0 _ rfl
      clear i1 i2 y1 y2 hx
      go_upto_region 6 with fail
      refine region_still (by kernel_rfl) (by kernel_rfl) ?_
      iterate 9 still_step
      refine wpStill_nil ?_
      go_wp2
      go_roundw
      case rel => exact ⟨k + 1, by omega, by go_num, q + 1, by simp⟩
      case measure => simp [intOf]; omega
    · go_wp2
      go_ret
      exact ⟨rfl, grown_drewN (grown_refl w none) q⟩
end Go.Proofs.Ythpeeldpalmakaa
