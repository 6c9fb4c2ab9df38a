/- A new disk; a file looked up; Sync, Remove, size, Waiting. -/
import Derived.Test.YthpeeldpalmakaaQName
namespace Go.Proofs.Ythpeeldpalmakaa
open Go.RowKit Dsk
set_option linter.unusedVariables false

theorem new_dk (w : World) : Dk ((w.alloc (Obj.map #[] 0)).alloc (Obj.cells #[.map (some w.heap.size), .int .i64 0] 48)) (w.heap.size + 1) newS (fun k => k = w.heap.size + 1 ∨ k = w.heap.size) := by
  refine ⟨w.heap.size, [], fun _ => ⟨[], []⟩, fun _ _ => False, ⟨?_, ?_, fun i => ?_, ?_, by simp, by simp, by simp, by simp, by omega⟩, rfl, ok_new, fun k => by simp [Foot]⟩
  · exact new_at _ (by simp) rfl
  · exact new_at _ (by simp) rfl
  · simp
  · exact (mapOf_new w).grown (World.grownBy_alloc _ _ none) (by simp)
set_option maxRecDepth 100000 in
set_option maxHeartbeats 800000 in
theorem new_ok (w : World) : Calls Try.prog 9 #[] w fun e w' => ∃ b F, e = .returned (.pointer (some ⟨b, 0, none⟩)) ∧ Dk w' b newS F ∧ (∀ k, F k → w.heap.size ≤ k) ∧ w.grownBy w' none := by
  have hmm := @run_makeMap Try.prog
  go_enter Try.func9, Try.ntmps9
  go_wp2
  go_ret
  refine ⟨_, _, rfl, new_dk w, fun k hk => ?_, grown_alloc (World.grownBy_alloc w _ none) _⟩
  rcases hk with rfl | rfl <;> omega
set_option maxRecDepth 100000 in
set_option maxHeartbeats 800000 in
theorem find_run (b bm : Nat) (s : ByteArray) (w : World) (c0 : w.cell? ⟨b, 0, none⟩ = some (.map (some bm))) (v : Option Addr) (t : Bool) (hl : (Instr.lookup 46 (.map (some bm)) (.string s) true).run Try.prog w = .ok (.tuple #[.pointer v, .bool t]) w) :
    Calls Try.prog 28 #[.pointer (some ⟨b, 0, none⟩), .string s] w fun e w' => e = .returned (.tuple #[.pointer v, .bool t]) ∧ w' = w := by
  go_enter Try.func28, Try.ntmps28
  go_wp2
  go_ret2
  exact ⟨rfl, rfl⟩
section
variable {w : World} {b bm : Nat} {M : List (List UInt8 × Nat)} {c : Nat → Fl} {G : Nat → Nat → Prop} {m : Int}
theorem find_yes (h : DkD w b bm M c G m) {s : ByteArray} (hs : s.size ≤ 140737488351232) {f : Nat} (hf : (s.data.toList, f) ∈ M) :
    Calls Try.prog 28 #[.pointer (some ⟨b, 0, none⟩), .string s] w fun e w' => e = .returned (.tuple #[.pointer (some ⟨f, 0, none⟩), .bool true]) ∧ w' = w :=
  find_run b bm s w h.c0 _ _ (h.map.look_yes hs hf w (grown_refl _ _))
theorem find_no (h : DkD w b bm M c G m) {s : ByteArray} (hs : s.size ≤ 140737488351232) (hf : (M.any fun p => p.1 == s.data.toList) = false) :
    Calls Try.prog 28 #[.pointer (some ⟨b, 0, none⟩), .string s] w fun e w' => e = .returned (.tuple #[.pointer none, .bool false]) ∧ w' = w :=
  find_run b bm s w h.c0 _ _ (h.map.look_no hs hf w (grown_refl _ _))
end
/-- A disk behind a call that turned one file. -/
theorem Dk.turned {w w' : World} {b : Nat} {s : St} {F : Nat → Prop} {bm : Nat} {M : List (List UInt8 × Nat)} {c : Nat → Fl} {G : Nat → Nat → Prop} (h : DkD w b bm M c G s.m) (hl : s.l = lay M c) (hF : ∀ k, F k ↔ Foot b bm M G k) {nm : List UInt8} {f : Nat} (hp : (nm, f) ∈ M) (C : Chg (G f) w w') (g : Fl → Fl) {G' : Nat → Prop} (hf : Fil w' f (g (c f)) G') (hG : ∀ k, G' k → G f k ∨ w.heap.size ≤ k) (ok : Ok ⟨setF s.l nm g, s.m⟩) :
    ∃ F', Dk w' b ⟨setF s.l nm g, s.m⟩ F' ∧ (∀ k, F' k → F k ∨ w.heap.size ≤ k) ∧ Chg F w w' := by
  have nd : (M.map (·.1)).Nodup := by obtain ⟨D, _, T⟩ := h.map; exact T.nd
  refine ⟨Foot b bm M (upd G f G'), ⟨bm, M, upd c f (g (c f)), upd G f G', h.turn hp C hf hG, ?_, ok, fun _ => Iff.rfl⟩, fun k hk => ?_, C.wide fun k hk => (hF k).2 (.inr (.inr ⟨_, hp, hk⟩))⟩
  · show setF s.l nm g = _
    rw [hl]
    exact (lay_set nd h.inj hp g).symm
  · rcases hk with e | e | ⟨p, hpm, hk⟩
    · exact .inl ((hF k).2 (.inl e))
    · exact .inl ((hF k).2 (.inr (.inl e)))
    · by_cases ep : p.2 = f
      · rw [ep, upd_same] at hk
        rcases hG k hk with e | e
        · exact .inl ((hF k).2 (.inr (.inr ⟨_, hp, e⟩)))
        · exact .inr e
      · rw [upd_other _ _ ep] at hk
        exact .inl ((hF k).2 (.inr (.inr ⟨p, hpm, hk⟩)))
theorem Fil.synced {w : World} {f : Nat} {fl : Fl} {G : Nat → Prop} (h : Fil w f fl G) : Fil (w.setCell ⟨f, 1, none⟩ (.slice none 0 0)) f ⟨fl.by_, []⟩ G ∧ Chg G w (w.setCell ⟨f, 1, none⟩ (.slice none 0 0)) := by
  obtain ⟨vb, vw, h1, h2, h3, h4, h5⟩ := h
  have gs := grown_set w ⟨f, 1, none⟩ (.slice none 0 0)
  refine ⟨⟨vb, .slice none 0 0, ⟨(set_other (by simp)).trans h1.c0, set_same h1.c1, fun i => (World.frozen?_setCell _ _ _ _).trans (h1.fr i), h1.rb.but gs (fun k hk e => h1.nb (by rw [hk]; exact e.symm)), Elm.nil _ _, h1.nb, by simp [Value.ownBlock], by simp [Value.ownBlock]⟩, h2, h3, by simp [Value.ownBlock], fun k hk => by rw [size_set]; exact h5 k hk⟩, Chg.of gs fun k hk => by injection hk with hk; rw [← hk]; exact h2⟩
set_option maxRecDepth 100000 in
set_option maxHeartbeats 800000 in
theorem sync_run (b f : Nat) (s : ByteArray) (w : World) (FD : Calls Try.prog 28 #[.pointer (some ⟨b, 0, none⟩), .string s] w fun e w' => e = .returned (.tuple #[.pointer (some ⟨f, 0, none⟩), .bool true]) ∧ w' = w) (vw : Value) (c1 : w.cell? ⟨f, 1, none⟩ = some vw) (fr : w.frozen? ⟨f, 1, none⟩ = false) :
    Calls Try.prog 22 #[.pointer (some ⟨b, 0, none⟩), .string s] w fun e w' => e = .returned (.int .i64 0) ∧ w' = w.setCell ⟨f, 1, none⟩ (.slice none 0 0) := by
  go_enter Try.func22, Try.ntmps22
  go_wp2_with (go_at_call 28; (with_reducible refine FD.mono ?_); rintro e w1 ⟨rfl, rfl⟩)
  go_ret
  exact ⟨rfl, rfl⟩
set_option maxRecDepth 100000 in
set_option maxHeartbeats 800000 in
theorem sync_not (b : Nat) (s : ByteArray) (w : World) (FD : Calls Try.prog 28 #[.pointer (some ⟨b, 0, none⟩), .string s] w fun e w' => e = .returned (.tuple #[.pointer none, .bool false]) ∧ w' = w) :
    Calls Try.prog 22 #[.pointer (some ⟨b, 0, none⟩), .string s] w fun e w' => e = .returned (.int .i64 80) ∧ w' = w := by
  go_enter Try.func22, Try.ntmps22
  go_wp2_with (go_at_call 28; (with_reducible refine FD.mono ?_); rintro e w1 ⟨rfl, rfl⟩)
  go_ret
  exact ⟨rfl, rfl⟩
theorem sync_any (b : Nat) (s : St) (F : Nat → Prop) (nm : ByteArray) (hs : nm.size ≤ 140737488351232) (w : World) (h : Dk w b s F) :
    Calls Try.prog 22 #[.pointer (some ⟨b, 0, none⟩), .string nm] w fun e w' => e = .returned (.int .i64 (hasE s.l nm.data.toList)) ∧ ∃ F', Dk w' b (syncS s nm.data.toList) F' ∧ (∀ k, F' k → F k ∨ w.heap.size ≤ k) ∧ Chg F w w' := by
  obtain ⟨bm, M, c, G, h1, h2, h3, h4⟩ := id h
  have hh : has s.l nm.data.toList = M.any fun p => p.1 == nm.data.toList := by rw [h2, lay_has]
  cases ha : M.any fun p => p.1 == nm.data.toList with
  | true =>
    obtain ⟨f, hf⟩ := any_nm.1 ha
    have hF := h1.fil _ hf
    obtain ⟨vb, vw, g1, _⟩ := id hF
    refine (sync_run b f nm w (find_yes h1 hs hf) vw g1.c1 (g1.fr 1)).mono ?_
    rintro e w' ⟨rfl, rfl⟩
    refine ⟨by unfold hasE; rw [hh, ha]; rfl, ?_⟩
    exact Dk.turned h1 h2 h4 hf hF.synced.2 (fun f => ⟨f.by_, []⟩) hF.synced.1 (fun k hk => .inl hk) (ok_sync h3 _)
  | false =>
    refine (sync_not b nm w (find_no h1 hs ha)).mono ?_
    rintro e w' ⟨rfl, rfl⟩
    have e1 : syncS s nm.data.toList = s := by unfold syncS; rw [setF_not _ (by rw [hh, ha])]
    exact ⟨by unfold hasE; rw [hh, ha]; rfl, F, by rw [e1]; exact h, fun k hk => .inl hk, Chg.refl _ _⟩
end Go.Proofs.Ythpeeldpalmakaa
