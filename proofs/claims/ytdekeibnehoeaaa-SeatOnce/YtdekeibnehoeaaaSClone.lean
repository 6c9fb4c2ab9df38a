/- slices.Clone of jobs; copied. -/
import Derived.Test.YtdekeibnehoeaaaSRow
namespace Go.Proofs.Ytdekeibnehoeaaa
open Go.RowKit Sea
set_option linter.unusedVariables false
set_option maxRecDepth 10000

set_option maxRecDepth 100000 in
theorem nilJ_is (w : World) : (binOp .eql 24 (.slice none 0 0) (.slice none 0 0)).run Try.prog w = .ok (.bool true) w := by kernel_rfl
set_option maxRecDepth 100000 in
theorem nilJ_not (a : Addr) (n c : Nat) (w : World) : (binOp .eql 24 (.slice (some a) n c) (.slice none 0 0)).run Try.prog w = .ok (.bool false) w := by kernel_rfl
/-- What lies behind: a slice in new memory. -/
def New (w : World) (u : S3) (w' : World) : Prop := ∀ k, (Value.slice u.a u.n u.c).ownBlock = some k → w.heap.size ≤ k ∧ k < w'.heap.size
set_option maxRecDepth 100000 in
set_option maxHeartbeats 800000 in
theorem clone_any (u : S3) (js : List Jb) (w : World) (h : Rdj w u js) :
    Calls Try.prog 29 #[.slice u.a u.n u.c] w fun e w' => ∃ u' : S3, e = .returned (.slice u'.a u'.n u'.c) ∧ Rdj w' u' js ∧ w.grownBy w' none ∧ New w u' w' := by
  have N1 := nilJ_is
  have N2 := nilJ_not
  obtain ⟨hX, hn, hb⟩ := h
  obtain ⟨ua, un, uc⟩ := u
  rcases id hX with ⟨e, rfl⟩ | ⟨a, c, e, hs, hc⟩
  · simp only at e hn
    injection e with e1 e2 e3
    subst e1 e2 e3
    clear hX hn hb
    go_enter Try.func29, Try.ntmps29
    go_wp2
    go_ret
    exact ⟨nil3, rfl, rdj_nil _, grown_refl _ _, fun k hk => by simp [nil3, Value.ownBlock] at hk⟩
  · simp only at e hn
    injection e with e1 e2 e3
    subst e1 e3
    have hX1 : ∀ o, eJ.Rx (w.alloc o) (.slice (some a) un uc) js := fun o => hX.grown (World.grownBy_alloc w o none)
    have hM : eJ.Own (w.alloc (.cells #[] 55)) w.heap.size (.slice (some ⟨w.heap.size, 0, none⟩) 0 0) [] := Elm.made (E := eJ) w #[] 0 _ rfl (by unfold maxLen; omega) rfl
    clear hX hc hs e2
    have HN : Hid (un = js.length) := hn
    have HB : Hid (js.length * 96 ≤ 140737488355328) := hb
    clear hn hb
    go_enter Try.func29, Try.ntmps29
    go_wp2_with (refine Elm.wpList_append (E := eJ) rfl (.tmp 5) (.tmp 6) rfl w.heap.size _ [] rfl hM _ js rfl (hX1 _) (by have := HB.out; simp; omega) (by have := HB.out; show (0 + js.length) * 96 ≤ _; omega) (by simp) ?_; intro ad n c w2 hO2 hg2 hl2)
    go_ret
    obtain rfl : n = js.length := by have := hO2.len; simpa using this
    have gg : w.grownBy w2 none := grown_more (World.grownBy_alloc w _ none) hg2 (fun k hk => .inr (by injection hk with hk; exact Nat.le_of_eq hk))
    exact ⟨⟨ad, js.length, c⟩, rfl, ⟨hO2.rx, rfl, HB.out⟩, gg, fun k hk => hO2.lt k hk⟩
set_option maxRecDepth 100000 in
set_option maxHeartbeats 1600000 in
theorem copied_any (s : Sn) (u : S3) (w : World) (h : Rdj w u s.js) :
    Calls Try.prog 20 #[sv s u] w fun e w' => ∃ u' : S3, e = .returned (sv s u') ∧ Rdj w' u' s.js ∧ w.grownBy w' none ∧ New w u' w' := by
  have CL : Hid (∀ W, w.grownBy W none → _) := fun W g => clone_any u s.js W (h.grown g)
  obtain ⟨W0, hW0⟩ : ∃ W0, W0 = (w.alloc (.cells #[.int .i64 s.cl, .int .i64 s.sq, .int .i64 s.er, .int .i64 s.tm, .slice u.a u.n u.c] 28)).alloc (.cells #[.int .i64 0, .int .i64 0, .int .i64 0, .int .i64 0, .slice none 0 0] 28) := ⟨_, rfl⟩
  have hq : (w.alloc (.cells #[.int .i64 s.cl, .int .i64 s.sq, .int .i64 s.er, .int .i64 s.tm, .slice u.a u.n u.c] 28)).heap.size = w.heap.size + 1 := by simp
  have B1 : Hid (∀ W, W0.grownBy W none → Cs W w.heap.size (sc (s, u)) ∧ Cs W (w.heap.size + 1) [.int .i64 0, .int .i64 0, .int .i64 0, .int .i64 0, .slice none 0 0] ∧ w.grownBy W none ∧ w.heap.size + 1 < W.heap.size) := fun W g => by
    rw [hW0] at g
    have k1 := cs_new (grown_tr (World.grownBy_alloc _ _ none) g)
    have k2 := cs_new g
    rw [hq] at k2
    exact ⟨k1, k2, grown_tr (World.grownBy_alloc _ _ none) (grown_tr (World.grownBy_alloc _ _ none) g), by have := g.size; simp at this; omega⟩
  have HW0 : Hid (W0 = _) := hW0
  have GW0 : Hid (w.grownBy W0 none) := (B1.out _ (grown_refl _ _)).2.2.1
  clear h hW0 hq
  go_enter Try.func20, Try.ntmps20
  go_wp2_with (first
    | (go_at_call 29; rw [← HW0.out]; (with_reducible refine (CL.out _ GW0.out).mono ?_); rintro e w2 ⟨u', rfl, r2, g2, n2⟩; have b4 := (range_cells (B1.out w2 g2).1.1).2.2.2.2; have f4 := (B1.out w2 g2).1.2 4; have S1 : Hid (Cs (w2.setCell ⟨w.heap.size, 4, none⟩ (.slice u'.a u'.n u'.c)) w.heap.size (sc (s, u'))) := (B1.out w2 g2).1.set 4 (.slice u'.a u'.n u'.c) (by simp); have S2 : Hid (Cs (w2.setCell ⟨w.heap.size, 4, none⟩ (.slice u'.a u'.n u'.c)) (w.heap.size + 1) [.int .i64 0, .int .i64 0, .int .i64 0, .int .i64 0, .slice none 0 0]) := (B1.out w2 g2).2.1.kept (Chg.of (F := fun k => k = w.heap.size) (grown_set w2 ⟨w.heap.size, 4, none⟩ _) (fun k e => by injection e with e; exact e.symm)) (by omega) (B1.out w2 g2).2.2.2; have TH : Hid ((w2.setCell ⟨w.heap.size, 4, none⟩ (.slice u'.a u'.n u'.c)).there (w.heap.size + 1) 0 5) := S2.out.there (by simp))
    | (refine load_s w.heap.size 0 s u' rfl S1.out.1 ?_)
    | (refine store_row (ty := 28) (w.heap.size + 1) 0 (sc (s, u')).toArray rfl rfl TH.out (by kernel_rfl) (by simp [Value.oneCell']) ?_; intro w3 hw3; have H3 : Hid (w3 = _) := hw3; clear hw3))
  have R3 : w3.rangeAt (w.heap.size + 1) 0 (sc (s, u')) := by rw [H3.out]; exact (S2.out.sets (sc (s, u')) rfl).1
  have lo : ∀ (b o : Nat) (vs : List Value) (W : World), w.heap.size ≤ b → w.grownBy W none → w.grownBy (W.setCells b o vs) none := fun b o vs W hb g => grown_more g (grown_setCells b vs o W) (fun k e => .inr (by injection e with e; omega))
  have g3 : w.grownBy w3 none := by
    rw [H3.out]
    exact lo _ _ _ _ (by omega) (lo w.heap.size 4 [.slice u'.a u'.n u'.c] w2 (Nat.le_refl _) (grown_tr GW0.out g2))
  have sz0 : w.heap.size + 2 ≤ W0.heap.size := by rw [HW0.out]; simp
  have n3 : New w u' w3 := fun k hk => by
    have := n2 k hk
    rw [H3.out, setCells_size, size_set]
    omega
  have r3 : Rdj w3 u' s.js := by
    have c1 : Chg (fun k => k = w.heap.size ∨ k = w.heap.size + 1) w2 w3 := by
      rw [H3.out]
      exact (Chg.of (F := fun k => k = w.heap.size ∨ k = w.heap.size + 1) (grown_set w2 ⟨w.heap.size, 4, none⟩ (.slice u'.a u'.n u'.c)) (fun k e => by injection e with e; exact .inl e.symm)).grown (grown_setCells _ _ _ _) (fun k e => by injection e with e; exact .inl (.inr e.symm))
    exact r2.kept c1 (fun _ k hk => by have := n2 k hk; omega)
  refine bodyPost_ret (v := sv s u') (res_row1 rfl rfl R3 Try.underlying28 rfl (by kernel_rfl)) rfl ?_
  exact ⟨u', rfl, r3, g3, n3⟩
end Go.Proofs.Ytdekeibnehoeaaa
