/- Opening, told more: the list that it answers lies apart from the disk. Open, where it answers none: what it leaves. Lists that lie apart from the disk. -/
import Derived.Test.YtapdhkgeolcogaaGreatDoorGx
namespace Go.Proofs.YtapdhkgeolcogaaGreatDoor
open Go.RowKit Dsk Lg
set_option linter.unusedVariables false

set_option maxRecDepth 100000 in
set_option maxHeartbeats 3200000 in
theorem open_keep2 {W w : World} {b : Nat} {s : St} {F : Nat → Prop} (hd : Dk w b s F) (lo : ∀ k, F k → W.heap.size ≤ k) (bel : Below W.heap.size W w) (gv : Gv W) (h1 : (chooseC s).file ≠ []) (h2 : (chooseC s).left = 0) :
    Calls Tryz.prog 10 #[.pointer (some ⟨b, 0, none⟩)] w fun e w' => ∃ ad c F', e = .returned (.tuple #[.pointer (some ⟨w.heap.size, 0, none⟩), .slice ad (chooseC s).ls.length c, .int .i64 0]) ∧ Wl W w' b w.heap.size (chooseC s).s F' (chooseC s).file ((chooseC s).num : Int) ((chooseC s).ls.length : Int) ∧ (∀ k, F' k → F k ∨ w.heap.size ≤ k) ∧ Chg F w w' ∧ (∀ j, (Value.slice ad (chooseC s).ls.length c).ownBlock = some j → ¬ F' j) ∧ Ro w' (w.heap.size + 1) (.slice ad (chooseC s).ls.length c) (chooseC s).ls (fun k => w.heap.size + 1 ≤ k ∧ ¬ F' k) := by
  have CH := choose_any (wl_new hd lo bel gv)
  have hlt := hd.lt
  rw [h2] at CH
  have hf' : ((chooseC s).file == []) = false := by simpa using h1
  have hll := (choose_ok hd.ok).len
  generalize chooseC s = cc at *
  have hli : (cc.ls.length : Int) ≤ 1048576 := by omega
  clear hd lo bel gv h1
  go_enter Tryz.func10, Tryz.ntmps10
  go_wp2_with (go_at_call 29; (with_reducible refine CH.mono ?_); rintro e w1 ⟨ad, n, c, F1, rfl, hW1, hF1, hC1, hR1⟩; obtain rfl : n = cc.ls.length := (by obtain ⟨ad2, c2, e2⟩ := hR1.form; injection e2); have k1 := hW1.c1; have k3 := hW1.c3; have kf := hW1.fr)
  go_ret3
  have hz : w.heap.size < w1.heap.size := hW1.lt
  have hs3 := chg_set w1 ⟨w.heap.size, 3, none⟩ (.int .i64 (cc.ls.length : Int))
  refine ⟨ad, c, F1, rfl, hW1.set3 _, fun k hk => .inl (hF1 k hk), ?_, fun j hj e => ?_, ?_⟩
  · refine ((Chg.of (F := F) (World.grownBy_alloc w _ none) (by simp)).trans hC1 fun k hk => ?_).trans hs3 fun k hk => .inr (Nat.le_of_eq (by simpa using hk.symm))
    rcases hk with e | e
    · exact .inl e
    · exact .inr (by omega)
  · have h5 : w.heap.size + 1 ≤ j := by have := (hR1.lt j hj).1; simpa using this
    have := hlt j (hF1 j e)
    omega
  · have hR2 : Ro w1 (w.heap.size + 1) (.slice ad cc.ls.length c) cc.ls (fun k => w.heap.size + 1 ≤ k) := by simpa using hR1
    refine Ro.wide ?_ (fun k hk => ⟨hk, fun e => by have := hlt k (hF1 k e); omega⟩)
    exact hR2.kept hs3 (fun k hk e => by have := (hR2.lt k hk).1; simp at e; omega) fun k hk e => by simp at e; omega
set_option maxRecDepth 100000 in
set_option maxHeartbeats 3200000 in
theorem open_laid2 {W w : World} {b : Nat} {s : St} {F : Nat → Prop} (hd : Dk w b s F) (lo : ∀ k, F k → W.heap.size ≤ k) (bel : Below W.heap.size W w) (gv : Gv W) (h1 : ¬ ((chooseC s).file ≠ [] ∧ (chooseC s).left = 0)) (m1 : s.m ≤ 900000000) (h2 : (chooseC s).num ≠ 999999999) (h3 : (layS (chooseC s).s (nm ((chooseC s).num + 1)) (chooseC s).ls).2 = true) :
    Calls Tryz.prog 10 #[.pointer (some ⟨b, 0, none⟩)] w fun e w' => ∃ ad c F', e = .returned (.tuple #[.pointer (some ⟨w.heap.size, 0, none⟩), .slice ad (chooseC s).ls.length c, .int .i64 0]) ∧ Wl W w' b w.heap.size (remS (layS (chooseC s).s (nm ((chooseC s).num + 1)) (chooseC s).ls).1 (chooseC s).file) F' (nm ((chooseC s).num + 1)) (((chooseC s).num + 1 : Nat) : Int) ((chooseC s).ls.length : Int) ∧ (∀ k, F' k → F k ∨ w.heap.size ≤ k) ∧ Chg F w w' ∧ (∀ j, (Value.slice ad (chooseC s).ls.length c).ownBlock = some j → ¬ F' j) ∧ Ro w' (w.heap.size + 1) (.slice ad (chooseC s).ls.length c) (chooseC s).ls (fun k => w.heap.size + 1 ≤ k ∧ ¬ F' k) := by
  have CH := choose_any (wl_new hd lo bel gv)
  have hlt := hd.lt
  have hok := choose_ok hd.ok
  have hm2 : (chooseC s).s.m ≤ 900000000 := by rw [hok.m]; exact m1
  have RS : ∀ {w1 ad c F1}, Wl W w1 b w.heap.size (chooseC s).s F1 (chooseC s).file ((chooseC s).num : Int) ((chooseC s).ls.length : Int) → (∀ k, F1 k → F k) → Ro w1 (w.heap.size + 1) (.slice ad (chooseC s).ls.length c) (chooseC s).ls (fun k => w.heap.size + 1 ≤ k ∧ k < w1.heap.size) → Calls Tryz.prog 16 #[.pointer (some ⟨w.heap.size, 0, none⟩), .slice ad (chooseC s).ls.length c] w1 fun e w' => e = .returned (.int .i64 0) ∧ WLeft W w1 w' b w.heap.size F1 (remS (layS (chooseC s).s (nm ((chooseC s).num + 1)) (chooseC s).ls).1 (chooseC s).file) (nm ((chooseC s).num + 1)) (((chooseC s).num + 1 : Nat) : Int) ((chooseC s).ls.length : Int) := fun {w1 ad c F1} hW hF hR =>
    reset_ok hW hok.file _ _ (hR.rl (R' := fun k => w.heap.size + 1 ≤ k ∧ k < w1.heap.size) (fun k hk => hk) fun k a b => ⟨a, b⟩) (fun k hk => ⟨fun e => by have := hlt k (hF k e); omega, hk.2⟩) (by have := hok.len; omega) hm2 (fit_long hok.fit) (by have := hok.num; omega) h3
  have hcond : (chooseC s).file ≠ [] → 0 < (chooseC s).left := fun e => by
    have : (chooseC s).left ≠ 0 := fun e2 => h1 ⟨e, e2⟩
    omega
  have hll := hok.len
  generalize remS (layS (chooseC s).s (nm ((chooseC s).num + 1)) (chooseC s).ls).1 (chooseC s).file = S9 at *
  generalize nm ((chooseC s).num + 1) = M9 at *
  generalize (((chooseC s).num + 1 : Nat) : Int) = N9 at *
  clear h2 h3 hok hm2 h1
  generalize chooseC s = cc at *
  have hli : (cc.ls.length : Int) ≤ 1048576 := by omega
  clear hd lo bel gv
  have key : ∀ {w1 ad c F1}, Wl W w1 b w.heap.size cc.s F1 cc.file (cc.num : Int) 0 → (∀ k, F1 k → F k) → Ro w1 (w.heap.size + 1) (.slice ad cc.ls.length c) cc.ls (fun k => w.heap.size + 1 ≤ k) → Calls Tryz.prog 16 #[.pointer (some ⟨w.heap.size, 0, none⟩), .slice ad cc.ls.length c] (w1.setCell ⟨w.heap.size, 3, none⟩ (.int .i64 (cc.ls.length : Int))) fun e w' => e = .returned (.int .i64 0) ∧ WLeft W w1 w' b w.heap.size F1 S9 M9 N9 (cc.ls.length : Int) ∧ (∀ j, (Value.slice ad cc.ls.length c).ownBlock = some j → w.heap.size + 1 ≤ j ∧ j < w1.heap.size) ∧ Ro w' (w.heap.size + 1) (.slice ad cc.ls.length c) cc.ls (fun k => w.heap.size + 1 ≤ k ∧ k < w1.heap.size) := fun {w1 ad c F1} hW hF hR => by
    have hs3 := chg_set w1 ⟨w.heap.size, 3, none⟩ (.int .i64 (cc.ls.length : Int))
    have hR2 : Ro (w1.setCell ⟨w.heap.size, 3, none⟩ (.int .i64 (cc.ls.length : Int))) (w.heap.size + 1) (.slice ad cc.ls.length c) cc.ls (fun k => w.heap.size + 1 ≤ k) := hR.kept hs3 (fun k hk e => by have := (hR.lt k hk).1; simp at e; omega) fun k hk e => by simp at e; omega
    refine (RS (hW.set3 _) hF hR2.tight).mono ?_
    rintro e w' ⟨rfl, hL⟩
    refine ⟨rfl, hL.next (fun k hk => .inl hk) (hs3.wide fun k hk => .inr hk), fun j hj => hR.lt j hj, ?_⟩
    have hR3 : Ro (w1.setCell ⟨w.heap.size, 3, none⟩ (.int .i64 (cc.ls.length : Int))) (w.heap.size + 1) (.slice ad cc.ls.length c) cc.ls (fun k => w.heap.size + 1 ≤ k ∧ k < w1.heap.size) := by simpa using hR2.tight
    obtain ⟨F9, _, _, hC9⟩ := hL
    have nT : ∀ k, w.heap.size + 1 ≤ k → ¬ (F1 k ∨ k = w.heap.size) := fun k hk e => by
      rcases e with e | e
      · have := hlt k (hF k e); omega
      · omega
    exact hR3.kept hC9 (fun k hk => nT k (hR2.lt k hk).1) fun k hk => nT k hk.1
  have key2 : ∀ {w1 w' : World} {F1 : Nat → Prop}, Chg (fun k => F k ∨ k = w.heap.size) (w.alloc (.cells #[.pointer (some ⟨b, 0, none⟩), .string ⟨#[]⟩, .int .i64 0, .int .i64 0] 68)) w1 → (∀ k, F1 k → F k) → WLeft W w1 w' b w.heap.size F1 S9 M9 N9 (cc.ls.length : Int) → ∃ F', Wl W w' b w.heap.size S9 F' M9 N9 (cc.ls.length : Int) ∧ (∀ k, F' k → F k ∨ w.heap.size ≤ k) ∧ Chg F w w' ∧ (∀ k, F' k → F k ∨ w1.heap.size ≤ k) := fun {w1 w' F1} hC hF hL => by
    obtain ⟨F9, h1, h2, h3⟩ := hL
    have hz : w.heap.size + 1 ≤ w1.heap.size := by have := hC.size; simpa using this
    refine ⟨F9, h1, fun k hk => (h2 k hk).elim (fun e => .inl (hF k e)) fun e => .inr (by omega), ?_, fun k hk => (h2 k hk).elim (fun e => .inl (hF k e)) .inr⟩
    refine ((Chg.of (F := F) (World.grownBy_alloc w _ none) (by simp)).trans hC fun k hk => ?_).trans h3 fun k hk => ?_
    · rcases hk with e | e
      · exact .inl e
      · exact .inr (by omega)
    · rcases hk with e | e
      · exact .inl (hF k e)
      · exact .inr (by omega)
  by_cases hfe : cc.file = []
  · have hf' : (cc.file == []) = true := by simpa using hfe
    go_enter Tryz.func10, Tryz.ntmps10
    go_wp2_with (first
      | (go_at_call 29; (with_reducible refine CH.mono ?_); rintro e w1 ⟨ad, n, c, F1, rfl, hW1, hF1, hC1, hR1⟩; obtain rfl : n = cc.ls.length := (by obtain ⟨ad2, c2, e2⟩ := hR1.form; injection e2); have k1 := hW1.c1; have k3 := hW1.c3; have kf := hW1.fr)
      | (go_at_call 16; (with_reducible refine (key hW1 hF1 (by simpa using hR1)).mono ?_); rintro e w2 ⟨rfl, hL2, ho2, hR2⟩))
    go_ret3
    obtain ⟨F9, j1, j2, j3, j4⟩ := key2 hC1 hF1 hL2
    have nF : ∀ k, w.heap.size + 1 ≤ k ∧ k < w1.heap.size → ¬ F9 k := fun k hk e => by
      rcases j4 k e with e | e
      · have := hlt k e; omega
      · omega
    exact ⟨ad, c, F9, rfl, j1, j2, j3, fun j hj => nF j (ho2 j hj), hR2.wide fun k hk => ⟨hk.1, nF k hk⟩⟩
  · have hf' : (cc.file == []) = false := by simpa using hfe
    have hle : (0 : Int) < (cc.left : Int) := by have := hcond hfe; omega
    go_enter Tryz.func10, Tryz.ntmps10
    go_wp2_with (first
      | (go_at_call 29; (with_reducible refine CH.mono ?_); rintro e w1 ⟨ad, n, c, F1, rfl, hW1, hF1, hC1, hR1⟩; obtain rfl : n = cc.ls.length := (by obtain ⟨ad2, c2, e2⟩ := hR1.form; injection e2); have k1 := hW1.c1; have k3 := hW1.c3; have kf := hW1.fr)
      | (go_at_call 16; (with_reducible refine (key hW1 hF1 (by simpa using hR1)).mono ?_); rintro e w2 ⟨rfl, hL2, ho2, hR2⟩))
    go_ret3
    obtain ⟨F9, j1, j2, j3, j4⟩ := key2 hC1 hF1 hL2
    have nF : ∀ k, w.heap.size + 1 ≤ k ∧ k < w1.heap.size → ¬ F9 k := fun k hk e => by
      rcases j4 k e with e | e
      · have := hlt k e; omega
      · omega
    exact ⟨ad, c, F9, rfl, j1, j2, j3, fun j hj => nF j (ho2 j hj), hR2.wide fun k hk => ⟨hk.1, nF k hk⟩⟩
theorem open_some2 {W w : World} {b : Nat} {s : St} {F : Nat → Prop} (hd : Dk w b s F) (lo : ∀ k, F k → W.heap.size ≤ k) (bel : Below W.heap.size W w) (gv : Gv W) (m1 : s.m ≤ 900000000) {s' : St} {file : By} {n : Nat} {ls : List By} (h : openR s = some (s', file, n, ls)) :
    Calls Tryz.prog 10 #[.pointer (some ⟨b, 0, none⟩)] w fun e w' => ∃ ad c F', e = .returned (.tuple #[.pointer (some ⟨w.heap.size, 0, none⟩), .slice ad ls.length c, .int .i64 0]) ∧ Wl W w' b w.heap.size s' F' file (n : Int) (ls.length : Int) ∧ (∀ k, F' k → F k ∨ w.heap.size ≤ k) ∧ Chg F w w' ∧ (∀ j, (Value.slice ad ls.length c).ownBlock = some j → ¬ F' j) ∧ Ro w' (w.heap.size + 1) (.slice ad ls.length c) ls (fun k => w.heap.size + 1 ≤ k ∧ ¬ F' k) := by
  unfold openR at h
  split at h
  · rename_i hc
    simp only [Option.some.injEq, Prod.mk.injEq] at h
    obtain ⟨rfl, rfl, rfl, rfl⟩ := h
    exact open_keep2 hd lo bel gv hc.1 hc.2
  · rename_i hc
    split at h
    · cases h
    · rename_i hn
      split at h
      · rename_i hl
        simp only [Option.some.injEq, Prod.mk.injEq] at h
        obtain ⟨rfl, rfl, rfl, rfl⟩ := h
        exact open_laid2 hd lo bel gv hc m1 hn hl
      · cases h
end Go.Proofs.YtapdhkgeolcogaaGreatDoor
namespace Go.Proofs.YtapdhkgeolcogaaGreatDoor
open Go.RowKit Dsk Lg
set_option linter.unusedVariables false

set_option maxRecDepth 100000 in
set_option maxHeartbeats 3200000 in
theorem open_bad2 {W w : World} {b : Nat} {s : St} {F : Nat → Prop} (hd : Dk w b s F) (lo : ∀ k, F k → W.heap.size ≤ k) (bel : Below W.heap.size W w) (gv : Gv W) (h1 : ¬ ((chooseC s).file ≠ [] ∧ (chooseC s).left = 0)) (m1 : s.m ≤ 900000000) (h2 : (chooseC s).num = 999999999 ∨ (layS (chooseC s).s (nm ((chooseC s).num + 1)) (chooseC s).ls).2 = false) :
    Calls Tryz.prog 10 #[.pointer (some ⟨b, 0, none⟩)] w fun e w' => e = .returned (.tuple #[.pointer none, .slice none 0 0, .int .i64 3]) ∧ Chg F w w' ∧ Below W.heap.size W w' := by
  have CH := choose_any (wl_new hd lo bel gv)
  have hlt := hd.lt
  have hok := choose_ok hd.ok
  have hm2 : (chooseC s).s.m ≤ 900000000 := by rw [hok.m]; exact m1
  have hcond : (chooseC s).file ≠ [] → 0 < (chooseC s).left := fun e => by
    have : (chooseC s).left ≠ 0 := fun e2 => h1 ⟨e, e2⟩
    omega
  have RS : ∀ {w1 ad c F1}, Wl W w1 b w.heap.size (chooseC s).s F1 (chooseC s).file ((chooseC s).num : Int) ((chooseC s).ls.length : Int) → (∀ k, F1 k → F k) → Ro w1 (w.heap.size + 1) (.slice ad (chooseC s).ls.length c) (chooseC s).ls (fun k => w.heap.size + 1 ≤ k ∧ k < w1.heap.size) → Calls Tryz.prog 16 #[.pointer (some ⟨w.heap.size, 0, none⟩), .slice ad (chooseC s).ls.length c] w1 fun e w' => e = .returned (.int .i64 3) ∧ Chg F1 w1 w' ∧ Below W.heap.size W w' := fun {w1 ad c F1} hW hF hR => by
    have hX : Rl w1 (.slice ad (chooseC s).ls.length c) (chooseC s).ls (fun k => w.heap.size + 1 ≤ k ∧ k < w1.heap.size) := hR.rl (fun k hk => hk) fun k a b => ⟨a, b⟩
    by_cases e : (chooseC s).num = 999999999
    · rw [e] at hW
      refine (reset_full hW _ _ hX (by have := hok.len; omega) (fit_long hok.fit)).mono ?_
      rintro e w' ⟨rfl, rfl⟩
      exact ⟨rfl, Chg.refl _ _, hW.bel⟩
    · refine (reset_bad hW _ _ hX (fun k hk => ⟨fun e => by have := hlt k (hF k e); omega, hk.2⟩) (by have := hok.len; omega) hm2 (fit_long hok.fit) (by have := hok.num; omega) (h2.resolve_left e)).mono ?_
      rintro e w' ⟨rfl, F9, h9, _, h8⟩
      exact ⟨rfl, h8, h9.bel⟩
  have hll := hok.len
  clear h2 hok hm2 h1
  generalize chooseC s = cc at *
  have hli : (cc.ls.length : Int) ≤ 1048576 := by omega
  clear hd lo bel gv
  have key : ∀ {w1 ad c F1}, Wl W w1 b w.heap.size cc.s F1 cc.file (cc.num : Int) 0 → (∀ k, F1 k → F k) → Ro w1 (w.heap.size + 1) (.slice ad cc.ls.length c) cc.ls (fun k => w.heap.size + 1 ≤ k) → Calls Tryz.prog 16 #[.pointer (some ⟨w.heap.size, 0, none⟩), .slice ad cc.ls.length c] (w1.setCell ⟨w.heap.size, 3, none⟩ (.int .i64 (cc.ls.length : Int))) fun e w' => e = .returned (.int .i64 3) ∧ Chg (fun k => F1 k ∨ k = w.heap.size) w1 w' ∧ Below W.heap.size W w' := fun {w1 ad c F1} hW hF hR => by
    have hs3 := chg_set w1 ⟨w.heap.size, 3, none⟩ (.int .i64 (cc.ls.length : Int))
    have hR2 : Ro (w1.setCell ⟨w.heap.size, 3, none⟩ (.int .i64 (cc.ls.length : Int))) (w.heap.size + 1) (.slice ad cc.ls.length c) cc.ls (fun k => w.heap.size + 1 ≤ k) := hR.kept hs3 (fun k hk e => by have := (hR.lt k hk).1; simp at e; omega) fun k hk e => by simp at e; omega
    exact (RS (hW.set3 _) hF hR2.tight).mono fun e w' ⟨h1, h2, h3⟩ => ⟨h1, (hs3.wide fun k hk => .inr hk).trans h2 fun k hk => .inl (.inl hk), h3⟩
  have key2 : ∀ {w1 w' : World} {F1 : Nat → Prop}, Chg (fun k => F k ∨ k = w.heap.size) (w.alloc (.cells #[.pointer (some ⟨b, 0, none⟩), .string ⟨#[]⟩, .int .i64 0, .int .i64 0] 68)) w1 → (∀ k, F1 k → F k) → Chg (fun k => F1 k ∨ k = w.heap.size) w1 w' → Chg F w w' := fun {w1 w' F1} hC hF hL => by
    refine ((Chg.of (F := F) (World.grownBy_alloc w _ none) (by simp)).trans hC fun k hk => ?_).trans hL fun k hk => ?_
    · rcases hk with e | e
      · exact .inl e
      · exact .inr (by omega)
    · rcases hk with e | e
      · exact .inl (hF k e)
      · exact .inr (by omega)
  by_cases hfe : cc.file = []
  · have hf' : (cc.file == []) = true := by simpa using hfe
    go_enter Tryz.func10, Tryz.ntmps10
    go_wp2_with (first
      | (go_at_call 29; (with_reducible refine CH.mono ?_); rintro e w1 ⟨ad, n, c, F1, rfl, hW1, hF1, hC1, hR1⟩; obtain rfl : n = cc.ls.length := (by obtain ⟨ad2, c2, e2⟩ := hR1.form; injection e2); have k1 := hW1.c1; have k3 := hW1.c3; have kf := hW1.fr)
      | (go_at_call 16; (with_reducible refine (key hW1 hF1 (by simpa using hR1)).mono ?_); rintro e w2 ⟨rfl, hL1, hL2⟩))
    go_ret3
    exact ⟨rfl, key2 hC1 hF1 hL1, hL2⟩
  · have hf' : (cc.file == []) = false := by simpa using hfe
    have hle : (0 : Int) < (cc.left : Int) := by have := hcond hfe; omega
    go_enter Tryz.func10, Tryz.ntmps10
    go_wp2_with (first
      | (go_at_call 29; (with_reducible refine CH.mono ?_); rintro e w1 ⟨ad, n, c, F1, rfl, hW1, hF1, hC1, hR1⟩; obtain rfl : n = cc.ls.length := (by obtain ⟨ad2, c2, e2⟩ := hR1.form; injection e2); have k1 := hW1.c1; have k3 := hW1.c3; have kf := hW1.fr)
      | (go_at_call 16; (with_reducible refine (key hW1 hF1 (by simpa using hR1)).mono ?_); rintro e w2 ⟨rfl, hL1, hL2⟩))
    go_ret3
    exact ⟨rfl, key2 hC1 hF1 hL1, hL2⟩
theorem open_none2 {W w : World} {b : Nat} {s : St} {F : Nat → Prop} (hd : Dk w b s F) (lo : ∀ k, F k → W.heap.size ≤ k) (bel : Below W.heap.size W w) (gv : Gv W) (m1 : s.m ≤ 900000000) (h : openR s = none) :
    Calls Tryz.prog 10 #[.pointer (some ⟨b, 0, none⟩)] w fun e w' => e = .returned (.tuple #[.pointer none, .slice none 0 0, .int .i64 3]) ∧ Chg F w w' ∧ Below W.heap.size W w' := by
  unfold openR at h
  split at h
  · cases h
  · rename_i hc
    refine open_bad2 hd lo bel gv hc m1 ?_
    split at h
    · rename_i hn; exact .inl hn
    · split at h
      · cases h
      · rename_i hl; exact .inr (by simpa using hl)
end Go.Proofs.YtapdhkgeolcogaaGreatDoor
namespace Go.Proofs.YtapdhkgeolcogaaGreatDoor
open Go.RowKit Dsk Lg
set_option linter.unusedVariables false

/-- A list of records that lies apart from the disk's blocks F, made ahead of block S. -/
structure Apt (W w : World) (S : Nat) (F : Nat → Prop) (v : Value) (ls : List By) : Prop where
  ro : Ro w W.heap.size v ls (fun k => ¬ F k ∧ k < S)
  own : ∀ j, v.ownBlock = some j → ¬ F j ∧ j < S
section
variable {W w w' : World} {S : Nat} {F F' T : Nat → Prop} {v : Value} {ls : List By}
theorem Apt.turn (h : Apt W w S F v ls) (g : Chg T w w') (hT : ∀ k, T k → F k ∨ S ≤ k) (hF : ∀ k, F' k → F k ∨ S ≤ k) : Apt W w' S F' v ls := by
  have nT : ∀ k, ¬ F k ∧ k < S → ¬ T k := fun k hk e => by
    rcases hT k e with e | e
    · exact hk.1 e
    · omega
  have nF : ∀ k, ¬ F k ∧ k < S → ¬ F' k ∧ k < S := fun k hk => ⟨fun e => by
    rcases hF k e with e | e
    · exact hk.1 e
    · omega, hk.2⟩
  exact ⟨(h.ro.kept g (fun k hk => nT k (h.own k hk)) nT).wide nF, fun j hj => nF j (h.own j hj)⟩
theorem Apt.grown (h : Apt W w S F v ls) (g : w.grownBy w' none) : Apt W w' S F v ls :=
  h.turn (Chg.of (F := F) g (by simp)) (fun _ hk => .inl hk) fun _ hk => .inl hk
theorem Apt.later (h : Apt W w S F v ls) {S' : Nat} (hs : S ≤ S') : Apt W w S' F v ls :=
  ⟨h.ro.wide fun k hk => ⟨hk.1, by omega⟩, fun j hj => ⟨(h.own j hj).1, by have := (h.own j hj).2; omega⟩⟩
theorem Apt.form (h : Apt W w S F v ls) : ∃ ad c, v = .slice ad ls.length c := h.ro.form
theorem Apt.rl (h : Apt W w S F v ls) : Rl w v ls (fun _ => True) := h.ro.rl (R' := fun _ => True) (fun _ _ => trivial) fun _ _ _ => trivial
set_option maxRecDepth 100000 in
/-- 'v[:k]'. -/
theorem Apt.upto {a : Option Addr} {n c : Nat} (h : Apt W w S F (.slice a n c) ls) {k : Nat} (hk : k ≤ ls.length) : ∃ ad c7, (∀ W' : World, (Instr.slice 32 (.slice a n c) none (some (.int .i64 (k : Int))) none).run Tryz.prog W' = .ok (.slice ad k c7) W') ∧ Apt W w S F (.slice ad k c7) (ls.take k) := by
  obtain ⟨vs, hO, hE⟩ := h.ro
  obtain ⟨ad7, c7, hsl, hO7, hb7⟩ := Elm.upto hO (k := k) (by rw [hE.1]; exact hk)
  refine ⟨ad7, c7, fun W' => ?_, ⟨⟨_, hO7, hE.take k⟩, fun j hj => h.own j (by rw [hb7] at hj; exact hj)⟩⟩
  have h9 : (Instr.sliceAt 32 (.slice a n c) none (some (.int .i64 (k : Int))) none).run Tryz.prog W' = .ok (.slice ad7 k c7) W' := hsl W'
  rw [run_sliceAt_slice W' 32 _ _ _ _ Tryz.underlying32] at h9
  exact h9
/-- 'v[k]'. -/
theorem Apt.at_ {a : Option Addr} {n c : Nat} (h : Apt W w S F (.slice a n c) ls) {k : Nat} {l : By} (hk : ls[k]? = some l) (hn : ls.length ≤ 100000000) : ∃ g q u, (∀ W' : World, (Instr.indexAt 32 (.slice a n c) (.int .i64 (k : Int))).run Tryz.prog W' = .ok (.pointer (some ⟨g, q, none⟩)) W') ∧ w.cell? ⟨g, q, none⟩ = some u ∧ eB.Rx w u l := by
  obtain ⟨vs, hO, hE⟩ := h.ro
  have hkl := (List.getElem?_eq_some_iff.1 hk).1
  obtain ⟨p, l', hp, hl', hx⟩ := hE.at_ hkl
  rw [hk] at hl'
  injection hl' with hl'
  subst hl'
  obtain ⟨g, o, c', e, hc⟩ := hO.rx.at_ hp
  injection e with e1 e2 e3
  subst e1 e2 e3
  have hvl := hE.1
  have h0 := hc 0 (sv p) rfl
  refine ⟨g, o + k * eL.size, sv p, fun W' => ?_, by simpa using h0, hx⟩
  have := Elm.run_at (E := eL) (W := W') (g := g) (o := o) (n := vs.length) (c := c) (i := k) (by omega) (by omega)
  exact this
/-- Both lists alike. -/
theorem lists_apt {S2 : Nat} {F2 : Nat → Prop} {v2 : Value} (h : Apt W w S F v ls) (h2 : Apt W w S2 F2 v2 ls) (hn : ls.length ≤ 100000000) (hb : ∀ l ∈ ls, l.length ≤ 65536) : Calls Tryz.prog 20 #[v, v2] w fun e w' => e = .returned (.bool true) ∧ w.grownBy w' none := by
  have hb' : ∀ l ∈ ls, l.length ≤ 9223372036854775807 := fun l hl => by have := hb l hl; omega
  refine (lists_any _ _ ls ls w h.rl h2.rl hn hn hb' hb').mono ?_
  rintro e w' ⟨rfl, hg⟩
  exact ⟨by simp, hg⟩
end
/-- Opened: the list answered lies apart, and so do older ones still. -/
theorem open_apt {W w : World} {b : Nat} {s : St} {F : Nat → Prop} (hd : Dk w b s F) (lo : ∀ k, F k → W.heap.size ≤ k) (bel : Below W.heap.size W w) (gv : Gv W) (m1 : s.m ≤ 900000000) {s' : St} {file : By} {n : Nat} {ls : List By} (h : openR s = some (s', file, n, ls)) :
    Calls Tryz.prog 10 #[.pointer (some ⟨b, 0, none⟩)] w fun e w' => ∃ ad c F', e = .returned (.tuple #[.pointer (some ⟨w.heap.size, 0, none⟩), .slice ad ls.length c, .int .i64 0]) ∧ Wl W w' b w.heap.size s' F' file (n : Int) (ls.length : Int) ∧ Apt W w' w'.heap.size F' (.slice ad ls.length c) ls ∧ (∀ S va la, S ≤ w.heap.size → Apt W w S F va la → Apt W w' S F' va la) ∧ w.heap.size < w'.heap.size := by
  refine (open_some2 hd lo bel gv m1 h).mono ?_
  rintro e w' ⟨ad, c, F', rfl, h1, h2, h3, h4, h5⟩
  have hz : W.heap.size ≤ w.heap.size := bel.size
  refine ⟨ad, c, F', rfl, h1, ⟨?_, fun j hj => ⟨h4 j hj, (h5.lt j hj).2⟩⟩, fun S va la hS ha => ha.turn h3 (fun k hk => .inl hk) fun k hk => (h2 k hk).imp id fun e => by omega, h1.lt⟩
  exact ((h5.tight.low (by omega)).wide fun k hk => ⟨hk.1.2, hk.2⟩)
theorem crash_apt {W w : World} {b wb : Nat} {s : St} {F : Nat → Prop} {file : By} {n cnt : Int} (h : Wl W w b wb s F file n cnt) (keep torn : Int) (hk : keep ≤ 9223372036854775807) (m1 : s.m ≤ 1000000000) :
    Calls Tryz.prog 18 #[.pointer (some ⟨b, 0, none⟩), .int .i64 keep, .int .i64 torn] w fun e w' => e = .returned (.tuple #[]) ∧ ∃ F', Wl W w' b wb (crashS s keep torn) F' file n cnt ∧ (∀ S va la, S ≤ w.heap.size → Apt W w S F va la → Apt W w' S F' va la) ∧ w.heap.size ≤ w'.heap.size :=
  (wcrash_any h keep torn hk m1).mono fun e w' ⟨h1, F', h2, h3, h4⟩ => ⟨h1, F', h2, fun S va la hS ha => ha.turn h4 (fun k hk => .inl hk) fun k hk => (h3 k hk).imp id fun e => by omega, h4.size⟩
theorem Kpt.apt {w wr : World} {b wb : Nat} {s : St} {F : Nat → Prop} {n cnt : Nat} {m1 m2 : List By} {va : Value} (h : Kpt w wr b wb s F n cnt m1 m2 va) : Apt w wr wr.heap.size F va (m1 ++ m2) :=
  ⟨h.ro.wide fun k hk => ⟨fun e => by have := h.wl.lo k e; omega, Nat.lt_of_lt_of_le hk h.wl.bel.size⟩, fun j hj => ⟨(h.ap j hj).1, (h.ro.lt j hj).2⟩⟩
theorem Kpt.syn {w wr : World} {b wb : Nat} {s : St} {F : Nat → Prop} {n cnt : Nat} {m1 m2 : List By} {va : Value} (h : Kpt w wr b wb s F n cnt m1 m2 va) :
    Calls Tryz.prog 14 #[.pointer (some ⟨wb, 0, none⟩)] wr fun e w' => e = .returned (.int .i64 0) ∧ ∃ F', Kpt w w' b wb (syncS s (nm n)) F' n cnt (m1 ++ m2) [] va := by
  have hk := h.lo.n2
  have hnl := nm_len (n := n) (by omega)
  have SY := wsyn_any h.wl (by omega)
  rw [h.lo.hasE, if_pos rfl] at SY
  exact SY.mono fun e w' ⟨h1, F', h2, h3, h4⟩ => ⟨h1, F', h.turn h2 h.lo.sync (by simp) (h4.wide fun j hj => .inl hj) h3⟩
end Go.Proofs.YtapdhkgeolcogaaGreatDoor
