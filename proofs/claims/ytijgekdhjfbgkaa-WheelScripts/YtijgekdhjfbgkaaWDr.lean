/- The program's wheel and the reference's, side by side. -/
import Derived.Test.YtijgekdhjfbgkaaWDo
namespace Go.Proofs.Ytijgekdhjfbgkaa
open Go.RowKit Go.Sort Whl
set_option linter.unusedVariables false

/-- A wheel and the reference's, whose blocks lie in S. -/
def Dr (S : Nat → Prop) (w : World) (b : Nat) (n1 : Int) (L1 : List It) (q : Nat) (n2 : Int) (L2 : List It) : Prop :=
  ∃ F G, Wh w b n1 L1 F ∧ RW w q n2 L2 G ∧ (∀ k, F k → ¬ G k) ∧ (∀ k, F k → S k) ∧ (∀ k, G k → S k) ∧ ∀ k, S k → k < w.heap.size
theorem Dr.kept {S T : Nat → Prop} {w w' : World} {b q : Nat} {n1 n2 : Int} {L1 L2 : List It} (h : Dr S w b n1 L1 q n2 L2) (g : Chg T w w') (hT : ∀ k, S k → ¬ T k) : Dr S w' b n1 L1 q n2 L2 := by
  obtain ⟨F, G, h1, h2, h3, h4, h5, h6⟩ := h
  exact ⟨F, G, h1.kept g fun k hk => hT k (h4 k hk), h2.kept g fun k hk => hT k (h5 k hk), h3, h4, h5, fun k hk => Nat.lt_of_lt_of_le (h6 k hk) g.size⟩
theorem Dr.grown {S : Nat → Prop} {w w' : World} {b q : Nat} {n1 n2 : Int} {L1 L2 : List It} (h : Dr S w b n1 L1 q n2 L2) (g : w.grownBy w' none) : Dr S w' b n1 L1 q n2 L2 := h.kept (T := fun _ => False) (Chg.of g (by simp)) fun _ _ => id
theorem Dr.ok {S : Nat → Prop} {w : World} {b q : Nat} {n1 n2 : Int} {L1 L2 : List It} (h : Dr S w b n1 L1 q n2 L2) : Ok n1 L1 := by
  obtain ⟨F, G, h1, _⟩ := h
  exact h1.ok
theorem Dr.lt {S : Nat → Prop} {w : World} {b q : Nat} {n1 n2 : Int} {L1 L2 : List It} (h : Dr S w b n1 L1 q n2 L2) : ∀ k, S k → k < w.heap.size := by
  obtain ⟨F, G, _, _, _, _, _, h6⟩ := h
  exact h6
theorem Dr.q0 {S : Nat → Prop} {w : World} {b q : Nat} {n1 n2 : Int} {L1 L2 : List It} (h : Dr S w b n1 L1 q n2 L2) : w.cell? ⟨q, 0, none⟩ = some (.int .i64 n2) := by
  obtain ⟨F, G, _, h2, _⟩ := h
  exact h2.c0
theorem Dr.q1 {S : Nat → Prop} {w : World} {b q : Nat} {n1 n2 : Int} {L1 L2 : List It} (h : Dr S w b n1 L1 q n2 L2) : ∃ v, w.cell? ⟨q, 1, none⟩ = some v ∧ Ri w v L2 ∧ (∀ k, v.ownBlock = some k → S k) ∧ S q := by
  obtain ⟨F, G, _, h2, _, _, h5, _⟩ := h
  obtain ⟨v, e1, e2, e3, e4⟩ := h2.ex
  exact ⟨v, e1, Ri.of_own e2, fun k hk => h5 k (e4 k hk), h5 q h2.gq⟩
theorem Dr.step1 {S F G : Nat → Prop} {w w' : World} {b q : Nat} {n1' n2 : Int} {L1' L2 : List It} (R : Nat → Prop) (h2 : RW w q n2 L2 G) (hd : ∀ k, F k → ¬ G k) (hF : ∀ k, F k → S k) (hG : ∀ k, G k → S k) (hS : ∀ k, S k → k < w.heap.size)
    {F' : Nat → Prop} (h1' : Wh w' b n1' L1' F') (hF' : ∀ k, F' k → F k ∨ w.heap.size ≤ k) (hR : ∀ k, R k → ¬ F' k ∧ w.heap.size ≤ k) (hC : Chg F w w') :
    ∃ S', Dr S' w' b n1' L1' q n2 L2 ∧ (∀ k, S' k → S k ∨ w.heap.size ≤ k) ∧ (∀ k, R k → ¬ S' k) ∧ Chg S w w' := by
  refine ⟨fun k => F' k ∨ G k, ⟨F', G, h1', h2.kept hC fun k hk c => hd k c hk, fun k a c => ?_, fun k => .inl, fun k => .inr, fun k hk => ?_⟩, fun k hk => ?_, fun k hk c => ?_, ⟨hC.os, hC.tape, hC.output, hC.size, fun k hk hn => hC.block k hk fun c => hn (hF k c)⟩⟩
  · rcases hF' k a with e | e
    · exact hd k e c
    · have := hS k (hG k c); omega
  · rcases hk with e | e
    · exact h1'.lt k e
    · exact Nat.lt_of_lt_of_le (hS k (hG k e)) hC.size
  · rcases hk with e | e
    · exact (hF' k e).imp (hF k) id
    · exact .inl (hG k e)
  · rcases c with e | e
    · exact (hR k hk).1 e
    · have := hS k (hG k e); have := (hR k hk).2; omega
theorem Dr.step2 {S F G : Nat → Prop} {w w' : World} {b q : Nat} {n1 n2' : Int} {L1 L2' : List It} (R : Nat → Prop) (h1 : Wh w b n1 L1 F) (hd : ∀ k, F k → ¬ G k) (hF : ∀ k, F k → S k) (hG : ∀ k, G k → S k) (hS : ∀ k, S k → k < w.heap.size)
    {G' : Nat → Prop} (h2' : RW w' q n2' L2' G') (hG' : ∀ k, G' k → G k ∨ w.heap.size ≤ k) (hR : ∀ k, R k → ¬ G' k ∧ w.heap.size ≤ k) (hC : Chg G w w') :
    ∃ S', Dr S' w' b n1 L1 q n2' L2' ∧ (∀ k, S' k → S k ∨ w.heap.size ≤ k) ∧ (∀ k, R k → ¬ S' k) ∧ Chg S w w' := by
  refine ⟨fun k => F k ∨ G' k, ⟨F, G', h1.kept hC fun k hk c => hd k hk c, h2', fun k a c => ?_, fun k => .inl, fun k => .inr, fun k hk => ?_⟩, fun k hk => ?_, fun k hk c => ?_, ⟨hC.os, hC.tape, hC.output, hC.size, fun k hk hn => hC.block k hk fun c => hn (hG k c)⟩⟩
  · rcases hG' k c with e | e
    · exact hd k a e
    · have := hS k (hF k a); omega
  · rcases hk with e | e
    · exact Nat.lt_of_lt_of_le (hS k (hF k e)) hC.size
    · exact h2'.lt k e
  · rcases hk with e | e
    · exact .inl (hF k e)
    · exact (hG' k e).imp (hG k) id
  · rcases c with e | e
    · have := hS k (hF k e); have := (hR k hk).2; omega
    · exact (hR k hk).1 e
section
variable {S : Nat → Prop} {w : World} {b q : Nat} {n1 n2 : Int} {L1 L2 : List It}
theorem dr_ins (h : Dr S w b n1 L1 q n2 L2) (i : It) (hi : I64 i.1) : Calls Try.prog 10 #[.pointer (some ⟨b, 0, none⟩), .agg #[.int .i64 i.1, .int .i64 i.2]] w fun e w' => e = .returned (.int .i64 (insE n1 L1 i)) ∧ ∃ S', Dr S' w' b n1 (insL n1 L1 i) q n2 L2 ∧ (∀ k, S' k → S k ∨ w.heap.size ≤ k) ∧ Chg S w w' := by
  obtain ⟨F, G, h1, h2, h3, h4, h5, h6⟩ := h
  refine (insert_any b n1 L1 F i hi w h1).mono ?_
  rintro e w' ⟨rfl, F', h1', hF', hC⟩
  obtain ⟨S', a, b, _, c⟩ := Dr.step1 (fun _ => False) h2 h3 h4 h5 h6 h1' hF' (fun _ h => h.elim) hC
  exact ⟨rfl, S', a, b, c⟩
theorem dr_rins (h : Dr S w b n1 L1 q n2 L2) (hO : Ok n2 L2) (i : It) : Calls Try.prog 11 #[.pointer (some ⟨q, 0, none⟩), .agg #[.int .i64 i.1, .int .i64 i.2]] w fun e w' => e = .returned (.int .i64 (insE n2 L2 i)) ∧ ∃ S', Dr S' w' b n1 L1 q n2 (insL n2 L2 i) ∧ (∀ k, S' k → S k ∨ w.heap.size ≤ k) ∧ Chg S w w' := by
  obtain ⟨F, G, h1, h2, h3, h4, h5, h6⟩ := h
  refine (rins_any q n2 L2 G i hO w h2).mono ?_
  rintro e w' ⟨rfl, G', h2', hG', hC⟩
  obtain ⟨S', a, b, _, c⟩ := Dr.step2 (fun _ => False) h1 h3 h4 h5 h6 h2' hG' (fun _ h => h.elim) hC
  exact ⟨rfl, S', a, b, c⟩
theorem dr_can (h : Dr S w b n1 L1 q n2 L2) (x : Int) (hx : I64 x) : Calls Try.prog 12 #[.pointer (some ⟨b, 0, none⟩), .int .i64 x] w fun e w' => e = .returned (.bool (L1.any fun a => a.1 == x)) ∧ ∃ S', Dr S' w' b n1 (dropL x L1) q n2 L2 ∧ (∀ k, S' k → S k ∨ w.heap.size ≤ k) ∧ Chg S w w' := by
  obtain ⟨F, G, h1, h2, h3, h4, h5, h6⟩ := h
  refine (cancel_any b n1 L1 F x hx w h1).mono ?_
  rintro e w' ⟨rfl, F', h1', hF', hC⟩
  obtain ⟨S', a, b, _, c⟩ := Dr.step1 (fun _ => False) h2 h3 h4 h5 h6 h1' hF' (fun _ h => h.elim) hC
  exact ⟨rfl, S', a, b, c⟩
theorem dr_rcan (h : Dr S w b n1 L1 q n2 L2) (hO : Ok n2 L2) (x : Int) : Calls Try.prog 13 #[.pointer (some ⟨q, 0, none⟩), .int .i64 x] w fun e w' => e = .returned (.bool (L2.any fun a => a.1 == x)) ∧ ∃ S', Dr S' w' b n1 L1 q n2 (dropL x L2) ∧ (∀ k, S' k → S k ∨ w.heap.size ≤ k) ∧ Chg S w w' := by
  obtain ⟨F, G, h1, h2, h3, h4, h5, h6⟩ := h
  refine (rcan_any q n2 L2 G x hO w h2).mono ?_
  rintro e w' ⟨rfl, G', h2', hG', hC⟩
  obtain ⟨S', a, b, _, c⟩ := Dr.step2 (fun _ => False) h1 h3 h4 h5 h6 h2' hG' (fun _ h => h.elim) hC
  exact ⟨rfl, S', a, b, c⟩
theorem dr_adv (h : Dr S w b n1 L1 q n2 L2) (tt : Int) (t1 : n1 ≤ tt) (t2 : tt ≤ 226157759) : Calls Try.prog 14 #[.pointer (some ⟨b, 0, none⟩), .int .i64 tt] w fun e w' => ∃ ad m c, e = .returned (.tuple #[.slice ad m c, .int .i64 0]) ∧ w'.ownsRow w.heap.size 33 2 (.slice ad m c) (dueL tt L1).length (cells (dueL tt L1)) ∧ ∃ S', Dr S' w' b tt (restL tt L1) q n2 L2 ∧ (∀ k, S' k → S k ∨ w.heap.size ≤ k) ∧ (∀ k, (Value.slice ad m c).ownBlock = some k → ¬ S' k) ∧ Chg S w w' := by
  obtain ⟨F, G, h1, h2, h3, h4, h5, h6⟩ := h
  refine (advance_ok b n1 tt L1 F t1 t2 w h1).mono ?_
  rintro e w' ⟨ad, m, c, rfl, hO, F', h1', hF', hR, hC⟩
  obtain ⟨S', a1, a2, a3, a4⟩ := Dr.step1 (fun k => (Value.slice ad m c).ownBlock = some k) h2 h3 h4 h5 h6 h1' hF' (fun k hk => ⟨hR k hk, (hO.lt k hk).1⟩) hC
  exact ⟨ad, m, c, rfl, hO, S', a1, a2, a3, a4⟩
theorem dr_radv (h : Dr S w b n1 L1 q n2 L2) (hO : Ok n2 L2) (tt : Int) (t1 : n2 ≤ tt) (t2 : tt ≤ 226157759) : Calls Try.prog 15 #[.pointer (some ⟨q, 0, none⟩), .int .i64 tt] w fun e w' => ∃ ad m c, e = .returned (.tuple #[.slice ad m c, .int .i64 0]) ∧ w'.ownsRow w.heap.size 33 2 (.slice ad m c) (dueL tt L2).length (cells (dueL tt L2)) ∧ ∃ S', Dr S' w' b n1 L1 q tt (restL tt L2) ∧ (∀ k, S' k → S k ∨ w.heap.size ≤ k) ∧ (∀ k, (Value.slice ad m c).ownBlock = some k → ¬ S' k) ∧ Chg S w w' := by
  obtain ⟨F, G, h1, h2, h3, h4, h5, h6⟩ := h
  refine (radv_ok q n2 tt L2 G hO t1 t2 w h2).mono ?_
  rintro e w' ⟨ad, m, c, rfl, hO, G', h2', hG', hR, hC⟩
  obtain ⟨S', a1, a2, a3, a4⟩ := Dr.step2 (fun k => (Value.slice ad m c).ownBlock = some k) h1 h3 h4 h5 h6 h2' hG' (fun k hk => ⟨hR k hk, (hO.lt k hk).1⟩) hC
  exact ⟨ad, m, c, rfl, hO, S', a1, a2, a3, a4⟩
theorem dr_bad (h : Dr S w b n1 L1 q n2 L2) (tt : Int) (h0 : tt < n1 ∨ 226157759 < tt) : Calls Try.prog 14 #[.pointer (some ⟨b, 0, none⟩), .int .i64 tt] w fun e w' => e = .returned (.tuple #[.slice none 0 0, .int .i64 30]) ∧ w' = w := by
  obtain ⟨F, G, h1, _⟩ := h
  exact advance_bad b n1 tt L1 F h0 w h1
theorem dr_rbad (h : Dr S w b n1 L1 q n2 L2) (tt : Int) (h0 : tt < n2 ∨ 226157759 < tt) : Calls Try.prog 15 #[.pointer (some ⟨q, 0, none⟩), .int .i64 tt] w fun e w' => e = .returned (.tuple #[.slice none 0 0, .int .i64 30]) ∧ w' = w := by
  obtain ⟨F, G, _, h2, _⟩ := h
  exact radv_bad q n2 tt h0 w h2.c0
theorem dr_wait (h : Dr S w b n1 L1 q n2 L2) : Calls Try.prog 18 #[.pointer (some ⟨b, 0, none⟩)] w fun e w' => ∃ ad m c, e = .returned (.slice ad m c) ∧ w'.ownsRow w.heap.size 33 2 (.slice ad m c) L1.length (cells L1) ∧ w.grownBy w' none := by
  obtain ⟨F, G, h1, _⟩ := h
  exact waiting_any b n1 L1 F w h1
theorem dr_now (h : Dr S w b n1 L1 q n2 L2) : Calls Try.prog 17 #[.pointer (some ⟨b, 0, none⟩)] w fun e w' => e = .returned (.int .i64 n1) ∧ w' = w := by
  obtain ⟨F, G, h1, _⟩ := h
  exact now_any b n1 w h1.c0
end
theorem Dr.start {F : Nat → Prop} {w w1 : World} {b : Nat} {now : Int} (h1 : Wh w1 b now [] F) (f1 : ∀ k, F k → w.heap.size ≤ k) (k1 : w.grownBy w1 none) : ∃ S, Dr S (w1.alloc (.cells #[.int .i64 now, .slice none 0 0] 31)) b now [] w1.heap.size now [] ∧ ∀ k, S k → w.heap.size ≤ k := by
  have hg := World.grownBy_alloc w1 (.cells #[.int .i64 now, .slice none 0 0] 31) none
  refine ⟨fun k => F k ∨ k = w1.heap.size, ⟨F, fun k => k = w1.heap.size, h1.kept (Chg.of (F := fun _ => False) hg (by simp)) (fun _ _ => id), ⟨⟨.slice none 0 0, new_at w1 rfl rfl, World.ownsRow_nil _ _ _ _, (fun e => by cases e), fun k hk => by cases hk⟩, new_at w1 rfl rfl, fun i => frozen_kept (grown_refl _ none) i, rfl, fun k hk => by rw [hk]; simp⟩, fun k a c => ?_, fun k => .inl, fun k => .inr, fun k hk => ?_⟩, fun k hk => ?_⟩
  · have := h1.lt k a; omega
  · rcases hk with e | e
    · have := h1.lt k e; simp; omega
    · rw [e]; simp
  · rcases hk with e | e
    · exact f1 k e
    · have := k1.size; omega
end Go.Proofs.Ytijgekdhjfbgkaa
