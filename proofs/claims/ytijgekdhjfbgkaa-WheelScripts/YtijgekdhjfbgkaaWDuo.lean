/- Two wheels that have nothing in common. -/
import Derived.Test.YtijgekdhjfbgkaaWAwake
namespace Go.Proofs.Ytijgekdhjfbgkaa
open Go.RowKit Go.Sort Whl
set_option linter.unusedVariables false

/-- Two wheels, whose blocks lie in S. -/
def Duo (S : Nat → Prop) (w : World) (b1 : Nat) (n1 : Int) (L1 : List It) (b2 : Nat) (n2 : Int) (L2 : List It) : Prop :=
  ∃ F G, Wh w b1 n1 L1 F ∧ Wh w b2 n2 L2 G ∧ (∀ k, F k → ¬ G k) ∧ (∀ k, F k → S k) ∧ (∀ k, G k → S k) ∧ ∀ k, S k → k < w.heap.size
theorem Wh.lt {w : World} {b : Nat} {now : Int} {L : List It} {F : Nat → Prop} (h : Wh w b now L F) : ∀ k, F k → k < w.heap.size := by
  obtain ⟨bm, D, v, ls, _, hF, _⟩ := h
  exact hF.lt
theorem Duo.symm {S : Nat → Prop} {w : World} {b1 b2 : Nat} {n1 n2 : Int} {L1 L2 : List It} (h : Duo S w b1 n1 L1 b2 n2 L2) : Duo S w b2 n2 L2 b1 n1 L1 := by
  obtain ⟨F, G, h1, h2, h3, h4, h5, h6⟩ := h
  exact ⟨G, F, h2, h1, fun k a b => h3 k b a, h5, h4, h6⟩
theorem Duo.kept {S T : Nat → Prop} {w w' : World} {b1 b2 : Nat} {n1 n2 : Int} {L1 L2 : List It} (h : Duo S w b1 n1 L1 b2 n2 L2) (g : Chg T w w') (hT : ∀ k, S k → ¬ T k) : Duo S w' b1 n1 L1 b2 n2 L2 := by
  obtain ⟨F, G, h1, h2, h3, h4, h5, h6⟩ := h
  exact ⟨F, G, h1.kept g fun k hk => hT k (h4 k hk), h2.kept g fun k hk => hT k (h5 k hk), h3, h4, h5, fun k hk => Nat.lt_of_lt_of_le (h6 k hk) g.size⟩
theorem Duo.grown {S : Nat → Prop} {w w' : World} {b1 b2 : Nat} {n1 n2 : Int} {L1 L2 : List It} (h : Duo S w b1 n1 L1 b2 n2 L2) (g : w.grownBy w' none) : Duo S w' b1 n1 L1 b2 n2 L2 := h.kept (T := fun _ => False) (Chg.of g (by simp)) fun _ _ => id
theorem Duo.ok {S : Nat → Prop} {w : World} {b1 b2 : Nat} {n1 n2 : Int} {L1 L2 : List It} (h : Duo S w b1 n1 L1 b2 n2 L2) : Ok n1 L1 := by
  obtain ⟨F, G, h1, _⟩ := h
  exact h1.ok
/-- What a call on the first one leaves. -/
theorem Duo.step {S F G : Nat → Prop} {w w' : World} {b1 b2 : Nat} {n1' n2 : Int} {L1' L2 : List It} (R : Nat → Prop) (h2 : Wh w b2 n2 L2 G) (hd : ∀ k, F k → ¬ G k) (hF : ∀ k, F k → S k) (hG : ∀ k, G k → S k) (hS : ∀ k, S k → k < w.heap.size)
    {F' : Nat → Prop} (h1' : Wh w' b1 n1' L1' F') (hF' : ∀ k, F' k → F k ∨ w.heap.size ≤ k) (hR : ∀ k, R k → ¬ F' k ∧ w.heap.size ≤ k) (hC : Chg F w w') :
    ∃ S', Duo S' w' b1 n1' L1' b2 n2 L2 ∧ (∀ k, S' k → S k ∨ w.heap.size ≤ k) ∧ (∀ k, R k → ¬ S' k) ∧ Chg S w w' := by
  refine ⟨fun k => F' k ∨ G k, ⟨F', G, h1', h2.kept hC fun k hk c => hd k c hk, fun k a c => ?_, fun k => .inl, fun k => .inr, fun k hk => ?_⟩, fun k hk => ?_, fun k hk c => ?_, ?_⟩
  · rcases hF' k a with e | e
    · exact hd k e c
    · have := hS k (hG k c); omega
  · rcases hk with e | e
    · exact h1'.lt k e
    · exact Nat.lt_of_lt_of_le (hS k (hG k e)) hC.size
  · rcases hk with e | e
    · exact (hF' k e).imp (hF k) id
    · exact .inl (hG k e)
  · rcases c with e | e
    · exact (hR k hk).1 e
    · have := hS k (hG k e); have := (hR k hk).2; omega
  · exact ⟨hC.os, hC.tape, hC.output, hC.size, fun k hk hn => hC.block k hk fun c => hn (hF k c)⟩
section
variable {S : Nat → Prop} {w : World} {b1 b2 : Nat} {n1 n2 : Int} {L1 L2 : List It}
theorem duo_ins (h : Duo S w b1 n1 L1 b2 n2 L2) (i : It) (hi : I64 i.1) : Calls Try.prog 10 #[.pointer (some ⟨b1, 0, none⟩), .agg #[.int .i64 i.1, .int .i64 i.2]] w fun e w' => e = .returned (.int .i64 (insE n1 L1 i)) ∧ ∃ S', Duo S' w' b1 n1 (insL n1 L1 i) b2 n2 L2 ∧ (∀ k, S' k → S k ∨ w.heap.size ≤ k) ∧ Chg S w w' := by
  obtain ⟨F, G, h1, h2, h3, h4, h5, h6⟩ := h
  refine (insert_any b1 n1 L1 F i hi w h1).mono ?_
  rintro e w' ⟨rfl, F', h1', hF', hC⟩
  obtain ⟨S', a, b, _, c⟩ := Duo.step (fun _ => False) h2 h3 h4 h5 h6 h1' hF' (fun _ h => h.elim) hC
  exact ⟨rfl, S', a, b, c⟩
theorem duo_ins2 (h : Duo S w b1 n1 L1 b2 n2 L2) (i : It) (hi : I64 i.1) : Calls Try.prog 10 #[.pointer (some ⟨b2, 0, none⟩), .agg #[.int .i64 i.1, .int .i64 i.2]] w fun e w' => e = .returned (.int .i64 (insE n2 L2 i)) ∧ ∃ S', Duo S' w' b1 n1 L1 b2 n2 (insL n2 L2 i) ∧ (∀ k, S' k → S k ∨ w.heap.size ≤ k) ∧ Chg S w w' :=
  (duo_ins h.symm i hi).mono fun e w' ⟨he, S', a, b, c⟩ => ⟨he, S', a.symm, b, c⟩
theorem duo_can (h : Duo S w b1 n1 L1 b2 n2 L2) (x : Int) (hx : I64 x) : Calls Try.prog 12 #[.pointer (some ⟨b1, 0, none⟩), .int .i64 x] w fun e w' => e = .returned (.bool (L1.any fun a => a.1 == x)) ∧ ∃ S', Duo S' w' b1 n1 (dropL x L1) b2 n2 L2 ∧ (∀ k, S' k → S k ∨ w.heap.size ≤ k) ∧ Chg S w w' := by
  obtain ⟨F, G, h1, h2, h3, h4, h5, h6⟩ := h
  refine (cancel_any b1 n1 L1 F x hx w h1).mono ?_
  rintro e w' ⟨rfl, F', h1', hF', hC⟩
  obtain ⟨S', a, b, _, c⟩ := Duo.step (fun _ => False) h2 h3 h4 h5 h6 h1' hF' (fun _ h => h.elim) hC
  exact ⟨rfl, S', a, b, c⟩
theorem duo_adv (h : Duo S w b1 n1 L1 b2 n2 L2) (to : Int) (t1 : n1 ≤ to) (t2 : to ≤ 226157759) : Calls Try.prog 14 #[.pointer (some ⟨b1, 0, none⟩), .int .i64 to] w fun e w' => ∃ ad m c, e = .returned (.tuple #[.slice ad m c, .int .i64 0]) ∧ w'.ownsRow w.heap.size 33 2 (.slice ad m c) (dueL to L1).length (cells (dueL to L1)) ∧ ∃ S', Duo S' w' b1 to (restL to L1) b2 n2 L2 ∧ (∀ k, S' k → S k ∨ w.heap.size ≤ k) ∧ (∀ k, (Value.slice ad m c).ownBlock = some k → ¬ S' k) ∧ Chg S w w' := by
  obtain ⟨F, G, h1, h2, h3, h4, h5, h6⟩ := h
  refine (advance_ok b1 n1 to L1 F t1 t2 w h1).mono ?_
  rintro e w' ⟨ad, m, c, rfl, hO, F', h1', hF', hR, hC⟩
  obtain ⟨S', a1, a2, a3, a4⟩ := Duo.step (fun k => (Value.slice ad m c).ownBlock = some k) h2 h3 h4 h5 h6 h1' hF' (fun k hk => ⟨hR k hk, (hO.lt k hk).1⟩) hC
  exact ⟨ad, m, c, rfl, hO, S', a1, a2, a3, a4⟩
theorem duo_adv2 (h : Duo S w b1 n1 L1 b2 n2 L2) (to : Int) (t1 : n2 ≤ to) (t2 : to ≤ 226157759) : Calls Try.prog 14 #[.pointer (some ⟨b2, 0, none⟩), .int .i64 to] w fun e w' => ∃ ad m c, e = .returned (.tuple #[.slice ad m c, .int .i64 0]) ∧ w'.ownsRow w.heap.size 33 2 (.slice ad m c) (dueL to L2).length (cells (dueL to L2)) ∧ ∃ S', Duo S' w' b1 n1 L1 b2 to (restL to L2) ∧ (∀ k, S' k → S k ∨ w.heap.size ≤ k) ∧ (∀ k, (Value.slice ad m c).ownBlock = some k → ¬ S' k) ∧ Chg S w w' :=
  (duo_adv h.symm to t1 t2).mono fun e w' ⟨ad, m, c, he, hO, S', a, b, r, d⟩ => ⟨ad, m, c, he, hO, S', a.symm, b, r, d⟩
theorem duo_bad (h : Duo S w b1 n1 L1 b2 n2 L2) (to : Int) (h0 : to < n1 ∨ 226157759 < to) : Calls Try.prog 14 #[.pointer (some ⟨b1, 0, none⟩), .int .i64 to] w fun e w' => e = .returned (.tuple #[.slice none 0 0, .int .i64 30]) ∧ w' = w := by
  obtain ⟨F, G, h1, _⟩ := h
  exact advance_bad b1 n1 to L1 F h0 w h1
theorem duo_wait (h : Duo S w b1 n1 L1 b2 n2 L2) : Calls Try.prog 18 #[.pointer (some ⟨b1, 0, none⟩)] w fun e w' => ∃ ad m c, e = .returned (.slice ad m c) ∧ w'.ownsRow w.heap.size 33 2 (.slice ad m c) L1.length (cells L1) ∧ w.grownBy w' none := by
  obtain ⟨F, G, h1, _⟩ := h
  exact waiting_any b1 n1 L1 F w h1
theorem duo_now (h : Duo S w b1 n1 L1 b2 n2 L2) : Calls Try.prog 17 #[.pointer (some ⟨b1, 0, none⟩)] w fun e w' => e = .returned (.int .i64 n1) ∧ w' = w := by
  obtain ⟨F, G, h1, _⟩ := h
  exact now_any b1 n1 w h1.c0
end
theorem Duo.start {F G : Nat → Prop} {w w1 w2 : World} {b1 b2 : Nat} {now : Int} (h1 : Wh w1 b1 now [] F) (f1 : ∀ k, F k → w.heap.size ≤ k) (k1 : w.grownBy w1 none) (h2 : Wh w2 b2 now [] G) (f2 : ∀ k, G k → w1.heap.size ≤ k) (k2 : w1.grownBy w2 none) : ∃ S, Duo S w2 b1 now [] b2 now [] ∧ ∀ k, S k → w.heap.size ≤ k := by
  refine ⟨fun k => F k ∨ G k, ⟨F, G, h1.kept (Chg.of (F := fun _ => False) k2 (by simp)) (fun _ _ => id), h2, fun k a b => ?_, fun k => .inl, fun k => .inr, fun k hk => ?_⟩, fun k hk => ?_⟩
  · have := h1.lt k a; have := f2 k b; omega
  · rcases hk with e | e
    · exact Nat.lt_of_lt_of_le (h1.lt k e) k2.size
    · exact h2.lt k e
  · rcases hk with e | e
    · exact f1 k e
    · exact Nat.le_trans k1.size (f2 k e)
/-- The items behind so many insertions. -/
def insN (now : Int) (l : List It) (j : Nat) : List It := (l.take j).foldl (insL now) []
theorem insN_zero (now : Int) (l : List It) : insN now l 0 = [] := rfl
theorem insN_next {now : Int} {l : List It} {j : Nat} {a : It} (h : l[j]? = some a) : insN now l (j + 1) = insL now (insN now l j) a := by
  unfold insN
  rw [List.take_add_one, h]
  simp
end Go.Proofs.Ytijgekdhjfbgkaa
