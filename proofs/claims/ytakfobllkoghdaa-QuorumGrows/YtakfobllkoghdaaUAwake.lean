/- awake: the fixed answers. -/
import Derived.Test.YtakfobllkoghdaaURefN
namespace Go.Proofs.Ytakfobllkoghdaa
open Go.RowKit Quo
set_option linter.unusedVariables false
set_option maxRecDepth 10000

theorem next_is {v : Value} {l : List Int} {a r : Int} {w : World} (h : eK.Rx w v l) (hl : l.length ≤ 9223372036854775807) {E : Int} {L : List Int} (hE : nxE l a r = E) (hL : nxL l a r = L) :
    Calls Try.prog 15 #[v, .int .i64 a, .int .i64 r] w fun e w' => ∃ ad n cp, e = .returned (.tuple #[.slice ad n cp, .int .i64 E]) ∧ Hid (n = L.length) ∧ eK.Own w' w.heap.size (.slice ad n cp) L ∧ w.grownBy w' none := by
  subst hE hL
  exact next_any v l a r w h hl
theorem rnext_is {v : Value} {l : List Int} {a r : Int} {w : World} (h : eK.Rx w v l) (hl : l.length ≤ 9223372036854775807) {E : Int} {L : List Int} (hE : nxE l a r = E) (hL : nxL l a r = L) :
    Calls Try.prog 16 #[v, .int .i64 a, .int .i64 r] w fun e w' => ∃ ad n cp, e = .returned (.tuple #[.slice ad n cp, .int .i64 E]) ∧ Hid (n = L.length) ∧ eK.Own w' w.heap.size (.slice ad n cp) L ∧ w.grownBy w' none := by
  subst hE hL
  exact rnext_any v l a r w h hl
theorem lit_k (w : World) (l : List Int) (q : Nat) (hq : q = w.heap.size) : eK.Rx (w.alloc (.cells (eK.cells l).toArray 3)) (.slice (some ⟨q, 0, none⟩) l.length l.length) l := by
  refine .inr ⟨⟨q, 0, none⟩, l.length, rfl, .inr rfl, fun t u hu => ?_⟩
  rw [Addr.add_lit, Nat.zero_add]
  exact new_at w hq (by simpa using hu)
theorem lit_i (w : World) (l : List (Int × Int)) (q : Nat) (hq : q = w.heap.size) : eI.Rx (w.alloc (.cells (eI.cells l).toArray 38)) (.slice (some ⟨q, 0, none⟩) l.length l.length) l := by
  refine .inr ⟨⟨q, 0, none⟩, l.length, rfl, .inr rfl, fun t u hu => ?_⟩
  rw [Addr.add_lit, Nat.zero_add]
  exact new_at w hq (by simpa using hu)
theorem aw_o : out [1, 2, 3] 4 2 = [1, 3, 4] := by
  unfold out
  rw [if_neg (by decide)]
  exact srt_is (by decide) (by decide)
theorem aw_b : nxB [1, 2, 3] 4 2 = true := by unfold nxB; rw [aw_o]; decide
theorem aw_E : nxE [1, 2, 3] 4 2 = 0 := by unfold nxE; rw [aw_b]; rfl
theorem aw_L : nxL [1, 2, 3] 4 2 = [1, 3, 4] := by unfold nxL; rw [aw_b]; exact aw_o
theorem aw_b2 : nxB [1] 0 1 = false := by decide
theorem aw_E2 : nxE [1] 0 1 = 1 := by unfold nxE; rw [aw_b2]; rfl
theorem aw_L2 : nxL [1] 0 1 = [] := by unfold nxL; rw [aw_b2]; rfl
theorem aw_w : wins [1, 2, 3] [2, 3] = true := by decide
theorem aw_w2 : wins [1, 2, 3] [2, 2] = false := by decide
theorem aw_r : rea [1, 2, 3] [(1, 9), (2, 4), (3, 7)] = 7 := by
  unfold rea
  rw [if_pos (by decide)]
  show med [9, 4, 7] = 7
  unfold med
  rw [srt_is (m := [4, 7, 9]) (by decide) (by decide)]
  rfl
set_option maxRecDepth 100000 in
set_option maxHeartbeats 1600000 in
theorem awake_any (w : World) : Calls Try.prog 9 #[] w fun e w' => e = .returned (.bool true) ∧ w.grownBy w' none := by
  have R3 : ∀ (W : World) (q : Nat), q = W.heap.size → eK.Rx (W.alloc (.cells #[.int .i64 1, .int .i64 2, .int .i64 3] 3)) (.slice (some ⟨q, 0, none⟩) 3 3) [1, 2, 3] := fun W q hq => lit_k W [1, 2, 3] q hq
  have R4 : ∀ (W : World) (q : Nat), q = W.heap.size → eK.Rx (W.alloc (.cells #[.int .i64 1, .int .i64 3, .int .i64 4] 3)) (.slice (some ⟨q, 0, none⟩) 3 3) [1, 3, 4] := fun W q hq => lit_k W [1, 3, 4] q hq
  have R1 : ∀ (W : World) (q : Nat), q = W.heap.size → eK.Rx (W.alloc (.cells #[.int .i64 1] 3)) (.slice (some ⟨q, 0, none⟩) 1 1) [1] := fun W q hq => lit_k W [1] q hq
  have R23 : ∀ (W : World) (q : Nat), q = W.heap.size → eK.Rx (W.alloc (.cells #[.int .i64 2, .int .i64 3] 3)) (.slice (some ⟨q, 0, none⟩) 2 2) [2, 3] := fun W q hq => lit_k W [2, 3] q hq
  have R22 : ∀ (W : World) (q : Nat), q = W.heap.size → eK.Rx (W.alloc (.cells #[.int .i64 2, .int .i64 2] 3)) (.slice (some ⟨q, 0, none⟩) 2 2) [2, 2] := fun W q hq => lit_k W [2, 2] q hq
  have RI : ∀ (W : World) (q : Nat), q = W.heap.size → eI.Rx (W.alloc (.cells #[.int .i64 1, .int .i64 9, .int .i64 2, .int .i64 4, .int .i64 3, .int .i64 7] 38)) (.slice (some ⟨q, 0, none⟩) 3 3) [(1, 9), (2, 4), (3, 7)] := fun W q hq => lit_i W [(1, 9), (2, 4), (3, 7)] q hq
  have GA : ∀ (W : World) (o : Obj), W.grownBy (W.alloc o) none := fun W o => World.grownBy_alloc W o none
  have N1 : Hid (∀ (W : World), _) := fun W => (next_is (R3 W _ rfl) (by decide) aw_E aw_L).mono (fun e w' ⟨ad, n, cp, h1, h2, h3, h4⟩ => (⟨ad, n, cp, h1, h3.low (Nat.zero_le _), grown_tr (GA W _) h4⟩ : ∃ ad n cp, e = Ending.returned (Value.tuple #[Value.slice ad n cp, Value.int .i64 0]) ∧ eK.Own w' 0 (.slice ad n cp) [1, 3, 4] ∧ W.grownBy w' none))
  have N2 : Hid (∀ (W : World), _) := fun W => (next_is (R1 W _ rfl) (by decide) aw_E2 aw_L2).mono (fun e w' ⟨ad, n, cp, h1, h2, h3, h4⟩ => (⟨ad, n, cp, h1, grown_tr (GA W _) h4⟩ : ∃ ad n cp, e = Ending.returned (Value.tuple #[Value.slice ad n cp, Value.int .i64 1]) ∧ W.grownBy w' none))
  have W1 : Hid (∀ (W : World), _) := fun (W : World) => (wins_any _ _ _ _ _ ((R3 W _ rfl).grown (GA _ _)) (by decide) (R23 (W.alloc (.cells #[.int .i64 1, .int .i64 2, .int .i64 3] 3)) (W.heap.size + 1) (by simp)) (by decide)).mono (fun e w' ⟨h1, h2⟩ => (⟨by rw [h1, aw_w], by rw [h2]; exact grown_tr (GA _ _) (GA _ _)⟩ : e = Ending.returned (.bool true) ∧ W.grownBy w' none))
  have W2 : Hid (∀ (W : World), _) := fun (W : World) => (wins_any _ _ _ _ _ ((R3 W _ rfl).grown (GA _ _)) (by decide) (R22 (W.alloc (.cells #[.int .i64 1, .int .i64 2, .int .i64 3] 3)) (W.heap.size + 1) (by simp)) (by decide)).mono (fun e w' ⟨h1, h2⟩ => (⟨by rw [h1, aw_w2], by rw [h2]; exact grown_tr (GA _ _) (GA _ _)⟩ : e = Ending.returned (.bool false) ∧ W.grownBy w' none))
  have RE : Hid (∀ (W : World), _) := fun (W : World) => (reached_any _ _ _ _ _ ((R3 W _ rfl).grown (GA _ _)) (by decide) (RI (W.alloc (.cells #[.int .i64 1, .int .i64 2, .int .i64 3] 3)) (W.heap.size + 1) (by simp)) (by decide)).mono (fun e w' ⟨h1, h2⟩ => (⟨by rw [h1, aw_r], grown_tr (grown_tr (GA _ _) (GA _ _)) h2⟩ : e = Ending.returned (.int .i64 7) ∧ W.grownBy w' none))
  have RL : Hid (∀ {w1 W : World} {V : Value}, eK.Own w1 0 V [1, 3, 4] → w1.grownBy W none → _) := fun {w1 W V} hO hg => (ints_any V _ [1, 3, 4] [1, 3, 4] _ (hO.rx.grown (grown_tr hg (GA W _))) (by decide) (R4 W _ rfl) (by decide)).mono (fun e w' ⟨h1, h2⟩ => (⟨by rw [h1]; rfl, grown_tr (GA _ _) h2⟩ : e = Ending.returned (.bool true) ∧ W.grownBy w' none))
  clear R3 R1 R23 R22 RI GA R4
  have tokA : True := trivial
  have tokB : True := trivial
  go_enter Try.func9, Try.ntmps9
  go_wp2_with (first
    | (have _t := tokA; go_at_call 15; (with_reducible refine (N1.out _).mono ?_); rintro e w1 ⟨a1, n1, c1, rfl, hO1, hg1⟩; clear tokA)
    | (go_at_call 15; (with_reducible refine (N2.out _).mono ?_); rintro e w2 ⟨a2, n2, c2, rfl, hg2⟩)
    | (have _t := tokB; go_at_call 12; (with_reducible refine (W1.out _).mono ?_); rintro e w3 ⟨rfl, hg3⟩; clear tokB)
    | (go_at_call 12; (with_reducible refine (W2.out _).mono ?_); rintro e w4 ⟨rfl, hg4⟩)
    | (go_at_call 17; (with_reducible refine (RE.out _).mono ?_); rintro e w5 ⟨rfl, hg5⟩)
    | (go_at_call 19; (with_reducible refine (RL.out hO1 (grown_tr hg2 (grown_tr hg3 (grown_tr hg4 hg5)))).mono ?_); rintro e w6 ⟨rfl, hg6⟩))
  go_ret
  exact ⟨rfl, grown_tr hg1 (grown_tr hg2 (grown_tr hg3 (grown_tr hg4 (grown_tr hg5 hg6))))⟩
end Go.Proofs.Ytakfobllkoghdaa
