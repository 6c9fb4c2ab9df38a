/- What any book says of any client and number, and what a session put into it makes: the statement's walk. -/
import Derived.Test.YtdekeibnehoeaaaSAwake
import Derived.Test.YtdekeibnehoeaaaSRLook
import Derived.Test.YtdekeibnehoeaaaSRef
import Derived.Test.YtdekeibnehoeaaaSSame
namespace Go.Proofs.Ytdekeibnehoeaaa
open Go.RowKit Sea
set_option linter.unusedVariables false

theorem box_r {w W : World} {s : Sn} {u : S3} {t : TypeId} (g : (w.alloc (.cells #[.int .i64 s.er, .int .i64 s.tm, .slice u.a u.n u.c] t)).grownBy W none) :
    W.cell? ⟨w.heap.size, 0, none⟩ = some (.int .i64 s.er) ∧ W.cell? ⟨w.heap.size, 1, none⟩ = some (.int .i64 s.tm) ∧ W.cell? ⟨w.heap.size, 2, none⟩ = some (.slice u.a u.n u.c) :=
  ⟨(cs_new g).1 0 _ rfl, (cs_new g).1 1 _ rfl, (cs_new g).1 2 _ rfl⟩
theorem putL_len (L : List Sn) (s : Sn) : (putL L s).length ≤ 64 := by
  unfold putL
  by_cases h : putE L s = 0
  · rw [if_pos h]
    unfold putE at h
    by_cases h1 : chk L = false
    · rw [if_pos h1] at h; cases h
    · rw [if_neg h1] at h
      by_cases h2 : may s.cl s.sq = false
      · rw [if_pos h2] at h; cases h
      · exact chk_len (chk_put (by simpa using h1) (by simpa using h2))
  · rw [if_neg h]; simp
namespace seatLooks
set_option maxRecDepth 100000 in
set_option maxHeartbeats 6400000 in
theorem walk (w : World) (v0 : Value) (o0 : ∃ X : List (Sn × S3), Bk w v0 X ∧ X.length ≤ 9223372036854775807) (c : Int) (wx1 : (Lit.int .i64 c).wf = true) (q : Int) (wx2 : (Lit.int .i64 q).wf = true) (v3 : Value) (o3 : ∃ (s : Sn) (u : S3), v3 = sv s u ∧ Rdj w u s.js) :
    Calls Try.prog 3 #[v0, .int .i64 c, .int .i64 q, v3] w fun e w' => e = .returned (.bool true) ∧ Below w.heap.size w w' := by
  obtain ⟨X, hX, hl⟩ := o0
  obtain ⟨s, u, rfl, hr⟩ := o3
  clear wx1 wx2
  have AW : Hid (∀ W, _) := fun W => awake_any W
  have LA : Hid (∀ W, w.grownBy W none → _) := fun W g => Look_any v0 X c q W (hX.grown g) hl
  have LB : Hid (∀ W, w.grownBy W none → _) := fun W g => rLook_any v0 X c q W (hX.grown g) hl
  have PA : Hid (∀ W, w.grownBy W none → _) := fun W g => Put_any v0 X s u W (hX.grown g) hl (hr.grown g)
  have PB : Hid (∀ W, w.grownBy W none → _) := fun W g => rPut_any v0 X s u W (hX.grown g) hl (hr.grown g)
  have CA : Hid (∀ W, w.grownBy W none → _) := fun W g => check_any v0 X W (hX.1.grown g) hl
  have CB : Hid (∀ W, w.grownBy W none → _) := fun W g => rcheck_any v0 X W (hX.1.grown g) hl
  have RA : Hid (∀ (W : World) (S : Sn) (u1 u2 : S3), Rdj W u1 S.js → Rdj W u2 S.js → Calls Try.prog 14 #[rv S u1, rv S u2] W fun e w' => e = .returned (.bool true) ∧ W.grownBy w' none) := fun W S u1 u2 h1 h2 => by
    refine (Result_any S S u1 u2 W h1 h2).mono ?_
    rintro e w2 ⟨b, rfl, hb, g2⟩
    exact ⟨by rw [hb ⟨rfl, rfl, rfl⟩], g2⟩
  obtain ⟨ad, cp, hv⟩ := hX.form
  subst hv
  have PLN : Hid ((putL (X.map (·.1)) s).length ≤ 64) := putL_len _ _
  obtain ⟨W1, hW1⟩ : ∃ W1, W1 = w.alloc (.cells #[.int .i64 s.cl, .int .i64 s.sq, .int .i64 s.er, .int .i64 s.tm, .slice u.a u.n u.c] 28) := ⟨_, rfl⟩
  have HW1 : Hid (W1 = _) := hW1
  have G1 : Hid (w.grownBy W1 none) := by rw [hW1]; exact World.grownBy_alloc w _ none
  have BX : Hid (∀ W, W1.grownBy W none → W.rangeAt w.heap.size 0 (sc (s, u))) := fun W g => by rw [hW1] at g; exact box_s g
  clear hX hr hW1
  generalize lookS (X.map (·.1)) c q = S at *
  generalize lookE (X.map (·.1)) c q = E at *
  generalize putL (X.map (·.1)) s = L at *
  generalize putE (X.map (·.1)) s = F at *
  generalize chk (X.map (·.1)) = B at *
  generalize X.length = N at *
  go_enter Try.func3, Try.ntmps3
  go_wp2_with (first
    | (go_at_call 7; rw [← HW1.out]; (with_reducible refine (AW.out _).mono ?_); rintro e w1 ⟨rfl, g1⟩)
    | (go_at_call 8; (with_reducible refine (LA.out _ (grown_tr G1.out g1)).mono ?_); rintro e w2 ⟨u2, rfl, r2, g2⟩; have BA : Hid (∀ W, (w2.alloc (.cells #[.int .i64 S.er, .int .i64 S.tm, .slice u2.a u2.n u2.c] 26)).grownBy W none → _) := (fun W g => box_r g); have h2 : W1.grownBy (w2.alloc (.cells #[.int .i64 S.er, .int .i64 S.tm, .slice u2.a u2.n u2.c] 26)) none := grown_alloc (grown_tr g1 g2) _; have r2' : Rdj (w2.alloc (.cells #[.int .i64 S.er, .int .i64 S.tm, .slice u2.a u2.n u2.c] 26)) u2 S.js := r2.grown (World.grownBy_alloc _ _ none))
    | (go_at_call 9; (with_reducible refine (LB.out _ (grown_tr G1.out h2)).mono ?_); rintro e w3 ⟨u3, rfl, r3, g3⟩; have BB : Hid (∀ W, (w3.alloc (.cells #[.int .i64 S.er, .int .i64 S.tm, .slice u3.a u3.n u3.c] 26)).grownBy W none → _) := (fun W g => box_r g); have h3 := grown_alloc g3 (.cells #[.int .i64 S.er, .int .i64 S.tm, .slice u3.a u3.n u3.c] 26); have r3' : Rdj (w3.alloc (.cells #[.int .i64 S.er, .int .i64 S.tm, .slice u3.a u3.n u3.c] 26)) u3 S.js := r3.grown (World.grownBy_alloc _ _ none))
    | (refine load_s w.heap.size 0 s u rfl (BX.out _ (grown_tr h2 h3)) ?_)
    | (go_at_call 10; (with_reducible refine (PA.out _ (grown_tr G1.out (grown_tr h2 h3))).mono ?_); rintro e w4 ⟨u4, rfl, Y, b4, e4, g4⟩)
    | (refine load_s w.heap.size 0 s u rfl (BX.out _ (grown_tr h2 (grown_tr h3 g4))) ?_)
    | (go_at_call 11; (with_reducible refine (PB.out _ (grown_tr G1.out (grown_tr h2 (grown_tr h3 g4)))).mono ?_); rintro e w5 ⟨u5, rfl, Z, b5, e5, g5⟩; have h5 := grown_tr h3 (grown_tr g4 g5); have k5 := grown_tr g4 g5; have E45 : Hid (Y.map (·.1) = Z.map (·.1)) := e4.trans e5.symm; have Y4 : Hid (Y.length ≤ 9223372036854775807) := (by have h1 := PLN.out; have h2 := congrArg List.length e4; rw [List.length_map] at h2; show _ ≤ _; omega); clear e4 e5)
    | (go_at_call 12; (with_reducible refine (CA.out _ (grown_tr G1.out (grown_tr h2 h5))).mono ?_); rintro e w6 ⟨rfl, g6⟩)
    | (go_at_call 13; (with_reducible refine (CB.out _ (grown_tr G1.out (grown_tr h2 (grown_tr h5 g6)))).mono ?_); rintro e w7 ⟨rfl, g7⟩; have h7 := grown_tr h5 (grown_tr g6 g7); have k7 := grown_tr k5 (grown_tr g6 g7); obtain ⟨a0, a1, a2⟩ := BA.out w7 h7; obtain ⟨b0, b1, b2⟩ := BB.out w7 k7)
    | (go_at_call 14; (with_reducible refine (RA.out w7 S u2 u3 (r2'.grown h7) (r3'.grown k7)).mono ?_); rintro e w8 ⟨rfl, g8⟩)
    | (go_at_call 15; (with_reducible refine (Books_same _ _ Y Z w8 (b4.grown (grown_tr g5 (grown_tr (grown_tr g6 g7) g8))) (b5.grown (grown_tr (grown_tr g6 g7) g8)) E45.out Y4.out).mono ?_); rintro e w9 ⟨rfl, g9⟩))
  go_ret
  exact ⟨rfl, grown_below (grown_tr G1.out (grown_tr h2 (grown_tr h7 (grown_tr g8 g9))))⟩
end seatLooks
end Go.Proofs.Ytdekeibnehoeaaa
