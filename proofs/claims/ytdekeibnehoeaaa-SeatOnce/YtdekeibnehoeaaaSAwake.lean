/- awake: the example's answers. -/
import Derived.Test.YtdekeibnehoeaaaSCalls
namespace Go.Proofs.Ytdekeibnehoeaaa
open Go.RowKit Sea
set_option linter.unusedVariables false
set_option maxRecDepth 10000

def s0 : Sn := ⟨3, 5, 0, 9, []⟩
theorem put0 : putE [] s0 = 0 ∧ putL [] s0 = [s0] := ⟨rfl, rfl⟩
theorem look0 : lookE [s0] 3 5 = 0 ∧ lookS [s0] 3 5 = s0 := ⟨rfl, rfl⟩
theorem look1 : lookE [s0] 3 4 = 160 ∧ lookS [s0] 3 4 = zeroS := ⟨rfl, rfl⟩
theorem look2 : lookE [s0] 3 6 = 60 ∧ lookS [s0] 3 6 = zeroS := ⟨rfl, rfl⟩
theorem look3 : lookE [s0] 65 1 = 1 ∧ lookS [s0] 65 1 = zeroS := ⟨rfl, rfl⟩
set_option maxRecDepth 100000 in
set_option maxHeartbeats 1600000 in
theorem awake_any (w : World) : Calls Try.prog 7 #[] w fun e w' => e = .returned (.bool true) ∧ w.grownBy w' none := by
  have P0 := Put_any (.slice none 0 0) [] s0 nil3 w (bk_nil _) (by simp) (rdj_nil _)
  rw [List.map_nil, put0.1, put0.2] at P0
  have P1 : Calls Try.prog 10 #[.slice none 0 0, .agg #[.int .i64 3, .int .i64 5, .int .i64 0, .int .i64 9, .slice none 0 0]] w fun e w' => PutA w [s0] 0 e w' := P0
  have LK : Hid (∀ (W : World) (u : S3) (Y : List (Sn × S3)) (c q er tm : Int) (s : Sn), Bk W (.slice u.a u.n u.c) Y → Y.map (·.1) = [s0] → lookE [s0] c q = er ∧ lookS [s0] c q = s → s.er = 0 → s.tm = tm → Calls Try.prog 8 #[.slice u.a u.n u.c, .int .i64 c, .int .i64 q] W fun e w' => ∃ u2 : S3, e = .returned (.tuple #[.agg #[.int .i64 0, .int .i64 tm, .slice u2.a u2.n u2.c], .int .i64 er]) ∧ W.grownBy w' none) := fun W u Y c q er tm s hb hy h1 h2 h3 => by
    have := Look_any _ Y c q W hb (by have := congrArg List.length hy; simp at this; omega)
    rw [hy, h1.1, h1.2] at this
    refine this.mono ?_
    rintro e w2 ⟨u2, rfl, _, g2⟩
    exact ⟨u2, by subst h3; have h2' : Value.int .i64 s.er = .int .i64 0 := (by rw [h2]); show Ending.returned (Value.tuple #[.agg #[.int .i64 s.er, .int .i64 s.tm, .slice u2.a u2.n u2.c], .int .i64 er]) = _; rw [h2'], g2⟩
  clear P0
  go_enter Try.func7, Try.ntmps7
  go_wp2_with (first
    | (go_at_call 10; (with_reducible refine P1.mono ?_); rintro e w1 ⟨u1, rfl, Y, B1, E1, g1⟩; have L0 := LK.out w1 u1 Y 3 5 0 9 s0 B1 E1 look0 rfl rfl; have HL : Hid (∀ W, w1.grownBy W none → _) := (fun W g => LK.out W u1 Y 3 4 160 0 zeroS (B1.grown g) E1 look1 rfl rfl); have HM : Hid (∀ W, w1.grownBy W none → _) := (fun W g => LK.out W u1 Y 3 6 60 0 zeroS (B1.grown g) E1 look2 rfl rfl); have HN : Hid (∀ W, w1.grownBy W none → _) := (fun W g => LK.out W u1 Y 65 1 1 0 zeroS (B1.grown g) E1 look3 rfl rfl); clear P1 B1 E1)
    | (go_at_call 8; (with_reducible refine L0.mono ?_); rintro e w2 ⟨u2, rfl, g2⟩; have g2' : w1.grownBy (w2.alloc (.cells #[.int .i64 0, .int .i64 9, .slice u2.a u2.n u2.c] 26)) none := grown_alloc g2 _; have BX : Hid (∀ W, (w2.alloc (.cells #[.int .i64 0, .int .i64 9, .slice u2.a u2.n u2.c] 26)).grownBy W none → W.cell? ⟨w2.heap.size, 1, none⟩ = some (.int .i64 9)) := fun W g => (cs_new g).1 1 _ rfl)
    | (go_at_call 8; (with_reducible refine (HL.out _ g2').mono ?_); rintro e w3 ⟨u3, rfl, g3⟩)
    | (go_at_call 8; (with_reducible refine (HM.out _ (grown_alloc (grown_tr g2' g3) _)).mono ?_); rintro e w4 ⟨u4, rfl, g4⟩; have g34 := grown_tr (grown_alloc g3 _) g4)
    | (go_at_call 8; (with_reducible refine (HN.out _ (grown_alloc (grown_tr g2' g34) _)).mono ?_); rintro e w5 ⟨u5, rfl, g5⟩; have g35 := grown_tr (grown_alloc g34 _) g5; have c9 := BX.out (w5.alloc (.cells #[.int .i64 0, .int .i64 0, .slice u5.a u5.n u5.c] 26)) (grown_alloc g35 _)))
  go_ret
  exact ⟨rfl, grown_alloc (grown_tr g1 (grown_tr g2' g35)) _⟩
end Go.Proofs.Ytdekeibnehoeaaa
