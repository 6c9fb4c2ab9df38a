/- awake: the fixed answers. -/
import Derived.Test.YtigmpinomfkefaaTAwakeA
import Derived.Test.YtigmpinomfkefaaTPutA
namespace Go.Proofs.Ytigmpinomfkefaa
open Go.RowKit Trl
set_option linter.unusedVariables false
set_option maxRecDepth 10000

def X1 : List En := [(2, ⟨#[120]⟩)]
theorem aw_chk : chk 2 1 E2 = true := by decide
theorem aw_p1 : Put 2 1 E2 3 1 X1 3 = some [(1, ⟨#[97]⟩), (2, ⟨#[120]⟩)] := by rfl
theorem aw_p2 : Put 2 1 E2 3 1 X1 4 = none := by rfl
theorem aw_last : lastT 1 E2 = 3 := rfl
theorem aw_new : new 2 1 E2 2 4 = true := rfl
theorem aw_tm : tm 2 1 E2 3 = 1 := rfl
/-- What holds of each world of awake's way. -/
theorem Put_one (fx : Int) (v : Value) (w : World) (q : Nat) (hq : q = w.heap.size) (h : Sl w v E2) :
    Calls Try.prog 6 #[tv 2 1 v, .int .i64 3, .int .i64 1, .slice (some ⟨q, 0, none⟩) 1 1, .int .i64 fx] (w.alloc (.cells #[.int .i64 2, .string ⟨#[120]⟩] 30)) fun e w' => Rs w w' w.heap.size 2 1 (Put 2 1 E2 3 1 X1 fx) e := by
  have hg := World.grownBy_alloc w (.cells #[.int .i64 2, .string ⟨#[120]⟩] 30) none
  refine (Put_any 2 1 3 1 fx v _ E2 X1 _ (h.grown hg) (lit_e w X1 q hq (by decide)) (by decide)).mono ?_
  rintro e w' ⟨B, K, a, n, c, f, h1, h2, h3⟩
  exact ⟨B, K, a, n, c, f, h1, h2.out.low (by simp), grown_tr hg h3⟩
theorem Put_yes (v : Value) (w : World) (q : Nat) (hq : q = w.heap.size) (h : Sl w v E2) :
    Calls Try.prog 6 #[tv 2 1 v, .int .i64 3, .int .i64 1, .slice (some ⟨q, 0, none⟩) 1 1, .int .i64 3] (w.alloc (.cells #[.int .i64 2, .string ⟨#[120]⟩] 30)) fun e w' => ∃ g c, e = .returned (.tuple #[tv 2 1 (.slice (some ⟨g, 0, none⟩) 2 c), .bool true]) ∧ w'.cell? ⟨g, 2, none⟩ = some (.int .i64 2) ∧ w'.cell? ⟨g, 3, none⟩ = some (.string ⟨#[120]⟩) ∧ w.grownBy w' none := by
  refine (Put_one 3 v w q hq h).mono ?_
  rintro e w' ⟨B, K, a, n, c, f, h1, h2, h3⟩
  rw [aw_p1] at h2
  obtain ⟨rfl, rfl, rfl, hO⟩ := h2.out
  obtain ⟨g, c', hv, hc, _⟩ := hO.at_ (i := 1) (x := (2, ⟨#[120]⟩)) rfl
  injection hv with e1 e2 e3
  subst e1 e2 e3
  exact ⟨g, _, h1, hc 0 _ rfl, hc 1 _ rfl, h3⟩
theorem Put_no (v : Value) (w : World) (q : Nat) (hq : q = w.heap.size) (h : Sl w v E2) :
    Calls Try.prog 6 #[tv 2 1 v, .int .i64 3, .int .i64 1, .slice (some ⟨q, 0, none⟩) 1 1, .int .i64 4] (w.alloc (.cells #[.int .i64 2, .string ⟨#[120]⟩] 30)) fun e w' => e = .returned (.tuple #[tv 0 0 (.slice none 0 0), .bool false]) ∧ w.grownBy w' none := by
  refine (Put_one 4 v w q hq h).mono ?_
  rintro e w' ⟨B, K, a, n, c, f, h1, h2, h3⟩
  rw [aw_p2] at h2
  obtain ⟨rfl, rfl, hv, rfl⟩ := h2.out
  rw [hv] at h1
  exact ⟨h1, h3⟩
theorem Cut_two (v : Value) (w : World) (h : Sl w v E2) :
    Calls Try.prog 12 #[tv 2 1 v, .int .i64 3] w fun e w' => ∃ a c, e = .returned (.tuple #[tv 3 1 (.slice a 1 c), .bool true]) ∧ w.grownBy w' none := by
  refine (Cut_any 2 1 3 v E2 w h aw_chk (by decide) (by decide)).mono ?_
  rintro e w' ⟨B, K, a, n, c, f, h1, h2, h3⟩
  obtain ⟨rfl, rfl, rfl, hO⟩ := h2.out
  have hn := hO.len
  subst hn
  exact ⟨a, c, h1, h3⟩
theorem Last_two (v : Value) (w : World) (h : Sl w v E2) :
    Calls Try.prog 9 #[tv 2 1 v] w fun e w' => e = .returned (.tuple #[.int .i64 4, .int .i64 3]) ∧ w.grownBy w' none := last_any 2 1 v E2 w h aw_chk
theorem Newer_two (v : Value) (w : World) (h : Sl w v E2) :
    Calls Try.prog 10 #[tv 2 1 v, .int .i64 2, .int .i64 4] w fun e w' => e = .returned (.bool true) ∧ w.grownBy w' none := newer_any 2 1 2 4 v E2 w h aw_chk
set_option maxRecDepth 100000 in
set_option maxHeartbeats 3200000 in
theorem awake_any (w : World) : Calls Try.prog 5 #[] w fun e w' => e = .returned (.bool true) ∧ w.grownBy w' none := by
  have TW : Hid (∀ W, _) := two_any
  have LT : Hid _ := Last_two
  have PY : Hid _ := Put_yes
  have PN : Hid _ := Put_no
  have CT : Hid _ := Cut_two
  have NT : Hid _ := Newer_two
  have t1 : True := trivial
  have t2 : True := trivial
  have t3 : True := trivial
  have t4 : True := trivial
  have p1 : True := trivial
  have AL : Hid (∀ {A B : World} {o : Obj}, A.grownBy B none → A.grownBy (B.alloc o) none) := fun {A B o} g => grown_alloc g o
  go_enter Try.func5, Try.ntmps5
  go_wp2_with (first
    | (have _t := t1; go_at_call 11; (with_reducible refine (TW.out _).mono ?_); rintro e w1 ⟨a1, n1, c1, rfl, hS1, g1⟩; clear t1)
    | (go_at_call 9; (with_reducible refine (LT.out _ _ hS1).mono ?_); rintro e w2 ⟨rfl, g2⟩; have G2 := grown_tr g1 g2)
    | (have _t := t2; go_at_call 11; (with_reducible refine (TW.out _).mono ?_); rintro e w3 ⟨a3, n3, c3, rfl, hS3, g3⟩; have G3 := grown_tr G2 g3; clear t2)
    | (have _t := p1; go_at_call 6; (with_reducible refine (PY.out _ _ _ rfl hS3).mono ?_); rintro e w4 ⟨q4, c4, rfl, y0, y1, g4⟩; have G4 := grown_tr G3 g4; clear p1)
    | (have _t := t3; go_at_call 11; (with_reducible refine (TW.out _).mono ?_); rintro e w5 ⟨a5, n5, c5, rfl, hS5, g5⟩; have G5 := grown_tr (AL.out G4) g5; obtain ⟨b0, b1, b2⟩ := box_kept g5; have Y5 := grown_tr (AL.out (grown_refl _ _)) g5; have v0 := Y5.cell y0 (by simp); have v1 := Y5.cell y1 (by simp); clear t3)
    | (go_at_call 6; (with_reducible refine (PN.out _ _ _ rfl hS5).mono ?_); rintro e w6 ⟨rfl, g6⟩; have G6 := grown_tr G5 g6)
    | (have _t := t4; go_at_call 11; (with_reducible refine (TW.out _).mono ?_); rintro e w7 ⟨a7, n7, c7, rfl, hS7, g7⟩; have G7 := grown_tr (AL.out G6) g7; have Y7 := grown_tr (AL.out g6) g7; clear t4)
    | (go_at_call 12; (with_reducible refine (CT.out _ _ hS7).mono ?_); rintro e w8 ⟨a8, c8, rfl, g8⟩; have G8 := grown_tr G7 g8; have Y8 := grown_tr Y7 g8; have z2 : ∀ o, (w8.alloc o).cell? _ = _ := (fun o => (AL.out Y8).cell b2 (by simp)); have u0 : ∀ o, (w8.alloc o).cell? _ = _ := (fun o => (AL.out Y8).cell v0 (by simp)); have u1 : ∀ o, (w8.alloc o).cell? _ = _ := (fun o => (AL.out Y8).cell v1 (by simp)))
    | (go_at_call 11; (with_reducible refine (TW.out _).mono ?_); rintro e w9 ⟨a9, n9, c9, rfl, hS9, g9⟩; have G9 := grown_tr (AL.out G8) g9)
    | (go_at_call 10; (with_reducible refine (NT.out _ _ hS9).mono ?_); rintro e w10 ⟨rfl, g10⟩))
  go_ret
  exact ⟨rfl, grown_tr G9 g10⟩
end Go.Proofs.Ytigmpinomfkefaa
