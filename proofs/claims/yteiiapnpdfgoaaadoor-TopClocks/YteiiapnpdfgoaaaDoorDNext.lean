/- What 'Next', 'Is' answer. -/
import Derived.Test.YteiiapnpdfgoaaaDoorDBegin
namespace Go.Proofs.YteiiapnpdfgoaaaDoor.Due
open Cro
/-- What 'Next' answers: a number and an error. -/
def nxV (P : Nat → Bool) (c : C) (z : Zon.Z) (a : Int) : Int × Int :=
  if ¬ c.right then (0, 1) else if ¬ z.ok then (0, 40) else if a < -1 ∨ 226157759 < a then (0, 30) else
  match nx P 226157759 (a + 1).toNat with
  | some t => ((t : Nat), 0)
  | none => (0, 60)
/-- What 'Is' answers. -/
def isV (P : Nat → Bool) (z : Zon.Z) (t : Int) : Bool := decide z.ok && decide (0 ≤ t ∧ t ≤ 226157759) && P t.toNat
end Go.Proofs.YteiiapnpdfgoaaaDoor.Due
namespace Go.Proofs.YteiiapnpdfgoaaaDoor
open Go.RowKit
set_option linter.unusedVariables false

abbrev seaA (b : Nat) (c1 c2 c3 c4 : Cro.C) : Array Value := (match seav b c1 c2 c3 c4 with | .agg a => a | _ => #[])

set_option maxRecDepth 100000 in
set_option maxHeartbeats 3200000 in
/-- An error of 'begin' is handed on. -/
theorem next_bad (c : Cro.C) (z : Zon.Z) (a : Int) (er : Int) (her : er ≠ 0) (w : World)
    (BG : ∀ w', w.grownBy w' none → Calls Tryd.prog 20 #[crv c, zon z] w' fun e w'' => e = .returned (.tuple #[.agg sea0c, .int .i64 er]) ∧ w'.grownBy w'' none) :
    Calls Tryd.prog 8 #[crv c, zon z, .int .i64 a] w fun e w' => e = .returned (.tuple #[.int .i64 0, .int .i64 er]) ∧ w.grownBy w' none := by
  have h0 : (er != 0) = true := by simpa using her
  have K2 := fun o1 o2 => grown_alloc (World.grownBy_alloc w o1 none) o2
  go_enter Tryd.func8, Tryd.ntmps8
  go_wp2_with (first
    | (go_at_call 20; go_must (refine (BG _ (K2 _ _)).mono ?_); rintro e w1 ⟨rfl, hg1⟩)
    | (refine store_row (ty := 63) w1.heap.size sea0c rfl rfl (there_kept (C := sea0c) (grown_refl _ none)) (by kernel_rfl) sea0_one ?_; intro w2 hr2 _ hg2))
  go_ret2
  have k1 := grown_more (K2 _ _) hg1 (by simp)
  exact ⟨rfl, grown_more (grown_alloc k1 _) hg2 (fun q e => .inr (by injection e with e; have := k1.size; omega))⟩

theorem sfl_one (b : Nat) (c : Cro.C) : (sfl b c).toArray.all (·.oneCell') = true := by kernel_rfl

set_option maxRecDepth 100000 in
set_option maxHeartbeats 3200000 in
/-- Expression and zone are right; the instant isn't. -/
theorem next_time (c : Cro.C) (hc : c.ok) (hr : c.right) (z : Zon.Z) (hz : z.ok) (a : Int) (ha : a < -1 ∨ 226157759 < a) (w : World) (hG : Gl w) :
    Calls Tryd.prog 8 #[crv c, zon z, .int .i64 a] w fun e w' => e = .returned (.tuple #[.int .i64 0, .int .i64 30]) ∧ w.grownBy w' none := by
  have hnot : ∀ (x : Bool) (w : World), (Op.unary .not (.bool x)).run Tryd.prog w = .ok (.bool (!x)) w := fun _ _ => rfl
  have BG := fun w hG => begin_ok c hc hr z hz w hG
  simp only [← sfl_is] at BG
  have AL := allowed_any a
  rw [decide_eq_false (show ¬ (-1 ≤ a ∧ a ≤ 226157759) by omega)] at AL
  have K2 := fun o1 o2 => grown_alloc (World.grownBy_alloc w o1 none) o2
  clear ha hz hr hc
  go_enter Tryd.func8, Tryd.ntmps8
  go_wp2_with (first
    | (go_at_call 20; go_must (refine (BG _ (hG.kept (K2 _ _))).mono ?_); rintro e w1 ⟨b, rfl, hg1, hb, hZ1⟩)
    | (refine store_row (ty := 63) w1.heap.size (sfl b c).toArray rfl rfl (there_kept (C := sea0c) (grown_refl _ none)) (by kernel_rfl) (sfl_one b c) ?_; intro w2 hr2 _ hg2)
    | (go_at_call 21; go_must (refine (AL _).mono ?_); rintro e w3 ⟨rfl, rfl⟩))
  go_ret2
  have k1 := grown_more (K2 _ _) hg1 (by simp)
  exact ⟨rfl, grown_more (grown_alloc k1 _) hg2 (fun q e => .inr (by injection e with e; have := k1.size; omega))⟩

theorem fst_two (o : Option Nat) : ∃ x y : Value, fstV o = .tuple #[x, y] ∧ ((∃ u : Nat, o = some u ∧ x = .int .i64 (u : Nat) ∧ y = .bool true) ∨ (o = none ∧ x = .int .i64 0 ∧ y = .bool false)) := by
  cases o with
  | none => exact ⟨_, _, rfl, .inr ⟨rfl, rfl, rfl⟩⟩
  | some u => exact ⟨_, _, rfl, .inl ⟨u, rfl, rfl, rfl⟩⟩

set_option maxRecDepth 100000 in
set_option maxHeartbeats 3200000 in
theorem next_ok (c : Cro.C) (hc : c.ok) (hr : c.right) (z : Zon.Z) (hz : z.ok) (P : Nat → Bool) (hP : Due.IsP c z P) (a : Nat) (ha : a ≤ 226157760) (w : World) (hG : Gd w) (x : Int) (y : Bool) (x' y' : Int)
    (hf : fstV (Due.nxt P (226157760 - a) a) = .tuple #[.int .i64 x, .bool y]) (hxy : (x', y') = if y then (x, 0) else (0, 60)) :
    Calls Tryd.prog 8 #[crv c, zon z, .int .i64 ((a : Int) - 1)] w fun e w' => e = .returned (.tuple #[.int .i64 x', .int .i64 y']) ∧ w.grownBy w' none := by
  have hnot : ∀ (x : Bool) (w : World), (Op.unary .not (.bool x)).run Tryd.prog w = .ok (.bool (!x)) w := fun _ _ => rfl
  have BG := fun w hG => begin_ok c hc hr z hz w hG
  simp only [← sfl_is] at BG
  have AL := allowed_any ((a : Int) - 1)
  rw [decide_eq_true (show (-1 ≤ (a : Int) - 1 ∧ (a : Int) - 1 ≤ 226157759) by omega)] at AL
  have FI : ∀ b w2, Sea w w2 b → Zn w2 b z → Calls Tryd.prog 22 #[.agg (sfl b c).toArray, .int .i64 (a : Int), .int .i64 226157759] w2 fun r w' => r = .returned (.tuple #[.int .i64 x, .bool y]) ∧ w2.grownBy w' (some b) := fun b w2 h1 h2 => by
    have := first_any c hc hr z hz P hP b w w2 h1 h2 a 226157760 ha (by omega)
    rw [hf, ← sfl_is] at this
    exact this.mono fun r w' ⟨h1, h2, _⟩ => ⟨h1, h2⟩
  have K2 := fun o1 o2 => grown_alloc (World.grownBy_alloc w o1 none) o2
  have HG : Hid (Gd w) := hG
  have hG' := hG.gl
  clear hz hr hc hf hP hG
  cases y
  · simp at hxy
    obtain ⟨rfl, rfl⟩ := hxy
    go_enter Tryd.func8, Tryd.ntmps8
    go_wp2_with (first
      | (go_at_call 20; go_must (refine (BG _ (hG'.kept (K2 _ _))).mono ?_); rintro e w1 ⟨b, rfl, hg1, hb, hZ1⟩; have k1 := grown_more (K2 _ _) hg1 (by simp))
      | (refine store_row (ty := 63) w1.heap.size (sfl b c).toArray rfl rfl (there_kept (C := sea0c) (grown_refl _ none)) (by kernel_rfl) (sfl_one b c) ?_; intro w2 hr2 _ hg2; have k12 := grown_more (World.grownBy_alloc w1 _ none) hg2 (fun q e => .inr (by injection e with e; omega)); have hZ2 := hZ1.kept k12; have k2 := grown_more k1 k12 (by simp); have S2 : Sea w w2 b := ⟨HG.out, k2, (by simp at hb; omega), World.block_lt_of_cell? w2 _ hZ2.c0⟩)
      | (go_at_call 21; go_must (refine (AL _).mono ?_); rintro e w3 ⟨rfl, rfl⟩)
      | (refine load_row (ty := 63) w1.heap.size 0 (sfl b c) _ rfl hr2 Tryd.underlying63 rfl (by kernel_rfl) ?_)
      | (go_at_call 22; go_must (refine (FI b _ S2 hZ2).mono ?_); rintro e w4 ⟨rfl, hg4⟩))
    go_ret2
    exact ⟨rfl, grown_more k2 hg4 (fun q e => .inr (by injection e with e; have := S2.new; omega))⟩
  · simp at hxy
    obtain ⟨rfl, rfl⟩ := hxy
    go_enter Tryd.func8, Tryd.ntmps8
    go_wp2_with (first
      | (go_at_call 20; go_must (refine (BG _ (hG'.kept (K2 _ _))).mono ?_); rintro e w1 ⟨b, rfl, hg1, hb, hZ1⟩; have k1 := grown_more (K2 _ _) hg1 (by simp))
      | (refine store_row (ty := 63) w1.heap.size (sfl b c).toArray rfl rfl (there_kept (C := sea0c) (grown_refl _ none)) (by kernel_rfl) (sfl_one b c) ?_; intro w2 hr2 _ hg2; have k12 := grown_more (World.grownBy_alloc w1 _ none) hg2 (fun q e => .inr (by injection e with e; omega)); have hZ2 := hZ1.kept k12; have k2 := grown_more k1 k12 (by simp); have S2 : Sea w w2 b := ⟨HG.out, k2, (by simp at hb; omega), World.block_lt_of_cell? w2 _ hZ2.c0⟩)
      | (go_at_call 21; go_must (refine (AL _).mono ?_); rintro e w3 ⟨rfl, rfl⟩)
      | (refine load_row (ty := 63) w1.heap.size 0 (sfl b c) _ rfl hr2 Tryd.underlying63 rfl (by kernel_rfl) ?_)
      | (go_at_call 22; go_must (refine (FI b _ S2 hZ2).mono ?_); rintro e w4 ⟨rfl, hg4⟩))
    go_ret2
    exact ⟨rfl, grown_more k2 hg4 (fun q e => .inr (by injection e with e; have := S2.new; omega))⟩

/-- 'Next', whatever it is asked. -/
theorem Next_any (c : Cro.C) (hc : c.ok) (z : Zon.Z) (P : Nat → Bool) (hP : Due.IsP c z P) (a : Int) (w : World) (hG : Gd w) :
    Calls Tryd.prog 8 #[crv c, zon z, .int .i64 a] w fun e w' => e = .returned (.tuple #[.int .i64 (Due.nxV P c z a).1, .int .i64 (Due.nxV P c z a).2]) ∧ w.grownBy w' none := by
  unfold Due.nxV
  by_cases hr : c.right
  · rw [if_neg (fun h => h hr)]
    by_cases hz : z.ok
    · rw [if_neg (fun h => h hz)]
      by_cases ha : a < -1 ∨ 226157759 < a
      · rw [if_pos ha]
        exact next_time c hc hr z hz a ha w hG.gl
      · rw [if_neg ha]
        obtain ⟨n, hn⟩ : ∃ n : Nat, a = (n : Int) - 1 := ⟨(a + 1).toNat, by omega⟩
        subst hn
        have e : ((n : Int) - 1 + 1).toNat = n := by omega
        rw [e]
        show Calls Tryd.prog 8 _ _ _
        cases h : Due.nx P 226157759 n with
        | none => exact next_ok c hc hr z hz P hP n (by omega) w hG 0 false _ _ (by rw [show Due.nxt P (226157760 - n) n = none from h]; rfl) rfl
        | some u => exact next_ok c hc hr z hz P hP n (by omega) w hG u true _ _ (by rw [show Due.nxt P (226157760 - n) n = some u from h]; rfl) rfl
    · rw [if_pos hz]
      exact next_bad c z a 40 (by decide) w (fun w' g => begin_zone c hc hr z hz w' (hG.gl.kept g))
  · rw [if_pos hr]
    exact next_bad c z a 1 (by decide) w (fun w' g => begin_arg c hc hr z w' (hG.gl.kept g))
end Go.Proofs.YteiiapnpdfgoaaaDoor
