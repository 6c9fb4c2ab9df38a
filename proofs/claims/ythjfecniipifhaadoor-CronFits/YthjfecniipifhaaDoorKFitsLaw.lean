/- The statement on right expressions, their texts and the minutes that they fit: its walk. -/
import Derived.Test.YthjfecniipifhaaDoorKRefPrint
import Derived.Test.YthjfecniipifhaaDoorKRefFits
import Derived.Test.YthjfecniipifhaaDoorKLists
import Derived.Test.YthjfecniipifhaaDoorKBack
import Derived.Test.YthjfecniipifhaaDoorKArgs
import Derived.Deep.Strs
namespace Go.Proofs.YthjfecniipifhaaDoor
open Go.ChangeShapes Go.WideShapes Go.ChangeAt Go.RowKit
set_option linter.unusedVariables false
set_option maxRecDepth 100000

/-- Six numbers one behind the other. -/
structure Six (w : World) (b o : Nat) (y m d h n k : Int) : Prop where
  c0 : w.cell? ⟨b, o, none⟩ = some (.int .i64 y)
  c1 : w.cell? ⟨b, o + 1, none⟩ = some (.int .i64 m)
  c2 : w.cell? ⟨b, o + 2, none⟩ = some (.int .i64 d)
  c3 : w.cell? ⟨b, o + 3, none⟩ = some (.int .i64 h)
  c4 : w.cell? ⟨b, o + 4, none⟩ = some (.int .i64 n)
  c5 : w.cell? ⟨b, o + 5, none⟩ = some (.int .i64 k)
/-- Each of the first n elements is a minute by the calendar, or what has its form. -/
def Sc (w : World) (a : Option Addr) (n : Nat) : Prop := ∀ i, i < n → ∃ b off y m d h n k, a = some ⟨b, off, none⟩ ∧ Six w b (off + i * 6) y m d h n k
theorem Sc.kept {w w' : World} {a : Option Addr} {n : Nat} (h : Sc w a n) (g : w.grownBy w' none) : Sc w' a n := fun i hi => by
  obtain ⟨b, off, y, m, d, h', n', k, e, hc⟩ := h i hi
  exact ⟨b, off, y, m, d, h', n', k, e, g.cell hc.c0 (by simp), g.cell hc.c1 (by simp), g.cell hc.c2 (by simp), g.cell hc.c3 (by simp), g.cell hc.c4 (by simp), g.cell hc.c5 (by simp)⟩

theorem cellsCivil : Tryd.prog.cellsOf 36 = 6 := by kernel_rfl

theorem civ_cells {H : Type} {enc : TypeId × Value → H} {W : World} {base fuel : Nat} {spare : Nat → Bool} {held : Bool} {cs : List Value} {x : DataW H × List MemPlace}
    (h : DataW.trod enc Tryd.prog W base spare held fuel 36 cs = some x) : ∃ y m d h n k : Int, cs = [.int .i64 y, .int .i64 m, .int .i64 d, .int .i64 h, .int .i64 n, .int .i64 k] := by
  obtain ⟨xs, n, _, _, hl, hlen, hf⟩ := DataW.trod_struct Tryd.underlying36 h
  rw [cellsCivil] at hl
  match cs, hl with
  | [c0, c1, c2, c3, c4, c5], _ =>
    have h0 : DataW.trod enc Tryd.prog W base spare held n 3 (([c0, c1, c2, c3, c4, c5].drop 0).take (Tryd.prog.cellsOf 3)) = xs[0]? := hf 0 _ rfl
    have h1 : DataW.trod enc Tryd.prog W base spare held n 3 (([c0, c1, c2, c3, c4, c5].drop 1).take (Tryd.prog.cellsOf 3)) = xs[1]? := hf 1 _ rfl
    have h2 : DataW.trod enc Tryd.prog W base spare held n 3 (([c0, c1, c2, c3, c4, c5].drop 2).take (Tryd.prog.cellsOf 3)) = xs[2]? := hf 2 _ rfl
    have h3 : DataW.trod enc Tryd.prog W base spare held n 3 (([c0, c1, c2, c3, c4, c5].drop 3).take (Tryd.prog.cellsOf 3)) = xs[3]? := hf 3 _ rfl
    have h4 : DataW.trod enc Tryd.prog W base spare held n 3 (([c0, c1, c2, c3, c4, c5].drop 4).take (Tryd.prog.cellsOf 3)) = xs[4]? := hf 4 _ rfl
    have h5 : DataW.trod enc Tryd.prog W base spare held n 3 (([c0, c1, c2, c3, c4, c5].drop 5).take (Tryd.prog.cellsOf 3)) = xs[5]? := hf 5 _ rfl
    have len6 : xs.length = 6 := hlen
    rw [List.getElem?_eq_getElem (by omega)] at h0 h1 h2 h3 h4 h5
    simp only [cells_int, List.drop_zero, List.drop_succ_cons, List.take_succ_cons, List.take_zero] at h0 h1 h2 h3 h4 h5
    obtain ⟨y, e0, _, _⟩ := DataW.trod_int Tryd.underlying3 h0
    obtain ⟨m, e1, _, _⟩ := DataW.trod_int Tryd.underlying3 h1
    obtain ⟨d, e2, _, _⟩ := DataW.trod_int Tryd.underlying3 h2
    obtain ⟨h, e3, _, _⟩ := DataW.trod_int Tryd.underlying3 h3
    obtain ⟨n, e4, _, _⟩ := DataW.trod_int Tryd.underlying3 h4
    obtain ⟨k, e5, _, _⟩ := DataW.trod_int Tryd.underlying3 h5
    refine ⟨y, m, d, h, n, k, ?_⟩
    simp at e0 e1 e2 e3 e4 e5
    rw [e0, e1, e2, e3, e4, e5]

theorem open_sc {H : Type} {enc : TypeId × Value → H} {W : World} {r : Reach} {base : Nat} {v : Value} {d : DataW H} {p : List MemPlace}
    (hv : Value.okWide Tryd.prog W r base 30 v) (h : DataW.Trod enc Tryd.prog W 0 (fun _ => true) true 30 v d p) :
    ∃ a n c, v = .slice a n c ∧ Sc W a n ∧ n ≤ 9223372036854775807 := by
  obtain ⟨a, len, cap, rfl⟩ := okWide_slice Tryd.underlying30 hv
  obtain ⟨fuel, hf⟩ := h
  rcases Go.Deep.open_slice Tryd.underlying30 hf with ⟨hcs, hx⟩ | ⟨x, l, c, m, n, D, Pl, hcs, hb, hl, hm, hmm, hx, hall⟩
  · simp [Value.cells] at hcs
    obtain ⟨rfl, rfl, rfl⟩ := hcs
    exact ⟨none, 0, 0, rfl, fun i hi => by omega, by omega⟩
  · simp [Value.cells] at hcs
    obtain ⟨rfl, rfl, rfl⟩ := hcs
    have hm' : cap ≤ 9223372036854775807 := hm
    have hlm : len ≤ m := by rw [hmm]; simp; exact hl
    have each : ∀ i, i < len → ∃ y m d h n k : Int, W.cell? (x.add (i * 6)) = some (.int .i64 y) ∧ W.cell? (x.add (i * 6 + 1)) = some (.int .i64 m) ∧ W.cell? (x.add (i * 6 + 2)) = some (.int .i64 d) ∧
        W.cell? (x.add (i * 6 + 3)) = some (.int .i64 h) ∧ W.cell? (x.add (i * 6 + 4)) = some (.int .i64 n) ∧ W.cell? (x.add (i * 6 + 5)) = some (.int .i64 k) := by
      intro i hi
      obtain ⟨cs', h1, h2⟩ := hall i (by omega)
      rw [cellsCivil] at h1
      obtain ⟨y, m', d', h', n', k, rfl⟩ := civ_cells h2
      obtain ⟨_, hlen, hcell⟩ := World.cells?_some h1
      refine ⟨y, m', d', h', n', k, ?_, ?_, ?_, ?_, ?_, ?_⟩
      · have := hcell 0 (by simp); rw [Go.Deep.add_add] at this; simpa using this
      · have := hcell 1 (by simp); rw [Go.Deep.add_add] at this; simpa using this
      · have := hcell 2 (by simp); rw [Go.Deep.add_add] at this; simpa using this
      · have := hcell 3 (by simp); rw [Go.Deep.add_add] at this; simpa using this
      · have := hcell 4 (by simp); rw [Go.Deep.add_add] at this; simpa using this
      · have := hcell 5 (by simp); rw [Go.Deep.add_add] at this; simpa using this
    refine ⟨some x, len, cap, rfl, fun i hi => ?_, by omega⟩
    obtain ⟨b, off, spot⟩ := x
    obtain ⟨_, _, _, _, _, _, s0, _⟩ := each 0 (by omega)
    have hspot : spot = none := by simpa [Addr.add] using World.cell?_spot s0
    subst hspot
    obtain ⟨y, m', d', h', n', k, g0, g1, g2, g3, g4, g5⟩ := each i hi
    rw [Addr.add_lit] at g0 g1 g2 g3 g4 g5
    exact ⟨b, off, y, m', d', h', n', k, rfl, g0, by rw [Nat.add_assoc]; exact g1, by rw [Nat.add_assoc]; exact g2, by rw [Nat.add_assoc]; exact g3, by rw [Nat.add_assoc]; exact g4, by rw [Nat.add_assoc]; exact g5⟩


set_option maxRecDepth 100000 in
set_option maxHeartbeats 3200000 in
theorem fits_by (m0 m1 m2 m3 m4 : Nat) (ad aw r : Bool) (tc : ByteArray) (ec : Int) (fit : Int → Int → Int → Int → Int → Int → Bool) (a : Option Addr) (len cap : Nat) (hlen : len ≤ 9223372036854775807)
    (PR : ∀ w, Gl w → Calls Tryd.prog 12 #[.agg #[.int .u64 m0, .int .u64 m1, .int .u64 m2, .int .u64 m3, .int .u64 m4, .bool ad, .bool aw]] w fun e w' => e = .returned (.tuple #[.string tc, .int .i64 ec]) ∧ w.grownBy w' none)
    (RP : ∀ w, Gl w → Calls Tryd.prog 13 #[.agg #[.int .u64 m0, .int .u64 m1, .int .u64 m2, .int .u64 m3, .int .u64 m4, .bool ad, .bool aw]] w fun e w' => e = .returned (.tuple #[.string tc, .int .i64 ec]) ∧ w.grownBy w' none)
    (CK : ∀ w, Gl w → Calls Tryd.prog 14 #[.agg #[.int .u64 m0, .int .u64 m1, .int .u64 m2, .int .u64 m3, .int .u64 m4, .bool ad, .bool aw]] w fun e w' => e = .returned (.bool r) ∧ w.grownBy w' none)
    (RC : ∀ w, Gl w → Calls Tryd.prog 15 #[.agg #[.int .u64 m0, .int .u64 m1, .int .u64 m2, .int .u64 m3, .int .u64 m4, .bool ad, .bool aw]] w fun e w' => e = .returned (.bool r) ∧ w.grownBy w' none)
    (FX : ∀ y m d h n k w, Gl w → Calls Tryd.prog 16 #[.agg #[.int .u64 m0, .int .u64 m1, .int .u64 m2, .int .u64 m3, .int .u64 m4, .bool ad, .bool aw], civ y m d h n k] w fun e w' => e = .returned (.bool (fit y m d h n k)) ∧ w.grownBy w' none)
    (RF : ∀ y m d h n k w, Gl w → Calls Tryd.prog 17 #[.agg #[.int .u64 m0, .int .u64 m1, .int .u64 m2, .int .u64 m3, .int .u64 m4, .bool ad, .bool aw], civ y m d h n k] w fun e w' => e = .returned (.bool (fit y m d h n k)) ∧ w.grownBy w' none)
    (w : World) (hG : Gl w) (hS : Sc w a len) :
    Calls Tryd.prog 4 #[.agg #[.int .u64 m0, .int .u64 m1, .int .u64 m2, .int .u64 m3, .int .u64 m4, .bool ad, .bool aw], .slice a len cap] w fun e w' => e = .returned (.bool true) ∧ w.grownBy w' none := by
  have AW := awake_any
  obtain ⟨W0, hW0⟩ : ∃ W0, W0 = w.alloc (.cells #[.int .u64 m0, .int .u64 m1, .int .u64 m2, .int .u64 m3, .int .u64 m4, .bool ad, .bool aw] 25) := ⟨_, rfl⟩
  have SV : Hid (∀ v, W0.grownBy v none → Sev v w.heap.size m0 m1 m2 m3 m4 ad aw) := fun v hv => by subst hW0; exact Sev.of hv
  have GG : Hid (∀ v, W0.grownBy v none → Gl v) := fun v hv => by subst hW0; exact hG.kept (grown_more (World.grownBy_alloc w _ none) hv (by simp))
  have WW : Hid (∀ v, W0.grownBy v none → w.grownBy v none) := fun v hv => by subst hW0; exact grown_more (World.grownBy_alloc w _ none) hv (by simp)
  have SS : Hid (∀ v, W0.grownBy v none → Sc v a len) := fun v hv => hS.kept (WW.out v hv)
  have G0 := GG.out _ (grown_refl _ _)
  have zr : (r != r) = false := by simp
  have zs : (tc.toList == tc.toList) = true := by simp
  have ze : (ec != ec) = false := by simp
  clear hG hS
  go_enter Tryd.func4, Tryd.ntmps4
  go_wp2_with (first
    | (rw [← hW0]; go_at_call 9; go_must (refine (AW _ G0).mono ?_); rintro e w1 ⟨rfl, hg1⟩; have g1 := GG.out _ hg1; obtain ⟨a0, a1, a2, a3, a4, a5, a6⟩ := SV.out _ hg1)
    | (go_at_call 12; go_must (refine (PR _ g1).mono ?_); rintro e w2 ⟨rfl, hg2⟩; clear a0 a1 a2 a3 a4 a5 a6; have h2 := grown_more hg1 hg2 (by simp); have g2 := GG.out _ h2; obtain ⟨a0, a1, a2, a3, a4, a5, a6⟩ := SV.out _ h2)
    | (go_at_call 13; go_must (refine (RP _ g2).mono ?_); rintro e w3 ⟨rfl, hg3⟩; clear a0 a1 a2 a3 a4 a5 a6; have h3 := grown_more h2 hg3 (by simp); have g3 := GG.out _ h3))
  have gx : ∀ x : Gr w3, W0.grownBy x.now none := fun x => grown_more h3 x.grown (by simp)
  have x0 : ∀ x : Gr w3, x.now.cell? ⟨w.heap.size, 0, none⟩ = some (.int .u64 m0) := fun x => (SV.out _ (gx x)).1
  have x1 : ∀ x : Gr w3, x.now.cell? ⟨w.heap.size, 1, none⟩ = some (.int .u64 m1) := fun x => (SV.out _ (gx x)).2.1
  have x2 : ∀ x : Gr w3, x.now.cell? ⟨w.heap.size, 2, none⟩ = some (.int .u64 m2) := fun x => (SV.out _ (gx x)).2.2.1
  have x3 : ∀ x : Gr w3, x.now.cell? ⟨w.heap.size, 3, none⟩ = some (.int .u64 m3) := fun x => (SV.out _ (gx x)).2.2.2.1
  have x4 : ∀ x : Gr w3, x.now.cell? ⟨w.heap.size, 4, none⟩ = some (.int .u64 m4) := fun x => (SV.out _ (gx x)).2.2.2.2.1
  have x5 : ∀ x : Gr w3, x.now.cell? ⟨w.heap.size, 5, none⟩ = some (.bool ad) := fun x => (SV.out _ (gx x)).2.2.2.2.2.1
  have x6 : ∀ x : Gr w3, x.now.cell? ⟨w.heap.size, 6, none⟩ = some (.bool aw) := fun x => (SV.out _ (gx x)).2.2.2.2.2.2
  have hne : Nonempty (Gr w3) := ⟨w3, grown_refl _ _, g3⟩
  refine wp_region_quiet_at (C := fun w' => ∃ x : Gr w3, w' = x.now) (by kernel_rfl) (by kernel_rfl) ⟨⟨_, grown_drewN (grown_refl _ _) 1, g3.kept (grown_drewN (grown_refl _ _) 1)⟩, rfl⟩ ?_
  repeat (go_big_quiet_step (first | (go_at_call 14; with_reducible refine Gr.call (CK _ (Gr.gl _))) | (go_at_call 15; with_reducible refine Gr.call (RC _ (Gr.gl _)))))
  refine wpQuiet_nil ?_
  rintro _ ⟨x, rfl⟩
  have h4 := gx x
  obtain ⟨w4, hw4⟩ : ∃ w4, w4 = x.now := ⟨_, rfl⟩
  rw [← hw4] at h4 ⊢
  clear hw4 gx x0 x1 x2 x3 x4 x5 x6 hne h3 h2 hg1 hg2 hg3 g1 g2 g3
  go_wp2
  go_loopw [9] (fun i wr => ∃ j : Nat, i = .int .i64 j ∧ j ≤ 256 ∧ W0.grownBy wr none) (fun i _ => (257 - (intOf i).toNat))
  case atStart => exact ⟨0, rfl, by omega, h4⟩
  case round =>
    clear h4
    obtain ⟨j, rfl, hj, hg⟩ := hrel
    by_cases hl : j < len
    · by_cases h256 : j < 256
      · obtain ⟨b, off, y, m, d, h, n, k, rfl, hsix⟩ := SS.out _ hg j hl
        have gx : ∀ x : Gr wr, W0.grownBy x.now none := fun x => grown_more hg x.grown (by simp)
        have x0 : ∀ x : Gr wr, x.now.cell? ⟨w.heap.size, 0, none⟩ = some (.int .u64 m0) := fun x => (SV.out _ (gx x)).1
        have x1 : ∀ x : Gr wr, x.now.cell? ⟨w.heap.size, 1, none⟩ = some (.int .u64 m1) := fun x => (SV.out _ (gx x)).2.1
        have x2 : ∀ x : Gr wr, x.now.cell? ⟨w.heap.size, 2, none⟩ = some (.int .u64 m2) := fun x => (SV.out _ (gx x)).2.2.1
        have x3 : ∀ x : Gr wr, x.now.cell? ⟨w.heap.size, 3, none⟩ = some (.int .u64 m3) := fun x => (SV.out _ (gx x)).2.2.2.1
        have x4 : ∀ x : Gr wr, x.now.cell? ⟨w.heap.size, 4, none⟩ = some (.int .u64 m4) := fun x => (SV.out _ (gx x)).2.2.2.2.1
        have x5 : ∀ x : Gr wr, x.now.cell? ⟨w.heap.size, 5, none⟩ = some (.bool ad) := fun x => (SV.out _ (gx x)).2.2.2.2.2.1
        have x6 : ∀ x : Gr wr, x.now.cell? ⟨w.heap.size, 6, none⟩ = some (.bool aw) := fun x => (SV.out _ (gx x)).2.2.2.2.2.2
        have q0 : ∀ x : Gr wr, x.now.cell? ⟨b, off + j * 6, none⟩ = some (.int .i64 y) := fun x => x.grown.cell hsix.c0 (by simp)
        have q1 : ∀ x : Gr wr, x.now.cell? ⟨b, off + j * 6 + 1, none⟩ = some (.int .i64 m) := fun x => x.grown.cell hsix.c1 (by simp)
        have q2 : ∀ x : Gr wr, x.now.cell? ⟨b, off + j * 6 + 2, none⟩ = some (.int .i64 d) := fun x => x.grown.cell hsix.c2 (by simp)
        have q3 : ∀ x : Gr wr, x.now.cell? ⟨b, off + j * 6 + 3, none⟩ = some (.int .i64 h) := fun x => x.grown.cell hsix.c3 (by simp)
        have q4 : ∀ x : Gr wr, x.now.cell? ⟨b, off + j * 6 + 4, none⟩ = some (.int .i64 n) := fun x => x.grown.cell hsix.c4 (by simp)
        have q5 : ∀ x : Gr wr, x.now.cell? ⟨b, off + j * 6 + 5, none⟩ = some (.int .i64 k) := fun x => x.grown.cell hsix.c5 (by simp)
        have gr := GG.out _ hg
        have hne : Nonempty (Gr wr) := ⟨wr, grown_refl _ _, gr⟩
        have F1 := FX y m d h n k
        have F2 := RF y m d h n k
        generalize fit y m d h n k = f at F1 F2
        have zf : (f != f) = false := by simp
        clear hsix FX RF
        go_wp2
        refine wp_region_quiet_at (C := fun w' => ∃ x : Gr wr, w' = x.now) (by kernel_rfl) (by kernel_rfl) ⟨⟨_, grown_drewN (grown_refl _ _) 1, gr.kept (grown_drewN (grown_refl _ _) 1)⟩, rfl⟩ ?_
        repeat (go_big_quiet_step (first | (go_at_call 16; with_reducible refine Gr.call (F1 _ (Gr.gl _))) | (go_at_call 17; with_reducible refine Gr.call (F2 _ (Gr.gl _)))))
        refine wpQuiet_nil ?_
        rintro _ ⟨x', rfl⟩
        have hg' := gx x'
        go_wp2
        go_roundw
        case rel => exact ⟨j + 1, by go_num, by omega, hg'⟩
        case measure => simp [intOf]; omega
      · have z : decide ((j : Int) < 256) = false := decide_eq_false (by omega)
        go_wp2
        go_ret
        exact ⟨rfl, WW.out _ hg⟩
    · have z : decide ((j : Int) < (len : Int)) = false := decide_eq_false (by omega)
      go_wp2
      go_ret
      exact ⟨rfl, WW.out _ hg⟩
theorem cronFits.walk (W : World) (hG : Gl W) (v0 : Value) (o0 : ∃ c : Cro.C, v0 = crv c ∧ c.ok) (v1 : Value) (o1 : ∃ a n c, v1 = .slice a n c ∧ Sc W a n ∧ n ≤ 9223372036854775807) :
    Calls Tryd.prog 4 #[v0, v1] W fun e W' => e = .returned (.bool true) ∧ Below W.heap.size W W' := by
  obtain ⟨c, rfl, hc⟩ := o0
  obtain ⟨a, len, cap, rfl, hS, hlen⟩ := o1
  have CK := fun w hG => Check_any c hc w hG
  have RC := fun w (_ : Gl w) => rCheck c hc w
  have fin : ∀ (tc : ByteArray) (ec : Int), (∀ w, Gl w → Calls Tryd.prog 12 #[crv c] w fun e w' => e = .returned (.tuple #[.string tc, .int .i64 ec]) ∧ w.grownBy w' none) →
      (∀ w, Gl w → Calls Tryd.prog 13 #[crv c] w fun e w' => e = .returned (.tuple #[.string tc, .int .i64 ec]) ∧ w.grownBy w' none) →
      Calls Tryd.prog 4 #[crv c, .slice a len cap] W fun e W' => e = .returned (.bool true) ∧ W.grownBy W' none := fun tc ec H1 H2 =>
    fits_by c.mi c.ho c.da c.mo c.we c.ad c.aw (decide c.right) tc ec c.fits a len cap hlen H1 H2 CK RC (fun y m d h n k w hG => Fits_any c hc y m d h n k w hG) (fun y m d h n k w _ => rFits c hc y m d h n k w) W hG hS
  have all : Calls Tryd.prog 4 #[crv c, .slice a len cap] W fun e W' => e = .returned (.bool true) ∧ W.grownBy W' none := by
    by_cases hr : c.right
    · exact fin ⟨c.text.toArray⟩ 0 (fun w hG => Print_yes c hc hr (text_len c) w hG) (fun w hG => rPrint_yes c hc hr w hG)
    · refine fin ⟨#[]⟩ 1 (fun w hG => ?_) (fun w hG => rPrint_no c hc hr w)
      have := Print_no c hc hr w hG
      unfold Cro.prt at this
      rw [if_neg hr] at this
      exact this
  refine all.mono ?_
  rintro e W' ⟨rfl, hg⟩
  exact ⟨rfl, grown_below hg⟩
end Go.Proofs.YthjfecniipifhaaDoor
