/- Scripts that came in. -/
import Derived.Test.YtijgekdhjfbgkaaWRefI
namespace Go.Proofs.Ytijgekdhjfbgkaa
open Go.ChangeShapes Go.WideShapes Go.ChangeAt Go.RowKit Whl
set_option linter.unusedVariables false
set_option maxRecDepth 100000

theorem cellsDo : Try.prog.cellsOf 35 = 4 := by kernel_rfl
theorem cellsI : Try.prog.cellsOf 3 = 1 := by kernel_rfl
theorem cellsI6 : Try.prog.cellsOf 2 = 1 := by kernel_rfl
theorem cellsIt : Try.prog.cellsOf 33 = 2 := by kernel_rfl
theorem do_cells {H : Type} {enc : TypeId × Value → H} {W : World} {base : Nat} {spare : Nat → Bool} {held : Bool} {fuel : Nat} {cs : List Value} {x : DataW H × List MemPlace}
    (h : DataW.trod enc Try.prog W base spare held fuel 35 cs = some x) : ∃ kd id at_ tt : Int, cs = [.int .i64 kd, .int .i64 id, .int .i64 at_, .int .i64 tt] ∧ I64 id := by
  obtain ⟨xs, n, _, hx, hl, hlen, hf⟩ := DataW.trod_struct Try.underlying35 h
  have hl4 : cs.length = 4 := by
    have : cs.length = Try.prog.cellsOf 35 := hl
    rw [cellsDo] at this
    exact this
  match cs, hl4 with
  | [c0, c1, c2, c3], _ =>
    have h0 : DataW.trod enc Try.prog W base spare held n 3 (([c0, c1, c2, c3].drop 0).take (Try.prog.cellsOf 3)) = xs[0]? := hf 0 _ rfl
    have h1 : DataW.trod enc Try.prog W base spare held n 33 (([c0, c1, c2, c3].drop 1).take (Try.prog.cellsOf 33)) = xs[1]? := hf 1 _ rfl
    have h2 : DataW.trod enc Try.prog W base spare held n 2 (([c0, c1, c2, c3].drop 3).take (Try.prog.cellsOf 2)) = xs[2]? := hf 2 _ rfl
    have len3 : xs.length = 3 := hlen
    rw [List.getElem?_eq_getElem (by omega)] at h0 h1 h2
    simp only [cellsI, cellsI6, cellsIt, List.drop_zero, List.drop_succ_cons, List.take_succ_cons, List.take_zero] at h0 h1 h2
    obtain ⟨ys, m, _, hy, _, hlen2, hf2⟩ := DataW.trod_struct Try.underlying33 h1
    have g0 : DataW.trod enc Try.prog W base spare held m 3 (([c1, c2].drop 0).take (Try.prog.cellsOf 3)) = ys[0]? := hf2 0 _ rfl
    have g1 : DataW.trod enc Try.prog W base spare held m 2 (([c1, c2].drop 1).take (Try.prog.cellsOf 2)) = ys[1]? := hf2 1 _ rfl
    have len2 : ys.length = 2 := hlen2
    rw [List.getElem?_eq_getElem (by omega)] at g0 g1
    simp only [cellsI, cellsI6, List.drop_zero, List.drop_succ_cons, List.take_succ_cons, List.take_zero] at g0 g1
    obtain ⟨kd, e0, _, _⟩ := DataW.trod_int Try.underlying3 h0
    obtain ⟨id, e1, _, w1⟩ := DataW.trod_int Try.underlying3 g0
    obtain ⟨at_, e2, _, _⟩ := DataW.trod_int Try.underlying2 g1
    obtain ⟨tt, e3, _, _⟩ := DataW.trod_int Try.underlying2 h2
    refine ⟨kd, id, at_, tt, ?_, i64_of w1⟩
    simp at e0 e1 e2 e3
    rw [e0, e1, e2, e3]
/-- A script that came in. -/
def Rd (W : World) (v : Value) : Prop := ∃ a n c, v = .slice a n c ∧ n ≤ 9223372036854775807 ∧ ∀ i, i < n → ∃ (b o : Nat) (kd id at_ tt : Int), (∀ W', (Instr.indexAt 22 (.slice a n c) (.int .i64 (i : Int))).run Try.prog W' = .ok (.pointer (some ⟨b, o, none⟩)) W') ∧ W.cell? ⟨b, o, none⟩ = some (.int .i64 kd) ∧ W.cell? ⟨b, o + 1, none⟩ = some (.int .i64 id) ∧ W.cell? ⟨b, o + 2, none⟩ = some (.int .i64 at_) ∧ W.cell? ⟨b, o + 3, none⟩ = some (.int .i64 tt) ∧ I64 id
theorem open_do {H : Type} {enc : TypeId × Value → H} {W : World} {r : Reach} {base : Nat} {v : Value} {d : DataW H} {p : List MemPlace}
    (hv : Value.okWide Try.prog W r base 22 v) (h : DataW.Trod enc Try.prog W 0 (fun _ => true) true 22 v d p) : Rd W v := by
  obtain ⟨a, len, cap, rfl⟩ := okWide_slice Try.underlying22 hv
  obtain ⟨fuel, hf⟩ := h
  rcases Go.Deep.open_slice Try.underlying22 hf with ⟨hcs, hx⟩ | ⟨x, l, c, m, n, D, Pl, hcs, hb, hl, hm, hmm, hx, hall⟩
  · simp [Value.cells] at hcs
    obtain ⟨rfl, rfl, rfl⟩ := hcs
    exact ⟨none, 0, 0, rfl, by omega, fun i hi => by omega⟩
  · simp [Value.cells] at hcs
    obtain ⟨rfl, rfl, rfl⟩ := hcs
    have hm' : cap ≤ 9223372036854775807 := hm
    have hlm : len ≤ m := by rw [hmm]; simp; exact hl
    have each : ∀ i, i < len → ∃ kd id at_ tt : Int, W.cell? (x.add (i * 4)) = some (.int .i64 kd) ∧ W.cell? (x.add (i * 4 + 1)) = some (.int .i64 id) ∧ W.cell? (x.add (i * 4 + 2)) = some (.int .i64 at_) ∧ W.cell? (x.add (i * 4 + 3)) = some (.int .i64 tt) ∧ I64 id := by
      intro i hi
      obtain ⟨cs', h1, h2⟩ := hall i (by omega)
      rw [cellsDo] at h1
      obtain ⟨kd, id, at_, tt, rfl, hid⟩ := do_cells h2
      obtain ⟨_, hlen, hcell⟩ := World.cells?_some h1
      refine ⟨kd, id, at_, tt, ?_, ?_, ?_, ?_, hid⟩
      · have := hcell 0 (by simp); rw [Go.Deep.add_add] at this; simpa using this
      · have := hcell 1 (by simp); rw [Go.Deep.add_add] at this; simpa using this
      · have := hcell 2 (by simp); rw [Go.Deep.add_add] at this; simpa using this
      · have := hcell 3 (by simp); rw [Go.Deep.add_add] at this; simpa using this
    refine ⟨some x, len, cap, rfl, by omega, fun i hi => ?_⟩
    obtain ⟨b, off, spot⟩ := x
    obtain ⟨_, _, _, _, s0, _⟩ := each 0 (by omega)
    have hspot : spot = none := by simpa [Addr.add] using World.cell?_spot s0
    subst hspot
    obtain ⟨kd, id, at_, tt, g0, g1, g2, g3, hid⟩ := each i hi
    rw [Addr.add_lit] at g0 g1 g2 g3
    refine ⟨b, off + i * 4, kd, id, at_, tt, fun W' => ?_, g0, by rw [Nat.add_assoc]; exact g1, by rw [Nat.add_assoc]; exact g2, by rw [Nat.add_assoc]; exact g3, hid⟩
    rw [run_indexAt_slice (P := Try.prog) W' 22 ⟨b, off, none⟩ len cap .i64 (i : Int) (by kernel_rfl), if_pos ⟨by omega, by omega⟩, show Try.prog.elem 22 = 35 by kernel_rfl, Try.sizeOf35 W']
    show Result.ok (Value.pointer (some ((⟨b, off, none⟩ : Addr).add ((i : Int).toNat * 4)))) W' = _
    rw [Addr.add_lit]
    simp
end Go.Proofs.Ytijgekdhjfbgkaa
