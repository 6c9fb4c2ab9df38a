/- Writes that came in. -/
import Derived.Test.YtapdhkgeolcogaaGreatDoorGy
import Derived.ChangeArms
namespace Go.Proofs.YtapdhkgeolcogaaGreatDoor
open Go.ChangeShapes Go.WideShapes Go.ChangeAt Go.RowKit Dsk Lg
set_option linter.unusedVariables false
set_option maxRecDepth 100000

theorem cellsBo : Tryz.prog.cellsOf 4 = 1 := by kernel_rfl
theorem cellsWr : Tryz.prog.cellsOf 62 = 2 := by kernel_rfl
structure Wd where
  v : Value
  b : By
  sy : Bool
structure WrAt (W : World) (g q : Nat) (o : Wd) : Prop where
  c0 : W.cell? ⟨g, q, none⟩ = some o.v
  c1 : W.cell? ⟨g, q + 1, none⟩ = some (.bool o.sy)
  rx : eB.Rx W o.v o.b
  hb : o.b.length ≤ rch
theorem wr_cells {H : Type} {enc : TypeId × Value → H} {W : World} {base : Nat} {spare : Nat → Bool} {held : Bool} {fuel : Nat} {cs : List Value} {x : DataW H × List MemPlace}
    (h : DataW.trod enc Tryz.prog W base spare held fuel 62 cs = some x) (hz : ∀ n ∈ x.1.weights Tryz.prog 62, n ≤ reachBytes) :
    ∃ o : Wd, cs = [o.v, .bool o.sy] ∧ eB.Rx W o.v o.b ∧ o.b.length ≤ rch := by
  obtain ⟨xs, n, _, hx, hl, hlen, hf⟩ := DataW.trod_struct Tryz.underlying62 h
  have hl2 : cs.length = 2 := by
    have : cs.length = Tryz.prog.cellsOf 62 := hl
    rw [cellsWr] at this
    exact this
  have len2 : xs.length = 2 := hlen
  match cs, hl2, xs, len2 with
  | [c0, c1], _, [x0, x1], _ =>
    have h0 : DataW.trod enc Tryz.prog W base spare held n 39 (([c0, c1].drop 0).take (Tryz.prog.cellsOf 39)) = some x0 := hf 0 _ rfl
    have h1 : DataW.trod enc Tryz.prog W base spare held n 4 (([c0, c1].drop 1).take (Tryz.prog.cellsOf 4)) = some x1 := hf 1 _ rfl
    simp only [cellsB, cellsBo, List.drop_zero, List.drop_succ_cons, List.take_succ_cons, List.take_zero] at h0 h1
    have wt : ∀ (j : Nat) (t : TypeId) (d : DataW H), [39, 4][j]? = some t → [x0.1, x1.1][j]? = some d → ∀ n ∈ d.weights Tryz.prog t, n ≤ reachBytes := fun j t d ht hd n hn => by
      refine hz n ?_
      rw [hx]
      unfold DataW.weights
      rw [Tryz.underlying62]
      exact DataW.weights_mem_each ht hd n hn
    obtain ⟨v, b, e0, hrx, hbl⟩ := bytes_rx h0 (wt 0 _ _ rfl rfl)
    obtain ⟨sy, e1, _⟩ := DataW.trod_bool Tryz.underlying4 h1
    refine ⟨⟨v, b, sy⟩, ?_, hrx, hbl⟩
    simp at e0 e1
    rw [e0, e1]
/-- Writes that came in. -/
def Ws (W : World) (v : Value) (os : List Wd) : Prop := ∃ a c, v = .slice a os.length c ∧ os.length ≤ 9223372036854775807 ∧ ∀ (i : Nat) (o : Wd), os[i]? = some o → ∃ g q, (∀ W', (Instr.indexAt 60 v (.int .i64 (i : Int))).run Tryz.prog W' = .ok (.pointer (some ⟨g, q, none⟩)) W') ∧ WrAt W g q o
theorem open_write {H : Type} {enc : TypeId × Value → H} {W : World} {r : Reach} {base : Nat} {v : Value} {d : DataW H} {p : List MemPlace}
    (hv : Value.okWide Tryz.prog W r base 60 v) (h : DataW.Trod enc Tryz.prog W 0 (fun _ => true) true 60 v d p) (hz : ∀ n ∈ d.weights Tryz.prog 60, n ≤ reachBytes) : ∃ os, Ws W v os := by
  obtain ⟨a, len, cap, rfl⟩ := okWide_slice Tryz.underlying60 hv
  obtain ⟨fuel, hf⟩ := h
  rcases Go.Deep.open_slice Tryz.underlying60 hf with ⟨hcs, hx⟩ | ⟨x, l, c, m, n, D, Pl, hcs, hb, hl, hm, hmm, hx, hall⟩
  · simp [Value.cells] at hcs
    obtain ⟨rfl, rfl, rfl⟩ := hcs
    exact ⟨[], none, 0, rfl, by simp, fun i o ho => by simp at ho⟩
  · simp [Value.cells] at hcs
    obtain ⟨rfl, rfl, rfl⟩ := hcs
    have hm' : cap ≤ 9223372036854775807 := hm
    have hlm : len ≤ m := by rw [hmm]; simp; exact hl
    have each : ∀ i, i < len → ∃ o : Wd, W.cell? (x.add (i * 2)) = some o.v ∧ W.cell? (x.add (i * 2 + 1)) = some (.bool o.sy) ∧ eB.Rx W o.v o.b ∧ o.b.length ≤ rch := by
      intro i hi
      obtain ⟨cs', h1, h2⟩ := hall i (by omega)
      rw [cellsWr] at h1
      obtain ⟨o, rfl, k1⟩ := wr_cells h2 (fun n hn => hz n (by
        have : d = .slice ((List.range len).map D) ((List.range (m - len)).map fun j => D (len + j)) := congrArg Prod.fst hx
        rw [this]
        unfold DataW.weights
        rw [Tryz.underlying60]
        exact List.mem_cons_of_mem _ (List.mem_append.2 (.inl (weights_all (List.mem_map.2 ⟨i, List.mem_range.2 hi, rfl⟩) n hn)))))
      obtain ⟨_, hlen, hcell⟩ := World.cells?_some h1
      refine ⟨o, ?_, ?_, k1⟩
      · have := hcell 0 (by simp); rw [Go.Deep.add_add] at this; simpa using this
      · have := hcell 1 (by simp); rw [Go.Deep.add_add] at this; simpa using this
    have hinh : Inhabited Wd := ⟨⟨.slice none 0 0, [], false⟩⟩
    obtain ⟨F, hF⟩ := Go.Deep.choose_lt each
    refine ⟨(List.range len).map F, some x, cap, by simp, by simp; omega, fun i o ho => ?_⟩
    have hi : i < len := by have := (List.getElem?_eq_some_iff.1 ho).1; simpa using this
    have ho' : F i = o := by simpa [hi] using ho
    obtain ⟨b, off, spot⟩ := x
    obtain ⟨s0, _⟩ := hF 0 (by omega)
    have hspot : spot = none := by simpa [Addr.add] using World.cell?_spot s0
    subst hspot
    obtain ⟨g0, g1, k1, k2⟩ := hF i hi
    rw [Addr.add_lit] at g0 g1
    rw [ho'] at g0 g1 k1 k2
    refine ⟨b, off + i * 2, fun W' => ?_, g0, by rw [Nat.add_assoc]; exact g1, k1, k2⟩
    rw [run_indexAt_slice (P := Tryz.prog) W' 60 ⟨b, off, none⟩ len cap .i64 (i : Int) (by kernel_rfl), if_pos ⟨by omega, by omega⟩, show Tryz.prog.elem 60 = 62 by kernel_rfl, Tryz.sizeOf62 W']
    show Result.ok (Value.pointer (some ((⟨b, off, none⟩ : Addr).add ((i : Int).toNat * 2)))) W' = _
    rw [Addr.add_lit]
    simp
end Go.Proofs.YtapdhkgeolcogaaGreatDoor
