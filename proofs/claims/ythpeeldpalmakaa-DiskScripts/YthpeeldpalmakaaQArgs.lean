/- Scripts that came in. -/
import Derived.Test.YthpeeldpalmakaaQCrashAll
import Derived.Test.YthpeeldpalmakaaRows
import Derived.ProofKit
import Derived.OpenShut
import Derived.ChangeOld
import Derived.Deep.Slices
import Derived.Deep.Strs
import Derived.SizedLaws
namespace Go.Proofs.Ythpeeldpalmakaa
open Go.ChangeShapes Go.WideShapes Go.ChangeAt Go.RowKit Dsk
set_option linter.unusedVariables false
set_option maxRecDepth 100000

/-- One of a script: the slice v reads as the bytes b. -/
structure Dd where
  kd : Int
  nm : ByteArray
  v : Value
  b : List UInt8
  keep : Int
  torn : Int
def rch : Nat := 140737488351232
theorem cellsDo : Try.prog.cellsOf 33 = 5 := by kernel_rfl
theorem cellsI : Try.prog.cellsOf 3 = 1 := by kernel_rfl
theorem cellsS : Try.prog.cellsOf 9 = 1 := by kernel_rfl
theorem cellsB : Try.prog.cellsOf 31 = 1 := by kernel_rfl
theorem rch_is : reachBytes = rch := by decide
theorem i64_of {x : Int} (h : (Lit.int .i64 x).wf = true) : -9223372036854775808 ≤ x ∧ x ≤ 9223372036854775807 := by
  have := bounds_i64 h
  omega
theorem bytes_rx {H : Type} {enc : TypeId × Value → H} {W : World} {base : Nat} {spare : Nat → Bool} {held : Bool} {fuel : Nat} {cs : List Value} {x : DataW H × List MemPlace}
    (h : DataW.trod enc Try.prog W base spare held fuel 31 cs = some x) (hz : ∀ n ∈ x.1.weights Try.prog 31, n ≤ reachBytes) : ∃ v b, cs = [v] ∧ eB.Rx W v b ∧ b.length ≤ rch := by
  rcases open_ints Try.underlying31 Try.underlying5 (by kernel_rfl) h with ⟨hcs, hx⟩ | ⟨a, len, cap, zs, hcs, _, hl, hm, hzl, hx, hcell, hwz⟩
  · exact ⟨_, [], hcs, .inl ⟨rfl, rfl⟩, Nat.zero_le _⟩
  · have hlen : len ≤ zs.length := by rw [hzl]; split <;> omega
    have hbl : (zs.take len).length = len := by rw [List.length_take]; omega
    refine ⟨_, (zs.take len).map fun z => UInt8.ofNat z.toNat, hcs, .inr ⟨a, cap, by rw [List.length_map, hbl], ?_, fun t u hu => ?_⟩, ?_⟩
    · by_cases h0 : len = 0
      · exact .inl (by subst h0; simp)
      · obtain ⟨b, off, rfl, _⟩ := Go.ints_at hcell (by omega)
        exact .inr rfl
    · have ht : t < len := by
        have := (List.getElem?_eq_some_iff.1 hu).1
        rw [Elm.cells_len, List.length_map, hbl] at this
        have e : eB.size = 1 := rfl
        rw [e] at this
        omega
      have hgt : ((zs.take len).map fun z => UInt8.ofNat z.toNat)[t]? = some (UInt8.ofNat (zs.getD t 0).toNat) := by
        rw [List.getElem?_map, List.getElem?_take_of_lt ht, List.getElem?_eq_getElem (by omega)]
        simp [List.getD, show t < zs.length by omega]
      have h1 := Elm.cells_at eB hgt 0 (by decide)
      have e : eB.size = 1 := rfl
      rw [e, Nat.mul_one, Nat.add_zero, hu] at h1
      injection h1 with h1
      rw [h1, hcell t (by omega)]
      have hb := bounds_u8 (hwz (zs.getD t 0) (by simp [List.getD, show t < zs.length by omega]))
      have : ((UInt8.ofNat (zs.getD t 0).toNat).toNat : Int) = zs.getD t 0 := by
        rw [UInt8.toNat_ofNat_of_lt' (by show _ < 256; omega)]
        omega
      rw [this]
    · rw [List.length_map, hbl]
      rw [hx] at hz
      have h2 := hz ((lits .u8 (zs.take len)).length + (lits .u8 (zs.drop len)).length) (by
        unfold DataW.weights
        rw [Try.underlying31]
        simp only [show Try.prog.bytesOf 5 = 1 by kernel_rfl, Nat.mul_one]
        exact List.mem_cons_self)
      rw [rch_is] at h2
      simp [lits] at h2
      omega
theorem weights_all {H : Type} {P : Program} {e : TypeId} : ∀ {l : List (DataW H)} {d : DataW H}, d ∈ l → ∀ n ∈ d.weights P e, n ∈ DataW.weightsAll P e l
  | [], _, h, _, _ => by simp at h
  | x :: l, d, h, n, hn => by
    unfold DataW.weightsAll
    rcases List.mem_cons.1 h with rfl | h
    · exact List.mem_append.2 (.inl hn)
    · exact List.mem_append.2 (.inr (weights_all h n hn))
/-- One of a script, in memory. -/
structure DoAt (W : World) (g q : Nat) (o : Dd) : Prop where
  c0 : W.cell? ⟨g, q, none⟩ = some (.int .i64 o.kd)
  c1 : W.cell? ⟨g, q + 1, none⟩ = some (.string o.nm)
  c2 : W.cell? ⟨g, q + 2, none⟩ = some o.v
  c3 : W.cell? ⟨g, q + 3, none⟩ = some (.int .i64 o.keep)
  c4 : W.cell? ⟨g, q + 4, none⟩ = some (.int .i64 o.torn)
  rx : eB.Rx W o.v o.b
  hb : o.b.length ≤ 140737488351232
  hn : o.nm.size ≤ 140737488351232
  hk : o.keep ≤ 9223372036854775807
theorem do_cells {H : Type} {enc : TypeId × Value → H} {W : World} {base : Nat} {spare : Nat → Bool} {held : Bool} {fuel : Nat} {cs : List Value} {x : DataW H × List MemPlace}
    (h : DataW.trod enc Try.prog W base spare held fuel 33 cs = some x) (hz : ∀ n ∈ x.1.weights Try.prog 33, n ≤ reachBytes) :
    ∃ o : Dd, cs = [.int .i64 o.kd, .string o.nm, o.v, .int .i64 o.keep, .int .i64 o.torn] ∧ eB.Rx W o.v o.b ∧ o.b.length ≤ rch ∧ o.nm.size ≤ rch ∧ o.keep ≤ 9223372036854775807 := by
  obtain ⟨xs, n, _, hx, hl, hlen, hf⟩ := DataW.trod_struct Try.underlying33 h
  have hl5 : cs.length = 5 := by
    have : cs.length = Try.prog.cellsOf 33 := hl
    rw [cellsDo] at this
    exact this
  have len5 : xs.length = 5 := hlen
  match cs, hl5, xs, len5 with
  | [c0, c1, c2, c3, c4], _, [x0, x1, x2, x3, x4], _ =>
    have h0 : DataW.trod enc Try.prog W base spare held n 3 (([c0, c1, c2, c3, c4].drop 0).take (Try.prog.cellsOf 3)) = some x0 := hf 0 _ rfl
    have h1 : DataW.trod enc Try.prog W base spare held n 9 (([c0, c1, c2, c3, c4].drop 1).take (Try.prog.cellsOf 9)) = some x1 := hf 1 _ rfl
    have h2 : DataW.trod enc Try.prog W base spare held n 31 (([c0, c1, c2, c3, c4].drop 2).take (Try.prog.cellsOf 31)) = some x2 := hf 2 _ rfl
    have h3 : DataW.trod enc Try.prog W base spare held n 3 (([c0, c1, c2, c3, c4].drop 3).take (Try.prog.cellsOf 3)) = some x3 := hf 3 _ rfl
    have h4 : DataW.trod enc Try.prog W base spare held n 3 (([c0, c1, c2, c3, c4].drop 4).take (Try.prog.cellsOf 3)) = some x4 := hf 4 _ rfl
    simp only [cellsI, cellsS, cellsB, List.drop_zero, List.drop_succ_cons, List.take_succ_cons, List.take_zero] at h0 h1 h2 h3 h4
    have wt : ∀ (j : Nat) (t : TypeId) (d : DataW H), [3, 9, 31, 3, 3][j]? = some t → [x0.1, x1.1, x2.1, x3.1, x4.1][j]? = some d → ∀ n ∈ d.weights Try.prog t, n ≤ reachBytes := fun j t d ht hd n hn => by
      refine hz n ?_
      rw [hx]
      unfold DataW.weights
      rw [Try.underlying33]
      exact DataW.weights_mem_each ht hd n hn
    obtain ⟨kd, e0, _, _⟩ := DataW.trod_int Try.underlying3 h0
    obtain ⟨s, e1, y1, _⟩ := DataW.trod_string Try.underlying9 h1
    obtain ⟨v, b, e2, hrx, hbl⟩ := bytes_rx h2 (wt 2 _ _ rfl rfl)
    obtain ⟨kp, e3, _, w3⟩ := DataW.trod_int Try.underlying3 h3
    obtain ⟨tn, e4, _, _⟩ := DataW.trod_int Try.underlying3 h4
    have hs := wt 1 _ _ rfl rfl s.data.toList.length (by rw [y1]; unfold DataW.weights; simp)
    refine ⟨⟨kd, s, v, b, kp, tn⟩, ?_, hrx, hbl, by rw [rch_is] at hs; rw [size_list]; exact hs, (i64_of w3).2⟩
    simp at e0 e1 e2 e3 e4
    rw [e0, e1, e2, e3, e4]
/-- A script that came in. -/
def Sc (W : World) (v : Value) (os : List Dd) : Prop := ∃ a c, v = .slice a os.length c ∧ os.length ≤ 9223372036854775807 ∧ ∀ (i : Nat) (o : Dd), os[i]? = some o → ∃ g q, (∀ W', (Instr.indexAt 22 v (.int .i64 (i : Int))).run Try.prog W' = .ok (.pointer (some ⟨g, q, none⟩)) W') ∧ DoAt W g q o
theorem open_do {H : Type} {enc : TypeId × Value → H} {W : World} {r : Reach} {base : Nat} {v : Value} {d : DataW H} {p : List MemPlace}
    (hv : Value.okWide Try.prog W r base 22 v) (h : DataW.Trod enc Try.prog W 0 (fun _ => true) true 22 v d p) (hz : ∀ n ∈ d.weights Try.prog 22, n ≤ reachBytes) : ∃ os, Sc W v os := by
  obtain ⟨a, len, cap, rfl⟩ := okWide_slice Try.underlying22 hv
  obtain ⟨fuel, hf⟩ := h
  rcases Go.Deep.open_slice Try.underlying22 hf with ⟨hcs, hx⟩ | ⟨x, l, c, m, n, D, Pl, hcs, hb, hl, hm, hmm, hx, hall⟩
  · simp [Value.cells] at hcs
    obtain ⟨rfl, rfl, rfl⟩ := hcs
    exact ⟨[], none, 0, rfl, by simp, fun i o ho => by simp at ho⟩
  · simp [Value.cells] at hcs
    obtain ⟨rfl, rfl, rfl⟩ := hcs
    have hm' : cap ≤ 9223372036854775807 := hm
    have hlm : len ≤ m := by rw [hmm]; simp; exact hl
    have each : ∀ i, i < len → ∃ o : Dd, W.cell? (x.add (i * 5)) = some (.int .i64 o.kd) ∧ W.cell? (x.add (i * 5 + 1)) = some (.string o.nm) ∧ W.cell? (x.add (i * 5 + 2)) = some o.v ∧ W.cell? (x.add (i * 5 + 3)) = some (.int .i64 o.keep) ∧ W.cell? (x.add (i * 5 + 4)) = some (.int .i64 o.torn) ∧ eB.Rx W o.v o.b ∧ o.b.length ≤ rch ∧ o.nm.size ≤ rch ∧ o.keep ≤ 9223372036854775807 := by
      intro i hi
      obtain ⟨cs', h1, h2⟩ := hall i (by omega)
      rw [cellsDo] at h1
      obtain ⟨o, rfl, k1, k2, k3, k4⟩ := do_cells h2 (fun n hn => hz n (by
        have : d = .slice ((List.range len).map D) ((List.range (m - len)).map fun j => D (len + j)) := congrArg Prod.fst hx
        rw [this]
        unfold DataW.weights
        rw [Try.underlying22]
        exact List.mem_cons_of_mem _ (List.mem_append.2 (.inl (weights_all (List.mem_map.2 ⟨i, List.mem_range.2 hi, rfl⟩) n hn)))))
      obtain ⟨_, hlen, hcell⟩ := World.cells?_some h1
      refine ⟨o, ?_, ?_, ?_, ?_, ?_, k1, k2, k3, k4⟩
      · have := hcell 0 (by simp); rw [Go.Deep.add_add] at this; simpa using this
      · have := hcell 1 (by simp); rw [Go.Deep.add_add] at this; simpa using this
      · have := hcell 2 (by simp); rw [Go.Deep.add_add] at this; simpa using this
      · have := hcell 3 (by simp); rw [Go.Deep.add_add] at this; simpa using this
      · have := hcell 4 (by simp); rw [Go.Deep.add_add] at this; simpa using this
    have hinh : Inhabited Dd := ⟨⟨0, ⟨#[]⟩, .slice none 0 0, [], 0, 0⟩⟩
    obtain ⟨F, hF⟩ := Go.Deep.choose_lt each
    refine ⟨(List.range len).map F, some x, cap, by simp, by simp; omega, fun i o ho => ?_⟩
    have hi : i < len := by have := (List.getElem?_eq_some_iff.1 ho).1; simpa using this
    have ho' : F i = o := by simpa [hi] using ho
    obtain ⟨b, off, spot⟩ := x
    obtain ⟨s0, _⟩ := hF 0 (by omega)
    have hspot : spot = none := by simpa [Addr.add] using World.cell?_spot s0
    subst hspot
    obtain ⟨g0, g1, g2, g3, g4, k1, k2, k3, k4⟩ := hF i hi
    rw [Addr.add_lit] at g0 g1 g2 g3 g4
    rw [ho'] at g0 g1 g2 g3 g4 k1 k2 k3 k4
    refine ⟨b, off + i * 5, fun W' => ?_, g0, by rw [Nat.add_assoc]; exact g1, by rw [Nat.add_assoc]; exact g2, by rw [Nat.add_assoc]; exact g3, by rw [Nat.add_assoc]; exact g4, k1, k2, k3, k4⟩
    rw [run_indexAt_slice (P := Try.prog) W' 22 ⟨b, off, none⟩ len cap .i64 (i : Int) (by kernel_rfl), if_pos ⟨by omega, by omega⟩, show Try.prog.elem 22 = 33 by kernel_rfl, Try.sizeOf33 W']
    show Result.ok (Value.pointer (some ((⟨b, off, none⟩ : Addr).add ((i : Int).toNat * 5)))) W' = _
    rw [Addr.add_lit]
    simp
end Go.Proofs.Ythpeeldpalmakaa
