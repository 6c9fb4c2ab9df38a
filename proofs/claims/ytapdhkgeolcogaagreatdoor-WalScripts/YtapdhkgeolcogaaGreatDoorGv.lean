/- What came in: records, scripts; the program's variables. -/
import Derived.Test.YtapdhkgeolcogaaGreatDoorGu
import Derived.Test.YtapdhkgeolcogaaGreatDoorRows
import Derived.ProofKit
import Derived.OpenShut
import Derived.ChangeOld
import Derived.Deep.Slices
import Derived.Deep.Strs
import Derived.SizedLaws
import Derived.Stop.LaidErr
import Derived.Lib.LaidTab
namespace Go.Proofs.YtapdhkgeolcogaaGreatDoor
open Go.ChangeShapes Go.WideShapes Go.ChangeAt Go.RowKit Dsk Lg
set_option linter.unusedVariables false
set_option maxRecDepth 100000

def rch : Nat := 140737488351232
theorem cellsI : Tryz.prog.cellsOf 3 = 1 := by kernel_rfl
theorem cellsS : Tryz.prog.cellsOf 9 = 1 := by kernel_rfl
theorem cellsB : Tryz.prog.cellsOf 39 = 1 := by kernel_rfl
theorem cellsL : Tryz.prog.cellsOf 32 = 1 := by kernel_rfl
theorem rch_is : reachBytes = rch := by decide
theorem i64_of {x : Int} (h : (Lit.int .i64 x).wf = true) : -9223372036854775808 ≤ x ∧ x ≤ 9223372036854775807 := by
  have := bounds_i64 h
  omega
theorem bytes_rx {H : Type} {enc : TypeId × Value → H} {W : World} {base : Nat} {spare : Nat → Bool} {held : Bool} {fuel : Nat} {cs : List Value} {x : DataW H × List MemPlace}
    (h : DataW.trod enc Tryz.prog W base spare held fuel 39 cs = some x) (hz : ∀ n ∈ x.1.weights Tryz.prog 39, n ≤ reachBytes) : ∃ v b, cs = [v] ∧ eB.Rx W v b ∧ b.length ≤ rch := by
  rcases open_ints Tryz.underlying39 Tryz.underlying5 (by kernel_rfl) h with ⟨hcs, hx⟩ | ⟨a, len, cap, zs, hcs, _, hl, hm, hzl, hx, hcell, hwz⟩
  · exact ⟨_, [], hcs, .inl ⟨rfl, rfl⟩, Nat.zero_le _⟩
  · have hlen : len ≤ zs.length := by rw [hzl]; split <;> omega
    have hbl : (zs.take len).length = len := by rw [List.length_take]; omega
    refine ⟨_, (zs.take len).map fun z => UInt8.ofNat z.toNat, hcs, .inr ⟨a, cap, by rw [List.length_map, hbl], ?_, fun t u hu => ?_⟩, ?_⟩
    · by_cases h0 : len = 0
      · exact .inl (by subst h0; simp)
      · obtain ⟨b, off, rfl, _⟩ := Go.ints_at hcell (by omega)
        exact .inr rfl
    · have ht : t < len := by
        have := (List.getElem?_eq_some_iff.1 hu).1
        rw [Elm.cells_len, List.length_map, hbl] at this
        have e : eB.size = 1 := rfl
        rw [e] at this
        omega
      have hgt : ((zs.take len).map fun z => UInt8.ofNat z.toNat)[t]? = some (UInt8.ofNat (zs.getD t 0).toNat) := by
        rw [List.getElem?_map, List.getElem?_take_of_lt ht, List.getElem?_eq_getElem (by omega)]
        simp [List.getD, show t < zs.length by omega]
      have h1 := Elm.cells_at eB hgt 0 (by decide)
      have e : eB.size = 1 := rfl
      rw [e, Nat.mul_one, Nat.add_zero, hu] at h1
      injection h1 with h1
      rw [h1, hcell t (by omega)]
      have hb := bounds_u8 (hwz (zs.getD t 0) (by simp [List.getD, show t < zs.length by omega]))
      have : ((UInt8.ofNat (zs.getD t 0).toNat).toNat : Int) = zs.getD t 0 := by
        rw [UInt8.toNat_ofNat_of_lt' (by show _ < 256; omega)]
        omega
      rw [this]
    · rw [List.length_map, hbl]
      rw [hx] at hz
      have h2 := hz ((lits .u8 (zs.take len)).length + (lits .u8 (zs.drop len)).length) (by
        unfold DataW.weights
        rw [Tryz.underlying39]
        simp only [show Tryz.prog.bytesOf 5 = 1 by kernel_rfl, Nat.mul_one]
        exact List.mem_cons_self)
      rw [rch_is] at h2
      simp [lits] at h2
      omega
theorem weights_all {H : Type} {P : Program} {e : TypeId} : ∀ {l : List (DataW H)} {d : DataW H}, d ∈ l → ∀ n ∈ d.weights P e, n ∈ DataW.weightsAll P e l
  | [], _, h, _, _ => by simp at h
  | x :: l, d, h, n, hn => by
    unfold DataW.weightsAll
    rcases List.mem_cons.1 h with rfl | h
    · exact List.mem_append.2 (.inl hn)
    · exact List.mem_append.2 (.inr (weights_all h n hn))

/-- Records that came in. -/
theorem recs_rx {H : Type} {enc : TypeId × Value → H} {W : World} {base : Nat} {spare : Nat → Bool} {held : Bool} {fuel : Nat} {cs : List Value} {x : DataW H × List MemPlace}
    (h : DataW.trod enc Tryz.prog W base spare held fuel 32 cs = some x) (hz : ∀ n ∈ x.1.weights Tryz.prog 32, n ≤ reachBytes) : ∃ v ls, cs = [v] ∧ Rl W v ls (fun k => k < W.heap.size) ∧ (∀ l ∈ ls, l.length ≤ rch) ∧ ls.length ≤ 9223372036854775807 := by
  rcases Go.Deep.open_slice Tryz.underlying32 h with ⟨hcs, hx⟩ | ⟨a, len, cap, m, n, D, Pl, hcs, hb, hl, hm, hmm, hx, hall⟩
  · exact ⟨_, [], hcs, ⟨[], .inl ⟨rfl, rfl⟩, Each.nil _ _, by simp⟩, by simp, by simp⟩
  · have hlm : len ≤ m := by rw [hmm]; split <;> omega
    have each : ∀ i, i < len → ∃ q : S3 × By, W.cell? (a.add i) = some (sv q.1) ∧ eB.Rx W (sv q.1) q.2 ∧ q.2.length ≤ rch := by
      intro i hi
      obtain ⟨cs', h1, h2⟩ := hall i (by omega)
      rw [cellsB] at h1
      obtain ⟨v, b, rfl, k1, k2⟩ := bytes_rx h2 (fun n hn => hz n (by
        rw [hx]
        unfold DataW.weights
        rw [Tryz.underlying32]
        exact List.mem_cons_of_mem _ (List.mem_append.2 (.inl (weights_all (List.mem_map.2 ⟨i, List.mem_range.2 hi, rfl⟩) n hn)))))
      obtain ⟨_, hlen, hcell⟩ := World.cells?_some h1
      obtain ⟨ad, c, e⟩ := k1.form
      subst e
      have h3 := hcell 0 (by simp)
      rw [Go.Deep.add_add] at h3
      exact ⟨((ad, b.length, c), b), by simpa using h3, k1, k2⟩
    have hinh : Inhabited (S3 × By) := ⟨((none, 0, 0), [])⟩
    obtain ⟨G, hG⟩ := Go.Deep.choose_lt each
    have hspot : len = 0 ∨ a.spot = none := by
      by_cases h0 : len = 0
      · exact .inl h0
      · right
        obtain ⟨s0, _⟩ := hG 0 (by omega)
        have := World.cell?_spot s0
        obtain ⟨b, off, spot⟩ := a
        simpa [Addr.add] using this
    refine ⟨_, (List.range len).map fun i => (G i).2, hcs, ⟨(List.range len).map fun i => (G i).1, .inr ⟨a, cap, by simp, ?_, fun t u hu => ?_⟩, ⟨by simp, fun i p l hp hl => ?_⟩, ?_⟩, ?_, ?_⟩
    · rcases hspot with e | e
      · exact .inl (by subst e; rfl)
      · exact .inr e
    · have ht : t < len := by
        have := (List.getElem?_eq_some_iff.1 hu).1
        rw [Elm.cells_len, List.length_map, List.length_range] at this
        have e : eL.size = 1 := rfl
        rw [e] at this
        omega
      have hgt : ((List.range len).map fun i => (G i).1)[t]? = some (G t).1 := by simp [ht]
      have h1 := Elm.cells_at eL hgt 0 (by decide)
      have e : eL.size = 1 := rfl
      rw [e, Nat.mul_one, Nat.add_zero, hu] at h1
      injection h1 with h1
      rw [h1]
      exact (hG t ht).1
    · have hi : i < len := by have := (List.getElem?_eq_some_iff.1 hp).1; simpa using this
      have e1 : (G i).1 = p := by simpa [hi] using hp
      have e2 : (G i).2 = l := by simpa [hi] using hl
      obtain ⟨g1, g2, g3⟩ := hG i hi
      rw [e1, e2] at g2
      exact ⟨g2, fun h0 k hk => g2.lt h0 k hk⟩
    · intro hne k hk
      have h0 : 0 < len := by
        rcases Nat.eq_zero_or_pos len with e | e
        · exact absurd (by subst e; rfl) hne
        · exact e
      have := World.block_lt_of_cell? W _ (hG 0 h0).1
      have e : (a.add 0).block = a.block := by unfold Addr.add; split <;> rfl
      rw [e] at this
      injection hk with hk
      omega
    · intro l hl
      obtain ⟨i, hi, rfl⟩ := List.mem_map.1 hl
      exact (hG i (List.mem_range.1 hi)).2.2
    · simp
      have : cap ≤ 9223372036854775807 := hm
      omega
theorem open_recs {H : Type} {enc : TypeId × Value → H} {W : World} {r : Reach} {base : Nat} {v : Value} {d : DataW H} {p : List MemPlace}
    (hv : Value.okWide Tryz.prog W r base 32 v) (h : DataW.Trod enc Tryz.prog W 0 (fun _ => true) true 32 v d p) (hz : ∀ n ∈ d.weights Tryz.prog 32, n ≤ reachBytes) : ∃ ls, Rl W v ls (fun k => k < W.heap.size) ∧ (∀ l ∈ ls, l.length ≤ rch) ∧ ls.length ≤ 9223372036854775807 := by
  obtain ⟨a, len, cap, rfl⟩ := okWide_slice Tryz.underlying32 hv
  obtain ⟨fuel, hf⟩ := h
  obtain ⟨u, ls, e, h1, h2, h3⟩ := recs_rx hf hz
  simp [Value.cells] at e
  subst e
  exact ⟨ls, h1, h2, h3⟩
theorem open_bytes {H : Type} {enc : TypeId × Value → H} {W : World} {r : Reach} {base : Nat} {v : Value} {d : DataW H} {p : List MemPlace}
    (hv : Value.okWide Tryz.prog W r base 39 v) (h : DataW.Trod enc Tryz.prog W 0 (fun _ => true) true 39 v d p) (hz : ∀ n ∈ d.weights Tryz.prog 39, n ≤ reachBytes) : ∃ b, eB.Rx W v b ∧ b.length ≤ rch := by
  obtain ⟨a, len, cap, rfl⟩ := okWide_slice Tryz.underlying39 hv
  obtain ⟨fuel, hf⟩ := h
  obtain ⟨u, b, e, h1, h2⟩ := bytes_rx hf hz
  simp [Value.cells] at e
  subst e
  exact ⟨b, h1, h2⟩
/-- One of a script. -/
structure Dd where
  kd : Int
  v : Value
  b : By
  vs : Value
  ls : List By
  keep : Int
  torn : Int
  nm : ByteArray
/-- One of a script, in memory. -/
structure DoAt (W : World) (g q : Nat) (o : Dd) : Prop where
  c0 : W.cell? ⟨g, q, none⟩ = some (.int .i64 o.kd)
  c1 : W.cell? ⟨g, q + 1, none⟩ = some o.v
  c2 : W.cell? ⟨g, q + 2, none⟩ = some o.vs
  c3 : W.cell? ⟨g, q + 3, none⟩ = some (.int .i64 o.keep)
  c4 : W.cell? ⟨g, q + 4, none⟩ = some (.int .i64 o.torn)
  c5 : W.cell? ⟨g, q + 5, none⟩ = some (.string o.nm)
  rx : eB.Rx W o.v o.b
  hb : o.b.length ≤ rch
  rl : Rl W o.vs o.ls (fun k => k < W.heap.size)
  hl : ∀ l ∈ o.ls, l.length ≤ rch
  hll : o.ls.length ≤ 9223372036854775807
  hn : o.nm.size ≤ rch
  hk : o.keep ≤ 9223372036854775807
theorem cellsDo : Tryz.prog.cellsOf 41 = 6 := by kernel_rfl
def DoIs (W : World) (o : Dd) : Prop := eB.Rx W o.v o.b ∧ o.b.length ≤ rch ∧ Rl W o.vs o.ls (fun k => k < W.heap.size) ∧ (∀ l ∈ o.ls, l.length ≤ rch) ∧ o.ls.length ≤ 9223372036854775807 ∧ o.nm.size ≤ rch ∧ o.keep ≤ 9223372036854775807
theorem do_cells {H : Type} {enc : TypeId × Value → H} {W : World} {base : Nat} {spare : Nat → Bool} {held : Bool} {fuel : Nat} {cs : List Value} {x : DataW H × List MemPlace}
    (h : DataW.trod enc Tryz.prog W base spare held fuel 41 cs = some x) (hz : ∀ n ∈ x.1.weights Tryz.prog 41, n ≤ reachBytes) :
    ∃ o : Dd, cs = [.int .i64 o.kd, o.v, o.vs, .int .i64 o.keep, .int .i64 o.torn, .string o.nm] ∧ DoIs W o := by
  obtain ⟨xs, n, _, hx, hl, hlen, hf⟩ := DataW.trod_struct Tryz.underlying41 h
  have hl6 : cs.length = 6 := by
    have : cs.length = Tryz.prog.cellsOf 41 := hl
    rw [cellsDo] at this
    exact this
  have len6 : xs.length = 6 := hlen
  match cs, hl6, xs, len6 with
  | [c0, c1, c2, c3, c4, c5], _, [x0, x1, x2, x3, x4, x5], _ =>
    have h0 : DataW.trod enc Tryz.prog W base spare held n 3 (([c0, c1, c2, c3, c4, c5].drop 0).take (Tryz.prog.cellsOf 3)) = some x0 := hf 0 _ rfl
    have h1 : DataW.trod enc Tryz.prog W base spare held n 39 (([c0, c1, c2, c3, c4, c5].drop 1).take (Tryz.prog.cellsOf 39)) = some x1 := hf 1 _ rfl
    have h2 : DataW.trod enc Tryz.prog W base spare held n 32 (([c0, c1, c2, c3, c4, c5].drop 2).take (Tryz.prog.cellsOf 32)) = some x2 := hf 2 _ rfl
    have h3 : DataW.trod enc Tryz.prog W base spare held n 3 (([c0, c1, c2, c3, c4, c5].drop 3).take (Tryz.prog.cellsOf 3)) = some x3 := hf 3 _ rfl
    have h4 : DataW.trod enc Tryz.prog W base spare held n 3 (([c0, c1, c2, c3, c4, c5].drop 4).take (Tryz.prog.cellsOf 3)) = some x4 := hf 4 _ rfl
    have h5 : DataW.trod enc Tryz.prog W base spare held n 9 (([c0, c1, c2, c3, c4, c5].drop 5).take (Tryz.prog.cellsOf 9)) = some x5 := hf 5 _ rfl
    simp only [cellsI, cellsS, cellsB, cellsL, List.drop_zero, List.drop_succ_cons, List.take_succ_cons, List.take_zero] at h0 h1 h2 h3 h4 h5
    have wt : ∀ (j : Nat) (t : TypeId) (d : DataW H), [3, 39, 32, 3, 3, 9][j]? = some t → [x0.1, x1.1, x2.1, x3.1, x4.1, x5.1][j]? = some d → ∀ n ∈ d.weights Tryz.prog t, n ≤ reachBytes := fun j t d ht hd n hn => by
      refine hz n ?_
      rw [hx]
      unfold DataW.weights
      rw [Tryz.underlying41]
      exact DataW.weights_mem_each ht hd n hn
    obtain ⟨kd, e0, _, _⟩ := DataW.trod_int Tryz.underlying3 h0
    obtain ⟨v, b, e1, hrx, hbl⟩ := bytes_rx h1 (wt 1 _ _ rfl rfl)
    obtain ⟨vs, ls, e2, hrl, hll1, hll2⟩ := recs_rx h2 (wt 2 _ _ rfl rfl)
    obtain ⟨kp, e3, _, w3⟩ := DataW.trod_int Tryz.underlying3 h3
    obtain ⟨tn, e4, _, _⟩ := DataW.trod_int Tryz.underlying3 h4
    obtain ⟨s, e5, y5, _⟩ := DataW.trod_string Tryz.underlying9 h5
    have hs := wt 5 _ _ rfl rfl s.data.toList.length (by rw [y5]; unfold DataW.weights; simp)
    refine ⟨⟨kd, v, b, vs, ls, kp, tn, s⟩, ?_, hrx, hbl, hrl, hll1, hll2, by rw [rch_is] at hs; rw [size_list]; exact hs, (i64_of w3).2⟩
    simp at e0 e1 e2 e3 e4 e5
    rw [e0, e1, e2, e3, e4, e5]
/-- A script that came in. -/
def Sc (W : World) (v : Value) (os : List Dd) : Prop := ∃ a c, v = .slice a os.length c ∧ os.length ≤ 9223372036854775807 ∧ ∀ (i : Nat) (o : Dd), os[i]? = some o → ∃ g q, (∀ W', (Instr.indexAt 22 v (.int .i64 (i : Int))).run Tryz.prog W' = .ok (.pointer (some ⟨g, q, none⟩)) W') ∧ DoAt W g q o
theorem open_do {H : Type} {enc : TypeId × Value → H} {W : World} {r : Reach} {base : Nat} {v : Value} {d : DataW H} {p : List MemPlace}
    (hv : Value.okWide Tryz.prog W r base 22 v) (h : DataW.Trod enc Tryz.prog W 0 (fun _ => true) true 22 v d p) (hz : ∀ n ∈ d.weights Tryz.prog 22, n ≤ reachBytes) : ∃ os, Sc W v os := by
  obtain ⟨a, len, cap, rfl⟩ := okWide_slice Tryz.underlying22 hv
  obtain ⟨fuel, hf⟩ := h
  rcases Go.Deep.open_slice Tryz.underlying22 hf with ⟨hcs, hx⟩ | ⟨x, l, c, m, n, D, Pl, hcs, hb, hl, hm, hmm, hx, hall⟩
  · simp [Value.cells] at hcs
    obtain ⟨rfl, rfl, rfl⟩ := hcs
    exact ⟨[], none, 0, rfl, by simp, fun i o ho => by simp at ho⟩
  · simp [Value.cells] at hcs
    obtain ⟨rfl, rfl, rfl⟩ := hcs
    have hm' : cap ≤ 9223372036854775807 := hm
    have hlm : len ≤ m := by rw [hmm]; simp; exact hl
    have each : ∀ i, i < len → ∃ o : Dd, W.cell? (x.add (i * 6)) = some (.int .i64 o.kd) ∧ W.cell? (x.add (i * 6 + 1)) = some o.v ∧ W.cell? (x.add (i * 6 + 2)) = some o.vs ∧ W.cell? (x.add (i * 6 + 3)) = some (.int .i64 o.keep) ∧ W.cell? (x.add (i * 6 + 4)) = some (.int .i64 o.torn) ∧ W.cell? (x.add (i * 6 + 5)) = some (.string o.nm) ∧ DoIs W o := by
      intro i hi
      obtain ⟨cs', h1, h2⟩ := hall i (by omega)
      rw [cellsDo] at h1
      obtain ⟨o, rfl, k1⟩ := do_cells h2 (fun n hn => hz n (by
        have : d = .slice ((List.range len).map D) ((List.range (m - len)).map fun j => D (len + j)) := congrArg Prod.fst hx
        rw [this]
        unfold DataW.weights
        rw [Tryz.underlying22]
        exact List.mem_cons_of_mem _ (List.mem_append.2 (.inl (weights_all (List.mem_map.2 ⟨i, List.mem_range.2 hi, rfl⟩) n hn)))))
      obtain ⟨_, hlen, hcell⟩ := World.cells?_some h1
      refine ⟨o, ?_, ?_, ?_, ?_, ?_, ?_, k1⟩
      · have := hcell 0 (by simp); rw [Go.Deep.add_add] at this; simpa using this
      · have := hcell 1 (by simp); rw [Go.Deep.add_add] at this; simpa using this
      · have := hcell 2 (by simp); rw [Go.Deep.add_add] at this; simpa using this
      · have := hcell 3 (by simp); rw [Go.Deep.add_add] at this; simpa using this
      · have := hcell 4 (by simp); rw [Go.Deep.add_add] at this; simpa using this
      · have := hcell 5 (by simp); rw [Go.Deep.add_add] at this; simpa using this
    have hinh : Inhabited Dd := ⟨⟨0, .slice none 0 0, [], .slice none 0 0, [], 0, 0, ⟨#[]⟩⟩⟩
    obtain ⟨F, hF⟩ := Go.Deep.choose_lt each
    refine ⟨(List.range len).map F, some x, cap, by simp, by simp; omega, fun i o ho => ?_⟩
    have hi : i < len := by have := (List.getElem?_eq_some_iff.1 ho).1; simpa using this
    have ho' : F i = o := by simpa [hi] using ho
    obtain ⟨b, off, spot⟩ := x
    obtain ⟨s0, _⟩ := hF 0 (by omega)
    have hspot : spot = none := by simpa [Addr.add] using World.cell?_spot s0
    subst hspot
    obtain ⟨g0, g1, g2, g3, g4, g5, k1, k2, k3, k4, k5, k6, k7⟩ := hF i hi
    rw [Addr.add_lit] at g0 g1 g2 g3 g4 g5
    rw [ho'] at g0 g1 g2 g3 g4 g5 k1 k2 k3 k4 k5 k6 k7
    refine ⟨b, off + i * 6, fun W' => ?_, g0, by rw [Nat.add_assoc]; exact g1, by rw [Nat.add_assoc]; exact g2, by rw [Nat.add_assoc]; exact g3, by rw [Nat.add_assoc]; exact g4, by rw [Nat.add_assoc]; exact g5, k1, k2, k3, k4, k5, k6, k7⟩
    rw [run_indexAt_slice (P := Tryz.prog) W' 22 ⟨b, off, none⟩ len cap .i64 (i : Int) (by kernel_rfl), if_pos ⟨by omega, by omega⟩, show Tryz.prog.elem 22 = 41 by kernel_rfl, Tryz.sizeOf41 W']
    show Result.ok (Value.pointer (some ((⟨b, off, none⟩ : Addr).add ((i : Int).toNat * 6)))) W' = _
    rw [Addr.add_lit]
    simp

theorem gES : Tryz.prog.globalNamed "strconv.ErrSyntax" = some 1 := by kernel_rfl
theorem gEST : (Tryz.prog.globals[1]?).map (·.type) = some 147 := by kernel_rfl
theorem gER : Tryz.prog.globalNamed "strconv.ErrRange" = some 2 := by kernel_rfl
theorem gERT : (Tryz.prog.globals[2]?).map (·.type) = some 147 := by kernel_rfl
theorem cellsE : Tryz.prog.cellsOf 232 = 1 := by kernel_rfl
theorem gPT : (Tryz.prog.globals[0]?).map (·.type) = some 216 := by kernel_rfl
theorem starE : "*" ++ "errors.errorString" = "*errors.errorString" := by decide
theorem rowE (u : TypeId) (h : Tryz.prog.typeName? 3 u = some "*errors.errorString") : u = 230 :=
  typeName_ptr_named (nm := "errors.errorString") (by rw [starE]; kernel_rfl) (by kernel_rfl) (by decide) u (by rw [starE]; exact h)
theorem pow_is : (Rows.laid_internal_strconv_uint64pow10 : DataW Unit) = Lib.tabData .u64 Lib.pow10Tab := by kernel_rfl
/-- The variables out of the row's condition. -/
theorem gv_of {W : World} {l : List (String × DataW Unit)} (h : laidMet Tryz.prog l W) (hm : l = [("math/bits.deBruijn32tab", Rows.laid_math_bits_deBruijn32tab), ("math/bits.deBruijn64tab", Rows.laid_math_bits_deBruijn64tab), ("internal/strconv.uint64pow10", Rows.laid_internal_strconv_uint64pow10), ("strconv.ErrRange", Rows.laid_strconv_ErrRange), ("strconv.ErrSyntax", Rows.laid_strconv_ErrSyntax)]) (hs : W.ShapedOpen Tryz.prog) : Gv W := by
  subst hm
  have h2 := h.tail.tail
  have h3 := h2.tail
  have h4 := h3.tail
  rw [pow_is] at h2
  obtain ⟨a1, s1, hv1, -, -, -⟩ := laid_sentinel h3 gER gERT Tryz.underlying147 rowE Tryz.underlying230 Tryz.underlying232 rfl rfl Tryz.underlying9 cellsE cellsS
  obtain ⟨a0, s0, hv0, -, -, -⟩ := laid_sentinel h4 gES gEST Tryz.underlying147 rowE Tryz.underlying230 Tryz.underlying232 rfl rfl Tryz.underlying9 cellsE cellsS
  refine ⟨Lib.tabIs_of_head gnum gPT Tryz.underlying216 Tryz.underlying81 (by kernel_rfl) (by kernel_rfl) h2, ⟨_, _, by have h0 := World.var?_cell gES hv0 0; simpa using h0⟩, ⟨_, _, by have h0 := World.var?_cell gER hv1 0; simpa using h0⟩⟩
end Go.Proofs.YtapdhkgeolcogaaGreatDoor
