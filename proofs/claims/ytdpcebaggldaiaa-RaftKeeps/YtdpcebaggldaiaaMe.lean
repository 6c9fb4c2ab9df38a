/- Nodes that came in. Messages that came in. -/
import Derived.Test.YtdpcebaggldaiaaGRight
import Derived.Test.YtdpcebaggldaiaaGTakes
import Derived.Test.YtdpcebaggldaiaaRows
import Derived.ProofKit
import Derived.OpenShut
import Derived.ChangeOld
import Derived.Deep.Slices
import Derived.SizedLaws
import Derived.Deep.SlicePairs
namespace Go.Proofs.Ytdpcebaggldaiaa
open Go.ChangeShapes Go.WideShapes Go.ChangeAt Go.RowKit Trl
open Rft (Nd Mg)
set_option linter.unusedVariables false
set_option maxRecDepth 100000

def rch : Nat := 140737488351232
theorem rch_is : reachBytes = rch := by decide
theorem bytesE : Try.prog.bytesOf 34 = 24 := by kernel_rfl
theorem list_of {α : Type} {Q : Nat → α → Prop} : ∀ n, (∀ i, i < n → ∃ a, Q i a) → ∃ l : List α, l.length = n ∧ ∀ i a, l[i]? = some a → Q i a
  | 0, _ => ⟨[], rfl, fun i a h => by simp at h⟩
  | n + 1, h => by
    obtain ⟨l, h1, h2⟩ := list_of n fun i hi => h i (by omega)
    obtain ⟨a, ha⟩ := h n (by omega)
    refine ⟨l ++ [a], by simp [h1], fun i b hb => ?_⟩
    by_cases hi : i < n
    · rw [List.getElem?_append_left (by omega)] at hb
      exact h2 i b hb
    · rw [List.getElem?_append_right (by omega)] at hb
      by_cases e : i = n
      · subst e; simp [h1] at hb; subst hb; exact ha
      · rw [List.getElem?_eq_none (by simp; omega)] at hb; cases hb
/-- Entries that came in. -/
def Te (W : World) (v : Value) (l : List En) : Prop := Sl W v l ∧ l.length * 24 ≤ 140737488351232
theorem es_cells {H : Type} {enc : TypeId × Value → H} {W : World} {base : Nat} {held : Bool} {fuel : Nat} {v : Value} {x : DataW H × List MemPlace}
    (h : DataW.trod enc Try.prog W base (fun _ => true) held fuel 23 [v] = some x) (hz : ∀ n ∈ x.1.weights Try.prog 23, n ≤ reachBytes) : ∃ l, Te W v l := by
  rcases Go.Deep.open_slice_pairs Try.underlying23 Try.underlying34 (by kernel_rfl) rfl rfl (by kernel_rfl) (by kernel_rfl) h with ⟨hcs, hx⟩ | ⟨a, len, cap, m, n, V0, V1, D0, D1, P0, P1, hcs, _, hl, hm, hmm, hx, hc⟩
  · injection hcs with hcs _
    subst hcs
    exact ⟨[], Sl.nil W, by simp⟩
  · injection hcs with hcs _
    subst hcs
    have hmc : m = cap := by simpa using hmm
    have hm' : cap ≤ 9223372036854775807 := hm
    obtain ⟨L, hL, hQ⟩ := list_of (Q := fun i (a : En) => V0 i = .int .i64 a.1 ∧ V1 i = .string a.2) len fun i hi => by
      obtain ⟨_, _, t0, t1⟩ := hc i (by omega)
      obtain ⟨y0, e0, _, w0⟩ := DataW.trod_int Try.underlying2 t0
      obtain ⟨y1, e1, _, w1⟩ := DataW.trod_string Try.underlying9 t1
      simp at e0 e1
      exact ⟨(y0, y1), e0, e1⟩
    have hwt : len * 24 ≤ 140737488351232 := by
      have hd : x.1 = .slice ((List.range len).map fun i => .agg [D0 i, D1 i]) ((List.range (m - len)).map fun j => .agg [D0 (len + j), D1 (len + j)]) := congrArg Prod.fst hx
      have h1 := hz ((((List.range len).map fun i => (.agg [D0 i, D1 i] : DataW H)).length + ((List.range (m - len)).map fun j => (.agg [D0 (len + j), D1 (len + j)] : DataW H)).length) * Try.prog.bytesOf 34) (by rw [hd]; simp [DataW.weights, Try.underlying23])
      rw [rch_is, bytesE] at h1
      have h3 : rch = 140737488351232 := rfl
      rw [h3] at h1
      simp at h1
      omega
    refine ⟨L, ⟨some a, cap, by rw [hL], by omega, hm', .inr ⟨a, cap, by rw [hL], ?_, fun t u hu => ?_⟩⟩, by rw [hL]; exact hwt⟩
    · by_cases h0 : len = 0
      · exact .inl (List.eq_nil_of_length_eq_zero (by omega))
      · have hc0 := (hc 0 (by omega)).1
        obtain ⟨b, off, sp⟩ := a
        have hsp : sp = none := by
          cases sp with
          | none => rfl
          | some s =>
            simp [World.cell?, Addr.add] at hc0
            split at hc0 <;> cases hc0
        exact .inr hsp
    · have ht : t < len * 2 := by
        have := (List.getElem?_eq_some_iff.1 hu).1
        rw [Elm.cells_len, hL] at this
        exact this
      obtain ⟨y, hy⟩ : ∃ a, L[t / 2]? = some a := ⟨_, List.getElem?_eq_getElem (by omega)⟩
      have h1 := Elm.cells_at eE hy (t % 2) (Nat.mod_lt _ (by decide))
      have e : t / 2 * eE.size + t % 2 = t := by show t / 2 * 2 + t % 2 = t; omega
      rw [e, hu] at h1
      obtain ⟨q0, q1⟩ := hQ _ y hy
      obtain ⟨k0, k1, _, _⟩ := hc (t / 2) (by omega)
      rcases Nat.mod_two_eq_zero_or_one t with h0 | h0
      · rw [h0] at h1
        have : u = .int .i64 y.1 := by injection h1
        rw [this, ← q0, ← k0]
        congr 2
        omega
      · rw [h0] at h1
        have : u = .string y.2 := by injection h1
        rw [this, ← q1, ← k1]
        congr 2
        omega
theorem bytesK : Try.prog.bytesOf 3 = 8 := by kernel_rfl
theorem intsK_cells {H : Type} {enc : TypeId × Value → H} {W : World} {base : Nat} {held : Bool} {fuel : Nat} {v : Value} {x : DataW H × List MemPlace}
    (h : DataW.trod enc Try.prog W base (fun _ => true) held fuel 22 [v] = some x) (hz : ∀ n ∈ x.1.weights Try.prog 22, n ≤ reachBytes) : ∃ (l : List Int) (s : S3), v = .slice s.a s.n s.c ∧ eK.Rx W (.slice s.a s.n s.c) l ∧ s.n = l.length ∧ l.length * 8 ≤ 140737488351232 ∧ s.n ≤ s.c ∧ s.c ≤ 9223372036854775807 := by
  rcases open_ints Try.underlying22 Try.underlying3 (by kernel_rfl) h with ⟨hcs, hx⟩ | ⟨y, len, cap, zs, hcs, _, hl, hm, hzl, hx, hcell, hwz⟩
  · injection hcs with hcs _
    subst hcs
    exact ⟨[], ⟨none, 0, 0⟩, rfl, .inl ⟨rfl, rfl⟩, rfl, by simp, Nat.le_refl _, by simp⟩
  · injection hcs with hcs _
    subst hcs
    have hm' : cap ≤ 9223372036854775807 := hm
    have hlen : len ≤ zs.length := by rw [hzl]; split <;> omega
    have hbl : (zs.take len).length = len := by rw [List.length_take]; omega
    have hwt : len * 8 ≤ 140737488351232 := by
      have hd : x.1 = .slice (lits .i64 (zs.take len)) (lits .i64 (zs.drop len)) := congrArg Prod.fst hx
      have h1 := hz (((lits (H := H) .i64 (zs.take len)).length + (lits (H := H) .i64 (zs.drop len)).length) * Try.prog.bytesOf 3) (by rw [hd]; simp [DataW.weights, Try.underlying22])
      rw [rch_is, bytesK] at h1
      have h2 : (lits (H := H) .i64 (zs.take len)).length = len := by simp [lits]; omega
      have h3 : rch = 140737488351232 := rfl
      rw [h2, h3] at h1
      omega
    refine ⟨zs.take len, ⟨some y, len, cap⟩, rfl, .inr ⟨y, cap, by rw [hbl], ?_, fun t u hu => ?_⟩, hbl.symm, by rw [hbl]; exact hwt, hl, hm'⟩
    · by_cases h0 : len = 0
      · exact .inl (by subst h0; simp)
      · obtain ⟨b, off, rfl, _⟩ := Go.ints_at hcell (by omega)
        exact .inr rfl
    · have ht : t < len := by
        have := (List.getElem?_eq_some_iff.1 hu).1
        rw [Elm.cells_len, hbl] at this
        have e : eK.size = 1 := rfl
        rw [e] at this
        omega
      have hgt : (zs.take len)[t]? = some (zs.getD t 0) := by
        rw [List.getElem?_take_of_lt ht, List.getElem?_eq_getElem (by omega)]
        simp [List.getD, show t < zs.length by omega]
      have h1 := Elm.cells_at eK hgt 0 (by decide)
      have e : eK.size = 1 := rfl
      rw [e, Nat.mul_one, Nat.add_zero, hu] at h1
      injection h1 with h1
      rw [h1, hcell t (by omega)]
theorem bytesN : Try.prog.bytesOf 2 = 8 := by kernel_rfl
theorem intsN_cells {H : Type} {enc : TypeId × Value → H} {W : World} {base : Nat} {held : Bool} {fuel : Nat} {v : Value} {x : DataW H × List MemPlace}
    (h : DataW.trod enc Try.prog W base (fun _ => true) held fuel 26 [v] = some x) (hz : ∀ n ∈ x.1.weights Try.prog 26, n ≤ reachBytes) : ∃ (l : List Int) (s : S3), v = .slice s.a s.n s.c ∧ eN.Rx W (.slice s.a s.n s.c) l ∧ s.n = l.length ∧ l.length * 8 ≤ 140737488351232 ∧ s.n ≤ s.c ∧ s.c ≤ 9223372036854775807 := by
  rcases open_ints Try.underlying26 Try.underlying2 (by kernel_rfl) h with ⟨hcs, hx⟩ | ⟨y, len, cap, zs, hcs, _, hl, hm, hzl, hx, hcell, hwz⟩
  · injection hcs with hcs _
    subst hcs
    exact ⟨[], ⟨none, 0, 0⟩, rfl, .inl ⟨rfl, rfl⟩, rfl, by simp, Nat.le_refl _, by simp⟩
  · injection hcs with hcs _
    subst hcs
    have hm' : cap ≤ 9223372036854775807 := hm
    have hlen : len ≤ zs.length := by rw [hzl]; split <;> omega
    have hbl : (zs.take len).length = len := by rw [List.length_take]; omega
    have hwt : len * 8 ≤ 140737488351232 := by
      have hd : x.1 = .slice (lits .i64 (zs.take len)) (lits .i64 (zs.drop len)) := congrArg Prod.fst hx
      have h1 := hz (((lits (H := H) .i64 (zs.take len)).length + (lits (H := H) .i64 (zs.drop len)).length) * Try.prog.bytesOf 2) (by rw [hd]; simp [DataW.weights, Try.underlying26])
      rw [rch_is, bytesN] at h1
      have h2 : (lits (H := H) .i64 (zs.take len)).length = len := by simp [lits]; omega
      have h3 : rch = 140737488351232 := rfl
      rw [h2, h3] at h1
      omega
    refine ⟨zs.take len, ⟨some y, len, cap⟩, rfl, .inr ⟨y, cap, by rw [hbl], ?_, fun t u hu => ?_⟩, hbl.symm, by rw [hbl]; exact hwt, hl, hm'⟩
    · by_cases h0 : len = 0
      · exact .inl (by subst h0; simp)
      · obtain ⟨b, off, rfl, _⟩ := Go.ints_at hcell (by omega)
        exact .inr rfl
    · have ht : t < len := by
        have := (List.getElem?_eq_some_iff.1 hu).1
        rw [Elm.cells_len, hbl] at this
        have e : eN.size = 1 := rfl
        rw [e] at this
        omega
      have hgt : (zs.take len)[t]? = some (zs.getD t 0) := by
        rw [List.getElem?_take_of_lt ht, List.getElem?_eq_getElem (by omega)]
        simp [List.getD, show t < zs.length by omega]
      have h1 := Elm.cells_at eN hgt 0 (by decide)
      have e : eN.size = 1 := rfl
      rw [e, Nat.mul_one, Nat.add_zero, hu] at h1
      injection h1 with h1
      rw [h1, hcell t (by omega)]
theorem cki_ : Try.prog.cellsOf 22 = 1 := by kernel_rfl
theorem cni_ : Try.prog.cellsOf 26 = 1 := by kernel_rfl
theorem ci_ : Try.prog.cellsOf 3 = 1 := by kernel_rfl
theorem cn_ : Try.prog.cellsOf 2 = 1 := by kernel_rfl
theorem ctr_ : Try.prog.cellsOf 25 = 3 := by kernel_rfl
theorem cst_ : Try.prog.cellsOf 9 = 1 := by kernel_rfl
theorem ces_ : Try.prog.cellsOf 23 = 1 := by kernel_rfl
theorem craft_ : Try.prog.cellsOf 28 = 16 := by kernel_rfl
/-- A node that came in. -/
theorem open_raft {H : Type} {enc : TypeId × Value → H} {W : World} {r : Reach} {base : Nat} {v : Value} {d : DataW H} {p : List MemPlace}
    (hv : Value.okWide Try.prog W r base 28 v) (h : DataW.Trod enc Try.prog W 0 (fun _ => true) true 28 v d p) (hz : ∀ n ∈ d.weights Try.prog 28, n ≤ reachBytes) : ∃ (n : Nd) (V : Sv), v = nv n V ∧ Rdn W n V := by
  obtain ⟨cs, rfl, _⟩ := okWide_struct Try.underlying28 hv
  obtain ⟨fuel, hf⟩ := h
  obtain ⟨xs, n, _, hx, hl, hlen, hf⟩ := DataW.trod_struct Try.underlying28 hf
  have hl3 : cs.toList.length = 16 := by
    have : (Value.agg cs).cells.toList.length = Try.prog.cellsOf 28 := hl
    rw [craft_] at this
    exact this
  have len3 : xs.length = 14 := hlen
  obtain ⟨cs⟩ := cs
  match cs, hl3, xs, len3 with
  | [c0, c1, c2, c3, c4, c5, c6, c7, c8, c9, c10, c11, c12, c13, c14, c15], _, [x0, x1, x2, x3, x4, x5, x6, x7, x8, x9, x10, x11, x12, x13], _ =>
    have h0 : DataW.trod enc Try.prog W 0 (fun _ => true) true n 3 (([c0, c1, c2, c3, c4, c5, c6, c7, c8, c9, c10, c11, c12, c13, c14, c15].drop 0).take (Try.prog.cellsOf 3)) = some x0 := hf 0 _ rfl
    have h1 : DataW.trod enc Try.prog W 0 (fun _ => true) true n 22 (([c0, c1, c2, c3, c4, c5, c6, c7, c8, c9, c10, c11, c12, c13, c14, c15].drop 1).take (Try.prog.cellsOf 22)) = some x1 := hf 1 _ rfl
    have h2 : DataW.trod enc Try.prog W 0 (fun _ => true) true n 2 (([c0, c1, c2, c3, c4, c5, c6, c7, c8, c9, c10, c11, c12, c13, c14, c15].drop 2).take (Try.prog.cellsOf 2)) = some x2 := hf 2 _ rfl
    have h3 : DataW.trod enc Try.prog W 0 (fun _ => true) true n 3 (([c0, c1, c2, c3, c4, c5, c6, c7, c8, c9, c10, c11, c12, c13, c14, c15].drop 3).take (Try.prog.cellsOf 3)) = some x3 := hf 3 _ rfl
    have h4 : DataW.trod enc Try.prog W 0 (fun _ => true) true n 3 (([c0, c1, c2, c3, c4, c5, c6, c7, c8, c9, c10, c11, c12, c13, c14, c15].drop 4).take (Try.prog.cellsOf 3)) = some x4 := hf 4 _ rfl
    have h5 : DataW.trod enc Try.prog W 0 (fun _ => true) true n 3 (([c0, c1, c2, c3, c4, c5, c6, c7, c8, c9, c10, c11, c12, c13, c14, c15].drop 5).take (Try.prog.cellsOf 3)) = some x5 := hf 5 _ rfl
    have h6 : DataW.trod enc Try.prog W 0 (fun _ => true) true n 25 (([c0, c1, c2, c3, c4, c5, c6, c7, c8, c9, c10, c11, c12, c13, c14, c15].drop 6).take (Try.prog.cellsOf 25)) = some x6 := hf 6 _ rfl
    have h7 : DataW.trod enc Try.prog W 0 (fun _ => true) true n 9 (([c0, c1, c2, c3, c4, c5, c6, c7, c8, c9, c10, c11, c12, c13, c14, c15].drop 9).take (Try.prog.cellsOf 9)) = some x7 := hf 7 _ rfl
    have h8 : DataW.trod enc Try.prog W 0 (fun _ => true) true n 2 (([c0, c1, c2, c3, c4, c5, c6, c7, c8, c9, c10, c11, c12, c13, c14, c15].drop 10).take (Try.prog.cellsOf 2)) = some x8 := hf 8 _ rfl
    have h9 : DataW.trod enc Try.prog W 0 (fun _ => true) true n 3 (([c0, c1, c2, c3, c4, c5, c6, c7, c8, c9, c10, c11, c12, c13, c14, c15].drop 11).take (Try.prog.cellsOf 3)) = some x9 := hf 9 _ rfl
    have h10 : DataW.trod enc Try.prog W 0 (fun _ => true) true n 3 (([c0, c1, c2, c3, c4, c5, c6, c7, c8, c9, c10, c11, c12, c13, c14, c15].drop 12).take (Try.prog.cellsOf 3)) = some x10 := hf 10 _ rfl
    have h11 : DataW.trod enc Try.prog W 0 (fun _ => true) true n 22 (([c0, c1, c2, c3, c4, c5, c6, c7, c8, c9, c10, c11, c12, c13, c14, c15].drop 13).take (Try.prog.cellsOf 22)) = some x11 := hf 11 _ rfl
    have h12 : DataW.trod enc Try.prog W 0 (fun _ => true) true n 26 (([c0, c1, c2, c3, c4, c5, c6, c7, c8, c9, c10, c11, c12, c13, c14, c15].drop 14).take (Try.prog.cellsOf 26)) = some x12 := hf 12 _ rfl
    have h13 : DataW.trod enc Try.prog W 0 (fun _ => true) true n 26 (([c0, c1, c2, c3, c4, c5, c6, c7, c8, c9, c10, c11, c12, c13, c14, c15].drop 15).take (Try.prog.cellsOf 26)) = some x13 := hf 13 _ rfl
    simp only [ci_, cn_, cki_, cni_, cst_, ctr_, List.drop_zero, List.drop_succ_cons, List.take_succ_cons, List.take_zero] at h0 h1 h2 h3 h4 h5 h6 h7 h8 h9 h10 h11 h12 h13
    have hd : d = .agg [x0.1, x1.1, x2.1, x3.1, x4.1, x5.1, x6.1, x7.1, x8.1, x9.1, x10.1, x11.1, x12.1, x13.1] := congrArg Prod.fst hx
    obtain ⟨y0, e0, _, w0⟩ := DataW.trod_int Try.underlying3 h0
    simp at e0
    obtain ⟨y1, s1, e1, rx1, nl1, b1, cap1⟩ := intsK_cells h1 (fun n hn => hz n (by rw [hd]; unfold DataW.weights; rw [Try.underlying28]; exact DataW.weights_mem_each (j := 1) (t := 22) rfl rfl n hn))
    obtain ⟨y2, e2, _, w2⟩ := DataW.trod_int Try.underlying2 h2
    simp at e2
    obtain ⟨y3, e3, _, w3⟩ := DataW.trod_int Try.underlying3 h3
    simp at e3
    obtain ⟨y4, e4, _, w4⟩ := DataW.trod_int Try.underlying3 h4
    simp at e4
    obtain ⟨y5, e5, _, w5⟩ := DataW.trod_int Try.underlying3 h5
    simp at e5
    have hz6 : ∀ n ∈ x6.1.weights Try.prog 25, n ≤ reachBytes := (fun n hn => hz n (by rw [hd]; unfold DataW.weights; rw [Try.underlying28]; exact DataW.weights_mem_each (j := 6) (t := 25) rfl rfl n hn))
    obtain ⟨zs, n6, _, hx6, hl6, hlen6, hf6⟩ := DataW.trod_struct Try.underlying25 h6
    have len6 : zs.length = 3 := hlen6
    match zs, len6 with
    | [z0, z1, z2], _ =>
    have k0 : DataW.trod enc Try.prog W 0 (fun _ => true) true n6 2 (([c6, c7, c8].drop 0).take (Try.prog.cellsOf 2)) = some z0 := hf6 0 _ rfl
    have k1 : DataW.trod enc Try.prog W 0 (fun _ => true) true n6 2 (([c6, c7, c8].drop 1).take (Try.prog.cellsOf 2)) = some z1 := hf6 1 _ rfl
    have k2 : DataW.trod enc Try.prog W 0 (fun _ => true) true n6 23 (([c6, c7, c8].drop 2).take (Try.prog.cellsOf 23)) = some z2 := hf6 2 _ rfl
    simp only [cn_, ces_, List.drop_zero, List.drop_succ_cons, List.take_succ_cons, List.take_zero] at k0 k1 k2
    obtain ⟨yb, eb, _, wb⟩ := DataW.trod_int Try.underlying2 k0
    obtain ⟨yk, ek, _, wk⟩ := DataW.trod_int Try.underlying2 k1
    simp at eb ek
    obtain ⟨ll, hll⟩ := es_cells k2 (fun n hn => hz6 n (by
      have hd6 : x6.1 = .agg [z0.1, z1.1, z2.1] := congrArg Prod.fst hx6
      rw [hd6]
      unfold DataW.weights
      rw [Try.underlying25]
      exact DataW.weights_mem_each (j := 2) (t := 23) rfl rfl n hn))
    obtain ⟨ea, ec, ee, _⟩ := id hll.1
    obtain ⟨y7, e7, _, w7⟩ := DataW.trod_string Try.underlying9 h7
    simp at e7
    obtain ⟨y8, e8, _, w8⟩ := DataW.trod_int Try.underlying2 h8
    simp at e8
    obtain ⟨y9, e9, _, w9⟩ := DataW.trod_int Try.underlying3 h9
    simp at e9
    obtain ⟨y10, e10, _, w10⟩ := DataW.trod_int Try.underlying3 h10
    simp at e10
    obtain ⟨y11, s11, e11, rx11, nl11, b11, cap11⟩ := intsK_cells h11 (fun n hn => hz n (by rw [hd]; unfold DataW.weights; rw [Try.underlying28]; exact DataW.weights_mem_each (j := 11) (t := 22) rfl rfl n hn))
    obtain ⟨y12, s12, e12, rx12, nl12, b12, cap12⟩ := intsN_cells h12 (fun n hn => hz n (by rw [hd]; unfold DataW.weights; rw [Try.underlying28]; exact DataW.weights_mem_each (j := 12) (t := 26) rfl rfl n hn))
    obtain ⟨y13, s13, e13, rx13, nl13, b13, cap13⟩ := intsN_cells h13 (fun n hn => hz n (by rw [hd]; unfold DataW.weights; rw [Try.underlying28]; exact DataW.weights_mem_each (j := 13) (t := 26) rfl rfl n hn))
    refine ⟨⟨y0, y1, y2, y3, y4, y5, yb, yk, ll, y7, y8, y9, y10, y11, y12, y13⟩, ⟨s1, ⟨ea, ll.length, ec⟩, s11, s12, s13⟩, ?_, ?_⟩
    · rw [e0, e1, e2, e3, e4, e5, eb, ek, ee, e7, e8, e9, e10, e11, e12, e13]
    · exact ⟨rx1, by rw [← ee]; exact hll.1, rx11, rx12, rx13, nl1, rfl, nl11, nl12, nl13, b1, hll.2, b11, b12, b13, cap11⟩
end Go.Proofs.Ytdpcebaggldaiaa
namespace Go.Proofs.Ytdpcebaggldaiaa
open Go.ChangeShapes Go.WideShapes Go.ChangeAt Go.RowKit Trl
open Rft (Nd Mg)
set_option linter.unusedVariables false
set_option maxRecDepth 100000

theorem weights_all {H : Type} {P : Program} {e : TypeId} : ∀ {l : List (DataW H)} {d : DataW H}, d ∈ l → ∀ n ∈ d.weights P e, n ∈ DataW.weightsAll P e l
  | [], _, h, _, _ => by simp at h
  | x :: l, d, h, n, hn => by
    unfold DataW.weightsAll
    rcases List.mem_cons.1 h with rfl | h
    · exact List.mem_append.2 (.inl hn)
    · exact List.mem_append.2 (.inr (weights_all h n hn))
theorem cbo_ : Try.prog.cellsOf 4 = 1 := by kernel_rfl
theorem cmsg_ : Try.prog.cellsOf 30 = 10 := by kernel_rfl
theorem msg_cells {H : Type} {enc : TypeId × Value → H} {W : World} {base : Nat} {held : Bool} {fuel : Nat} {cs : List Value} {x : DataW H × List MemPlace}
    (h : DataW.trod enc Try.prog W base (fun _ => true) held fuel 30 cs = some x) (hz : ∀ n ∈ x.1.weights Try.prog 30, n ≤ reachBytes) : ∃ (g : Mg) (u : S3), cs = mc (g, u) ∧ Rdm W g u := by
  obtain ⟨xs, n, _, hx, hl, hlen, hf⟩ := DataW.trod_struct Try.underlying30 h
  have hl6 : cs.length = 10 := by
    have : cs.length = Try.prog.cellsOf 30 := hl
    rw [cmsg_] at this
    exact this
  have len6 : xs.length = 10 := hlen
  match cs, hl6, xs, len6 with
  | [c0, c1, c2, c3, c4, c5, c6, c7, c8, c9], _, [x0, x1, x2, x3, x4, x5, x6, x7, x8, x9], _ =>
    have h0 : DataW.trod enc Try.prog W base (fun _ => true) held n 3 (([c0, c1, c2, c3, c4, c5, c6, c7, c8, c9].drop 0).take (Try.prog.cellsOf 3)) = some x0 := hf 0 _ rfl
    have h1 : DataW.trod enc Try.prog W base (fun _ => true) held n 3 (([c0, c1, c2, c3, c4, c5, c6, c7, c8, c9].drop 1).take (Try.prog.cellsOf 3)) = some x1 := hf 1 _ rfl
    have h2 : DataW.trod enc Try.prog W base (fun _ => true) held n 3 (([c0, c1, c2, c3, c4, c5, c6, c7, c8, c9].drop 2).take (Try.prog.cellsOf 3)) = some x2 := hf 2 _ rfl
    have h3 : DataW.trod enc Try.prog W base (fun _ => true) held n 2 (([c0, c1, c2, c3, c4, c5, c6, c7, c8, c9].drop 3).take (Try.prog.cellsOf 2)) = some x3 := hf 3 _ rfl
    have h4 : DataW.trod enc Try.prog W base (fun _ => true) held n 2 (([c0, c1, c2, c3, c4, c5, c6, c7, c8, c9].drop 4).take (Try.prog.cellsOf 2)) = some x4 := hf 4 _ rfl
    have h5 : DataW.trod enc Try.prog W base (fun _ => true) held n 2 (([c0, c1, c2, c3, c4, c5, c6, c7, c8, c9].drop 5).take (Try.prog.cellsOf 2)) = some x5 := hf 5 _ rfl
    have h6 : DataW.trod enc Try.prog W base (fun _ => true) held n 2 (([c0, c1, c2, c3, c4, c5, c6, c7, c8, c9].drop 6).take (Try.prog.cellsOf 2)) = some x6 := hf 6 _ rfl
    have h7 : DataW.trod enc Try.prog W base (fun _ => true) held n 4 (([c0, c1, c2, c3, c4, c5, c6, c7, c8, c9].drop 7).take (Try.prog.cellsOf 4)) = some x7 := hf 7 _ rfl
    have h8 : DataW.trod enc Try.prog W base (fun _ => true) held n 23 (([c0, c1, c2, c3, c4, c5, c6, c7, c8, c9].drop 8).take (Try.prog.cellsOf 23)) = some x8 := hf 8 _ rfl
    have h9 : DataW.trod enc Try.prog W base (fun _ => true) held n 9 (([c0, c1, c2, c3, c4, c5, c6, c7, c8, c9].drop 9).take (Try.prog.cellsOf 9)) = some x9 := hf 9 _ rfl
    simp only [ci_, cn_, cbo_, cst_, ces_, List.drop_zero, List.drop_succ_cons, List.take_succ_cons, List.take_zero] at h0 h1 h2 h3 h4 h5 h6 h7 h8 h9
    have hd : x.1 = .agg [x0.1, x1.1, x2.1, x3.1, x4.1, x5.1, x6.1, x7.1, x8.1, x9.1] := congrArg Prod.fst hx
    obtain ⟨y0, e0, _, w0⟩ := DataW.trod_int Try.underlying3 h0
    simp at e0
    obtain ⟨y1, e1, _, w1⟩ := DataW.trod_int Try.underlying3 h1
    simp at e1
    obtain ⟨y2, e2, _, w2⟩ := DataW.trod_int Try.underlying3 h2
    simp at e2
    obtain ⟨y3, e3, _, w3⟩ := DataW.trod_int Try.underlying2 h3
    simp at e3
    obtain ⟨y4, e4, _, w4⟩ := DataW.trod_int Try.underlying2 h4
    simp at e4
    obtain ⟨y5, e5, _, w5⟩ := DataW.trod_int Try.underlying2 h5
    simp at e5
    obtain ⟨y6, e6, _, w6⟩ := DataW.trod_int Try.underlying2 h6
    simp at e6
    obtain ⟨y7, e7, _⟩ := DataW.trod_bool Try.underlying4 h7
    simp at e7
    obtain ⟨y8, r8⟩ := es_cells h8 (fun n hn => hz n (by rw [hd]; unfold DataW.weights; rw [Try.underlying30]; exact DataW.weights_mem_each (j := 8) (t := 23) rfl rfl n hn))
    obtain ⟨ea, ec, ee, _⟩ := id r8.1
    obtain ⟨y9, e9, _, w9⟩ := DataW.trod_string Try.underlying9 h9
    simp at e9
    refine ⟨⟨y0, y1, y2, y3, y4, y5, y6, y7, y8, y9⟩, ⟨ea, y8.length, ec⟩, ?_, ?_⟩
    · rw [e0, e1, e2, e3, e4, e5, e6, e7, ee, e9]
    · exact ⟨by rw [← ee]; exact r8.1, rfl, r8.2⟩
/-- A message that came in. -/
theorem open_msg {H : Type} {enc : TypeId × Value → H} {W : World} {r : Reach} {base : Nat} {v : Value} {d : DataW H} {p : List MemPlace}
    (hv : Value.okWide Try.prog W r base 30 v) (h : DataW.Trod enc Try.prog W 0 (fun _ => true) true 30 v d p) (hz : ∀ n ∈ d.weights Try.prog 30, n ≤ reachBytes) : ∃ (g : Mg) (u : S3), v = mv g u ∧ Rdm W g u := by
  obtain ⟨cs, rfl, _⟩ := okWide_struct Try.underlying30 hv
  obtain ⟨fuel, hf⟩ := h
  obtain ⟨g, u, e, k⟩ := msg_cells hf hz
  refine ⟨g, u, ?_, k⟩
  obtain ⟨cs⟩ := cs
  have e' : cs = mc (g, u) := e
  rw [e']
/-- Messages that came in. -/
theorem open_msgs {H : Type} {enc : TypeId × Value → H} {W : World} {r : Reach} {base : Nat} {v : Value} {d : DataW H} {p : List MemPlace}
    (hv : Value.okWide Try.prog W r base 35 v) (h : DataW.Trod enc Try.prog W 0 (fun _ => true) true 35 v d p) (hz : ∀ n ∈ d.weights Try.prog 35, n ≤ reachBytes) :
    ∃ (s : S3) (X : List (Mg × S3)), v = .slice s.a s.n s.c ∧ eM.Rx W (.slice s.a s.n s.c) X ∧ s.n = X.length ∧ X.length ≤ 9223372036854775807 ∧ ∀ x ∈ X, Rdm W x.1 x.2 := by
  obtain ⟨a, len, cap, rfl⟩ := okWide_slice Try.underlying35 hv
  obtain ⟨fuel, hf⟩ := h
  rcases Go.Deep.open_slice Try.underlying35 hf with ⟨hcs, hx⟩ | ⟨x, l, c, m, n, D, Pl, hcs, hb, hl, hm, hmm, hx, hall⟩
  · simp [Value.cells] at hcs
    obtain ⟨rfl, rfl, rfl⟩ := hcs
    exact ⟨⟨none, 0, 0⟩, [], rfl, .inl ⟨rfl, rfl⟩, rfl, by simp, by simp⟩
  · simp [Value.cells] at hcs
    obtain ⟨rfl, rfl, rfl⟩ := hcs
    have hm' : cap ≤ 9223372036854775807 := hm
    have hlm : len ≤ m := by rw [hmm]; simp; exact hl
    obtain ⟨X, hX, hQ⟩ := list_of (Q := fun i (o : Mg × S3) => (∀ j, j < 10 → W.cell? (x.add (i * 10 + j)) = (mc o)[j]?) ∧ Rdm W o.1 o.2) len fun i hi => by
      obtain ⟨cs', h1, h2⟩ := hall i (by omega)
      rw [cmsg_] at h1
      obtain ⟨g, u, rfl, k1⟩ := msg_cells h2 (fun n hn => hz n (by
        have : d = .slice ((List.range len).map D) ((List.range (m - len)).map fun j => D (len + j)) := congrArg Prod.fst hx
        rw [this]
        unfold DataW.weights
        rw [Try.underlying35]
        exact List.mem_cons_of_mem _ (List.mem_append.2 (.inl (weights_all (List.mem_map.2 ⟨i, List.mem_range.2 hi, rfl⟩) n hn)))))
      obtain ⟨_, hlen, hcell⟩ := World.cells?_some h1
      refine ⟨(g, u), fun j hj => ?_, k1⟩
      have := hcell j (by simpa using hj)
      rw [Go.Deep.add_add] at this
      exact this
    have hspot : len = 0 ∨ x.spot = none := by
      by_cases h0 : len = 0
      · exact .inl h0
      · right
        obtain ⟨o, ho⟩ : ∃ o, X[0]? = some o := ⟨_, List.getElem?_eq_getElem (by omega)⟩
        have h1 := (hQ 0 o ho).1 0 (by omega)
        have h2 : (mc o)[0]? = some (.int .i64 o.1.kind) := rfl
        rw [h2] at h1
        simpa [Addr.add] using World.cell?_spot h1
    refine ⟨⟨some x, len, cap⟩, X, rfl, .inr ⟨x, cap, by rw [hX], ?_, fun t u hu => ?_⟩, hX.symm, by omega, fun o ho => ?_⟩
    · rcases hspot with e | e
      · exact .inl (List.eq_nil_of_length_eq_zero (by omega))
      · exact .inr e
    · have ht : t < X.length * 10 := by
        have := (List.getElem?_eq_some_iff.1 hu).1
        rw [Elm.cells_len] at this
        exact this
      obtain ⟨y, hy⟩ : ∃ a, X[t / 10]? = some a := ⟨_, List.getElem?_eq_getElem (by omega)⟩
      have h1 := Elm.cells_at eM hy (t % 10) (Nat.mod_lt _ (by decide))
      have e : t / 10 * eM.size + t % 10 = t := by show t / 10 * 10 + t % 10 = t; omega
      rw [e, hu] at h1
      have h2 := (hQ _ y hy).1 (t % 10) (Nat.mod_lt _ (by decide))
      rw [show t / 10 * 10 + t % 10 = t by omega] at h2
      rw [h2]
      exact h1.symm
    · obtain ⟨i, hi, e⟩ := List.getElem_of_mem ho
      exact (hQ i o (by rw [List.getElem?_eq_getElem hi, e])).2
end Go.Proofs.Ytdpcebaggldaiaa
