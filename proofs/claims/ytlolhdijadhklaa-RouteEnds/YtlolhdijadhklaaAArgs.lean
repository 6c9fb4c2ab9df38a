/- Maps, plans and names that came in. -/
import Derived.Test.YtlolhdijadhklaaAJoin
import Derived.Test.YtlolhdijadhklaaAPlanB
import Derived.Test.YtlolhdijadhklaaRows
import Derived.ProofKit
import Derived.OpenShut
import Derived.ChangeOld
import Derived.Deep.Slices
import Derived.SizedLaws
namespace Go.Proofs.Ytlolhdijadhklaa
open Go.ChangeShapes Go.WideShapes Go.ChangeAt Go.RowKit Atl
set_option linter.unusedVariables false
set_option maxRecDepth 100000

def rch : Nat := 140737488351232
theorem rch_is : reachBytes = rch := by decide
theorem bytesS : Try.prog.bytesOf 29 = 56 := by kernel_rfl
theorem list_of {α : Type} {Q : Nat → α → Prop} : ∀ n, (∀ i, i < n → ∃ a, Q i a) → ∃ l : List α, l.length = n ∧ ∀ i a, l[i]? = some a → Q i a
  | 0, _ => ⟨[], rfl, fun i a h => by simp at h⟩
  | n + 1, h => by
    obtain ⟨l, h1, h2⟩ := list_of n fun i hi => h i (by omega)
    obtain ⟨a, ha⟩ := h n (by omega)
    refine ⟨l ++ [a], by simp [h1], fun i b hb => ?_⟩
    by_cases hi : i < n
    · rw [List.getElem?_append_left (by omega)] at hb
      exact h2 i b hb
    · rw [List.getElem?_append_right (by omega)] at hb
      by_cases e : i = n
      · subst e; simp [h1] at hb; subst hb; exact ha
      · rw [List.getElem?_eq_none (by simp; omega)] at hb; cases hb
theorem weights_all {H : Type} {P : Program} {e : TypeId} : ∀ {l : List (DataW H)} {d : DataW H}, d ∈ l → ∀ n ∈ d.weights P e, n ∈ DataW.weightsAll P e l
  | [], _, h, _, _ => by simp at h
  | x :: l, d, h, n, hn => by
    unfold DataW.weightsAll
    rcases List.mem_cons.1 h with rfl | h
    · exact List.mem_append.2 (.inl hn)
    · exact List.mem_append.2 (.inr (weights_all h n hn))
theorem cs_int : Try.prog.cellsOf 3 = 1 := by kernel_rfl
theorem cs_int64 : Try.prog.cellsOf 2 = 1 := by kernel_rfl
theorem cs_str : Try.prog.cellsOf 9 = 1 := by kernel_rfl
theorem cs_spans : Try.prog.cellsOf 22 = 1 := by kernel_rfl
theorem cs_span : Try.prog.cellsOf 29 = 5 := by kernel_rfl
theorem cs_plan : Try.prog.cellsOf 24 = 8 := by kernel_rfl
theorem cs_atlas : Try.prog.cellsOf 26 = 11 := by kernel_rfl
theorem sz_of {y : ByteArray} (h : y.data.toList.length ≤ rch) : y.size ≤ 140737488351232 := by rw [show y.size = y.data.toList.length by simp]; exact h
theorem span_cells {H : Type} {enc : TypeId × Value → H} {W : World} {base : Nat} {held : Bool} {fuel : Nat} {cs : List Value} {x : DataW H × List MemPlace}
    (h : DataW.trod enc Try.prog W base (fun _ => true) held fuel 29 cs = some x) (hz : ∀ n ∈ x.1.weights Try.prog 29, n ≤ reachBytes) : ∃ s : Sp, cs = sc s ∧ s.fr.size ≤ 140737488351232 ∧ s.up.size ≤ 140737488351232 := by
  obtain ⟨xs, n, _, hx, hl, hlen, hf⟩ := DataW.trod_struct Try.underlying29 h
  have hll : cs.length = 5 := by
    have : cs.length = Try.prog.cellsOf 29 := hl
    rw [cs_span] at this
    exact this
  have hxl : xs.length = 5 := hlen
  match cs, hll, xs, hxl with
  | [c0, c1, c2, c3, c4], _, [x0, x1, x2, x3, x4], _ =>
    have h0 : DataW.trod enc Try.prog W base (fun _ => true) held n 9 (([c0, c1, c2, c3, c4].drop 0).take (Try.prog.cellsOf 9)) = some x0 := hf 0 _ rfl
    have h1 : DataW.trod enc Try.prog W base (fun _ => true) held n 9 (([c0, c1, c2, c3, c4].drop 1).take (Try.prog.cellsOf 9)) = some x1 := hf 1 _ rfl
    have h2 : DataW.trod enc Try.prog W base (fun _ => true) held n 3 (([c0, c1, c2, c3, c4].drop 2).take (Try.prog.cellsOf 3)) = some x2 := hf 2 _ rfl
    have h3 : DataW.trod enc Try.prog W base (fun _ => true) held n 2 (([c0, c1, c2, c3, c4].drop 3).take (Try.prog.cellsOf 2)) = some x3 := hf 3 _ rfl
    have h4 : DataW.trod enc Try.prog W base (fun _ => true) held n 3 (([c0, c1, c2, c3, c4].drop 4).take (Try.prog.cellsOf 3)) = some x4 := hf 4 _ rfl
    simp only [cs_int, cs_int64, cs_str, List.drop_zero, List.drop_succ_cons, List.take_succ_cons, List.take_zero] at h0 h1 h2 h3 h4
    have wt : ∀ (j : Nat) (t : TypeId) (d : DataW H), [9, 9, 3, 2, 3][j]? = some t → [x0.1, x1.1, x2.1, x3.1, x4.1][j]? = some d → ∀ n ∈ d.weights Try.prog t, n ≤ reachBytes := fun j t d ht hd n hn => by
      refine hz n ?_
      rw [hx]
      unfold DataW.weights
      rw [Try.underlying29]
      exact DataW.weights_mem_each ht hd n hn
    obtain ⟨y0, e0, z0, _⟩ := DataW.trod_string Try.underlying9 h0
    obtain ⟨y1, e1, z1, _⟩ := DataW.trod_string Try.underlying9 h1
    obtain ⟨y2, e2, _, _⟩ := DataW.trod_int Try.underlying3 h2
    obtain ⟨y3, e3, _, _⟩ := DataW.trod_int Try.underlying2 h3
    obtain ⟨y4, e4, _, _⟩ := DataW.trod_int Try.underlying3 h4
    have s0 := wt 0 _ _ rfl rfl y0.data.toList.length (by rw [z0]; unfold DataW.weights; simp)
    have s1 := wt 1 _ _ rfl rfl y1.data.toList.length (by rw [z1]; unfold DataW.weights; simp)
    simp at e0 e1 e2 e3 e4
    rw [rch_is] at s0 s1
    exact ⟨⟨y0, y1, y2, y3, y4⟩, by rw [e0, e1, e2, e3, e4], sz_of s0, sz_of s1⟩
theorem spans_cells {H : Type} {enc : TypeId × Value → H} {W : World} {base : Nat} {held : Bool} {fuel : Nat} {v : Value} {x : DataW H × List MemPlace}
    (h : DataW.trod enc Try.prog W base (fun _ => true) held fuel 22 [v] = some x) (hz : ∀ n ∈ x.1.weights Try.prog 22, n ≤ reachBytes) : ∃ (u : S3) (l : List Sp), v = .slice u.a u.n u.c ∧ eS.Rx W (.slice u.a u.n u.c) l ∧ u.n = l.length ∧ l.length * 56 ≤ 140737488355328 ∧ Szl l := by
  rcases Go.Deep.open_slice Try.underlying22 h with ⟨hcs, hx⟩ | ⟨a, len, cap, m, n, D, Pl, hcs, hb, hl, hm, hmm, hx, hall⟩
  · injection hcs with hcs _
    subst hcs
    exact ⟨nil3, [], rfl, .inl ⟨rfl, rfl⟩, rfl, by simp, fun s hs => by simp at hs⟩
  · injection hcs with hcs _
    subst hcs
    have hm' : cap ≤ 9223372036854775807 := hm
    have hlm : len ≤ m := by rw [hmm]; split <;> omega
    have hd : x.1 = .slice ((List.range len).map D) ((List.range (m - len)).map fun j => D (len + j)) := congrArg Prod.fst hx
    obtain ⟨X, hX, hQ⟩ := list_of (Q := fun i (o : Sp) => (∀ j, j < 5 → W.cell? (a.add (i * 5 + j)) = (sc o)[j]?) ∧ o.fr.size ≤ 140737488351232 ∧ o.up.size ≤ 140737488351232) len fun i hi => by
      obtain ⟨cs', h1, h2⟩ := hall i (by omega)
      rw [cs_span] at h1
      obtain ⟨g, rfl, k1, k2⟩ := span_cells h2 (fun n hn => hz n (by
        rw [hd]
        unfold DataW.weights
        rw [Try.underlying22]
        exact List.mem_cons_of_mem _ (List.mem_append.2 (.inl (weights_all (List.mem_map.2 ⟨i, List.mem_range.2 hi, rfl⟩) n hn)))))
      obtain ⟨_, hlen, hcell⟩ := World.cells?_some h1
      refine ⟨g, fun j hj => ?_, k1, k2⟩
      have := hcell j (by simpa using hj)
      rw [Go.Deep.add_add] at this
      exact this
    have hwt : len * 56 ≤ 140737488351232 := by
      have h1 := hz ((((List.range len).map D).length + ((List.range (m - len)).map fun j => D (len + j)).length) * Try.prog.bytesOf 29) (by rw [hd]; simp [DataW.weights, Try.underlying22])
      rw [rch_is, bytesS] at h1
      have h3 : rch = 140737488351232 := rfl
      rw [h3] at h1
      simp at h1
      omega
    have hspot : len = 0 ∨ a.spot = none := by
      by_cases h0 : len = 0
      · exact .inl h0
      · right
        obtain ⟨o, ho⟩ : ∃ o, X[0]? = some o := ⟨_, List.getElem?_eq_getElem (by omega)⟩
        have h1 := (hQ 0 o ho).1 0 (by omega)
        have h2 : (sc o)[0]? = some (.string o.fr) := rfl
        rw [h2] at h1
        simpa [Addr.add] using World.cell?_spot h1
    refine ⟨⟨some a, len, cap⟩, X, rfl, .inr ⟨a, cap, by rw [hX], ?_, fun t u hu => ?_⟩, hX.symm, by rw [hX]; omega, fun s hs => ?_⟩
    · rcases hspot with e | e
      · exact .inl (List.eq_nil_of_length_eq_zero (by omega))
      · exact .inr e
    · have ht : t < X.length * 5 := by
        have := (List.getElem?_eq_some_iff.1 hu).1
        rw [Elm.cells_len] at this
        exact this
      obtain ⟨y, hy⟩ : ∃ a, X[t / 5]? = some a := ⟨_, List.getElem?_eq_getElem (by omega)⟩
      have h1 := Elm.cells_at eS hy (t % 5) (Nat.mod_lt _ (by decide))
      have e : t / 5 * eS.size + t % 5 = t := by show t / 5 * 5 + t % 5 = t; omega
      rw [e, hu] at h1
      have h2 := (hQ _ y hy).1 (t % 5) (Nat.mod_lt _ (by decide))
      rw [show t / 5 * 5 + t % 5 = t by omega] at h2
      rw [h2]
      exact h1.symm
    · obtain ⟨i, hi, e⟩ := List.getElem_of_mem hs
      exact (hQ i s (by rw [List.getElem?_eq_getElem hi, e])).2
theorem plan_cells {H : Type} {enc : TypeId × Value → H} {W : World} {base : Nat} {held : Bool} {fuel : Nat} {cs : List Value} {x : DataW H × List MemPlace}
    (h : DataW.trod enc Try.prog W base (fun _ => true) held fuel 24 cs = some x) (hz : ∀ n ∈ x.1.weights Try.prog 24, n ≤ reachBytes) : ∃ p : Pl, cs = pc p ∧ p.key.size ≤ 140737488351232 := by
  obtain ⟨xs, n, _, hx, hl, hlen, hf⟩ := DataW.trod_struct Try.underlying24 h
  have hll : cs.length = 8 := by
    have : cs.length = Try.prog.cellsOf 24 := hl
    rw [cs_plan] at this
    exact this
  have hxl : xs.length = 8 := hlen
  match cs, hll, xs, hxl with
  | [c0, c1, c2, c3, c4, c5, c6, c7], _, [x0, x1, x2, x3, x4, x5, x6, x7], _ =>
    have h0 : DataW.trod enc Try.prog W base (fun _ => true) held n 3 (([c0, c1, c2, c3, c4, c5, c6, c7].drop 0).take (Try.prog.cellsOf 3)) = some x0 := hf 0 _ rfl
    have h1 : DataW.trod enc Try.prog W base (fun _ => true) held n 3 (([c0, c1, c2, c3, c4, c5, c6, c7].drop 1).take (Try.prog.cellsOf 3)) = some x1 := hf 1 _ rfl
    have h2 : DataW.trod enc Try.prog W base (fun _ => true) held n 3 (([c0, c1, c2, c3, c4, c5, c6, c7].drop 2).take (Try.prog.cellsOf 3)) = some x2 := hf 2 _ rfl
    have h3 : DataW.trod enc Try.prog W base (fun _ => true) held n 3 (([c0, c1, c2, c3, c4, c5, c6, c7].drop 3).take (Try.prog.cellsOf 3)) = some x3 := hf 3 _ rfl
    have h4 : DataW.trod enc Try.prog W base (fun _ => true) held n 3 (([c0, c1, c2, c3, c4, c5, c6, c7].drop 4).take (Try.prog.cellsOf 3)) = some x4 := hf 4 _ rfl
    have h5 : DataW.trod enc Try.prog W base (fun _ => true) held n 3 (([c0, c1, c2, c3, c4, c5, c6, c7].drop 5).take (Try.prog.cellsOf 3)) = some x5 := hf 5 _ rfl
    have h6 : DataW.trod enc Try.prog W base (fun _ => true) held n 2 (([c0, c1, c2, c3, c4, c5, c6, c7].drop 6).take (Try.prog.cellsOf 2)) = some x6 := hf 6 _ rfl
    have h7 : DataW.trod enc Try.prog W base (fun _ => true) held n 9 (([c0, c1, c2, c3, c4, c5, c6, c7].drop 7).take (Try.prog.cellsOf 9)) = some x7 := hf 7 _ rfl
    simp only [cs_int, cs_int64, cs_str, List.drop_zero, List.drop_succ_cons, List.take_succ_cons, List.take_zero] at h0 h1 h2 h3 h4 h5 h6 h7
    have wt : ∀ (j : Nat) (t : TypeId) (d : DataW H), [3, 3, 3, 3, 3, 3, 2, 9][j]? = some t → [x0.1, x1.1, x2.1, x3.1, x4.1, x5.1, x6.1, x7.1][j]? = some d → ∀ n ∈ d.weights Try.prog t, n ≤ reachBytes := fun j t d ht hd n hn => by
      refine hz n ?_
      rw [hx]
      unfold DataW.weights
      rw [Try.underlying24]
      exact DataW.weights_mem_each ht hd n hn
    obtain ⟨y0, e0, _, _⟩ := DataW.trod_int Try.underlying3 h0
    obtain ⟨y1, e1, _, _⟩ := DataW.trod_int Try.underlying3 h1
    obtain ⟨y2, e2, _, _⟩ := DataW.trod_int Try.underlying3 h2
    obtain ⟨y3, e3, _, _⟩ := DataW.trod_int Try.underlying3 h3
    obtain ⟨y4, e4, _, _⟩ := DataW.trod_int Try.underlying3 h4
    obtain ⟨y5, e5, _, _⟩ := DataW.trod_int Try.underlying3 h5
    obtain ⟨y6, e6, _, _⟩ := DataW.trod_int Try.underlying2 h6
    obtain ⟨y7, e7, z7, _⟩ := DataW.trod_string Try.underlying9 h7
    have s7 := wt 7 _ _ rfl rfl y7.data.toList.length (by rw [z7]; unfold DataW.weights; simp)
    simp at e0 e1 e2 e3 e4 e5 e6 e7
    rw [rch_is] at s7
    exact ⟨⟨y0, y1, y2, y3, y4, y5, y6, y7⟩, by rw [e0, e1, e2, e3, e4, e5, e6, e7], sz_of s7⟩
theorem atlas_cells {H : Type} {enc : TypeId × Value → H} {W : World} {base : Nat} {held : Bool} {fuel : Nat} {cs : List Value} {x : DataW H × List MemPlace}
    (h : DataW.trod enc Try.prog W base (fun _ => true) held fuel 26 cs = some x) (hz : ∀ n ∈ x.1.weights Try.prog 26, n ≤ reachBytes) : ∃ (a : Am) (u : S3), cs = ac a u ∧ Rat W a u ∧ Szm a := by
  obtain ⟨xs, n, _, hx, hl, hlen, hf⟩ := DataW.trod_struct Try.underlying26 h
  have hll : cs.length = 11 := by
    have : cs.length = Try.prog.cellsOf 26 := hl
    rw [cs_atlas] at this
    exact this
  have hxl : xs.length = 4 := hlen
  match cs, hll, xs, hxl with
  | [c0, c1, c2, c3, c4, c5, c6, c7, c8, c9, c10], _, [x0, x1, x2, x3], _ =>
    have h0 : DataW.trod enc Try.prog W base (fun _ => true) held n 3 (([c0, c1, c2, c3, c4, c5, c6, c7, c8, c9, c10].drop 0).take (Try.prog.cellsOf 3)) = some x0 := hf 0 _ rfl
    have h1 : DataW.trod enc Try.prog W base (fun _ => true) held n 3 (([c0, c1, c2, c3, c4, c5, c6, c7, c8, c9, c10].drop 1).take (Try.prog.cellsOf 3)) = some x1 := hf 1 _ rfl
    have h2 : DataW.trod enc Try.prog W base (fun _ => true) held n 22 (([c0, c1, c2, c3, c4, c5, c6, c7, c8, c9, c10].drop 2).take (Try.prog.cellsOf 22)) = some x2 := hf 2 _ rfl
    have h3 : DataW.trod enc Try.prog W base (fun _ => true) held n 24 (([c0, c1, c2, c3, c4, c5, c6, c7, c8, c9, c10].drop 3).take (Try.prog.cellsOf 24)) = some x3 := hf 3 _ rfl
    simp only [cs_plan, cs_spans, cs_int, List.drop_zero, List.drop_succ_cons, List.take_succ_cons, List.take_zero] at h0 h1 h2 h3
    have wt : ∀ (j : Nat) (t : TypeId) (d : DataW H), [3, 3, 22, 24][j]? = some t → [x0.1, x1.1, x2.1, x3.1][j]? = some d → ∀ n ∈ d.weights Try.prog t, n ≤ reachBytes := fun j t d ht hd n hn => by
      refine hz n ?_
      rw [hx]
      unfold DataW.weights
      rw [Try.underlying26]
      exact DataW.weights_mem_each ht hd n hn
    obtain ⟨y0, e0, _, _⟩ := DataW.trod_int Try.underlying3 h0
    obtain ⟨y1, e1, _, _⟩ := DataW.trod_int Try.underlying3 h1
    obtain ⟨u, l, e2, r1, r2, r3, r4⟩ := spans_cells h2 (wt 2 _ _ rfl rfl)
    obtain ⟨p, e3, kp⟩ := plan_cells h3 (wt 3 _ _ rfl rfl)
    simp at e0 e1
    injection e3 with p0 p1
    injection p1 with p1 p2
    injection p2 with p2 p3
    injection p3 with p3 p4
    injection p4 with p4 p5
    injection p5 with p5 p6
    injection p6 with p6 p7
    injection p7 with p7 _
    exact ⟨⟨y0, y1, l, p⟩, u, by rw [e0, e1, e2, p0, p1, p2, p3, p4, p5, p6, p7], ⟨r1, r2, r3⟩, ⟨r4, kp⟩⟩
theorem open_plan {H : Type} {enc : TypeId × Value → H} {W : World} {r : Reach} {base : Nat} {v : Value} {d : DataW H} {p : List MemPlace}
    (hv : Value.okWide Try.prog W r base 24 v) (h : DataW.Trod enc Try.prog W 0 (fun _ => true) true 24 v d p) (hz : ∀ n ∈ d.weights Try.prog 24, n ≤ reachBytes) : ∃ p : Pl, v = pv p ∧ p.key.size ≤ 140737488351232 := by
  obtain ⟨cs, rfl, _⟩ := okWide_struct Try.underlying24 hv
  obtain ⟨fuel, hf⟩ := h
  obtain ⟨c, e, k⟩ := plan_cells hf hz
  refine ⟨c, ?_, k⟩
  obtain ⟨cs⟩ := cs
  have e' : cs = pc c := e
  rw [e']
theorem open_atlas {H : Type} {enc : TypeId × Value → H} {W : World} {r : Reach} {base : Nat} {v : Value} {d : DataW H} {p : List MemPlace}
    (hv : Value.okWide Try.prog W r base 26 v) (h : DataW.Trod enc Try.prog W 0 (fun _ => true) true 26 v d p) (hz : ∀ n ∈ d.weights Try.prog 26, n ≤ reachBytes) : ∃ (a : Am) (u : S3), v = av a u ∧ Rat W a u ∧ Szm a := by
  obtain ⟨cs, rfl, _⟩ := okWide_struct Try.underlying26 hv
  obtain ⟨fuel, hf⟩ := h
  obtain ⟨c, u, e, k1, k2⟩ := atlas_cells hf hz
  refine ⟨c, u, ?_, k1, k2⟩
  obtain ⟨cs⟩ := cs
  have e' : cs = ac c u := e
  rw [e']
theorem open_str {H : Type} {enc : TypeId × Value → H} {W : World} {r : Reach} {base : Nat} {v : Value} {d : DataW H} {p : List MemPlace}
    (hv : Value.okWide Try.prog W r base 9 v) (h : DataW.Trod enc Try.prog W 0 (fun _ => true) true 9 v d p) (hz : ∀ n ∈ d.weights Try.prog 9, n ≤ reachBytes) : ∃ k : ByteArray, v = .string k ∧ k.size ≤ 140737488351232 := by
  obtain ⟨k, rfl⟩ := okWide_string Try.underlying9 hv
  obtain ⟨fuel, hf⟩ := h
  obtain ⟨y, e, z, _⟩ := DataW.trod_string Try.underlying9 hf
  simp [Value.cells] at e
  subst e
  have s0 := hz k.data.toList.length (by injection z with z1 _; rw [z1]; unfold DataW.weights; simp)
  rw [rch_is] at s0
  exact ⟨k, rfl, sz_of s0⟩
end Go.Proofs.Ytlolhdijadhklaa
