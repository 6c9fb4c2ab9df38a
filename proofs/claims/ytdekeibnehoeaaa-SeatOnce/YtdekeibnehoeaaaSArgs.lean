/- Sessions that came in. -/
import Derived.Test.YtdekeibnehoeaaaSBase
import Derived.Test.YtdekeibnehoeaaaRows
import Derived.ProofKit
import Derived.OpenShut
import Derived.ChangeOld
import Derived.Deep.Slices
import Derived.SizedLaws
namespace Go.Proofs.Ytdekeibnehoeaaa
open Go.ChangeShapes Go.WideShapes Go.ChangeAt Go.RowKit Sea
set_option linter.unusedVariables false
set_option maxRecDepth 100000

def rch : Nat := 140737488351232
theorem rch_is : reachBytes = rch := by decide
theorem bytesJ : Try.prog.bytesOf 55 = 96 := by kernel_rfl
theorem list_of {α : Type} {Q : Nat → α → Prop} : ∀ n, (∀ i, i < n → ∃ a, Q i a) → ∃ l : List α, l.length = n ∧ ∀ i a, l[i]? = some a → Q i a
  | 0, _ => ⟨[], rfl, fun i a h => by simp at h⟩
  | n + 1, h => by
    obtain ⟨l, h1, h2⟩ := list_of n fun i hi => h i (by omega)
    obtain ⟨a, ha⟩ := h n (by omega)
    refine ⟨l ++ [a], by simp [h1], fun i b hb => ?_⟩
    by_cases hi : i < n
    · rw [List.getElem?_append_left (by omega)] at hb
      exact h2 i b hb
    · rw [List.getElem?_append_right (by omega)] at hb
      by_cases e : i = n
      · subst e; simp [h1] at hb; subst hb; exact ha
      · rw [List.getElem?_eq_none (by simp; omega)] at hb; cases hb
theorem weights_all {H : Type} {P : Program} {e : TypeId} : ∀ {l : List (DataW H)} {d : DataW H}, d ∈ l → ∀ n ∈ d.weights P e, n ∈ DataW.weightsAll P e l
  | [], _, h, _, _ => by simp at h
  | x :: l, d, h, n, hn => by
    unfold DataW.weightsAll
    rcases List.mem_cons.1 h with rfl | h
    · exact List.mem_append.2 (.inl hn)
    · exact List.mem_append.2 (.inr (weights_all h n hn))
theorem cs_int : Try.prog.cellsOf 3 = 1 := by kernel_rfl
theorem cs_int64 : Try.prog.cellsOf 2 = 1 := by kernel_rfl
theorem cs_bool : Try.prog.cellsOf 4 = 1 := by kernel_rfl
theorem cs_str : Try.prog.cellsOf 9 = 1 := by kernel_rfl
theorem cs_errno : Try.prog.cellsOf 23 = 1 := by kernel_rfl
theorem cs_jobs : Try.prog.cellsOf 24 = 1 := by kernel_rfl
theorem cs_job : Try.prog.cellsOf 55 = 8 := by kernel_rfl
theorem cs_res : Try.prog.cellsOf 26 = 3 := by kernel_rfl
theorem cs_seen : Try.prog.cellsOf 28 = 5 := by kernel_rfl
theorem job_cells {H : Type} {enc : TypeId × Value → H} {W : World} {base : Nat} {held : Bool} {fuel : Nat} {cs : List Value} {x : DataW H × List MemPlace}
    (h : DataW.trod enc Try.prog W base (fun _ => true) held fuel 55 cs = some x) : ∃ j : Jb, cs = jc j := by
  obtain ⟨xs, n, _, hx, hl, hlen, hf⟩ := DataW.trod_struct Try.underlying55 h
  have hl8 : cs.length = 8 := by
    have : cs.length = Try.prog.cellsOf 55 := hl
    rw [cs_job] at this
    exact this
  have len8 : xs.length = 8 := hlen
  match cs, hl8, xs, len8 with
  | [c0, c1, c2, c3, c4, c5, c6, c7], _, [x0, x1, x2, x3, x4, x5, x6, x7], _ =>
    have h0 : DataW.trod enc Try.prog W base (fun _ => true) held n 9 (([c0, c1, c2, c3, c4, c5, c6, c7].drop 0).take (Try.prog.cellsOf 9)) = some x0 := hf 0 _ rfl
    have h1 : DataW.trod enc Try.prog W base (fun _ => true) held n 9 (([c0, c1, c2, c3, c4, c5, c6, c7].drop 1).take (Try.prog.cellsOf 9)) = some x1 := hf 1 _ rfl
    have h2 : DataW.trod enc Try.prog W base (fun _ => true) held n 9 (([c0, c1, c2, c3, c4, c5, c6, c7].drop 2).take (Try.prog.cellsOf 9)) = some x2 := hf 2 _ rfl
    have h3 : DataW.trod enc Try.prog W base (fun _ => true) held n 9 (([c0, c1, c2, c3, c4, c5, c6, c7].drop 3).take (Try.prog.cellsOf 9)) = some x3 := hf 3 _ rfl
    have h4 : DataW.trod enc Try.prog W base (fun _ => true) held n 3 (([c0, c1, c2, c3, c4, c5, c6, c7].drop 4).take (Try.prog.cellsOf 3)) = some x4 := hf 4 _ rfl
    have h5 : DataW.trod enc Try.prog W base (fun _ => true) held n 2 (([c0, c1, c2, c3, c4, c5, c6, c7].drop 5).take (Try.prog.cellsOf 2)) = some x5 := hf 5 _ rfl
    have h6 : DataW.trod enc Try.prog W base (fun _ => true) held n 4 (([c0, c1, c2, c3, c4, c5, c6, c7].drop 6).take (Try.prog.cellsOf 4)) = some x6 := hf 6 _ rfl
    have h7 : DataW.trod enc Try.prog W base (fun _ => true) held n 2 (([c0, c1, c2, c3, c4, c5, c6, c7].drop 7).take (Try.prog.cellsOf 2)) = some x7 := hf 7 _ rfl
    simp only [cs_int, cs_int64, cs_bool, cs_str, List.drop_zero, List.drop_succ_cons, List.take_succ_cons, List.take_zero] at h0 h1 h2 h3 h4 h5 h6 h7
    obtain ⟨y0, e0, _, w0⟩ := DataW.trod_string Try.underlying9 h0
    simp at e0
    obtain ⟨y1, e1, _, w1⟩ := DataW.trod_string Try.underlying9 h1
    simp at e1
    obtain ⟨y2, e2, _, w2⟩ := DataW.trod_string Try.underlying9 h2
    simp at e2
    obtain ⟨y3, e3, _, w3⟩ := DataW.trod_string Try.underlying9 h3
    simp at e3
    obtain ⟨y4, e4, _, w4⟩ := DataW.trod_int Try.underlying3 h4
    simp at e4
    obtain ⟨y5, e5, _, w5⟩ := DataW.trod_int Try.underlying2 h5
    simp at e5
    obtain ⟨y6, e6, _⟩ := DataW.trod_bool Try.underlying4 h6
    simp at e6
    obtain ⟨y7, e7, _, w7⟩ := DataW.trod_int Try.underlying2 h7
    simp at e7
    exact ⟨⟨y0, y1, y2, y3, y4, y5, y6, y7⟩, by rw [e0, e1, e2, e3, e4, e5, e6, e7]⟩
theorem jobs_cells {H : Type} {enc : TypeId × Value → H} {W : World} {base : Nat} {held : Bool} {fuel : Nat} {v : Value} {x : DataW H × List MemPlace}
    (h : DataW.trod enc Try.prog W base (fun _ => true) held fuel 24 [v] = some x) (hz : ∀ n ∈ x.1.weights Try.prog 24, n ≤ reachBytes) : ∃ (u : S3) (l : List Jb), v = .slice u.a u.n u.c ∧ Rdj W u l := by
  rcases Go.Deep.open_slice Try.underlying24 h with ⟨hcs, hx⟩ | ⟨a, len, cap, m, n, D, Pl, hcs, hb, hl, hm, hmm, hx, hall⟩
  · injection hcs with hcs _
    subst hcs
    exact ⟨nil3, [], rfl, rdj_nil W⟩
  · injection hcs with hcs _
    subst hcs
    have hm' : cap ≤ 9223372036854775807 := hm
    have hlm : len ≤ m := by rw [hmm]; split <;> omega
    obtain ⟨X, hX, hQ⟩ := list_of (Q := fun i (o : Jb) => ∀ j, j < 8 → W.cell? (a.add (i * 8 + j)) = (jc o)[j]?) len fun i hi => by
      obtain ⟨cs', h1, h2⟩ := hall i (by omega)
      rw [cs_job] at h1
      obtain ⟨g, rfl⟩ := job_cells h2
      obtain ⟨_, hlen, hcell⟩ := World.cells?_some h1
      refine ⟨g, fun j hj => ?_⟩
      have := hcell j (by simpa using hj)
      rw [Go.Deep.add_add] at this
      exact this
    have hwt : len * 96 ≤ 140737488351232 := by
      have hd : x.1 = .slice ((List.range len).map D) ((List.range (m - len)).map fun j => D (len + j)) := congrArg Prod.fst hx
      have h1 := hz ((((List.range len).map D).length + ((List.range (m - len)).map fun j => D (len + j)).length) * Try.prog.bytesOf 55) (by rw [hd]; simp [DataW.weights, Try.underlying24])
      rw [rch_is, bytesJ] at h1
      have h3 : rch = 140737488351232 := rfl
      rw [h3] at h1
      simp at h1
      omega
    have hspot : len = 0 ∨ a.spot = none := by
      by_cases h0 : len = 0
      · exact .inl h0
      · right
        obtain ⟨o, ho⟩ : ∃ o, X[0]? = some o := ⟨_, List.getElem?_eq_getElem (by omega)⟩
        have h1 := hQ 0 o ho 0 (by omega)
        have h2 : (jc o)[0]? = some (.string o.nm) := rfl
        rw [h2] at h1
        simpa [Addr.add] using World.cell?_spot h1
    refine ⟨⟨some a, len, cap⟩, X, rfl, .inr ⟨a, cap, by rw [hX], ?_, fun t u hu => ?_⟩, hX.symm, by rw [hX]; omega⟩
    · rcases hspot with e | e
      · exact .inl (List.eq_nil_of_length_eq_zero (by omega))
      · exact .inr e
    · have ht : t < X.length * 8 := by
        have := (List.getElem?_eq_some_iff.1 hu).1
        rw [Elm.cells_len] at this
        exact this
      obtain ⟨y, hy⟩ : ∃ a, X[t / 8]? = some a := ⟨_, List.getElem?_eq_getElem (by omega)⟩
      have h1 := Elm.cells_at eJ hy (t % 8) (Nat.mod_lt _ (by decide))
      have e : t / 8 * eJ.size + t % 8 = t := by show t / 8 * 8 + t % 8 = t; omega
      rw [e, hu] at h1
      have h2 := hQ _ y hy (t % 8) (Nat.mod_lt _ (by decide))
      rw [show t / 8 * 8 + t % 8 = t by omega] at h2
      rw [h2]
      exact h1.symm
theorem seen_cells {H : Type} {enc : TypeId × Value → H} {W : World} {base : Nat} {held : Bool} {fuel : Nat} {cs : List Value} {x : DataW H × List MemPlace}
    (h : DataW.trod enc Try.prog W base (fun _ => true) held fuel 28 cs = some x) (hz : ∀ n ∈ x.1.weights Try.prog 28, n ≤ reachBytes) : ∃ (s : Sn) (u : S3), cs = sc (s, u) ∧ Rdj W u s.js := by
  obtain ⟨xs, n, _, hx, hl, hlen, hf⟩ := DataW.trod_struct Try.underlying28 h
  have hl5 : cs.length = 5 := by
    have : cs.length = Try.prog.cellsOf 28 := hl
    rw [cs_seen] at this
    exact this
  have len3 : xs.length = 3 := hlen
  match cs, hl5, xs, len3 with
  | [c0, c1, c2, c3, c4], _, [x0, x1, x2], _ =>
    have h0 : DataW.trod enc Try.prog W base (fun _ => true) held n 3 (([c0, c1, c2, c3, c4].drop 0).take (Try.prog.cellsOf 3)) = some x0 := hf 0 _ rfl
    have h1 : DataW.trod enc Try.prog W base (fun _ => true) held n 2 (([c0, c1, c2, c3, c4].drop 1).take (Try.prog.cellsOf 2)) = some x1 := hf 1 _ rfl
    have h2 : DataW.trod enc Try.prog W base (fun _ => true) held n 26 (([c0, c1, c2, c3, c4].drop 2).take (Try.prog.cellsOf 26)) = some x2 := hf 2 _ rfl
    simp only [cs_int, cs_int64, cs_res, List.drop_zero, List.drop_succ_cons, List.take_succ_cons, List.take_zero] at h0 h1 h2
    obtain ⟨y0, e0, _, w0⟩ := DataW.trod_int Try.underlying3 h0
    simp at e0
    obtain ⟨y1, e1, _, w1⟩ := DataW.trod_int Try.underlying2 h1
    simp at e1
    obtain ⟨zs, n2, _, hx2, hl2, hlen2, hf2⟩ := DataW.trod_struct Try.underlying26 h2
    have len3' : zs.length = 3 := hlen2
    match zs, len3' with
    | [z0, z1, z2], _ =>
      have k0 : DataW.trod enc Try.prog W base (fun _ => true) held n2 23 (([c2, c3, c4].drop 0).take (Try.prog.cellsOf 23)) = some z0 := hf2 0 _ rfl
      have k1 : DataW.trod enc Try.prog W base (fun _ => true) held n2 2 (([c2, c3, c4].drop 1).take (Try.prog.cellsOf 2)) = some z1 := hf2 1 _ rfl
      have k2 : DataW.trod enc Try.prog W base (fun _ => true) held n2 24 (([c2, c3, c4].drop 2).take (Try.prog.cellsOf 24)) = some z2 := hf2 2 _ rfl
      simp only [cs_errno, cs_int64, cs_jobs, List.drop_zero, List.drop_succ_cons, List.take_succ_cons, List.take_zero] at k0 k1 k2
      obtain ⟨y2, e2, _, w2⟩ := DataW.trod_int Try.underlying23 k0
      simp at e2
      obtain ⟨y3, e3, _, w3⟩ := DataW.trod_int Try.underlying2 k1
      simp at e3
      have hd : x.1 = .agg [x0.1, x1.1, x2.1] := congrArg Prod.fst hx
      have hd2 : x2.1 = .agg [z0.1, z1.1, z2.1] := congrArg Prod.fst hx2
      obtain ⟨u, l, e4, r4⟩ := jobs_cells k2 (fun n hn => hz n (by
        rw [hd]; unfold DataW.weights; rw [Try.underlying28]
        refine DataW.weights_mem_each (j := 2) (t := 26) rfl rfl n ?_
        rw [hd2]; unfold DataW.weights; rw [Try.underlying26]
        exact DataW.weights_mem_each (j := 2) (t := 24) rfl rfl n hn))
      exact ⟨⟨y0, y1, y2, y3, l⟩, u, by rw [e0, e1, e2, e3, e4], r4⟩
/-- A session that came in. -/
theorem open_seen {H : Type} {enc : TypeId × Value → H} {W : World} {r : Reach} {base : Nat} {v : Value} {d : DataW H} {p : List MemPlace}
    (hv : Value.okWide Try.prog W r base 28 v) (h : DataW.Trod enc Try.prog W 0 (fun _ => true) true 28 v d p) (hz : ∀ n ∈ d.weights Try.prog 28, n ≤ reachBytes) : ∃ (s : Sn) (u : S3), v = sv s u ∧ Rdj W u s.js := by
  obtain ⟨cs, rfl, _⟩ := okWide_struct Try.underlying28 hv
  obtain ⟨fuel, hf⟩ := h
  obtain ⟨s, u, e, k⟩ := seen_cells hf hz
  refine ⟨s, u, ?_, k⟩
  obtain ⟨cs⟩ := cs
  have e' : cs = sc (s, u) := e
  rw [e']
/-- Sessions that came in. -/
theorem open_seens {H : Type} {enc : TypeId × Value → H} {W : World} {r : Reach} {base : Nat} {v : Value} {d : DataW H} {p : List MemPlace}
    (hv : Value.okWide Try.prog W r base 22 v) (h : DataW.Trod enc Try.prog W 0 (fun _ => true) true 22 v d p) (hz : ∀ n ∈ d.weights Try.prog 22, n ≤ reachBytes) :
    ∃ X : List (Sn × S3), Bk W v X ∧ X.length ≤ 9223372036854775807 := by
  obtain ⟨a, len, cap, rfl⟩ := okWide_slice Try.underlying22 hv
  obtain ⟨fuel, hf⟩ := h
  rcases Go.Deep.open_slice Try.underlying22 hf with ⟨hcs, hx⟩ | ⟨x, l, c, m, n, D, Pl, hcs, hb, hl, hm, hmm, hx, hall⟩
  · simp [Value.cells] at hcs
    obtain ⟨rfl, rfl, rfl⟩ := hcs
    exact ⟨[], bk_nil W, by simp⟩
  · simp [Value.cells] at hcs
    obtain ⟨rfl, rfl, rfl⟩ := hcs
    have hm' : cap ≤ 9223372036854775807 := hm
    have hlm : len ≤ m := by rw [hmm]; simp; exact hl
    obtain ⟨X, hX, hQ⟩ := list_of (Q := fun i (o : Sn × S3) => (∀ j, j < 5 → W.cell? (x.add (i * 5 + j)) = (sc o)[j]?) ∧ Rdj W o.2 o.1.js) len fun i hi => by
      obtain ⟨cs', h1, h2⟩ := hall i (by omega)
      rw [cs_seen] at h1
      obtain ⟨g, u, rfl, k1⟩ := seen_cells h2 (fun n hn => hz n (by
        have : d = .slice ((List.range len).map D) ((List.range (m - len)).map fun j => D (len + j)) := congrArg Prod.fst hx
        rw [this]
        unfold DataW.weights
        rw [Try.underlying22]
        exact List.mem_cons_of_mem _ (List.mem_append.2 (.inl (weights_all (List.mem_map.2 ⟨i, List.mem_range.2 hi, rfl⟩) n hn)))))
      obtain ⟨_, hlen, hcell⟩ := World.cells?_some h1
      refine ⟨(g, u), fun j hj => ?_, k1⟩
      have := hcell j (by simpa using hj)
      rw [Go.Deep.add_add] at this
      exact this
    have hspot : len = 0 ∨ x.spot = none := by
      by_cases h0 : len = 0
      · exact .inl h0
      · right
        obtain ⟨o, ho⟩ : ∃ o, X[0]? = some o := ⟨_, List.getElem?_eq_getElem (by omega)⟩
        have h1 := (hQ 0 o ho).1 0 (by omega)
        have h2 : (sc o)[0]? = some (.int .i64 o.1.cl) := rfl
        rw [h2] at h1
        simpa [Addr.add] using World.cell?_spot h1
    refine ⟨X, ⟨.inr ⟨x, cap, by rw [hX], ?_, fun t u hu => ?_⟩, fun o ho => ?_⟩, by omega⟩
    · rcases hspot with e | e
      · exact .inl (List.eq_nil_of_length_eq_zero (by omega))
      · exact .inr e
    · have ht : t < X.length * 5 := by
        have := (List.getElem?_eq_some_iff.1 hu).1
        rw [Elm.cells_len] at this
        exact this
      obtain ⟨y, hy⟩ : ∃ a, X[t / 5]? = some a := ⟨_, List.getElem?_eq_getElem (by omega)⟩
      have h1 := Elm.cells_at eS hy (t % 5) (Nat.mod_lt _ (by decide))
      have e : t / 5 * eS.size + t % 5 = t := by show t / 5 * 5 + t % 5 = t; omega
      rw [e, hu] at h1
      have h2 := (hQ _ y hy).1 (t % 5) (Nat.mod_lt _ (by decide))
      rw [show t / 5 * 5 + t % 5 = t by omega] at h2
      rw [h2]
      exact h1.symm
    · obtain ⟨i, hi, e⟩ := List.getElem_of_mem ho
      exact (hQ i o (by rw [List.getElem?_eq_getElem hi, e])).2
end Go.Proofs.Ytdekeibnehoeaaa
