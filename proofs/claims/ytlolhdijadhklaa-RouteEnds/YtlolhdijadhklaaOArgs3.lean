/- Ways, and lists of replies, that came in. -/
import Derived.Test.YtlolhdijadhklaaOSameW
import Derived.Test.YtlolhdijadhklaaAArgs
namespace Go.Proofs.Ytlolhdijadhklaa
open Go.ChangeShapes Go.WideShapes Go.ChangeAt Go.RowKit Atl
set_option linter.unusedVariables false
set_option linter.unusedSimpArgs false
set_option maxRecDepth 100000

theorem bytesJ : Try.prog.bytesOf 113 = 96 := by kernel_rfl
theorem job_cells {H : Type} {enc : TypeId × Value → H} {W : World} {base : Nat} {held : Bool} {fuel : Nat} {cs : List Value} {x : DataW H × List MemPlace}
    (h : DataW.trod enc Try.prog W base (fun _ => true) held fuel 113 cs = some x) (hz : ∀ n ∈ x.1.weights Try.prog 113, n ≤ reachBytes) : ∃ j : Jb, cs = jbc j := by
  obtain ⟨xs, n, _, hx, hl, hlen, hf⟩ := DataW.trod_struct Try.underlying113 h
  have hll : cs.length = 8 := by
    have : cs.length = Try.prog.cellsOf 113 := hl
    rw [show Try.prog.cellsOf 113 = 8 from by kernel_rfl] at this
    exact this
  have hxl : xs.length = 8 := hlen
  match cs, hll, xs, hxl with
  | [c0, c1, c2, c3, c4, c5, c6, c7], _, [x0, x1, x2, x3, x4, x5, x6, x7], _ =>
    have h0 : DataW.trod enc Try.prog W base (fun _ => true) held n 9 (([c0, c1, c2, c3, c4, c5, c6, c7].drop 0).take (Try.prog.cellsOf 9)) = some x0 := hf 0 _ rfl
    rw [show Try.prog.cellsOf 9 = 1 from by kernel_rfl] at h0
    have h1 : DataW.trod enc Try.prog W base (fun _ => true) held n 9 (([c0, c1, c2, c3, c4, c5, c6, c7].drop 1).take (Try.prog.cellsOf 9)) = some x1 := hf 1 _ rfl
    rw [show Try.prog.cellsOf 9 = 1 from by kernel_rfl] at h1
    have h2 : DataW.trod enc Try.prog W base (fun _ => true) held n 9 (([c0, c1, c2, c3, c4, c5, c6, c7].drop 2).take (Try.prog.cellsOf 9)) = some x2 := hf 2 _ rfl
    rw [show Try.prog.cellsOf 9 = 1 from by kernel_rfl] at h2
    have h3 : DataW.trod enc Try.prog W base (fun _ => true) held n 9 (([c0, c1, c2, c3, c4, c5, c6, c7].drop 3).take (Try.prog.cellsOf 9)) = some x3 := hf 3 _ rfl
    rw [show Try.prog.cellsOf 9 = 1 from by kernel_rfl] at h3
    have h4 : DataW.trod enc Try.prog W base (fun _ => true) held n 3 (([c0, c1, c2, c3, c4, c5, c6, c7].drop 4).take (Try.prog.cellsOf 3)) = some x4 := hf 4 _ rfl
    rw [show Try.prog.cellsOf 3 = 1 from by kernel_rfl] at h4
    have h5 : DataW.trod enc Try.prog W base (fun _ => true) held n 2 (([c0, c1, c2, c3, c4, c5, c6, c7].drop 5).take (Try.prog.cellsOf 2)) = some x5 := hf 5 _ rfl
    rw [show Try.prog.cellsOf 2 = 1 from by kernel_rfl] at h5
    have h6 : DataW.trod enc Try.prog W base (fun _ => true) held n 4 (([c0, c1, c2, c3, c4, c5, c6, c7].drop 6).take (Try.prog.cellsOf 4)) = some x6 := hf 6 _ rfl
    rw [show Try.prog.cellsOf 4 = 1 from by kernel_rfl] at h6
    have h7 : DataW.trod enc Try.prog W base (fun _ => true) held n 2 (([c0, c1, c2, c3, c4, c5, c6, c7].drop 7).take (Try.prog.cellsOf 2)) = some x7 := hf 7 _ rfl
    rw [show Try.prog.cellsOf 2 = 1 from by kernel_rfl] at h7
    simp only [List.drop_zero, List.drop_succ_cons, List.take_succ_cons, List.take_zero] at h0 h1 h2 h3 h4 h5 h6 h7
    have wt : ∀ (j : Nat) (t : TypeId) (d : DataW H), [9, 9, 9, 9, 3, 2, 4, 2][j]? = some t → [x0.1, x1.1, x2.1, x3.1, x4.1, x5.1, x6.1, x7.1][j]? = some d → ∀ n ∈ d.weights Try.prog t, n ≤ reachBytes := fun j t d ht hd n hn => by
      refine hz n ?_
      rw [hx]
      unfold DataW.weights
      rw [Try.underlying113]
      exact DataW.weights_mem_each ht hd n hn
    obtain ⟨y0, e0, z0, _⟩ := DataW.trod_string Try.underlying9 h0
    have s0 := wt 0 _ _ rfl rfl y0.data.toList.length (by rw [z0]; unfold DataW.weights; simp)
    rw [rch_is] at s0
    obtain ⟨y1, e1, z1, _⟩ := DataW.trod_string Try.underlying9 h1
    have s1 := wt 1 _ _ rfl rfl y1.data.toList.length (by rw [z1]; unfold DataW.weights; simp)
    rw [rch_is] at s1
    obtain ⟨y2, e2, z2, _⟩ := DataW.trod_string Try.underlying9 h2
    have s2 := wt 2 _ _ rfl rfl y2.data.toList.length (by rw [z2]; unfold DataW.weights; simp)
    rw [rch_is] at s2
    obtain ⟨y3, e3, z3, _⟩ := DataW.trod_string Try.underlying9 h3
    have s3 := wt 3 _ _ rfl rfl y3.data.toList.length (by rw [z3]; unfold DataW.weights; simp)
    rw [rch_is] at s3
    obtain ⟨y4, e4, _, _⟩ := DataW.trod_int Try.underlying3 h4
    obtain ⟨y5, e5, _, _⟩ := DataW.trod_int Try.underlying2 h5
    obtain ⟨y6, e6, _⟩ := DataW.trod_bool Try.underlying4 h6
    obtain ⟨y7, e7, _, _⟩ := DataW.trod_int Try.underlying2 h7
    simp at e0 e1 e2 e3 e4 e5 e6 e7
    exact ⟨⟨y0, y1, y2, y3, y4, y5, y6, y7⟩, by rw [e0, e1, e2, e3, e4, e5, e6, e7]⟩
theorem jobs_cells {H : Type} {enc : TypeId × Value → H} {W : World} {base : Nat} {held : Bool} {fuel : Nat} {v : Value} {x : DataW H × List MemPlace}
    (h : DataW.trod enc Try.prog W base (fun _ => true) held fuel 42 [v] = some x) (hz : ∀ n ∈ x.1.weights Try.prog 42, n ≤ reachBytes) : ∃ (u : S3) (l : List Jb), v = .slice u.a u.n u.c ∧ Rdj W u l := by
  rcases Go.Deep.open_slice Try.underlying42 h with ⟨hcs, hx⟩ | ⟨a, len, cap, m, n, D, Pl, hcs, hb, hl, hm, hmm, hx, hall⟩
  · injection hcs with hcs _
    subst hcs
    exact ⟨nil3, [], rfl, rdj_nil W⟩
  · injection hcs with hcs _
    subst hcs
    have hm' : cap ≤ 9223372036854775807 := hm
    have hlm : len ≤ m := by rw [hmm]; split <;> omega
    have hd : x.1 = .slice ((List.range len).map D) ((List.range (m - len)).map fun j => D (len + j)) := congrArg Prod.fst hx
    obtain ⟨X, hX, hQ⟩ := list_of (Q := fun i (o : Jb) => ∀ j, j < 8 → W.cell? (a.add (i * 8 + j)) = (jbc o)[j]?) len fun i hi => by
      obtain ⟨cs', h1, h2⟩ := hall i (by omega)
      rw [show Try.prog.cellsOf 113 = 8 from by kernel_rfl] at h1
      obtain ⟨g, rfl⟩ := job_cells h2 (fun n hn => hz n (by
        rw [hd]
        unfold DataW.weights
        rw [Try.underlying42]
        exact List.mem_cons_of_mem _ (List.mem_append.2 (.inl (weights_all (List.mem_map.2 ⟨i, List.mem_range.2 hi, rfl⟩) n hn)))))
      obtain ⟨_, hlen, hcell⟩ := World.cells?_some h1
      refine ⟨g, fun j hj => ?_⟩
      have := hcell j (by simpa using hj)
      rw [Go.Deep.add_add] at this
      exact this
    have hwt : len * 96 ≤ 140737488351232 := by
      have h1 := hz ((((List.range len).map D).length + ((List.range (m - len)).map fun j => D (len + j)).length) * Try.prog.bytesOf 113) (by rw [hd]; simp [DataW.weights, Try.underlying42])
      rw [rch_is, bytesJ] at h1
      have h3 : rch = 140737488351232 := rfl
      rw [h3] at h1
      simp at h1
      omega
    have hspot : len = 0 ∨ a.spot = none := by
      by_cases h0 : len = 0
      · exact .inl h0
      · right
        obtain ⟨o, ho⟩ : ∃ o, X[0]? = some o := ⟨_, List.getElem?_eq_getElem (by omega)⟩
        have h1 := hQ 0 o ho 0 (by omega)
        have h2 : (jbc o)[0]? = some (.string o.nm) := rfl
        rw [h2] at h1
        simpa [Addr.add] using World.cell?_spot h1
    refine ⟨⟨some a, len, cap⟩, X, rfl, .inr ⟨a, cap, by rw [hX], ?_, fun t u hu => ?_⟩, hX.symm, by rw [hX]; omega⟩
    · rcases hspot with e | e
      · exact .inl (List.eq_nil_of_length_eq_zero (by omega))
      · exact .inr e
    · have ht : t < X.length * 8 := by
        have := (List.getElem?_eq_some_iff.1 hu).1
        rw [Elm.cells_len] at this
        exact this
      obtain ⟨y, hy⟩ : ∃ a, X[t / 8]? = some a := ⟨_, List.getElem?_eq_getElem (by omega)⟩
      have h1 := Elm.cells_at eJ hy (t % 8) (Nat.mod_lt _ (by decide))
      have e : t / 8 * eJ.size + t % 8 = t := by show t / 8 * 8 + t % 8 = t; omega
      rw [e, hu] at h1
      have h2 := hQ _ y hy (t % 8) (Nat.mod_lt _ (by decide))
      rw [show t / 8 * 8 + t % 8 = t by omega] at h2
      rw [h2]
      exact h1.symm
theorem result_cells {H : Type} {enc : TypeId × Value → H} {W : World} {base : Nat} {held : Bool} {fuel : Nat} {cs : List Value} {x : DataW H × List MemPlace}
    (h : DataW.trod enc Try.prog W base (fun _ => true) held fuel 47 cs = some x) (hz : ∀ n ∈ x.1.weights Try.prog 47, n ≤ reachBytes) : ∃ (er tm : Int) (u : S3) (l : List Jb), cs = ec er tm u ∧ Rdj W u l := by
  obtain ⟨xs, n, _, hx, hl, hlen, hf⟩ := DataW.trod_struct Try.underlying47 h
  have hll : cs.length = 3 := by
    have : cs.length = Try.prog.cellsOf 47 := hl
    rw [show Try.prog.cellsOf 47 = 3 from by kernel_rfl] at this
    exact this
  have hxl : xs.length = 3 := hlen
  match cs, hll, xs, hxl with
  | [c0, c1, c2], _, [x0, x1, x2], _ =>
    have h0 : DataW.trod enc Try.prog W base (fun _ => true) held n 32 (([c0, c1, c2].drop 0).take (Try.prog.cellsOf 32)) = some x0 := hf 0 _ rfl
    rw [show Try.prog.cellsOf 32 = 1 from by kernel_rfl] at h0
    have h1 : DataW.trod enc Try.prog W base (fun _ => true) held n 2 (([c0, c1, c2].drop 1).take (Try.prog.cellsOf 2)) = some x1 := hf 1 _ rfl
    rw [show Try.prog.cellsOf 2 = 1 from by kernel_rfl] at h1
    have h2 : DataW.trod enc Try.prog W base (fun _ => true) held n 42 (([c0, c1, c2].drop 2).take (Try.prog.cellsOf 42)) = some x2 := hf 2 _ rfl
    rw [show Try.prog.cellsOf 42 = 1 from by kernel_rfl] at h2
    simp only [List.drop_zero, List.drop_succ_cons, List.take_succ_cons, List.take_zero] at h0 h1 h2
    have wt : ∀ (j : Nat) (t : TypeId) (d : DataW H), [32, 2, 42][j]? = some t → [x0.1, x1.1, x2.1][j]? = some d → ∀ n ∈ d.weights Try.prog t, n ≤ reachBytes := fun j t d ht hd n hn => by
      refine hz n ?_
      rw [hx]
      unfold DataW.weights
      rw [Try.underlying47]
      exact DataW.weights_mem_each ht hd n hn
    obtain ⟨y0, e0, _, _⟩ := DataW.trod_int Try.underlying32 h0
    obtain ⟨y1, e1, _, _⟩ := DataW.trod_int Try.underlying2 h1
    obtain ⟨u, l, e2, k⟩ := jobs_cells h2 (wt 2 _ _ rfl rfl)
    simp at e0 e1
    exact ⟨y0, y1, u, l, by rw [e0, e1, e2], k⟩
theorem reply_cells {H : Type} {enc : TypeId × Value → H} {W : World} {base : Nat} {held : Bool} {fuel : Nat} {cs : List Value} {x : DataW H × List MemPlace}
    (h : DataW.trod enc Try.prog W base (fun _ => true) held fuel 66 cs = some x) (hz : ∀ n ∈ x.1.weights Try.prog 66, n ≤ reachBytes) : ∃ (p : Rp) (l : List Jb), cs = qc p ∧ Rat W p.m p.u ∧ Szm p.m ∧ Rdj W p.j l := by
  obtain ⟨xs, n, _, hx, hl, hlen, hf⟩ := DataW.trod_struct Try.underlying66 h
  have hll : cs.length = 16 := by
    have : cs.length = Try.prog.cellsOf 66 := hl
    rw [show Try.prog.cellsOf 66 = 16 from by kernel_rfl] at this
    exact this
  have hxl : xs.length = 4 := hlen
  match cs, hll, xs, hxl with
  | [c0, c1, c2, c3, c4, c5, c6, c7, c8, c9, c10, c11, c12, c13, c14, c15], _, [x0, x1, x2, x3], _ =>
    have h0 : DataW.trod enc Try.prog W base (fun _ => true) held n 3 (([c0, c1, c2, c3, c4, c5, c6, c7, c8, c9, c10, c11, c12, c13, c14, c15].drop 0).take (Try.prog.cellsOf 3)) = some x0 := hf 0 _ rfl
    rw [show Try.prog.cellsOf 3 = 1 from by kernel_rfl] at h0
    have h1 : DataW.trod enc Try.prog W base (fun _ => true) held n 3 (([c0, c1, c2, c3, c4, c5, c6, c7, c8, c9, c10, c11, c12, c13, c14, c15].drop 1).take (Try.prog.cellsOf 3)) = some x1 := hf 1 _ rfl
    rw [show Try.prog.cellsOf 3 = 1 from by kernel_rfl] at h1
    have h2 : DataW.trod enc Try.prog W base (fun _ => true) held n 47 (([c0, c1, c2, c3, c4, c5, c6, c7, c8, c9, c10, c11, c12, c13, c14, c15].drop 2).take (Try.prog.cellsOf 47)) = some x2 := hf 2 _ rfl
    rw [show Try.prog.cellsOf 47 = 3 from by kernel_rfl] at h2
    have h3 : DataW.trod enc Try.prog W base (fun _ => true) held n 26 (([c0, c1, c2, c3, c4, c5, c6, c7, c8, c9, c10, c11, c12, c13, c14, c15].drop 5).take (Try.prog.cellsOf 26)) = some x3 := hf 3 _ rfl
    rw [show Try.prog.cellsOf 26 = 11 from by kernel_rfl] at h3
    simp only [List.drop_zero, List.drop_succ_cons, List.take_succ_cons, List.take_zero] at h0 h1 h2 h3
    have wt : ∀ (j : Nat) (t : TypeId) (d : DataW H), [3, 3, 47, 26][j]? = some t → [x0.1, x1.1, x2.1, x3.1][j]? = some d → ∀ n ∈ d.weights Try.prog t, n ≤ reachBytes := fun j t d ht hd n hn => by
      refine hz n ?_
      rw [hx]
      unfold DataW.weights
      rw [Try.underlying66]
      exact DataW.weights_mem_each ht hd n hn
    obtain ⟨y0, e0, _, _⟩ := DataW.trod_int Try.underlying3 h0
    obtain ⟨y1, e1, _, _⟩ := DataW.trod_int Try.underlying3 h1
    obtain ⟨er, tm, j, l, e2, k⟩ := result_cells h2 (wt 2 _ _ rfl rfl)
    obtain ⟨m, u, e3, k1, k2⟩ := atlas_cells h3 (wt 3 _ _ rfl rfl)
    simp at e0 e1
    injection e2 with p0 p1
    injection p1 with p1 p2
    injection p2 with p2 _
    injection e3 with q0 q1
    injection q1 with q1 q2
    injection q2 with q2 q3
    injection q3 with q3 q4
    injection q4 with q4 q5
    injection q5 with q5 q6
    injection q6 with q6 q7
    injection q7 with q7 q8
    injection q8 with q8 q9
    injection q9 with q9 qa
    injection qa with qa _
    exact ⟨⟨y0, y1, er, tm, j, m, u⟩, l, by rw [e0, e1, p0, p1, p2, q0, q1, q2, q3, q4, q5, q6, q7, q8, q9, qa], k1, k2, k⟩
theorem route_cells {H : Type} {enc : TypeId × Value → H} {W : World} {base : Nat} {held : Bool} {fuel : Nat} {cs : List Value} {x : DataW H × List MemPlace}
    (h : DataW.trod enc Try.prog W base (fun _ => true) held fuel 60 cs = some x) (hz : ∀ n ∈ x.1.weights Try.prog 60, n ≤ reachBytes) : ∃ (r : Wy) (l : List Jb), cs = rc r ∧ Rdw W r ∧ Rdj W r.j l := by
  obtain ⟨xs, n, _, hx, hl, hlen, hf⟩ := DataW.trod_struct Try.underlying60 h
  have hll : cs.length = 20 := by
    have : cs.length = Try.prog.cellsOf 60 := hl
    rw [show Try.prog.cellsOf 60 = 20 from by kernel_rfl] at this
    exact this
  have hxl : xs.length = 8 := hlen
  match cs, hll, xs, hxl with
  | [c0, c1, c2, c3, c4, c5, c6, c7, c8, c9, c10, c11, c12, c13, c14, c15, c16, c17, c18, c19], _, [x0, x1, x2, x3, x4, x5, x6, x7], _ =>
    have h0 : DataW.trod enc Try.prog W base (fun _ => true) held n 3 (([c0, c1, c2, c3, c4, c5, c6, c7, c8, c9, c10, c11, c12, c13, c14, c15, c16, c17, c18, c19].drop 0).take (Try.prog.cellsOf 3)) = some x0 := hf 0 _ rfl
    rw [show Try.prog.cellsOf 3 = 1 from by kernel_rfl] at h0
    have h1 : DataW.trod enc Try.prog W base (fun _ => true) held n 9 (([c0, c1, c2, c3, c4, c5, c6, c7, c8, c9, c10, c11, c12, c13, c14, c15, c16, c17, c18, c19].drop 1).take (Try.prog.cellsOf 9)) = some x1 := hf 1 _ rfl
    rw [show Try.prog.cellsOf 9 = 1 from by kernel_rfl] at h1
    have h2 : DataW.trod enc Try.prog W base (fun _ => true) held n 26 (([c0, c1, c2, c3, c4, c5, c6, c7, c8, c9, c10, c11, c12, c13, c14, c15, c16, c17, c18, c19].drop 2).take (Try.prog.cellsOf 26)) = some x2 := hf 2 _ rfl
    rw [show Try.prog.cellsOf 26 = 11 from by kernel_rfl] at h2
    have h3 : DataW.trod enc Try.prog W base (fun _ => true) held n 4 (([c0, c1, c2, c3, c4, c5, c6, c7, c8, c9, c10, c11, c12, c13, c14, c15, c16, c17, c18, c19].drop 13).take (Try.prog.cellsOf 4)) = some x3 := hf 3 _ rfl
    rw [show Try.prog.cellsOf 4 = 1 from by kernel_rfl] at h3
    have h4 : DataW.trod enc Try.prog W base (fun _ => true) held n 3 (([c0, c1, c2, c3, c4, c5, c6, c7, c8, c9, c10, c11, c12, c13, c14, c15, c16, c17, c18, c19].drop 14).take (Try.prog.cellsOf 3)) = some x4 := hf 4 _ rfl
    rw [show Try.prog.cellsOf 3 = 1 from by kernel_rfl] at h4
    have h5 : DataW.trod enc Try.prog W base (fun _ => true) held n 3 (([c0, c1, c2, c3, c4, c5, c6, c7, c8, c9, c10, c11, c12, c13, c14, c15, c16, c17, c18, c19].drop 15).take (Try.prog.cellsOf 3)) = some x5 := hf 5 _ rfl
    rw [show Try.prog.cellsOf 3 = 1 from by kernel_rfl] at h5
    have h6 : DataW.trod enc Try.prog W base (fun _ => true) held n 4 (([c0, c1, c2, c3, c4, c5, c6, c7, c8, c9, c10, c11, c12, c13, c14, c15, c16, c17, c18, c19].drop 16).take (Try.prog.cellsOf 4)) = some x6 := hf 6 _ rfl
    rw [show Try.prog.cellsOf 4 = 1 from by kernel_rfl] at h6
    have h7 : DataW.trod enc Try.prog W base (fun _ => true) held n 47 (([c0, c1, c2, c3, c4, c5, c6, c7, c8, c9, c10, c11, c12, c13, c14, c15, c16, c17, c18, c19].drop 17).take (Try.prog.cellsOf 47)) = some x7 := hf 7 _ rfl
    rw [show Try.prog.cellsOf 47 = 3 from by kernel_rfl] at h7
    simp only [List.drop_zero, List.drop_succ_cons, List.take_succ_cons, List.take_zero] at h0 h1 h2 h3 h4 h5 h6 h7
    have wt : ∀ (j : Nat) (t : TypeId) (d : DataW H), [3, 9, 26, 4, 3, 3, 4, 47][j]? = some t → [x0.1, x1.1, x2.1, x3.1, x4.1, x5.1, x6.1, x7.1][j]? = some d → ∀ n ∈ d.weights Try.prog t, n ≤ reachBytes := fun j t d ht hd n hn => by
      refine hz n ?_
      rw [hx]
      unfold DataW.weights
      rw [Try.underlying60]
      exact DataW.weights_mem_each ht hd n hn
    obtain ⟨y0, e0, _, _⟩ := DataW.trod_int Try.underlying3 h0
    obtain ⟨y1, e1, z1, _⟩ := DataW.trod_string Try.underlying9 h1
    have s1 := wt 1 _ _ rfl rfl y1.data.toList.length (by rw [z1]; unfold DataW.weights; simp)
    rw [rch_is] at s1
    obtain ⟨m, u, e2, k1, k2⟩ := atlas_cells h2 (wt 2 _ _ rfl rfl)
    obtain ⟨y3, e3, _⟩ := DataW.trod_bool Try.underlying4 h3
    obtain ⟨y4, e4, _, _⟩ := DataW.trod_int Try.underlying3 h4
    obtain ⟨y5, e5, _, _⟩ := DataW.trod_int Try.underlying3 h5
    obtain ⟨y6, e6, _⟩ := DataW.trod_bool Try.underlying4 h6
    obtain ⟨er, tm, j, l, e7, k⟩ := result_cells h7 (wt 7 _ _ rfl rfl)
    simp at e0 e1 e3 e4 e5 e6
    injection e7 with p0 p1
    injection p1 with p1 p2
    injection p2 with p2 _
    injection e2 with q0 q1
    injection q1 with q1 q2
    injection q2 with q2 q3
    injection q3 with q3 q4
    injection q4 with q4 q5
    injection q5 with q5 q6
    injection q6 with q6 q7
    injection q7 with q7 q8
    injection q8 with q8 q9
    injection q9 with q9 qa
    injection qa with qa _
    exact ⟨⟨y0, y1, m, u, y3, y4, y5, y6, er, tm, j⟩, l, by rw [e0, e1, e3, e4, e5, e6, p0, p1, p2, q0, q1, q2, q3, q4, q5, q6, q7, q8, q9, qa], ⟨k1, k2, sz_of s1⟩, k⟩
theorem open_route {H : Type} {enc : TypeId × Value → H} {W : World} {r : Reach} {base : Nat} {v : Value} {d : DataW H} {p : List MemPlace}
    (hv : Value.okWide Try.prog W r base 60 v) (h : DataW.Trod enc Try.prog W 0 (fun _ => true) true 60 v d p) (hz : ∀ n ∈ d.weights Try.prog 60, n ≤ reachBytes) : ∃ (y : Wy) (l : List Jb), v = rv y ∧ Rdw W y ∧ Rdj W y.j l := by
  obtain ⟨cs, rfl, _⟩ := okWide_struct Try.underlying60 hv
  obtain ⟨fuel, hf⟩ := h
  obtain ⟨c, l, e, k1, k2⟩ := route_cells hf hz
  refine ⟨c, l, ?_, k1, k2⟩
  obtain ⟨cs⟩ := cs
  have e' : cs = rc c := e
  rw [e']
/-- A slice reads as replies, each with its jobs. -/
def Rpl (W : World) (u : S3) (l : List (Rp × List Jb)) : Prop := u.n = l.length ∧ l.length ≤ 140737488355328 ∧ ∀ i x, l[i]? = some x → (∃ g o, u.a = some ⟨g, o, none⟩ ∧ W.rangeAt g (o + i * 16) (qc x.1)) ∧ Rat W x.1.m x.1.u ∧ Szm x.1.m ∧ Rdj W x.1.j x.2
theorem open_replies {H : Type} {enc : TypeId × Value → H} {W : World} {r : Reach} {base : Nat} {v : Value} {d : DataW H} {p : List MemPlace}
    (hv : Value.okWide Try.prog W r base 61 v) (h : DataW.Trod enc Try.prog W 0 (fun _ => true) true 61 v d p) (hz : ∀ n ∈ d.weights Try.prog 61, n ≤ reachBytes) : ∃ (u : S3) (l : List (Rp × List Jb)), v = .slice u.a u.n u.c ∧ Rpl W u l := by
  obtain ⟨a, len, cap, rfl⟩ := okWide_slice Try.underlying61 hv
  obtain ⟨fuel, hf⟩ := h
  rcases Go.Deep.open_slice Try.underlying61 hf with ⟨hcs, hx⟩ | ⟨a, len, cap, m, n, D, Pl, hcs, hb, hl, hm, hmm, hx, hall⟩
  · simp [Value.cells] at hcs
    obtain ⟨e1, e2, e3⟩ := hcs
    subst e1 e2 e3
    exact ⟨nil3, [], rfl, rfl, by simp, fun i k hk => by simp at hk⟩
  · simp [Value.cells] at hcs
    obtain ⟨e1, e2, e3⟩ := hcs
    subst e1 e2 e3
    have hlm : len ≤ m := by rw [hmm]; split <;> omega
    have hd : d = .slice ((List.range len).map D) ((List.range (m - len)).map fun j => D (len + j)) := congrArg Prod.fst hx
    obtain ⟨X, hX, hQ⟩ := list_of (Q := fun i (o : Rp × List Jb) => (∀ j, j < 16 → W.cell? (a.add (i * 16 + j)) = (qc o.1)[j]?) ∧ Rat W o.1.m o.1.u ∧ Szm o.1.m ∧ Rdj W o.1.j o.2) len fun i hi => by
      obtain ⟨cs', h1, h2⟩ := hall i (by omega)
      rw [show Try.prog.cellsOf 66 = 16 from by kernel_rfl] at h1
      obtain ⟨g, l, rfl, k1, k2, k3⟩ := reply_cells h2 (fun n hn => hz n (by
        rw [hd]
        unfold DataW.weights
        rw [Try.underlying61]
        exact List.mem_cons_of_mem _ (List.mem_append.2 (.inl (weights_all (List.mem_map.2 ⟨i, List.mem_range.2 hi, rfl⟩) n hn)))))
      obtain ⟨_, hlen, hcell⟩ := World.cells?_some h1
      refine ⟨(g, l), fun j hj => ?_, k1, k2, k3⟩
      have := hcell j (by simpa using hj)
      rw [Go.Deep.add_add] at this
      exact this
    have hwt : len * 168 ≤ 140737488351232 := by
      have h1 := hz ((((List.range len).map D).length + ((List.range (m - len)).map fun j => D (len + j)).length) * Try.prog.bytesOf 66) (by rw [hd]; simp [DataW.weights, Try.underlying61])
      rw [rch_is, show Try.prog.bytesOf 66 = 168 from by kernel_rfl] at h1
      have h3 : rch = 140737488351232 := rfl
      rw [h3] at h1
      simp at h1
      omega
    refine ⟨⟨some a, len, cap⟩, X, rfl, hX.symm, by rw [hX]; omega, fun i x hx => ?_⟩
    obtain ⟨h1, h2⟩ := hQ i x hx
    have hs : a.spot = none := by
      have hl : i < X.length := (List.getElem?_eq_some_iff.1 hx).1
      obtain ⟨k0, h0⟩ : ∃ k0, X[0]? = some k0 := ⟨_, List.getElem?_eq_getElem (by omega)⟩
      have q := (hQ 0 k0 h0).1 0 (by omega)
      have q2 : (qc k0.1)[0]? = some (.int .i64 k0.1.k) := rfl
      rw [q2] at q
      simpa [Addr.add] using World.cell?_spot q
    obtain ⟨g, o, sp⟩ := a
    simp only at hs
    subst hs
    refine ⟨⟨g, o, rfl, fun j v hj => ?_⟩, h2⟩
    have hj16 : j < 16 := (List.getElem?_eq_some_iff.1 hj).1
    have hc := h1 j hj16
    rw [hj] at hc
    unfold Addr.add at hc
    by_cases hi : i * 16 + j = 0
    · rw [if_pos hi] at hc
      rw [show o + i * 16 + j = o by omega]
      exact hc
    · rw [if_neg hi] at hc
      rw [Nat.add_assoc]
      exact hc
end Go.Proofs.Ytlolhdijadhklaa
