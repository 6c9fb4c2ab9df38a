/- Messages that came in. -/
import Derived.Test.YtdpcebaggldaiaaRArgs
namespace Go.Proofs.Ytdpcebaggldaiaa
open Go.ChangeShapes Go.WideShapes Go.ChangeAt Go.RowKit Trl
open Rft (Nd Mg)
set_option linter.unusedVariables false
set_option maxRecDepth 100000

theorem weights_all {H : Type} {P : Program} {e : TypeId} : ∀ {l : List (DataW H)} {d : DataW H}, d ∈ l → ∀ n ∈ d.weights P e, n ∈ DataW.weightsAll P e l
  | [], _, h, _, _ => by simp at h
  | x :: l, d, h, n, hn => by
    unfold DataW.weightsAll
    rcases List.mem_cons.1 h with rfl | h
    · exact List.mem_append.2 (.inl hn)
    · exact List.mem_append.2 (.inr (weights_all h n hn))
theorem cbo_ : Try.prog.cellsOf 4 = 1 := by kernel_rfl
theorem cmsg_ : Try.prog.cellsOf 30 = 10 := by kernel_rfl
theorem msg_cells {H : Type} {enc : TypeId × Value → H} {W : World} {base : Nat} {held : Bool} {fuel : Nat} {cs : List Value} {x : DataW H × List MemPlace}
    (h : DataW.trod enc Try.prog W base (fun _ => true) held fuel 30 cs = some x) (hz : ∀ n ∈ x.1.weights Try.prog 30, n ≤ reachBytes) : ∃ (g : Mg) (u : S3), cs = mc (g, u) ∧ Rdm W g u := by
  obtain ⟨xs, n, _, hx, hl, hlen, hf⟩ := DataW.trod_struct Try.underlying30 h
  have hl6 : cs.length = 10 := by
    have : cs.length = Try.prog.cellsOf 30 := hl
    rw [cmsg_] at this
    exact this
  have len6 : xs.length = 10 := hlen
  match cs, hl6, xs, len6 with
  | [c0, c1, c2, c3, c4, c5, c6, c7, c8, c9], _, [x0, x1, x2, x3, x4, x5, x6, x7, x8, x9], _ =>
    have h0 : DataW.trod enc Try.prog W base (fun _ => true) held n 3 (([c0, c1, c2, c3, c4, c5, c6, c7, c8, c9].drop 0).take (Try.prog.cellsOf 3)) = some x0 := hf 0 _ rfl
    have h1 : DataW.trod enc Try.prog W base (fun _ => true) held n 3 (([c0, c1, c2, c3, c4, c5, c6, c7, c8, c9].drop 1).take (Try.prog.cellsOf 3)) = some x1 := hf 1 _ rfl
    have h2 : DataW.trod enc Try.prog W base (fun _ => true) held n 3 (([c0, c1, c2, c3, c4, c5, c6, c7, c8, c9].drop 2).take (Try.prog.cellsOf 3)) = some x2 := hf 2 _ rfl
    have h3 : DataW.trod enc Try.prog W base (fun _ => true) held n 2 (([c0, c1, c2, c3, c4, c5, c6, c7, c8, c9].drop 3).take (Try.prog.cellsOf 2)) = some x3 := hf 3 _ rfl
    have h4 : DataW.trod enc Try.prog W base (fun _ => true) held n 2 (([c0, c1, c2, c3, c4, c5, c6, c7, c8, c9].drop 4).take (Try.prog.cellsOf 2)) = some x4 := hf 4 _ rfl
    have h5 : DataW.trod enc Try.prog W base (fun _ => true) held n 2 (([c0, c1, c2, c3, c4, c5, c6, c7, c8, c9].drop 5).take (Try.prog.cellsOf 2)) = some x5 := hf 5 _ rfl
    have h6 : DataW.trod enc Try.prog W base (fun _ => true) held n 2 (([c0, c1, c2, c3, c4, c5, c6, c7, c8, c9].drop 6).take (Try.prog.cellsOf 2)) = some x6 := hf 6 _ rfl
    have h7 : DataW.trod enc Try.prog W base (fun _ => true) held n 4 (([c0, c1, c2, c3, c4, c5, c6, c7, c8, c9].drop 7).take (Try.prog.cellsOf 4)) = some x7 := hf 7 _ rfl
    have h8 : DataW.trod enc Try.prog W base (fun _ => true) held n 23 (([c0, c1, c2, c3, c4, c5, c6, c7, c8, c9].drop 8).take (Try.prog.cellsOf 23)) = some x8 := hf 8 _ rfl
    have h9 : DataW.trod enc Try.prog W base (fun _ => true) held n 9 (([c0, c1, c2, c3, c4, c5, c6, c7, c8, c9].drop 9).take (Try.prog.cellsOf 9)) = some x9 := hf 9 _ rfl
    simp only [ci_, cn_, cbo_, cst_, ces_, List.drop_zero, List.drop_succ_cons, List.take_succ_cons, List.take_zero] at h0 h1 h2 h3 h4 h5 h6 h7 h8 h9
    have hd : x.1 = .agg [x0.1, x1.1, x2.1, x3.1, x4.1, x5.1, x6.1, x7.1, x8.1, x9.1] := congrArg Prod.fst hx
    obtain ⟨y0, e0, _, w0⟩ := DataW.trod_int Try.underlying3 h0
    simp at e0
    obtain ⟨y1, e1, _, w1⟩ := DataW.trod_int Try.underlying3 h1
    simp at e1
    obtain ⟨y2, e2, _, w2⟩ := DataW.trod_int Try.underlying3 h2
    simp at e2
    obtain ⟨y3, e3, _, w3⟩ := DataW.trod_int Try.underlying2 h3
    simp at e3
    obtain ⟨y4, e4, _, w4⟩ := DataW.trod_int Try.underlying2 h4
    simp at e4
    obtain ⟨y5, e5, _, w5⟩ := DataW.trod_int Try.underlying2 h5
    simp at e5
    obtain ⟨y6, e6, _, w6⟩ := DataW.trod_int Try.underlying2 h6
    simp at e6
    obtain ⟨y7, e7, _⟩ := DataW.trod_bool Try.underlying4 h7
    simp at e7
    obtain ⟨y8, r8⟩ := es_cells h8 (fun n hn => hz n (by rw [hd]; unfold DataW.weights; rw [Try.underlying30]; exact DataW.weights_mem_each (j := 8) (t := 23) rfl rfl n hn))
    obtain ⟨ea, ec, ee, _⟩ := id r8.1
    obtain ⟨y9, e9, _, w9⟩ := DataW.trod_string Try.underlying9 h9
    simp at e9
    refine ⟨⟨y0, y1, y2, y3, y4, y5, y6, y7, y8, y9⟩, ⟨ea, y8.length, ec⟩, ?_, ?_⟩
    · rw [e0, e1, e2, e3, e4, e5, e6, e7, ee, e9]
    · exact ⟨by rw [← ee]; exact r8.1, rfl, r8.2⟩
/-- A message that came in. -/
theorem open_msg {H : Type} {enc : TypeId × Value → H} {W : World} {r : Reach} {base : Nat} {v : Value} {d : DataW H} {p : List MemPlace}
    (hv : Value.okWide Try.prog W r base 30 v) (h : DataW.Trod enc Try.prog W 0 (fun _ => true) true 30 v d p) (hz : ∀ n ∈ d.weights Try.prog 30, n ≤ reachBytes) : ∃ (g : Mg) (u : S3), v = mv g u ∧ Rdm W g u := by
  obtain ⟨cs, rfl, _⟩ := okWide_struct Try.underlying30 hv
  obtain ⟨fuel, hf⟩ := h
  obtain ⟨g, u, e, k⟩ := msg_cells hf hz
  refine ⟨g, u, ?_, k⟩
  obtain ⟨cs⟩ := cs
  have e' : cs = mc (g, u) := e
  rw [e']
/-- Messages that came in. -/
theorem open_msgs {H : Type} {enc : TypeId × Value → H} {W : World} {r : Reach} {base : Nat} {v : Value} {d : DataW H} {p : List MemPlace}
    (hv : Value.okWide Try.prog W r base 35 v) (h : DataW.Trod enc Try.prog W 0 (fun _ => true) true 35 v d p) (hz : ∀ n ∈ d.weights Try.prog 35, n ≤ reachBytes) :
    ∃ (s : S3) (X : List (Mg × S3)), v = .slice s.a s.n s.c ∧ eM.Rx W (.slice s.a s.n s.c) X ∧ s.n = X.length ∧ X.length ≤ 9223372036854775807 ∧ ∀ x ∈ X, Rdm W x.1 x.2 := by
  obtain ⟨a, len, cap, rfl⟩ := okWide_slice Try.underlying35 hv
  obtain ⟨fuel, hf⟩ := h
  rcases Go.Deep.open_slice Try.underlying35 hf with ⟨hcs, hx⟩ | ⟨x, l, c, m, n, D, Pl, hcs, hb, hl, hm, hmm, hx, hall⟩
  · simp [Value.cells] at hcs
    obtain ⟨rfl, rfl, rfl⟩ := hcs
    exact ⟨⟨none, 0, 0⟩, [], rfl, .inl ⟨rfl, rfl⟩, rfl, by simp, by simp⟩
  · simp [Value.cells] at hcs
    obtain ⟨rfl, rfl, rfl⟩ := hcs
    have hm' : cap ≤ 9223372036854775807 := hm
    have hlm : len ≤ m := by rw [hmm]; simp; exact hl
    obtain ⟨X, hX, hQ⟩ := list_of (Q := fun i (o : Mg × S3) => (∀ j, j < 10 → W.cell? (x.add (i * 10 + j)) = (mc o)[j]?) ∧ Rdm W o.1 o.2) len fun i hi => by
      obtain ⟨cs', h1, h2⟩ := hall i (by omega)
      rw [cmsg_] at h1
      obtain ⟨g, u, rfl, k1⟩ := msg_cells h2 (fun n hn => hz n (by
        have : d = .slice ((List.range len).map D) ((List.range (m - len)).map fun j => D (len + j)) := congrArg Prod.fst hx
        rw [this]
        unfold DataW.weights
        rw [Try.underlying35]
        exact List.mem_cons_of_mem _ (List.mem_append.2 (.inl (weights_all (List.mem_map.2 ⟨i, List.mem_range.2 hi, rfl⟩) n hn)))))
      obtain ⟨_, hlen, hcell⟩ := World.cells?_some h1
      refine ⟨(g, u), fun j hj => ?_, k1⟩
      have := hcell j (by simpa using hj)
      rw [Go.Deep.add_add] at this
      exact this
    have hspot : len = 0 ∨ x.spot = none := by
      by_cases h0 : len = 0
      · exact .inl h0
      · right
        obtain ⟨o, ho⟩ : ∃ o, X[0]? = some o := ⟨_, List.getElem?_eq_getElem (by omega)⟩
        have h1 := (hQ 0 o ho).1 0 (by omega)
        have h2 : (mc o)[0]? = some (.int .i64 o.1.kind) := rfl
        rw [h2] at h1
        simpa [Addr.add] using World.cell?_spot h1
    refine ⟨⟨some x, len, cap⟩, X, rfl, .inr ⟨x, cap, by rw [hX], ?_, fun t u hu => ?_⟩, hX.symm, by omega, fun o ho => ?_⟩
    · rcases hspot with e | e
      · exact .inl (List.eq_nil_of_length_eq_zero (by omega))
      · exact .inr e
    · have ht : t < X.length * 10 := by
        have := (List.getElem?_eq_some_iff.1 hu).1
        rw [Elm.cells_len] at this
        exact this
      obtain ⟨y, hy⟩ : ∃ a, X[t / 10]? = some a := ⟨_, List.getElem?_eq_getElem (by omega)⟩
      have h1 := Elm.cells_at eM hy (t % 10) (Nat.mod_lt _ (by decide))
      have e : t / 10 * eM.size + t % 10 = t := by show t / 10 * 10 + t % 10 = t; omega
      rw [e, hu] at h1
      have h2 := (hQ _ y hy).1 (t % 10) (Nat.mod_lt _ (by decide))
      rw [show t / 10 * 10 + t % 10 = t by omega] at h2
      rw [h2]
      exact h1.symm
    · obtain ⟨i, hi, e⟩ := List.getElem_of_mem ho
      exact (hQ i o (by rw [List.getElem?_eq_getElem hi, e])).2
end Go.Proofs.Ytdpcebaggldaiaa
