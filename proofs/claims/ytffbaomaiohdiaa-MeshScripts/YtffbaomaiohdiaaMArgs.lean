/- Scripts that came in. -/
import Derived.Test.YtffbaomaiohdiaaMAwake
import Derived.Test.YtffbaomaiohdiaaRows
import Derived.ProofKit
import Derived.OpenShut
import Derived.ChangeOld
import Derived.Deep.Slices
import Derived.Deep.Strs
import Derived.SizedLaws
namespace Go.Proofs.Ytffbaomaiohdiaa
open Go.ChangeShapes Go.WideShapes Go.ChangeAt Go.RowKit Msh
set_option linter.unusedVariables false
set_option maxRecDepth 100000

/-- One of a script. -/
structure Dd where
  kd : Int
  a : Int
  b : Int
  body : ByteArray
def eD : Elm Dd where
  el := 32
  sl := 22
  size := 4
  bytes := 40
  zero := .agg #[.int .i64 0, .int .i64 0, .int .i64 0, .string ⟨#[]⟩]
  enc := fun p => [.int .i64 p.kd, .int .i64 p.a, .int .i64 p.b, .string p.body]
  hu := Try.underlying22
  hi := by kernel_rfl
  hz := rfl
  hs := by decide
  len := fun _ => rfl
  one := by intro x v hv; simp at hv; rcases hv with rfl | rfl | rfl | rfl <;> rfl
  he := by kernel_rfl
  so := fun W => Try.sizeOf32 W
abbrev dv (p : Dd) : Value := .agg #[.int .i64 p.kd, .int .i64 p.a, .int .i64 p.b, .string p.body]
def rch : Nat := 140737488351232
theorem cellsDo : Try.prog.cellsOf 32 = 4 := by kernel_rfl
theorem cellsS : Try.prog.cellsOf 9 = 1 := by kernel_rfl
theorem rch_is : reachBytes = rch := by decide
theorem size_list (s : ByteArray) : s.size = s.data.toList.length := by cases s; simp [ByteArray.size]
theorem i64_of {x : Int} (h : (Lit.int .i64 x).wf = true) : I64 x := by
  have := bounds_i64 h
  unfold I64
  omega
theorem weights_all {H : Type} {P : Program} {e : TypeId} : ∀ {l : List (DataW H)} {d : DataW H}, d ∈ l → ∀ n ∈ d.weights P e, n ∈ DataW.weightsAll P e l
  | [], _, h, _, _ => by simp at h
  | x :: l, d, h, n, hn => by
    unfold DataW.weightsAll
    rcases List.mem_cons.1 h with rfl | h
    · exact List.mem_append.2 (.inl hn)
    · exact List.mem_append.2 (.inr (weights_all h n hn))
theorem do_cells {H : Type} {enc : TypeId × Value → H} {W : World} {base : Nat} {spare : Nat → Bool} {held : Bool} {fuel : Nat} {cs : List Value} {x : DataW H × List MemPlace}
    (h : DataW.trod enc Try.prog W base spare held fuel 32 cs = some x) (hz : ∀ n ∈ x.1.weights Try.prog 32, n ≤ reachBytes) :
    ∃ o : Dd, cs = eD.enc o ∧ o.body.size ≤ rch ∧ I64 o.a ∧ I64 o.b ∧ I64 o.kd := by
  obtain ⟨xs, n, _, hx, hl, hlen, hf⟩ := DataW.trod_struct Try.underlying32 h
  have hl4 : cs.length = 4 := by
    have : cs.length = Try.prog.cellsOf 32 := hl
    rw [cellsDo] at this
    exact this
  have len4 : xs.length = 4 := hlen
  match cs, hl4, xs, len4 with
  | [c0, c1, c2, c3], _, [x0, x1, x2, x3], _ =>
    have h0 : DataW.trod enc Try.prog W base spare held n 3 (([c0, c1, c2, c3].drop 0).take (Try.prog.cellsOf 3)) = some x0 := hf 0 _ rfl
    have h1 : DataW.trod enc Try.prog W base spare held n 3 (([c0, c1, c2, c3].drop 1).take (Try.prog.cellsOf 3)) = some x1 := hf 1 _ rfl
    have h2 : DataW.trod enc Try.prog W base spare held n 3 (([c0, c1, c2, c3].drop 2).take (Try.prog.cellsOf 3)) = some x2 := hf 2 _ rfl
    have h3 : DataW.trod enc Try.prog W base spare held n 9 (([c0, c1, c2, c3].drop 3).take (Try.prog.cellsOf 9)) = some x3 := hf 3 _ rfl
    simp only [cellsI, cellsS, List.drop_zero, List.drop_succ_cons, List.take_succ_cons, List.take_zero] at h0 h1 h2 h3
    have wt : ∀ (j : Nat) (t : TypeId) (d : DataW H), [3, 3, 3, 9][j]? = some t → [x0.1, x1.1, x2.1, x3.1][j]? = some d → ∀ n ∈ d.weights Try.prog t, n ≤ reachBytes := fun j t d ht hd n hn => by
      refine hz n ?_
      rw [hx]
      unfold DataW.weights
      rw [Try.underlying32]
      exact DataW.weights_mem_each ht hd n hn
    obtain ⟨kd, e0, _, w0⟩ := DataW.trod_int Try.underlying3 h0
    obtain ⟨ka, e1, _, w1⟩ := DataW.trod_int Try.underlying3 h1
    obtain ⟨kb, e2, _, w2⟩ := DataW.trod_int Try.underlying3 h2
    obtain ⟨s, e3, y3, _⟩ := DataW.trod_string Try.underlying9 h3
    have hs := wt 3 _ _ rfl rfl s.data.toList.length (by rw [y3]; unfold DataW.weights; simp)
    refine ⟨⟨kd, ka, kb, s⟩, ?_, by rw [rch_is] at hs; rw [size_list]; exact hs, i64_of w1, i64_of w2, i64_of w0⟩
    simp at e0 e1 e2 e3
    rw [e0, e1, e2, e3]
    rfl
/-- A script that came in. -/
def Sc (W : World) (v : Value) (os : List Dd) : Prop := eD.Rx W v os ∧ os.length ≤ 9223372036854775807 ∧ ∀ o ∈ os, o.body.size ≤ 140737488351232 ∧ I64 o.a ∧ I64 o.b ∧ I64 o.kd
theorem open_do {H : Type} {enc : TypeId × Value → H} {W : World} {r : Reach} {base : Nat} {v : Value} {d : DataW H} {p : List MemPlace}
    (hv : Value.okWide Try.prog W r base 22 v) (h : DataW.Trod enc Try.prog W 0 (fun _ => true) true 22 v d p) (hz : ∀ n ∈ d.weights Try.prog 22, n ≤ reachBytes) : ∃ os, Sc W v os := by
  obtain ⟨a, len, cap, rfl⟩ := okWide_slice Try.underlying22 hv
  obtain ⟨fuel, hf⟩ := h
  rcases Go.Deep.open_slice Try.underlying22 hf with ⟨hcs, hx⟩ | ⟨x, l, c, m, n, D, Pl, hcs, hb, hl, hm, hmm, hx, hall⟩
  · simp [Value.cells] at hcs
    obtain ⟨rfl, rfl, rfl⟩ := hcs
    exact ⟨[], .inl ⟨rfl, rfl⟩, by simp, by simp⟩
  · simp [Value.cells] at hcs
    obtain ⟨rfl, rfl, rfl⟩ := hcs
    have hm' : cap ≤ 9223372036854775807 := hm
    have hlm : len ≤ m := by rw [hmm]; simp; exact hl
    have each : ∀ i, i < len → ∃ o : Dd, (∀ j u, (eD.enc o)[j]? = some u → W.cell? (x.add (i * 4 + j)) = some u) ∧ o.body.size ≤ rch ∧ I64 o.a ∧ I64 o.b ∧ I64 o.kd := by
      intro i hi
      obtain ⟨cs', h1, h2⟩ := hall i (by omega)
      rw [cellsDo] at h1
      obtain ⟨o, rfl, k1, k2, k3, k4⟩ := do_cells h2 (fun n hn => hz n (by
        have : d = .slice ((List.range len).map D) ((List.range (m - len)).map fun j => D (len + j)) := congrArg Prod.fst hx
        rw [this]
        unfold DataW.weights
        rw [Try.underlying22]
        exact List.mem_cons_of_mem _ (List.mem_append.2 (.inl (weights_all (List.mem_map.2 ⟨i, List.mem_range.2 hi, rfl⟩) n hn)))))
      obtain ⟨_, hlen, hcell⟩ := World.cells?_some h1
      refine ⟨o, fun j u hu => ?_, k1, k2, k3, k4⟩
      have hj := (List.getElem?_eq_some_iff.1 hu)
      have := hcell j (by have := hj.1; omega)
      rw [Go.Deep.add_add] at this
      rw [this]
      exact hu
    have hinh : Inhabited Dd := ⟨⟨0, 0, 0, ⟨#[]⟩⟩⟩
    obtain ⟨F, hF⟩ := Go.Deep.choose_lt each
    refine ⟨(List.range len).map F, .inr ⟨x, cap, by simp, ?_, fun t u hu => ?_⟩, by simp; omega, fun o ho => ?_⟩
    · by_cases h0 : len = 0
      · exact .inl (by subst h0; rfl)
      · have := (hF 0 (by omega)).1 0 _ rfl
        obtain ⟨bb, off, spot⟩ := x
        have hspot : spot = none := by simpa [Addr.add] using World.cell?_spot this
        exact .inr hspot
    · have ht : t < len * 4 := by
        have := (List.getElem?_eq_some_iff.1 hu).1
        rw [Elm.cells_len] at this
        have e4 : eD.size = 4 := rfl
        rw [e4] at this
        simpa using this
      have hq : ((List.range len).map F)[t / 4]? = some (F (t / 4)) := by simp [show t / 4 < len by omega]
      have h1 := Elm.cells_at eD hq (t % 4) (Nat.mod_lt _ (by decide))
      have e : t / 4 * eD.size + t % 4 = t := by show t / 4 * 4 + t % 4 = t; omega
      rw [e, hu] at h1
      have := (hF (t / 4) (by omega)).1 (t % 4) u h1.symm
      rwa [show t / 4 * 4 + t % 4 = t by omega] at this
    · obtain ⟨i, hi, rfl⟩ := List.mem_map.1 ho
      exact (hF i (List.mem_range.1 hi)).2
/-- Numbers that came in. -/
def eK : Elm Int where
  el := 3
  sl := 47
  size := 1
  bytes := 8
  zero := .int .i64 0
  enc := fun x => [.int .i64 x]
  hu := Try.underlying47
  hi := by kernel_rfl
  hz := rfl
  hs := by decide
  len := fun _ => rfl
  one := by intro x v hv; simp at hv; subst hv; rfl
  he := by kernel_rfl
  so := fun W => Try.sizeOf3 W
def Tw (W : World) (v : Value) (l : List Int) : Prop := eK.Rx W v l ∧ l.length ≤ 9223372036854775807 ∧ ∀ x ∈ l, I64 x
theorem open_tw {H : Type} {enc : TypeId × Value → H} {W : World} {r : Reach} {base : Nat} {v : Value} {d : DataW H} {p : List MemPlace}
    (hv : Value.okWide Try.prog W r base 47 v) (h : DataW.Trod enc Try.prog W 0 (fun _ => true) true 47 v d p) : ∃ l, Tw W v l := by
  obtain ⟨a, len, cap, rfl⟩ := okWide_slice Try.underlying47 hv
  obtain ⟨fuel, hf⟩ := h
  rcases open_ints Try.underlying47 Try.underlying3 (by kernel_rfl) hf with ⟨hcs, hx⟩ | ⟨x, l, c, zs, hcs, _, hl, hm, hzl, hx, hcell, hwz⟩
  · simp [Value.cells] at hcs
    obtain ⟨rfl, rfl, rfl⟩ := hcs
    exact ⟨[], .inl ⟨rfl, rfl⟩, by simp, by simp⟩
  · simp [Value.cells] at hcs
    obtain ⟨rfl, rfl, rfl⟩ := hcs
    have hm' : cap ≤ 9223372036854775807 := hm
    have hlen : len ≤ zs.length := by rw [hzl]; split <;> omega
    have hbl : (zs.take len).length = len := by rw [List.length_take]; omega
    refine ⟨zs.take len, .inr ⟨x, cap, by rw [hbl], ?_, fun t u hu => ?_⟩, by omega, fun y hy => i64_of (hwz y (List.mem_of_mem_take hy))⟩
    · by_cases h0 : len = 0
      · exact .inl (by subst h0; simp)
      · obtain ⟨b, off, rfl, _⟩ := Go.ints_at hcell (by omega)
        exact .inr rfl
    · have ht : t < len := by
        have := (List.getElem?_eq_some_iff.1 hu).1
        rw [Elm.cells_len, hbl] at this
        have e : eK.size = 1 := rfl
        rw [e] at this
        omega
      have hgt : (zs.take len)[t]? = some (zs.getD t 0) := by
        rw [List.getElem?_take_of_lt ht, List.getElem?_eq_getElem (by omega)]
        simp [List.getD, show t < zs.length by omega]
      have h1 := Elm.cells_at eK hgt 0 (by decide)
      have e : eK.size = 1 := rfl
      rw [e, Nat.mul_one, Nat.add_zero, hu] at h1
      injection h1 with h1
      rw [h1, hcell t (by omega)]
/-- A whole 'Do' is loaded. -/
theorem load_do {ops : Array Oper} {rest : List Oper} {d : Option Tmp} {ty' : TypeId} {x : Operand} {ps : String} {af : Array Edge} {a : Act} {w : World} {Q : Exit → Act → World → Prop}
    (q o : Nat) (p : Dd) (hx : a.eval x = .pointer (some ⟨q, o, none⟩)) (hr : w.rangeAt q o (eD.enc p))
    (h : wpList Try.prog ops Q rest (a.put d (dv p)) w) : wpList Try.prog ops Q (⟨d, .load 32 x, ty', ps, af, none⟩ :: rest) a w :=
  wpList_load_mid rfl 32 x rfl q o hx (eD.enc p) _ hr Try.underlying32 rfl (by kernel_rfl) h
theorem range_do {w : World} {v : Value} {l : List Dd} {i : Nat} {p : Dd} (h : eD.Rx w v l) (hi : l[i]? = some p) : ∃ g o c, v = .slice (some ⟨g, o, none⟩) l.length c ∧ w.rangeAt g (o + i * 4) (eD.enc p) := by
  obtain ⟨g, o, c, h1, h2⟩ := h.at_ hi
  exact ⟨g, o, c, h1, h2⟩
end Go.Proofs.Ytffbaomaiohdiaa
