/- A node at work: what pushes, bundles and acks change. -/
import Derived.Test.YtdpcebaggldaiaaGLead
import Derived.Test.YtdpcebaggldaiaaTPutA
import Derived.Test.YtdpcebaggldaiaaMa
namespace Go.Proofs.Ytdpcebaggldaiaa
open Go.RowKit Trl
open Rft (Nd Mg)
set_option linter.unusedVariables false
set_option maxRecDepth 10000

/-- A message that is read whatever comes to lie behind 'base'. -/
structure Rdk (w : World) (base : Nat) (g : Mg) (u : S3) : Prop where
  e : ∀ W, Kp base w W → Sl W (.slice u.a u.n u.c) g.es
  el : u.n = g.es.length
  eb : g.es.length * 24 ≤ 140737488351232
theorem heard_is {r : Nd} {m : Mg} (h1 : r.next = []) (h2 : r.mat = []) : Rft.heard r m = Rft.obey r m.fm := by
  unfold Rft.heard Rft.obey Rft.clear
  simp only [h1, h2]
theorem com_o {w : World} {base b : Nat} {r : Nd} {L : List Mg} {c : S3} (x : Int) (h : Ob w base b r L c) : Ob (w.setCell ⟨b, 10, none⟩ (.int .i64 x)) base b { r with com := x } L c ∧ Kp base w (w.setCell ⟨b, 10, none⟩ (.int .i64 x)) := by
  obtain ⟨X, V, s, T, h0, hX, hVc⟩ := h
  have C := chg_setb (Chg.refl (fun k => k = b) w) b 10 (.int .i64 x) rfl
  exact ⟨⟨X, V, s, T, h0.turn C (h0.cs.set 10 _) ⟨rfl, rfl⟩ (.inl ⟨rfl, rfl⟩) (.inl ⟨rfl, rfl⟩) (.inl ⟨rfl, rfl⟩) (.inl ⟨rfl, rfl⟩), hX, hVc⟩, C.toKp h0.hb⟩
theorem max_com {c q e l : Int} (h : e ≤ l) : max c (min q e) = (if c < Rft.mn l (Rft.mn e q) then Rft.mn l (Rft.mn e q) else c) := by
  rw [← com_is h]
  simp only [Int.max_def, Int.min_def]
  grind
theorem min_hint (l i : Int) : min l (max (i - 1) 0) = Rft.mn l (if i - 1 < 0 then 0 else i - 1) := by
  unfold Rft.mn
  simp only [Int.max_def, Int.min_def]
  grind
theorem max_end (e b : Int) : max e b = if e < b then b else e := by
  simp only [Int.max_def]
  grind
/-- A log is stored in the object. -/
theorem log_o {w w1 : World} {base b : Nat} {r : Nd} {L : List Mg} {c : S3} {l : List En} {B K : Int} {a : Option Addr} {n cp : Nat} (h : Ob w base b r L c) (g : w.grownBy w1 none) (hA : eE.Own w1 w.heap.size (.slice a n cp) l) :
    Ob (((w1.setCell ⟨b, 6, none⟩ (.int .i64 B)).setCell ⟨b, 7, none⟩ (.int .i64 K)).setCell ⟨b, 8, none⟩ (.slice a n cp)) base b { r with b := B, k := K, l := l } L c ∧ Chg (fun k => k = b) w1 (((w1.setCell ⟨b, 6, none⟩ (.int .i64 B)).setCell ⟨b, 7, none⟩ (.int .i64 K)).setCell ⟨b, 8, none⟩ (.slice a n cp)) := by
  obtain ⟨X, V, s, T, h0, hX, hVc⟩ := h
  have C := chg_setb (chg_setb (chg_setb (Chg.refl (fun k => k = b) w1) b 6 (.int .i64 B) rfl) b 7 (.int .i64 K) rfl) b 8 (.slice a n cp) rfl
  have O1 := h0.grown g
  obtain ⟨T', O'⟩ := h0.log (r' := { r with b := B, k := K, l := l }) (V' := { V with e := ⟨a, n, cp⟩ }) (u := ⟨a, n, cp⟩) g hA C (((O1.cs.set 6 _).set 7 _).set 8 _) ⟨rfl, rfl⟩ rfl (.inl ⟨rfl, rfl⟩) (.inl ⟨rfl, rfl⟩) (.inl ⟨rfl, rfl⟩)
  exact ⟨⟨X, _, s, T', O', hX, hVc⟩, C⟩
/-- Ahead of a push: the log, and what is agreed on. -/
theorem ob_cells {w : World} {base b : Nat} {r : Nd} {L : List Mg} {c : S3} (h : Ob w base b r L c) : ∃ V : Sv, w.cell? ⟨b, 6, none⟩ = some (.int .i64 r.b) ∧ w.cell? ⟨b, 7, none⟩ = some (.int .i64 r.k) ∧ w.cell? ⟨b, 8, none⟩ = some (.slice V.e.a V.e.n V.e.c) ∧ w.cell? ⟨b, 10, none⟩ = some (.int .i64 r.com) ∧ w.cell? ⟨b, 4, none⟩ = some (.int .i64 r.role) ∧ Sl w (.slice V.e.a V.e.n V.e.c) r.l ∧ ∀ i, w.frozen? ⟨b, i, none⟩ = false := by
  obtain ⟨X, V, s, T, h0, hX, hVc⟩ := h
  exact ⟨V, h0.cs.at_ 6 rfl, h0.cs.at_ 7 rfl, h0.cs.at_ 8 rfl, h0.cs.at_ 10 rfl, h0.cs.at_ 4 rfl, Sl.row h0.e, h0.cs.2.1⟩
theorem last_ob {w : World} {base b : Nat} {r : Nd} {L : List Mg} {c : S3} (h : Ob w base b r L c) (hk : chk r.b r.k r.l = true) :
    Calls Try.prog 57 #[.pointer (some ⟨b, 0, none⟩)] w fun e w' => e = .returned (.int .i64 r.last) ∧ w.grownBy w' none := by
  obtain ⟨X, V, s, T, h0, hX, hVc⟩ := h
  exact last_w h0 hk
end Go.Proofs.Ytdpcebaggldaiaa
