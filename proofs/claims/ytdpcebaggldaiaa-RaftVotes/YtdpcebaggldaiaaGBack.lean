/- What was answered, asked again. -/
import Derived.Test.YtdpcebaggldaiaaGTop
import Derived.Test.YtdpcebaggldaiaaGTakes
namespace Go.Proofs.Ytdpcebaggldaiaa
open Go.RowKit Trl
open Rft (Nd Mg)
set_option linter.unusedVariables false
set_option maxRecDepth 10000

theorem Row.cap {α : Type} {E : Elm α} {w : World} {base : Nat} {T : Nat → Nat} {i : Nat} {ad : Option Addr} {n c : Nat} {l : List α} (h : Row E w base T i (.slice ad n c) l) : n ≤ c ∧ c ≤ 9223372036854775807 := by
  rcases h with ⟨h, _⟩ | ⟨rfl, a, e⟩
  · rcases h.2 with ⟨e, h0⟩ | ⟨g, cap, cur, e, hg, hh, h1, h2, h3, h4⟩
    · injection e with _ e1 e2
      omega
    · injection e with _ e1 e2
      unfold maxLen at h2
      omega
  · injection e with _ e1 e2
    omega
/-- A node whose slices aren't too long. -/
structure Lens (r : Nd) : Prop where
  c : r.conf.length * 8 ≤ 140737488351232
  e : r.l.length * 24 ≤ 140737488351232
  v : r.votes.length * 8 ≤ 140737488351232
  n : r.next.length * 8 ≤ 140737488351232
  m : r.mat.length * 8 ≤ 140737488351232
theorem Rdn.lens {w : World} {r : Nd} {V : Sv} (h : Rdn w r V) : Lens r := ⟨h.cb, h.eb, h.vb, h.nb, h.mb⟩
theorem Own5.rdn {w : World} {base : Nat} {r : Nd} {V : Sv} {T : Nat → Nat} (h : Own5 w base r V T) (l : Lens r) : Rdn w r V :=
  ⟨h.c.rx, Sl.row h.e, h.v.rx, h.n.rx, h.m.rx, Row.len h.c, Row.len h.e, Row.len h.v, Row.len h.n, Row.len h.m, l.c, l.e, l.v, l.n, l.m, Row.cap h.v⟩
theorem Row.rdm {w : World} {base : Nat} {T : Nat → Nat} {i : Nat} {g : Mg} {u : S3} (h : Row eE w base T i u.v g.es) (l : g.es.length * 24 ≤ 140737488351232) : Rdm w g u := ⟨Sl.row h, Row.len h, l⟩
theorem Rft.restart_lens {r : Nd} (h : Lens r) : Lens (Rft.restart r) := ⟨h.c, h.e, by simp [Rft.restart], by simp [Rft.restart], by simp [Rft.restart]⟩
end Go.Proofs.Ytdpcebaggldaiaa
