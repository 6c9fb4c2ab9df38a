/- What CodeFrames needs: the call's own bytes with one of them turned; 'Unframe' in each of its ways. -/
import Derived.Test.YtmolldednpdicaaCUnframe
namespace Go.Proofs.Ytmolldednpdicaa
open Go.RowKit

theorem own_form {w : World} {base : Nat} {v : Value} {l : List Int} (h : Own w base v l) (hl : 0 < l.length) : ∃ g c, v = .slice (some ⟨g, 0, none⟩) l.length c ∧ l.length ≤ c := by
  rcases h.row.2 with ⟨_, h0⟩ | ⟨g, cap, cur, rfl, hg, hh, h1, h2, h3, h4⟩
  · omega
  · exact ⟨g, cap, rfl, h1⟩
theorem own_at {w : World} {base g cap : Nat} {l : List Int} (h : Own w base (.slice (some ⟨g, 0, none⟩) l.length cap) l) (i : Nat) (hi : i < l.length) : w.cell? ⟨g, i, none⟩ = some (.int .u8 (l.getD i 0)) := by
  have hc := World.ownsRow.cells h.row (g := g) rfl i (.int .u8 (l.getD i 0)) (by simp [hi])
  rwa [Addr.add_lit, Nat.zero_add] at hc
theorem own_thaw {w : World} {base g cap : Nat} {l : List Int} (h : Own w base (.slice (some ⟨g, 0, none⟩) l.length cap) l) (i : Nat) : w.frozen? ⟨g, i, none⟩ = false := h.row.frozenAt i
theorem own_put {w : World} {base g cap : Nat} {l : List Int} (h : Own w base (.slice (some ⟨g, 0, none⟩) l.length cap) l) (i : Nat) (z : Int) (hz : Crc.Byte z) :
    Own (w.setCell ⟨g, i, none⟩ (.int .u8 z)) base (.slice (some ⟨g, 0, none⟩) (l.set i z).length cap) (l.set i z) := by
  refine ⟨?_, fun x hx => ?_⟩
  · have := (h.row.stored i (.int .u8 z)).1
    rw [List.length_set, List.map_set]
    exact this
  · rcases List.mem_or_eq_of_mem_set hx with h' | h'
    · exact h.bytes x h'
    · rw [h']; exact hz

theorem unframe_ok (a : Option Addr) (n c : Nat) (l : List Int) (hn : n = l.length) (w : World) (h : Sl w (.slice a n c) l) (hl : l.length ≤ 1000000) {y : List Int} {m : Nat} (hu : Code.unf l = .ok (y, m)) :
    Calls Try.prog 16 #[.slice a n c] w fun e w' => ∃ a' c', e = .returned (.tuple #[.slice a' y.length c', .int .i64 m, .int .i64 0]) ∧ Rd w' (.slice a' y.length c') y ∧ w.grownBy w' none := by
  subst hn
  refine (unframe_any a c l w h hl).mono fun e w' ⟨hg, ho⟩ => ?_
  rw [hu] at ho
  obtain ⟨a', c', h1, h2⟩ := ho
  exact ⟨a', c', h1, h2, hg⟩
theorem unframe_err (a : Option Addr) (n c : Nat) (l : List Int) (hn : n = l.length) (w : World) (h : Sl w (.slice a n c) l) (hl : l.length ≤ 1000000) {x : Int} (hu : Code.unf l = .error x) :
    Calls Try.prog 16 #[.slice a n c] w fun e w' => e = .returned (.tuple #[.slice none 0 0, .int .i64 0, .int .i64 x]) ∧ (x == 0) = false ∧ w.grownBy w' none := by
  subst hn
  refine (unframe_any a c l w h hl).mono fun e w' ⟨hg, ho⟩ => ?_
  rw [hu] at ho
  exact ⟨ho.2, ho.1, hg⟩

/-- The third reading, told by what the statement looks at. -/
theorem unframe_three (a : Option Addr) (n c : Nat) (l : List Int) (hn : n = l.length) (w : World) (h : Sl w (.slice a n c) l) (hl : l.length ≤ 1000000) :
    Calls Try.prog 16 #[.slice a n c] w fun e w' => ∃ (a' : Option Addr) (n' c' m' : Nat) (x' : Int), e = .returned (.tuple #[.slice a' n' c', .int .i64 m', .int .i64 x']) ∧
      ((x' == 0) = false ∨ ∃ y, Code.unf l = .ok (y, m') ∧ n' = y.length) ∧ w.grownBy w' none := by
  subst hn
  refine (unframe_any a c l w h hl).mono fun e w' ⟨hg, ho⟩ => ?_
  cases hu : Code.unf l with
  | error x =>
    rw [hu] at ho
    exact ⟨none, 0, 0, 0, x, ho.2, .inl ho.1, hg⟩
  | ok p =>
    obtain ⟨y, m⟩ := p
    rw [hu] at ho
    obtain ⟨a', c', h1, h2⟩ := ho
    exact ⟨a', y.length, c', m, 0, h1, .inr ⟨y, rfl, rfl⟩, hg⟩

theorem sl_take {w : World} {a : Option Addr} {c : Nat} {l : List Int} (h : Sl w (.slice a l.length c) l) (k : Nat) (hk : k ≤ l.length) : Sl w (.slice a k c) (l.take k) := by
  have hlen : (l.take k).length = k := by rw [List.length_take]; omega
  obtain ⟨a', c', e, h1, h2⟩ := h.cap
  injection e with e1 e2 e3
  subst e1 e3
  have hl := h.rd.len
  refine ⟨⟨h.rd.bytes.take k, by omega, ?_⟩, ⟨a, c, by rw [hlen], by omega, h2⟩⟩
  rcases h.rd.val with ⟨rfl, e⟩ | ⟨b, off, cap, e, hc⟩
  · have hk0 : k = 0 := by simpa using hk
    subst hk0
    refine .inl ⟨by simp, ?_⟩
    rcases e with e | ⟨x, y, e⟩
    · exact .inl (by simpa using e)
    · exact .inr ⟨x, y, by simpa using e⟩
  · injection e with e1 e2 e3
    subst e1 e3
    refine .inr ⟨b, off, c, by rw [hlen], fun i hi => ?_⟩
    rw [hlen] at hi
    rw [hc i (by omega)]
    simp [hi]
end Go.Proofs.Ytmolldednpdicaa
