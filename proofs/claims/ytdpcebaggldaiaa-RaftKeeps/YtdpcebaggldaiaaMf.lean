/- What was answered, asked again. How long a node's slices get. -/
import Derived.Test.YtdpcebaggldaiaaGTop
import Derived.Test.YtdpcebaggldaiaaGTakes
namespace Go.Proofs.Ytdpcebaggldaiaa
open Go.RowKit Trl
open Rft (Nd Mg)
set_option linter.unusedVariables false
set_option maxRecDepth 10000

theorem Row.cap {α : Type} {E : Elm α} {w : World} {base : Nat} {T : Nat → Nat} {i : Nat} {ad : Option Addr} {n c : Nat} {l : List α} (h : Row E w base T i (.slice ad n c) l) : n ≤ c ∧ c ≤ 9223372036854775807 := by
  rcases h with ⟨h, _⟩ | ⟨rfl, a, e⟩
  · rcases h.2 with ⟨e, h0⟩ | ⟨g, cap, cur, e, hg, hh, h1, h2, h3, h4⟩
    · injection e with _ e1 e2
      omega
    · injection e with _ e1 e2
      unfold maxLen at h2
      omega
  · injection e with _ e1 e2
    omega
/-- A node whose slices aren't too long. -/
structure Lens (r : Nd) : Prop where
  c : r.conf.length * 8 ≤ 140737488351232
  e : r.l.length * 24 ≤ 140737488351232
  v : r.votes.length * 8 ≤ 140737488351232
  n : r.next.length * 8 ≤ 140737488351232
  m : r.mat.length * 8 ≤ 140737488351232
theorem Rdn.lens {w : World} {r : Nd} {V : Sv} (h : Rdn w r V) : Lens r := ⟨h.cb, h.eb, h.vb, h.nb, h.mb⟩
theorem Own5.rdn {w : World} {base : Nat} {r : Nd} {V : Sv} {T : Nat → Nat} (h : Own5 w base r V T) (l : Lens r) : Rdn w r V :=
  ⟨h.c.rx, Sl.row h.e, h.v.rx, h.n.rx, h.m.rx, Row.len h.c, Row.len h.e, Row.len h.v, Row.len h.n, Row.len h.m, l.c, l.e, l.v, l.n, l.m, Row.cap h.v⟩
theorem Row.rdm {w : World} {base : Nat} {T : Nat → Nat} {i : Nat} {g : Mg} {u : S3} (h : Row eE w base T i u.v g.es) (l : g.es.length * 24 ≤ 140737488351232) : Rdm w g u := ⟨Sl.row h, Row.len h, l⟩
theorem Rft.restart_lens {r : Nd} (h : Lens r) : Lens (Rft.restart r) := ⟨h.c, h.e, by simp [Rft.restart], by simp [Rft.restart], by simp [Rft.restart]⟩
end Go.Proofs.Ytdpcebaggldaiaa
namespace Go.Proofs.Ytdpcebaggldaiaa
open Go.RowKit Trl
open Rft (Nd Mg)
set_option linter.unusedVariables false
set_option maxRecDepth 10000

/-- None of a node's slices is longer than k. -/
structure Sz (k : Nat) (r : Nd) : Prop where
  c : r.conf.length ≤ k
  e : r.l.length ≤ k
  v : r.votes.length ≤ k
  n : r.next.length ≤ k
  m : r.mat.length ≤ k
theorem Sz.lens {k : Nat} {r : Nd} (h : Sz k r) (hk : k ≤ 1000000) : Lens r := by
  have := h.c; have := h.e; have := h.v; have := h.n; have := h.m
  exact ⟨by omega, by omega, by omega, by omega, by omega⟩
theorem Sz.up {k k' : Nat} {r : Nd} (h : Sz k r) (hk : k ≤ k') : Sz k' r :=
  ⟨Nat.le_trans h.c hk, Nat.le_trans h.e hk, Nat.le_trans h.v hk, Nat.le_trans h.n hk, Nat.le_trans h.m hk⟩
theorem Sz.agree {k : Nat} {r : Nd} (h : Sz k r) : Sz k (Rft.agree r) := by
  unfold Rft.agree
  split
  · exact h
  · split
    · exact ⟨h.c, h.e, h.v, h.n, h.m⟩
    · exact h
theorem Sz.own {k : Nat} {r : Nd} (h : Sz k r) : Sz k (Rft.own r) :=
  ⟨h.c, h.e, h.v, by simpa [Rft.own] using h.n, by simpa [Rft.own] using h.m⟩
theorem Sz.lead0 {k : Nat} {r : Nd} (h : Sz k r) : Sz k (Rft.lead0 r) :=
  ⟨h.c, h.e, by simp [Rft.lead0], by simpa [Rft.lead0] using h.c, by simpa [Rft.lead0] using h.c⟩
theorem Sz.lead1 {k : Nat} {r : Nd} (h : Sz k r) : Sz (k + 1) (Rft.lead1 r) := by
  have h0 := h.lead0.up (Nat.le_succ k)
  unfold Rft.lead1
  split
  · rename_i l hl
    unfold Rft.more at hl
    split at hl
    · injection hl with hl
      refine ⟨h0.c, ?_, h0.v, h0.n, h0.m⟩
      have := h.e
      show l.length ≤ k + 1
      rw [← hl]
      simp
      omega
    · cases hl
  · exact h0
theorem Sz.lead {k : Nat} {r : Nd} (h : Sz k r) : Sz (k + 1) (Rft.leadN r) := by
  unfold Rft.leadN
  exact h.lead1.own.agree
theorem Sz.stand0 {k : Nat} {r : Nd} (h : Sz k r) (d : Int) (hk : 1 ≤ k) : Sz k (Rft.stand0 r d) :=
  ⟨h.c, h.e, by simpa [Rft.stand0] using hk, by simp [Rft.stand0, Rft.clear], by simp [Rft.stand0, Rft.clear]⟩
theorem Sz.stand {k : Nat} {r : Nd} (h : Sz k r) (d : Int) (hk : 1 ≤ k) : Sz (k + 1) (Rft.standN r d) := by
  unfold Rft.standN
  split
  · exact h.up (Nat.le_succ k)
  · split
    · exact (h.stand0 d hk).lead
    · exact (h.stand0 d hk).up (Nat.le_succ k)
theorem Sz.less {k : Nat} {r : Nd} (h : Sz k r) : Sz k (Rft.less r) := by
  unfold Rft.less
  split
  · exact ⟨h.c, h.e, h.v, h.n, h.m⟩
  · exact h
theorem Sz.tick {k : Nat} {r : Nd} (h : Sz k r) (d : Int) (hk : 1 ≤ k) : Sz (k + 1) (Rft.tickN r d) := by
  have h1 := h.less.up (Nat.le_succ k)
  unfold Rft.tickN
  split
  · exact h.up (Nat.le_succ k)
  · split
    · exact h1
    · split
      · exact ⟨h1.c, h1.e, h1.v, h1.n, h1.m⟩
      · exact h.less.stand d hk
theorem len_sub : ∀ (l c : List Int), l.Nodup → (∀ x ∈ l, x ∈ c) → l.length ≤ c.length
  | [], _, _, _ => Nat.zero_le _
  | x :: l, c, hn, hs => by
    have hx : x ∈ c := hs x (by simp)
    have h1 := len_sub l (c.erase x) (List.nodup_cons.1 hn).2 fun y hy => by
      have hne : y ≠ x := fun e => (List.nodup_cons.1 hn).1 (by rw [← e]; exact hy)
      exact (List.mem_erase_of_ne hne).2 (hs y (by simp [hy]))
    have h2 := List.length_erase_of_mem hx
    have h3 := List.length_pos_of_mem hx
    simp only [List.length_cons]
    omega
theorem once_spec (c : List Int) : ∀ (l seen : List Int), Rft.onceIn c seen l = true → l.Nodup ∧ (∀ x ∈ l, x ∈ c) ∧ ∀ x ∈ l, ¬ x ∈ seen
  | [], _, _ => ⟨List.nodup_nil, by simp, by simp⟩
  | x :: l, seen, h => by
    rw [Rft.onceIn] at h
    simp only [Bool.and_eq_true, Bool.not_eq_true'] at h
    obtain ⟨⟨h1, h2⟩, h3⟩ := h
    obtain ⟨k1, k2, k3⟩ := once_spec c l (seen ++ [x]) h3
    refine ⟨List.nodup_cons.2 ⟨fun hx => k3 x hx (by simp), k1⟩, fun y hy => ?_, fun y hy => ?_⟩
    · rcases List.mem_cons.1 hy with rfl | hy
      · exact (Quo.has_iff _ _).1 h1
      · exact k2 y hy
    · rcases List.mem_cons.1 hy with rfl | hy
      · exact Quo.has_no h2
      · exact fun e => k3 y hy (by simp [e])
/-- A right node is small. -/
theorem ok_sz {r : Nd} (h : Rft.ok r = true) : Sz 4096 r := by
  have hn := (ok_parts h).1
  have h7 := hn.c7
  have he := ((chk_iff _ _ _).1 hn.log).2.2.1
  rw [ok_is] at h
  simp only [Bool.and_eq_true] at h
  have hr := h.2.2
  unfold Rft.roleOk at hr
  split at hr
  · simp only [Bool.and_eq_true, decide_eq_true_eq] at hr
    obtain ⟨a, b, c⟩ := hr
    exact ⟨by omega, he, by omega, by omega, by omega⟩
  · split at hr
    · simp only [Bool.and_eq_true, decide_eq_true_eq] at hr
      obtain ⟨⟨_, hv⟩, b, c⟩ := hr
      unfold Rft.votesOk at hv
      simp only [Bool.and_eq_true] at hv
      have hs := once_spec _ _ _ hv.1.2
      have := len_sub _ _ hs.1 hs.2.1
      exact ⟨by omega, he, by omega, by omega, by omega⟩
    · split at hr
      · rename_i h2
        have hp := (ok_parts (r := r) (by rw [ok_is]; simp only [Bool.and_eq_true]; exact h)).2.1 h2
        simp only [Bool.and_eq_true, decide_eq_true_eq] at hr
        have hm := hp.2.1
        have hx := hp.1.len
        have hv : r.votes.length = 0 := by grind
        exact ⟨by omega, he, by omega, by omega, by omega⟩
      · cases hr
/-- A tick of a node that can be read leaves one that can be read. -/
theorem tick_lens {r : Nd} (h : Lens r) (d : Int) : Lens (Rft.tickN r d) := by
  cases hk : Rft.ok r with
  | false =>
    unfold Rft.tickN
    rw [if_pos hk]
    exact h
  | true => exact ((ok_sz hk).tick d (by omega)).lens (by omega)
theorem Sz.later {k : Nat} {r : Nd} (h : Sz k r) (m : Mg) : Sz k (Rft.later r m) := by
  unfold Rft.later
  split
  · exact ⟨h.c, h.e, by simp [Rft.clear], by simp [Rft.clear], by simp [Rft.clear]⟩
  · exact h
theorem Sz.ask {k : Nat} {r : Nd} (h : Sz k r) (m : Mg) : Sz k (Rft.askN r m) := by
  unfold Rft.askN
  split
  · exact ⟨h.c, h.e, h.v, h.n, h.m⟩
  · exact h
theorem Sz.voted {k : Nat} {r : Nd} (h : Sz k r) (m : Mg) : Sz (k + 1) (Rft.voted r m) := by
  have := h.c; have := h.e; have := h.v; have := h.n; have := h.m
  refine ⟨?_, ?_, ?_, ?_, ?_⟩ <;> simp [Rft.voted] <;> omega
theorem Sz.grant {k : Nat} {r : Nd} (h : Sz k r) (m : Mg) : Sz (k + 2) (Rft.grantN r m) := by
  unfold Rft.grantN
  split
  · split
    · exact (h.voted m).lead
    · exact (h.voted m).up (by omega)
  · exact h.up (by omega)
/-- So does an ask or a grant. -/
theorem hand_lens {r : Nd} (h : Lens r) (m : Mg) (hm : m.kind = 1 ∨ m.kind = 2) : Lens (Rft.handN r m) := by
  cases hk : Rft.ok r with
  | false =>
    unfold Rft.handN
    rw [if_pos (by rw [hk]; rfl)]
    exact h
  | true =>
    have h0 := ok_sz hk
    unfold Rft.handN
    split
    · exact h
    · split
      · exact (h0.later m).lens (by omega)
      · unfold Rft.armN
        rcases hm with e | e
        · rw [if_pos e]
          exact ((h0.later m).ask m).lens (by omega)
        · rw [if_neg (by omega), if_pos e]
          exact ((h0.later m).grant m).lens (by omega)
end Go.Proofs.Ytdpcebaggldaiaa
