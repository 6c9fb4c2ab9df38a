/- A node at work: it stands. -/
import Derived.Test.YtdpcebaggldaiaaGLead3
namespace Go.Proofs.Ytdpcebaggldaiaa
open Go.RowKit Trl
open Rft (Nd Mg)
set_option linter.unusedVariables false
set_option maxRecDepth 10000

/-- The votes are others, made just now. -/
theorem Oc.votes {w w1 w2 : World} {base b : Nat} {r r' : Nd} {X : List (Mg × S3)} {V V' : Sv} {s u : S3} {T : Nat → Nat} (h : Oc w base b r X V s T) (g : w.grownBy w1 none) (hO : eK.Own w1 w.heap.size (.slice u.a u.n u.c) r'.votes) (C : Chg (fun k => k = b) w1 w2) (hc : Cs w2 b (oc r' V' s))
    (h1 : r'.conf = r.conf ∧ V'.c = V.c) (h2 : r'.l = r.l ∧ V'.e = V.e) (h3 : V'.v = u) (h4 : r'.next = r.next ∧ V'.n = V.n) (h5 : r'.mat = r.mat ∧ V'.m = V.m) : ∃ T', Oc w2 base b r' X V' s T' := by
  have O1 := (h.retag (tag_more T w.heap.size 2)).grown g
  have hbl := h.cs.2.2
  have hbb := h.hb
  have ne : ∀ i, i ≠ 0 → ∀ k, (fun k => if k < w.heap.size then T k else 2) k = i → base ≤ k → k < w1.heap.size → ¬ k = b := fun i hi k ht _ _ e => by subst e; exact hi (O1.tb.symm.trans ht).symm
  refine ⟨fun k => if k < w.heap.size then T k else 2, ?_⟩
  have vR : Row eK w1 base (fun k => if k < w.heap.size then T k else 2) 2 (.slice u.a u.n u.c) r'.votes := .inl ⟨hO.low (by omega), fun k hk => if_neg (by have := (hO.lt k hk).1; omega)⟩
  exact ⟨O1.hb, O1.tb, hc, by rw [h1.1, h1.2]; exact O1.c.kept C (ne 1 (by decide)), by rw [h2.1, h2.2]; exact O1.e.kept C (ne 1 (by decide)), by rw [h3]; exact vR.kept C (ne 2 (by decide)), by rw [h4.1, h4.2]; exact O1.n.kept C (ne 3 (by decide)), by rw [h5.1, h5.2]; exact O1.m.kept C (ne 4 (by decide)), ⟨O1.l.1.kept C (fun k hk e => ne 5 (by decide) k (O1.l.2 k hk) (O1.l.1.lt k hk).1 (O1.l.1.lt k hk).2 e), O1.l.2⟩, fun x hx => (O1.ms x hx).kept C (ne 1 (by decide))⟩
theorem rise_once {c : List Int} (h : Quo.chk c = true) (x : Int) (hx : Quo.has c x = true) : Quo.ins c [x] = 1 := by
  have hp := ((Quo.chk_iff c).1 h).2.2.2
  have hm := (Quo.has_iff c x).1 hx
  clear h hx
  unfold Quo.ins
  have e : (fun y => Quo.has [x] y) = fun y => y == x := by
    funext y
    cases hy : (y == x) with
    | true => have : y = x := by simpa using hy
              subst this
              exact (Quo.has_iff _ _).2 (by simp)
    | false =>
      cases h : Quo.has [x] y with
      | false => rfl
      | true =>
        have := (Quo.has_iff _ _).1 h
        simp at this
        subst this
        simp at hy
  rw [e]
  induction c with
  | nil => simp at hm
  | cons y c ih =>
    rw [List.pairwise_cons] at hp
    rw [List.countP_cons]
    rcases List.mem_cons.1 hm with rfl | hm
    · have : c.countP (fun y => y == x) = 0 := by
        rw [List.countP_eq_zero]
        intro z hz hc
        have := hp.1 z hz
        simp at hc
        omega
      rw [this]
      simp
    · have h1 := hp.1 x hm
      rw [ih hp.2 hm]
      have : (y == x) = false := by simp; omega
      rw [this]
      simp
theorem wins_one {c : List Int} (h : Quo.chk c = true) (x : Int) (hx : Quo.has c x = true) : Quo.wins c [x] = decide (c.length = 1) := by
  have h1 := rise_once h x hx
  have h0 := ((Quo.chk_iff c).1 h).1
  unfold Quo.wins
  rw [h, Bool.true_and, h1]
  cases hd : decide (c.length = 1) with
  | true => have := of_decide_eq_true hd; exact decide_eq_true (by omega)
  | false => have := of_decide_eq_false hd; exact decide_eq_false (by omega)
theorem own_one (w : World) (x : Int) {q : Nat} (hq : q = w.heap.size) : eK.Own (w.alloc (.cells #[.int .i64 x] 3)) q (.slice (some ⟨q, 0, none⟩) 1 1) [x] := by
  subst hq
  exact World.ownsRow_lit (e := 3) (size := 1) w #[.int .i64 x] 1 (Nat.le_refl _) (by decide) rfl
theorem drawn_in (d : Int) : 10 ≤ Rft.drawn d ∧ Rft.drawn d ≤ 19 := by
  unfold Rft.drawn
  have h : ∀ x : Int, 0 ≤ x → 0 ≤ x.tmod 10 ∧ x.tmod 10 ≤ 9 := fun x hx => by
    rw [Int.tmod_eq_emod_of_nonneg hx]
    omega
  split
  · have := h (0 - (d + 1)) (by omega); omega
  · have := h d (by omega); omega
theorem askTo_len (r : Nd) (L : List Mg) : ∀ j, (Rft.askTo r L j).length ≤ L.length + j
  | 0 => by simp [Rft.askTo]
  | j + 1 => by
    have := askTo_len r L j
    unfold Rft.askTo
    split
    · omega
    · unfold Rft.say
      rw [List.length_append]
      simp
      omega
end Go.Proofs.Ytdpcebaggldaiaa
