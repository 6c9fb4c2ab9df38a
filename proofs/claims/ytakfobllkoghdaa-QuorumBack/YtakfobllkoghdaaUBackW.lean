/- Added and removed again: the statement's walk. -/
import Derived.Test.YtakfobllkoghdaaUTwo
namespace Go.Proofs.Ytakfobllkoghdaa
open Go.RowKit Quo
set_option linter.unusedVariables false

namespace Quo
theorem nx_parts {c : List Int} {a r : Int} (h : nxB c a r = true) : chk c = true ∧ mayA c a = true ∧ mayR c r = true ∧ chk (out c a r) = true := by
  unfold nxB at h
  simp only [Bool.and_eq_true] at h
  exact ⟨h.1.1.1, h.1.1.2, h.1.2, h.2⟩
theorem nx_mk {c : List Int} {a r : Int} (h1 : chk c = true) (h2 : mayA c a = true) (h3 : mayR c r = true) (h4 : chk (out c a r) = true) : nxB c a r = true := by
  unfold nxB
  rw [h1, h2, h3, h4]
  rfl
theorem pw_le {c : List Int} (h : chk c = true) : c.Pairwise (· ≤ ·) := ((chk_iff c).1 h).2.2.2.imp fun h => by omega
theorem eq_of_le {l k : List Int} (hl : l.Pairwise (· ≤ ·)) (hk : k.Pairwise (· ≤ ·)) (h : l.Perm k) : l = k :=
  List.Perm.eq_of_pairwise (le := fun a b : Int => a ≤ b) (fun a b _ _ h1 h2 => by omega) hl hk h
theorem mayA0 {c : List Int} (h : chk c = true) : mayA c 0 = true := by unfold mayA; rw [has0 h]; rfl
theorem mayR0 (c : List Int) : mayR c 0 = true := rfl
theorem out_pos (c : List Int) {a r : Int} (h : a ≠ 0) : out c a r = srt (wo c r ++ [a]) := by unfold out; rw [if_neg h]
/-- Added, then removed. -/
theorem back_add {c : List Int} {x : Int} (hx : 0 < x) (h : nxB c x 0 = true) : nxB (out c x 0) 0 x = true ∧ out (out c x 0) 0 x = c ∧ (out c x 0).length = c.length + 1 ∧ chk (out c x 0) = true := by
  obtain ⟨h1, h2, h3, h4⟩ := nx_parts h
  have ho : out c x 0 = srt (c ++ [x]) := by unfold out; rw [if_neg (by omega), wo_same (has0 h1)]
  have hnx : has c x = false := by
    unfold mayA at h2
    rw [Bool.and_eq_true] at h2
    simpa using h2.2
  have hb : out (out c x 0) 0 x = c := by
    have e : out (out c x 0) 0 x = wo (out c x 0) x := by unfold out; rw [if_pos rfl]
    rw [e]
    refine eq_of_le ((pw_le h4).sublist List.filter_sublist) (pw_le h1) ?_
    rw [ho]
    have hp : (wo (srt (c ++ [x])) x).Perm (wo (c ++ [x]) x) := (srt_perm _).filter _
    have e2 : wo (c ++ [x]) x = c := by
      unfold wo
      rw [List.filter_append]
      have := wo_same hnx
      unfold wo at this
      rw [this]
      simp
    rw [e2] at hp
    exact hp
  refine ⟨nx_mk h4 (mayA0 h4) ?_ (by rw [hb]; exact h1), hb, by rw [ho, srt_len, List.length_append]; rfl, h4⟩
  unfold mayR
  have : has (out c x 0) x = true := by rw [has_iff, ho, (srt_perm _).mem_iff]; simp
  rw [this, Bool.or_true]
/-- Removed, then added. -/
theorem perm_wo {c : List Int} {x : Int} (hp : c.Pairwise (· < ·)) (hx : x ∈ c) : (wo c x ++ [x]).Perm c := by
  induction c with
  | nil => simp at hx
  | cons y c ih =>
    rw [List.pairwise_cons] at hp
    by_cases hy : y = x
    · subst hy
      have : wo (y :: c) y = c := by
        unfold wo
        rw [List.filter_cons]
        simp only [bne_self_eq_false, Bool.false_eq_true, if_false]
        rw [List.filter_eq_self]
        intro z hz
        have := hp.1 z hz
        simp
        omega
      rw [this]
      exact List.perm_append_comm
    · have : wo (y :: c) x = y :: wo c x := by unfold wo; simp [hy]
      rw [this]
      have hx' : x ∈ c := by
        rcases List.mem_cons.1 hx with e | e
        · exact absurd e.symm hy
        · exact e
      exact (ih hp.2 hx').cons y
theorem back_less {c : List Int} {x : Int} (hx : 0 < x) (h : nxB c 0 x = true) : nxB (out c 0 x) x 0 = true ∧ out (out c 0 x) x 0 = c := by
  obtain ⟨h1, h2, h3, h4⟩ := nx_parts h
  have ho : out c 0 x = wo c x := by unfold out; rw [if_pos rfl]
  have hin : x ∈ c := by
    unfold mayR at h3
    rw [show (x == 0) = false by simp; omega, Bool.false_or] at h3
    exact (has_iff c x).1 h3
  have hb : out (out c 0 x) x 0 = c := by
    have e : out (out c 0 x) x 0 = srt (out c 0 x ++ [x]) := by rw [out_pos _ (by omega), wo_same (has0 h4)]
    rw [e, ho]
    exact srt_is (pw_le h1) (perm_wo ((chk_iff c).1 h1).2.2.2 hin).symm
  refine ⟨nx_mk h4 ?_ (mayR0 _) (by rw [hb]; exact h1), hb⟩
  unfold mayA
  have : has (out c 0 x) x = false := by
    cases hh : has (out c 0 x) x with
    | false => rfl
    | true =>
      have := (has_iff _ _).1 hh
      rw [ho] at this
      have := (List.mem_filter.1 this).2
      simp at this
  rw [this, decide_eq_true (by omega)]
  rfl
theorem back_none {c : List Int} {x : Int} (hx : ¬ 0 < x) (h : nxB c 0 x = true) : out c 0 x = c := by
  obtain ⟨h1, h2, h3, h4⟩ := nx_parts h
  have hx0 : has c x = false := by
    cases hh : has c x with
    | false => rfl
    | true => have := ((chk_iff c).1 h1).2.2.1 x ((has_iff c x).1 hh); omega
  unfold out
  rw [if_pos rfl, wo_same hx0]
theorem nxE_yes {c : List Int} {a r : Int} (h : nxB c a r = true) : nxE c a r = 0 := by unfold nxE; rw [h]; rfl
theorem nxE_no {c : List Int} {a r : Int} (h : nxB c a r = false) : nxE c a r = 1 := by unfold nxE; rw [h]; rfl
theorem nxL_yes {c : List Int} {a r : Int} (h : nxB c a r = true) : nxL c a r = out c a r := by unfold nxL; rw [h]; rfl
end Quo
namespace quorumBack
set_option maxRecDepth 100000 in
set_option maxHeartbeats 6400000 in
theorem walk (w : World) (v0 : Value) (o0 : ∃ l, Tk w v0 l) (x1 : Int) (wx1 : (Lit.int .i64 x1).wf = true) :
    Calls Try.prog 8 #[v0, .int .i64 x1] w fun e w' => e = .returned (.bool true) ∧ Below w.heap.size w w' := by
  obtain ⟨c, hc, hcl0, hcb⟩ := o0
  have hcl : c.length ≤ 17592186044416 := by omega
  clear hcl0 hcb
  have AW := awake_any w
  obtain ⟨ad, cp, hv⟩ := hc.form
  subst hv
  obtain ⟨N, hN⟩ : ∃ N, c.length = N := ⟨_, rfl⟩
  rw [hN] at hc hcl ⊢
  have NL : Hid (c.length = N) := hN
  have H : Hid (eK.Rx w (.slice ad N cp) c) := hc
  have IT : Hid (∀ (W : World) (V : Value), w.grownBy W none → eK.Rx W V c → Calls Try.prog 19 #[V, .slice ad N cp] W fun e w' => e = .returned (.bool true) ∧ W.grownBy w' none) := fun W V g hV => (ints_any V _ c c W hV (by omega) (H.out.grown g) (by omega)).mono fun e w' ⟨h1, h2⟩ => ⟨by rw [h1]; unfold sameL; rw [decide_eq_true rfl], h2⟩
  obtain ⟨E1, hE1⟩ : ∃ E, nxE c x1 0 = E := ⟨_, rfl⟩
  obtain ⟨L1, hL1⟩ : ∃ L, nxL c x1 0 = L := ⟨_, rfl⟩
  obtain ⟨E2, hE2⟩ : ∃ E, nxE c 0 x1 = E := ⟨_, rfl⟩
  obtain ⟨L2, hL2⟩ : ∃ L, nxL c 0 x1 = L := ⟨_, rfl⟩
  have N1 : Hid (∀ W, w.grownBy W none → _) := fun W g => next_is (w := W) (H.out.grown g) (by omega) hE1 hL1
  have N3 : Hid (∀ W, w.grownBy W none → _) := fun W g => next_is (w := W) (H.out.grown g) (by omega) hE2 hL2
  have B1 : ∀ {a r : Int}, nxE c a r = 0 → nxB c a r = true := fun {a r} h => by
    cases hh : nxB c a r with
    | true => rfl
    | false => rw [nxE_no hh] at h; cases h
  have hor : ∀ a r, nxE c a r = 0 ∨ nxE c a r = 1 := fun a r => by unfold nxE; split <;> simp
  have hE1' := hor x1 0
  have hE2' := hor 0 x1
  rw [hE1] at hE1'
  rw [hE2] at hE2'
  have cl : c.length ≤ 9223372036854775807 := by omega
  have M2 : Hid (E1 = 0 → 0 < x1 → ∀ (W : World) (V : Value), eK.Rx W V L1 → Calls Try.prog 15 #[V, .int .i64 0, .int .i64 x1] W fun e w' => ∃ ad n cp, e = .returned (.tuple #[.slice ad n cp, .int .i64 0]) ∧ Hid (n = c.length) ∧ eK.Own w' W.heap.size (.slice ad n cp) c ∧ W.grownBy w' none) := fun h0 hx W V hV => by
    have hb := B1 (hE1.trans h0)
    have hL : L1 = out c x1 0 := by rw [← hL1]; exact nxL_yes hb
    obtain ⟨k1, k2, k3, k4⟩ := back_add hx hb
    rw [hL] at hV
    exact next_is hV (by omega) (nxE_yes k1) (by rw [nxL_yes k1]; exact k2)
  have M3 : Hid (E1 = 0 → 0 < x1 → L1.length = N + 1) := fun h0 hx => by
    have hb := B1 (hE1.trans h0)
    rw [← hL1, nxL_yes hb, (back_add hx hb).2.2.1, hN]
  have M4 : Hid (E1 = 0 → 0 < x1 → ∀ (W : World) (V : Value), eK.Rx W V L1 → Calls Try.prog 10 #[V] W fun e w' => e = .returned (.bool true) ∧ w' = W) := fun h0 hx W V hV => by
    have hb := B1 (hE1.trans h0)
    have hL : L1 = out c x1 0 := by rw [← hL1]; exact nxL_yes hb
    obtain ⟨k1, k2, k3, k4⟩ := back_add hx hb
    rw [hL] at hV
    have := check_any V _ W hV (by omega)
    rw [k4] at this
    exact this
  have M5 : Hid (E2 = 0 → ¬ 0 < x1 → L2 = c) := fun h0 hx => by
    have hb := B1 (hE2.trans h0)
    rw [← hL2, nxL_yes hb]
    exact back_none hx hb
  have M6 : Hid (E2 = 0 → 0 < x1 → ∀ (W : World) (V : Value), eK.Rx W V L2 → Calls Try.prog 15 #[V, .int .i64 x1, .int .i64 0] W fun e w' => ∃ ad n cp, e = .returned (.tuple #[.slice ad n cp, .int .i64 0]) ∧ Hid (n = c.length) ∧ eK.Own w' W.heap.size (.slice ad n cp) c ∧ W.grownBy w' none) := fun h0 hx W V hV => by
    have hb := B1 (hE2.trans h0)
    have hL : L2 = out c 0 x1 := by rw [← hL2]; exact nxL_yes hb
    obtain ⟨k1, k2⟩ := back_less hx hb
    rw [hL] at hV
    have k4 := (nx_parts hb).2.2.2
    have := ((chk_iff _).1 k4).2.1
    exact next_is hV (by omega) (nxE_yes k1) (by rw [nxL_yes k1]; exact k2)
  clear hc hE1 hE2 hL1 hL2 B1 hor hN wx1 cl
  rcases hE1' with rfl | rfl <;> rcases hE2' with rfl | rfl <;> by_cases hx : 0 < x1
  all_goals
    first | (have K2 := M2.out rfl hx) | skip
    first | (have K3 : Hid _ := M3.out rfl hx) | skip
    first | (have K4 := M4.out rfl hx) | skip
    first | (have K5 : Hid _ := M5.out rfl hx) | skip
    first | (have K6 := M6.out rfl hx) | skip
    clear M2 M3 M4 M5 M6
    go_enter Try.func8, Try.ntmps8
    go_wp2_with (first
      | (go_at_call 9; (with_reducible refine AW.mono ?_); rintro e w1 ⟨rfl, g⟩)
      | (go_at_call 15; (with_reducible refine (N1.out _ g).mono ?_); rintro e w2 ⟨a2, n2, c2, rfl, hn2, hO2, hg2⟩; have g := grown_tr g hg2; have X2 := hO2.rx)
      | (go_at_call 15; (with_reducible refine (K2 _ _ X2).mono ?_); rintro e w3 ⟨a3, n3, c3, rfl, hn3, hO3, hg3⟩; have g := grown_tr g hg3; have X3 := hO3.rx; have X2 := X2.grown hg3; have nn : ((n2 : Int) != (N : Int) + 1) = false := by have := hn2.out; have := K3.out; simp; omega)
      | (go_at_call 19; (with_reducible refine (IT.out _ _ g X3).mono ?_); rintro e w4 ⟨rfl, hg4⟩; have g := grown_tr g hg4; have X2 := X2.grown hg4)
      | (go_at_call 10; (with_reducible refine (K4 _ _ X2).mono ?_); rintro e w5 ⟨rfl, rfl⟩)
      | (go_at_call 15; (with_reducible refine (N3.out _ g).mono ?_); rintro e w6 ⟨a6, n6, c6, rfl, hn6, hO6, hg6⟩; have g := grown_tr g hg6; have X6 := hO6.rx)
      | (go_at_call 19; have X7 := X6; rw [K5.out] at X7; (with_reducible refine (IT.out _ _ g X7).mono ?_); rintro e w7 ⟨rfl, hg7⟩; have g := grown_tr g hg7)
      | (go_at_call 15; (with_reducible refine (K6 _ _ X6).mono ?_); rintro e w8 ⟨a8, n8, c8, rfl, hn8, hO8, hg8⟩; have g := grown_tr g hg8; have X8 := hO8.rx)
      | (go_at_call 19; (with_reducible refine (IT.out _ _ g X8).mono ?_); rintro e w9 ⟨rfl, hg9⟩; have g := grown_tr g hg9))
    go_ret
    exact ⟨rfl, grown_below g⟩
end quorumBack
end Go.Proofs.Ytakfobllkoghdaa
