/- The reference's 'Cancel'. -/
import Derived.Test.YtijgekdhjfbgkaaWRefA
namespace Go.Proofs.Ytijgekdhjfbgkaa
open Go.RowKit Go.Sort Whl
set_option linter.unusedVariables false
namespace Whl
theorem drop_at {L : List It} (h : Srt L) (u : Uni L) {k : Nat} {a : It} (hk : L[k]? = some a) : dropL a.1 L = L.take k ++ L.drop (k + 1) := by
  obtain ⟨hlt, he⟩ := List.getElem?_eq_some_iff.1 hk
  have e : L = L.take k ++ a :: L.drop (k + 1) := by
    rw [← he, List.getElem_cons_drop, List.take_append_drop]
  have hne : ∀ j (hj : j < L.length), j ≠ k → L[j].1 ≠ a.1 := fun j hj hjk hh => by
    have h2 := u L[j] (List.getElem_mem hj) a (by rw [← he]; exact List.getElem_mem hlt) hh
    rcases Nat.lt_or_gt_of_ne hjk with hl | hl
    · have c := List.pairwise_iff_getElem.1 h j k hj hlt hl
      rw [h2, he, bef_irr] at c
      cases c
    · have c := List.pairwise_iff_getElem.1 h k j hlt hj hl
      rw [h2, he, bef_irr] at c
      cases c
  unfold dropL
  conv => lhs; rw [e]
  rw [List.filter_append, List.filter_eq_self.2 (fun b hb => ?_), List.filter_cons_of_neg (by simp), List.filter_eq_self.2 (fun b hb => ?_)]
  · obtain ⟨j, hj, e⟩ := List.mem_iff_getElem.1 hb
    rw [List.length_drop] at hj
    rw [List.getElem_drop] at e
    have := hne (k + 1 + j) (by omega) (by omega)
    rw [e] at this
    simpa using this
  · obtain ⟨j, hj, e⟩ := List.mem_iff_getElem.1 hb
    rw [List.length_take] at hj
    rw [List.getElem_take] at e
    have := hne j (by omega) (by omega)
    rw [e] at this
    simpa using this
end Whl

set_option maxRecDepth 100000 in
set_option maxHeartbeats 3200000 in
theorem rcan_any (q : Nat) (now : Int) (L : List It) (G : Nat → Prop) (x : Int) (hO : Ok now L) (w : World) (h : RW w q now L G) :
    Calls Try.prog 13 #[.pointer (some ⟨q, 0, none⟩), .int .i64 x] w fun e w' => e = .returned (.bool (L.any fun a => a.1 == x)) ∧ ∃ G', RW w' q now (dropL x L) G' ∧ (∀ k, G' k → G k ∨ w.heap.size ≤ k) ∧ Chg G w w' := by
  obtain ⟨v, h1, O, hq, hG⟩ := h.ex
  obtain ⟨ad, cp, rfl⟩ := own_form O
  have hlen := hO.len
  have HO : Hid (Ok now L) := hO
  have HH : Hid (RW w q now L G) := h
  have c0 := h.c0
  have gq := h.gq
  have kf := h.fr
  have hqlt : q < w.heap.size := h.lt q h.gq
  clear h hO
  go_enter Try.func13, Try.ntmps13
  go_wp2_with fail
  go_loopw [5] (fun i wr => ∃ n : Nat, n ≤ L.length ∧ i = .int .i64 n ∧ w = wr ∧ Hid (∀ (j : Nat) (a : It), j < n → L[j]? = some a → a.1 ≠ x)) (fun i _ => (9000 - intOf i).toNat)
  case atStart => exact ⟨0, by omega, rfl, rfl, fun j a hj => absurd hj (by omega)⟩
  case round =>
    obtain ⟨n, hn, rfl, rfl, HL⟩ := hrel
    by_cases hlt : n < L.length
    · obtain ⟨a, han⟩ : ∃ a, L[n]? = some a := ⟨L[n], List.getElem?_eq_getElem hlt⟩
      obtain ⟨g, o, hix, cx, cy⟩ := (Ri.of_own O).idx han
      have HA : Hid (L[n]? = some a) := han
      clear han
      by_cases hat : a.1 = x
      · subst hat
        have hd : (a.1 == a.1) = true := by simp
        have hany : Hid ((L.any fun b => b.1 == a.1) = true) := List.any_eq_true.2 ⟨a, List.mem_of_getElem? HA.out, by simp⟩
        have hdrop : Hid (dropL a.1 L = L.take n ++ L.drop (n + 1)) := drop_at HO.out.srt HO.out.uni HA.out
        obtain ⟨u2, s2, X2, b2⟩ := own_from O (k := n + 1) (by omega)
        rw [show ((n + 1 : Nat) : Int) = (n : Int) + 1 by omega] at s2
        obtain ⟨u1, s1, P1, b1⟩ := own_upto O (k := n) (by omega)
        have lt1 : (L.take n).length ≤ 4096 := by rw [List.length_take]; omega
        have lt2 : (L.drop (n + 1)).length ≤ 4096 := by rw [List.length_drop]; omega
        have tok1 : True := trivial
        go_wp2_with (first
          | (with_reducible refine wpList_upto rfl rfl s1 ?_)
          | (with_reducible refine wpList_from rfl rfl s2 ?_)
          | (have _t := tok1; refine wpList_append_rx rfl (.tmp 26) (.tmp 33) rfl w.heap.size _ [] rfl (own_empty w _ rfl) u2 (L.drop (n + 1)) rfl (X2.grown (World.grownBy_alloc w _ none)) (by simp at lt2 ⊢; omega) (by simp) ?_; intro ad2 m2 c2 w2 O2 G2 r2; clear tok1; have tok2 : True := trivial; have K2 : w.grownBy w2 none := grown_more (World.grownBy_alloc w _ none) G2 (fun k hk => .inr (by have hk : some w.heap.size = some k := hk; injection hk with hk; omega)); have k20 := K2.cell c0 (by simp); have k21 := K2.cell h1 (by simp); have hq2 : q < w2.heap.size := World.block_lt_of_cell? w2 _ k20; have P2 := kept_ne P1 K2 (by simp))
          | (have _t := tok2; refine wpList_append_rx rfl (.tmp 41) (.tmp 42) rfl 0 u1 (L.take n) rfl P2 _ (L.drop (n + 1)) rfl (Rx.of_own O2) (by omega) (Nat.zero_le _) ?_; intro ad3 m3 c3 w3 O3 G3 r3; clear tok2; have hq3 : some q ≠ u1.ownBlock := (fun e => hq (by rw [← b1]; exact e.symm)); have k30 := G3.cell k20 hq3; have k31 := G3.cell k21 hq3; have kf3 : ∀ i, w3.frozen? ⟨q, i, none⟩ = false := (fun i => by rw [World.frozen?_of_block (w := w2) (G3.block q hq2 hq3), World.frozen?_of_block (w := w) (K2.block q hqlt (by simp))]; exact kf i); have kf31 := kf3 1))
        go_ret
        have hz2 := K2.size
        have q3 : ∀ k, (Value.slice ad3 m3 c3).ownBlock = some k → (G k ∨ w.heap.size ≤ k) ∧ k ≠ q := fun k hk => by
          rcases r3 with e | e
          · rw [e, b1] at hk
            exact ⟨.inl (hG k hk), fun e => hq (by rw [hk, e])⟩
          · rw [e] at hk
            injection hk with hk
            exact ⟨.inr (by omega), by omega⟩
        have R := RW.store (L := L.take n ++ L.drop (n + 1)) k30 k31 kf3 O3 (fun e => (q3 q e).2 rfl)
        have gs3 := grown_set w3 ⟨q, 1, none⟩ (Value.slice ad3 m3 c3)
        have C3 : Chg G w (w3.setCell ⟨q, 1, none⟩ (.slice ad3 m3 c3)) := ((Chg.of (F := G) K2 (by simp)).grown G3 fun k hk => .inl (hG k (by rw [← b1]; exact hk))).grown gs3 fun k hk => .inl (by injection hk with hk; rw [← hk]; exact gq)
        refine ⟨ret_bool hany.out.symm, _, (by rw [hdrop.out]; exact R), fun k hk => ?_, C3⟩
        rcases hk with e | e
        · rw [e]; exact .inl gq
        · exact (q3 k e).1
      · have hd : (a.1 == x) = false := by simpa using hat
        go_wp2_with fail
        go_roundw
        case rel => exact ⟨n + 1, by omega, by go_num, (by first | exact rfl | trivial), fun j b hj hb => by
          by_cases e : j = n
          · subst e; rw [HA.out] at hb; cases hb; exact hat
          · exact HL.out j b (by omega) hb⟩
        case measure => simp [intOf]; omega
    · have hd : decide ((n : Int) < L.length) = false := decide_eq_false (by omega)
      have hnone : ∀ a ∈ L, a.1 ≠ x := fun a ha => by
        obtain ⟨j, hj, e⟩ := List.mem_iff_getElem.1 ha
        exact HL.out j a (by omega) (by rw [List.getElem?_eq_getElem hj, e])
      go_wp2_with fail
      go_ret
      refine ⟨ret_bool (List.any_eq_false.2 (fun a ha => by simpa using hnone a ha)).symm, G, ?_, fun k hk => .inl hk, Chg.refl _ _⟩
      · unfold dropL
        rw [List.filter_eq_self.2 (fun a ha => by simpa using hnone a ha)]
        exact HH.out
end Go.Proofs.Ytijgekdhjfbgkaa
