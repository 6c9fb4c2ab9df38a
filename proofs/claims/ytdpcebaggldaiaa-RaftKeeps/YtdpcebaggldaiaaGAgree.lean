/- A node at work: it agrees. -/
import Derived.Test.YtdpcebaggldaiaaGPush
import Derived.Test.YtdpcebaggldaiaaQD
namespace Go.Proofs.Ytdpcebaggldaiaa
open Go.RowKit Trl
open Rft (Nd Mg)
set_option linter.unusedVariables false
set_option maxRecDepth 10000

theorem items_len : ∀ (l m : List Int), l.length = m.length → (Rft.items l m).length = l.length
  | [], [], _ => rfl
  | [], _ :: _, h => by simp at h
  | _ :: _, [], h => by simp at h
  | a :: l, b :: m, h => by
    have := items_len l m (by simpa using h)
    simp [Rft.items, this]
theorem items_at : ∀ (l m : List Int) (j : Nat), j < l.length → l.length = m.length → (Rft.items l m)[j]? = some (Rft.at0 l j, Rft.at0 m j)
  | [], _, _, h, _ => by simp at h
  | _ :: _, [], _, _, h => by simp at h
  | a :: l, b :: m, 0, _, _ => rfl
  | a :: l, b :: m, j + 1, h, h' => by
    have := items_at l m j (by simpa using h) (by simpa using h')
    simpa [Rft.items, Rft.at0] using this
theorem items_more {l m : List Int} {j : Nat} (h : j < l.length) (h' : l.length = m.length) : (Rft.items l m).take (j + 1) = (Rft.items l m).take j ++ [(Rft.at0 l j, Rft.at0 m j)] := by
  rw [List.take_add_one, items_at l m j h h']
  rfl
theorem one_i (w : World) (x y : Int) {q : Nat} (hq : q = w.heap.size) : eI.Rx (w.alloc (.cells #[.int .i64 x, .int .i64 y] 92)) (.slice (some ⟨q, 0, none⟩) 1 1) [(x, y)] := Elm.rx_one (E := eI) fun j u hu => new_at w hq (by rw [← hu]; simp [eI])
/-- What more than half have reached. -/
def Rft.reac (r : Nd) : Int := Quo.rea r.conf (Rft.items r.conf r.mat)
theorem agree_is (r : Nd) (h : 1 ≤ r.term) : Rft.agree r = if r.com < Rft.reac r ∧ tm0 r.b r.k r.l (Rft.reac r) = r.term then { r with com := Rft.reac r } else r := by
  unfold Rft.agree
  rw [show Quo.rea r.conf (Rft.items r.conf r.mat) = Rft.reac r from rfl]
  generalize Rft.reac r = n
  unfold tm0
  have hl : r.last = r.b + (r.l.length : Int) := rfl
  rw [hl]
  by_cases h1 : n ≤ r.com
  · rw [if_pos h1, if_neg (by omega)]
  · rw [if_neg h1]
    by_cases h2 : r.b ≤ n ∧ n ≤ r.b + (r.l.length : Int)
    · rw [if_pos h2]
      by_cases h3 : tm r.b r.k r.l n = r.term
      · rw [if_pos ⟨h2.2, h2.1, h3⟩, if_pos ⟨by omega, h3⟩]
      · rw [if_neg (fun c => h3 c.2.2), if_neg (fun c => h3 c.2)]
    · rw [if_neg (fun c => h2 ⟨c.2.1, c.1⟩), if_neg h2, if_neg (by omega)]
set_option maxRecDepth 100000 in
set_option maxHeartbeats 1600000 in
theorem agree_o {w : World} {base b : Nat} {r : Nd} {L : List Mg} {c : S3} (h : Ob w base b r L c) (hk : chk r.b r.k r.l = true) (hc7 : r.conf.length ≤ 7) (hm : r.mat.length = r.conf.length) (ht : 1 ≤ r.term) :
    Calls Try.prog 61 #[.pointer (some ⟨b, 0, none⟩)] w fun e w' => e = .returned (.tuple #[]) ∧ Ob w' base b (Rft.agree r) L c ∧ Kp base w w' := by
  obtain ⟨X, V, s, T, h0, hX, rfl⟩ := id h
  have lM := h0.m.len
  have lC := h0.c.len
  have H0 : Hid (∀ {W : World}, w.grownBy W none → Oc W base b r X V s T) := fun {W} g => h0.grown g
  have RE : Hid (∀ (W : World) (v : Value), w.grownBy W none → eI.Rx W v (Rft.items r.conf r.mat) → Calls Try.prog 73 #[.slice V.c.a V.c.n V.c.c, v] W fun e w' => e = .returned (.int .i64 (Rft.reac r)) ∧ W.grownBy w' none) := fun W v g hv => reached_any _ v r.conf _ W (H0.out g).c.rx (by omega) hv (by rw [items_len _ _ hm.symm]; omega)
  have TM : Hid (∀ W, w.grownBy W none → _) := fun W g => Term_any r.b r.k (Rft.reac r) _ r.l W (Sl.row (H0.out g).e) hk
  have AG := agree_is r ht
  have c1 := h0.cs.at_ 1 rfl
  have hcm : V.m.n = V.c.n := by omega
  have IM : Hid (∀ j, j < r.conf.length → (Rft.items r.conf r.mat).take (j + 1) = (Rft.items r.conf r.mat).take j ++ [(Rft.at0 r.conf j, Rft.at0 r.mat j)]) := fun j hj => items_more hj hm.symm
  have AT : Hid (∀ {W : World} (j : Nat), w.grownBy W none → j < r.conf.length → ∃ g o g' o', V.c.a = some ⟨g, o, none⟩ ∧ W.cell? ⟨g, o + j, none⟩ = some (.int .i64 (Rft.at0 r.conf j)) ∧ V.m.a = some ⟨g', o', none⟩ ∧ W.cell? ⟨g', o' + j, none⟩ = some (.int .i64 (Rft.at0 r.mat j)) ∧ W.cell? ⟨b, 15, none⟩ = some (.slice V.m.a V.m.n V.m.c)) := fun {W} j g hj => by
    obtain ⟨g1, o1, e1, y1⟩ := at_k (H0.out g).c.rx (at0_is hj)
    obtain ⟨g2, o2, e2, y2⟩ := at_n (H0.out g).m.rx (at0_is (l := r.mat) (i := j) (by omega))
    exact ⟨g1, o1, g2, o2, e1, y1, e2, y2, (H0.out g).cs.at_ 15 rfl⟩
  have IL : Hid (∀ j, j ≤ r.conf.length → ((Rft.items r.conf r.mat).take j).length = j) := fun j hj => by rw [List.length_take, items_len _ _ hm.symm]; omega
  obtain ⟨N, hN⟩ : ∃ N, r.conf.length = N := ⟨_, rfl⟩
  have NL : Hid (r.conf.length = N) := hN
  rw [hN] at lC hc7 IM AT IL
  rw [lC] at c1 RE hcm
  rw [hcm] at AT
  have HX : Hid (X.map (·.1) = L) := hX
  have IA : Hid ((Rft.items r.conf r.mat).take N = Rft.items r.conf r.mat) := by show _ = _; rw [List.take_of_length_le]; rw [items_len _ _ hm.symm]; omega
  have BC : Hid (∀ {W : World}, w.grownBy W none → W.cell? ⟨b, 1, none⟩ = some (.slice V.c.a N V.c.c)) := fun {W} g => g.cell c1 (by simp)
  have LC : Hid (∀ {W : World}, w.grownBy W none → W.cell? ⟨b, 6, none⟩ = some (.int .i64 r.b) ∧ W.cell? ⟨b, 7, none⟩ = some (.int .i64 r.k) ∧ W.cell? ⟨b, 8, none⟩ = some (.slice V.e.a V.e.n V.e.c)) := fun {W} g => at_log (H0.out g)
  have CC : Hid (∀ {W : World}, w.grownBy W none → W.cell? ⟨b, 10, none⟩ = some (.int .i64 r.com) ∧ W.cell? ⟨b, 2, none⟩ = some (.int .i64 r.term) ∧ W.frozen? ⟨b, 10, none⟩ = false) := fun {W} g => ⟨(H0.out g).cs.at_ 10 rfl, (H0.out g).cs.at_ 2 rfl, (H0.out g).cs.2.1 10⟩
  clear h h0 hk hm lM hN hX lC hcm
  go_enter Try.func61, Try.ntmps61
  go_wp2_with fail
  clear c1
  go_loopw [2, 3, 4, 14] (fun v _ _ i wr => ∃ (j : Nat) (a : Option Addr) (c' : Nat), j ≤ N ∧ i = .int .i64 (j : Int) ∧ v = .slice a j c' ∧ Hid (eI.Own wr w.heap.size (.slice a j c') ((Rft.items r.conf r.mat).take j)) ∧ Hid (w.grownBy wr none)) (fun _ _ _ i _ => N - (intOf i).toNat)
  case atStart => exact ⟨0, none, 0, by omega, rfl, rfl, Elm.nil _ _, grown_refl _ _⟩
  case round =>
    obtain ⟨j, a, c', hj, rfl, rfl, O, G⟩ := hrel
    by_cases hlt : j < N
    · obtain ⟨g1, o1, g2, o2, e1, y1, e2, y2, d15⟩ := AT.out j G.out hlt
      have E := IM.out j hlt
      have E' : Hid _ := E
      clear E
      have hlen : Hid (((Rft.items r.conf r.mat).take j).length = j) := IL.out j (by omega)
      rw [e2] at d15
      rw [e1]
      have T6 : Hid (∀ o1, eI.Own (wr.alloc o1) w.heap.size (.slice a j c') ((Rft.items r.conf r.mat).take j)) := fun o1 => O.out.grown (World.grownBy_alloc wr o1 none)
      have GR : Hid (∀ {o1 : Obj} {w3 : World}, (wr.alloc o1).grownBy w3 (Value.slice a j c').ownBlock → w.grownBy w3 none) := fun {o1 w3} hg => grown_more (grown_alloc G.out o1) hg fun k e => .inr (O.out.lt k e).1
      have R1 : Hid (eI.Rx (wr.alloc (.cells #[.int .i64 (Rft.at0 r.conf j), .int .i64 (Rft.at0 r.mat j)] 92)) (.slice (some ⟨wr.heap.size, 0, none⟩) 1 1) [(Rft.at0 r.conf j, Rft.at0 r.mat j)]) := one_i wr _ _ rfl
      have hsz := G.out.size
      obtain ⟨l2, hl2⟩ : ∃ l2, (Rft.items r.conf r.mat).take (j + 1) = l2 := ⟨_, rfl⟩
      have HL2 : Hid ((Rft.items r.conf r.mat).take (j + 1) = l2) := hl2
      rw [hl2] at E'
      clear hl2
      obtain ⟨l1, hl1⟩ : ∃ l1, (Rft.items r.conf r.mat).take j = l1 := ⟨_, rfl⟩
      rw [hl1] at E' T6 hlen O
      clear hl1
      obtain ⟨x, hx⟩ : ∃ x, Rft.at0 r.conf j = x := ⟨_, rfl⟩
      obtain ⟨y, hy⟩ : ∃ y, Rft.at0 r.mat j = y := ⟨_, rfl⟩
      rw [hx] at y1 E' R1
      rw [hy] at y2 E' R1
      clear hx hy
      go_wp2_with (refine Elm.wpList_append (E := eI) rfl (.tmp 19) (.tmp 30) rfl w.heap.size (.slice a j c') l1 rfl (T6.out _) _ [(x, y)] rfl R1.out (by have := hlen.out; simp; omega) (by have := hlen.out; simp [eI]; omega) (by simp; omega) ?_; intro a5 n5 c5 w5 hO5 hg5 hl5; have G5 := GR.out hg5; have hn5 := hO5.len; have hn6 : n5 = j + 1 := (by rw [hn5, List.length_append, hlen.out]; rfl); have HO : Hid (eI.Own w5 w.heap.size (.slice a5 (j + 1) c5) l2) := (by rw [E'.out, ← hn6]; exact hO5))
      go_roundw
      case rel => exact ⟨j + 1, a5, c5, by omega, by go_num, by first | rw [hlen.out] | rw [hn5, List.length_append, hlen.out]; rfl, by rw [HL2.out]; exact HO, G5⟩
      case measure => simp [intOf]; omega
    · have hjN : j = N := by omega
      subst hjN
      have R := RE.out wr (.slice a j c') G.out (by have := O.out.rx; rw [IA.out] at this; exact this)
      have d1 := BC.out G.out
      have TM' := TM.out
      generalize hn : Rft.reac r = n at *
      have HN : Hid (Rft.reac r = n) := hn
      generalize hq : tm0 r.b r.k r.l n = q at *
      clear RE TM AT IM IL IA O hlt hn hq
      have T2 : Hid (∀ W, w.grownBy W none → _) := TM'
      clear TM'
      by_cases h1 : r.com < n
      · by_cases h2 : q = r.term
        · have AG' := AG
          rw [if_pos ⟨h1, h2⟩] at AG'
          have AGH : Hid _ := AG'
          clear AG AG'
          have h2' : (q == r.term) = true := by simpa using h2
          go_wp2_with (first
            | (go_at_call 73; (with_reducible refine R.mono ?_); rintro e w1 ⟨rfl, g1⟩; have G1 := grown_tr G.out g1; obtain ⟨d6, d7, d8⟩ := LC.out G1)
            | (go_at_call 70; (with_reducible refine (T2.out _ G1).mono ?_); rintro e w2 ⟨rfl, g2⟩; have G2 := grown_tr G1 g2; obtain ⟨f10, f2, fz⟩ := CC.out G2))
          go_end0
          refine ⟨rfl, ?_, (Kp.of G2).trans ((chg_setb (Chg.refl (fun k => k = b) w2) b 10 _ rfl).toKp (H0.out G2).hb)⟩
          rw [AGH.out]
          exact ⟨X, V, s, T, (H0.out G2).turn (chg_setb (Chg.refl _ w2) b 10 _ rfl) ((H0.out G2).cs.set 10 _) ⟨rfl, rfl⟩ (.inl ⟨rfl, rfl⟩) (.inl ⟨rfl, rfl⟩) (.inl ⟨rfl, rfl⟩) (.inl ⟨rfl, rfl⟩), HX.out, rfl⟩
        · have AG' := AG
          rw [if_neg (fun c => h2 c.2)] at AG'
          have AGH : Hid _ := AG'
          clear AG AG'
          have h2' : (q == r.term) = false := by simpa using h2
          go_wp2_with (first
            | (go_at_call 73; (with_reducible refine R.mono ?_); rintro e w1 ⟨rfl, g1⟩; have G1 := grown_tr G.out g1; obtain ⟨d6, d7, d8⟩ := LC.out G1)
            | (go_at_call 70; (with_reducible refine (T2.out _ G1).mono ?_); rintro e w2 ⟨rfl, g2⟩; have G2 := grown_tr G1 g2; obtain ⟨f10, f2, fz⟩ := CC.out G2))
          go_end0
          refine ⟨rfl, ?_, Kp.of G2⟩
          rw [AGH.out]
          exact ⟨X, V, s, T, H0.out G2, HX.out, rfl⟩
      · have AG' := AG
        rw [if_neg (fun c => h1 c.1)] at AG'
        have AGH : Hid _ := AG'
        clear AG AG'
        go_wp2_with (first
          | (go_at_call 73; (with_reducible refine R.mono ?_); rintro e w1 ⟨rfl, g1⟩; have G1 := grown_tr G.out g1; obtain ⟨d6, d7, d8⟩ := LC.out G1)
          | (go_at_call 70; (with_reducible refine (T2.out _ G1).mono ?_); rintro e w2 ⟨rfl, g2⟩; have G2 := grown_tr G1 g2; obtain ⟨f10, f2, fz⟩ := CC.out G2))
        go_end0
        refine ⟨rfl, ?_, Kp.of G2⟩
        rw [AGH.out]
        exact ⟨X, V, s, T, H0.out G2, HX.out, rfl⟩
end Go.Proofs.Ytdpcebaggldaiaa
