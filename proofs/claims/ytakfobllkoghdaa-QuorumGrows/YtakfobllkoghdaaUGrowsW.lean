/- More nodes still win: the statement's walk. -/
import Derived.Test.YtakfobllkoghdaaUTwo
namespace Go.Proofs.Ytakfobllkoghdaa
open Go.RowKit Quo
set_option linter.unusedVariables false

namespace quorumGrows
set_option maxRecDepth 100000 in
set_option maxHeartbeats 6400000 in
theorem walk (w : World) (v0 : Value) (o0 : ∃ l, Tk w v0 l) (v1 : Value) (o1 : ∃ l, Tk w v1 l) (v2 : Value) (o2 : ∃ l, Tk w v2 l) :
    Calls Try.prog 7 #[v0, v1, v2] w fun e w' => e = .returned (.bool true) ∧ Below w.heap.size w w' := by
  obtain ⟨c, hc, hcl, hcb⟩ := o0
  obtain ⟨s, hs, hsl, _⟩ := o1
  obtain ⟨m, hm, hml, _⟩ := o2
  have AW := awake_any w
  obtain ⟨ad, cp, hv⟩ := hc.form
  subst hv
  obtain ⟨aa, ca, hv⟩ := hs.form
  subst hv
  obtain ⟨ab, cb, hv⟩ := hm.form
  subst hv
  obtain ⟨N, hN⟩ : ∃ N, c.length = N := ⟨_, rfl⟩
  have NL : Hid (c.length = N) := hN
  obtain ⟨ns, hns⟩ : ∃ N, s.length = N := ⟨_, rfl⟩
  have SL : Hid (s.length = ns) := hns
  obtain ⟨nm, hnm⟩ : ∃ N, m.length = N := ⟨_, rfl⟩
  have ML : Hid (m.length = nm) := hnm
  rw [hN] at hc hcl hcb ⊢
  rw [hns] at hs hsl ⊢
  rw [hnm] at hm hml ⊢
  have H : Hid (eK.Rx w (.slice ad N cp) c) := hc
  have HS : Hid (eK.Rx w (.slice aa ns ca) s) := hs
  have HM : Hid (eK.Rx w (.slice ab nm cb) m) := hm
  by_cases h1 : 4096 < ns
  · clear hc hs hm hN hns hnm
    have d1 : decide ((4096 : Int) < (ns : Int)) = true := decide_eq_true (by omega)
    go_enter Try.func7, Try.ntmps7
    go_wp2_with (go_at_call 9; (with_reducible refine AW.mono ?_); rintro e w1 ⟨rfl, g⟩)
    go_ret
    exact ⟨rfl, grown_below g⟩
  by_cases h2 : 4096 < nm
  · clear hc hs hm hN hns hnm
    have d1 : decide ((4096 : Int) < (ns : Int)) = false := decide_eq_false (by omega)
    have d2 : decide ((4096 : Int) < (nm : Int)) = true := decide_eq_true (by omega)
    go_enter Try.func7, Try.ntmps7
    go_wp2_with (go_at_call 9; (with_reducible refine AW.mono ?_); rintro e w1 ⟨rfl, g⟩)
    go_ret
    exact ⟨rfl, grown_below g⟩
  have d1 : decide ((4096 : Int) < (ns : Int)) = false := decide_eq_false (by omega)
  have d2 : decide ((4096 : Int) < (nm : Int)) = false := decide_eq_false (by omega)
  have RH : Hid (∀ W x, w.grownBy W none → Calls Try.prog 22 #[.slice aa ns ca, .int .i64 x] W fun e w' => e = .returned (.bool (has s x)) ∧ w' = W) := fun W x g => rhas_any _ s x W (HS.out.grown g) (by omega)
  have WN : Hid (∀ W V l, w.grownBy W none → eK.Rx W V l → l.length ≤ 9223372036854775807 → Calls Try.prog 12 #[.slice ad N cp, V] W fun e w' => e = .returned (.bool (wins c l)) ∧ w' = W) := fun W V l g hV hl => wins_any _ V c l W (H.out.grown g) (by omega) hV hl
  have CK : Hid (∀ W, w.grownBy W none → Calls Try.prog 10 #[.slice ad N cp] W fun e w' => e = .returned (.bool (chk c)) ∧ w' = W) := fun W g => check_any _ c W (H.out.grown g) (by omega)
  have AS : Hid (∀ W : World, w.grownBy W none → eK.Own (W.alloc (.cells #[] 3)) w.heap.size (.slice (some ⟨W.heap.size, 0, none⟩) 0 0) [] ∧ eK.Rx (W.alloc (.cells #[] 3)) (.slice aa ns ca) s ∧ w.heap.size ≤ W.heap.size) := fun W g => ⟨(Elm.made (E := eK) W #[] 0 W.heap.size rfl (by decide) rfl).low g.size, HS.out.grown (grown_tr g (World.grownBy_alloc W _ none)), g.size⟩
  clear hc hs hm hN hns hnm
  go_enter Try.func7, Try.ntmps7
  go_wp2_with (first
    | (go_at_call 9; (with_reducible refine AW.mono ?_); rintro e w1 ⟨rfl, g⟩; obtain ⟨A1, A2, A3⟩ := AS.out w1 g)
    | (refine Elm.wpList_append (E := eK) rfl (.tmp 21) (.tmp 22) rfl w.heap.size (.slice (some ⟨w1.heap.size, 0, none⟩) 0 0) [] rfl A1 (.slice aa ns ca) s rfl A2 (by have := SL.out; simp; omega) (by have := SL.out; simp [eK]; omega) (by simp; omega) ?_; intro a3 n3 c3 w3 hO3 hg3 hl3; have g3 : w.grownBy w3 none := grown_more (grown_alloc g _) hg3 (fun k e => .inr (A1.lt k e).1); have A4 := HM.out.grown g3; have hsz3 := g3.size; rw [List.nil_append] at hO3)
    | (refine Elm.wpList_append (E := eK) rfl (.tmp 24) (.tmp 25) rfl w.heap.size (.slice a3 n3 c3) s rfl hO3 (.slice ab nm cb) m rfl A4 (by have := SL.out; have := ML.out; omega) (by have := SL.out; have := ML.out; simp [eK]; omega) hsz3 ?_; intro a4 n4 c4 w4 hO4 hg4 hl4; have g4 : w.grownBy w4 none := grown_more g3 hg4 (fun k e => .inr (hO3.lt k e).1)))
  clear hO3 hg3 hg4 hl3 hl4 g g3 A1 A2 A3 A4 AS AW hsz3
  have O4 : Hid (eK.Own w4 w.heap.size (.slice a4 n4 c4) (s ++ m)) := hO4
  clear hO4
  go_loopw [8, 9] (fun x8 i wr => ∃ (j : Nat) (a8 : Option Addr) (n8 c8 : Nat), j ≤ N ∧ i = .int .i64 (j : Int) ∧ x8 = .slice a8 n8 c8 ∧ Hid (Two wr w.heap.size (.slice a8 n8 c8) (.slice a4 n4 c4) ((c.take j).filter fun x => !has s x) (s ++ m)) ∧ Hid (w.grownBy wr none)) (fun _ i _ => N - (intOf i).toNat)
  case atStart => exact ⟨0, none, 0, 0, by omega, rfl, rfl, ⟨Elm.nil _ _, O4.out, fun q h => by cases h⟩, g4⟩
  case round =>
    clear g4 O4
    obtain ⟨j, a8, n8, c8, hj, rfl, rfl, T, G⟩ := hrel
    have hsz := G.out.size
    by_cases hlt : j < N
    · obtain ⟨y, hy⟩ : ∃ y, c[j]? = some y := ⟨_, List.getElem?_eq_getElem (by rw [NL.out]; exact hlt)⟩
      obtain ⟨g, o, rfl, y0⟩ := at_k (H.out.grown G.out) hy
      have RH1 := RH.out wr y G.out
      have F1 := filter_take (fun x => !has s x) hy
      have L1 : Hid (((c.take j).filter fun x => !has s x).length ≤ j) := filter_len _ _ _
      generalize hY : has s y = Y at *
      clear hY
      generalize ((c.take j).filter fun x => !has s x) = l1 at *
      have T6 : Hid (∀ o, Two (wr.alloc o) w.heap.size (.slice a8 n8 c8) (.slice a4 n4 c4) l1 (s ++ m)) := fun o => T.out.grown (World.grownBy_alloc wr o none)
      have GR : Hid (∀ {o : Obj} {w3 : World}, (wr.alloc o).grownBy w3 (Value.slice a8 n8 c8).ownBlock → w.grownBy w3 none) := fun {o w3} hg => grown_more (grown_alloc G.out o) hg fun k e => .inr (T.out.a.lt k e).1
      clear hy
      cases Y with
      | false =>
        rw [if_pos (by rfl)] at F1
        have E1 : Hid (_ = l1 ++ [y]) := F1
        clear F1 T
        go_wp2_with (first
          | (go_at_call 22; (with_reducible refine RH1.mono ?_); rintro e w2 ⟨rfl, rfl⟩)
          | (refine Elm.wpList_append (E := eK) rfl (.tmp 40) (.tmp 45) rfl w.heap.size (.slice a8 n8 c8) l1 rfl (T6.out _).a _ [y] rfl (one_k _ y) (by have := L1.out; simp at *; omega) (by have := L1.out; simp [eK] at *; omega) (by simp; omega) ?_; intro a5 n5 c5 w5 hO5 hg5 hl5; have G5 := GR.out hg5; have T5 := (T6.out _).app hO5 hg5 hl5))
        go_roundw
        case rel => exact ⟨j + 1, a5, n5, c5, by omega, by go_num, rfl, (by rw [E1.out]; exact T5 : Two w5 w.heap.size (.slice a5 n5 c5) (.slice a4 n4 c4) ((c.take (j + 1)).filter fun x => !has s x) (s ++ m)), G5⟩
        case measure => simp [intOf]; omega
      | true =>
        rw [if_neg (by simp), List.append_nil] at F1
        have E1 : Hid (_ = l1) := F1
        clear F1
        go_wp2_with (go_at_call 22; (with_reducible refine RH1.mono ?_); rintro e w2 ⟨rfl, rfl⟩)
        go_roundw
        case rel => exact ⟨j + 1, a8, n8, c8, by omega, by go_num, rfl, (by rw [E1.out]; exact T.out : Two _ w.heap.size (.slice a8 n8 c8) (.slice a4 n4 c4) ((c.take (j + 1)).filter fun x => !has s x) (s ++ m)), G⟩
        case measure => simp [intOf]; omega
    · have T9 := T.out
      rw [List.take_of_length_le (by rw [NL.out]; omega)] at T9
      have q1 : (c.filter fun x => !has s x).length ≤ 9223372036854775807 := Nat.le_trans (List.length_filter_le _ _) (by rw [NL.out]; omega)
      have q2 : (s ++ m).length ≤ 9223372036854775807 := by rw [List.length_append, SL.out, ML.out]; omega
      have A0 := WN.out wr _ _ G.out (HS.out.grown G.out) (by rw [SL.out]; omega)
      have A1 := WN.out wr _ _ G.out T9.b.rx q2
      have A2 := WN.out wr _ _ G.out T9.a.rx q1
      have A3 := WN.out wr _ _ G.out (H.out.grown G.out) (by rw [NL.out]; omega)
      have A4 := CK.out wr G.out
      rw [self_wins] at A3
      have M1 : wins c s = true → wins c (s ++ m) = true := more_wins
      have M2 : wins c s = true → wins c (c.filter fun x => !has s x) = false := rest_not
      clear T9 q1 q2 T WN RH CK
      have tokA : True := trivial
      have tokB : True := trivial
      have tokC : True := trivial
      cases hw : wins c s with
      | false =>
        rw [hw] at A0
        clear M1 M2 hw A1 A2
        cases hk : chk c
        all_goals
          rw [hk] at A3 A4
          clear hk
          go_wp2_with (first
            | (have _t := tokA; go_at_call 12; (with_reducible refine A0.mono ?_); rintro e w2 ⟨rfl, rfl⟩; clear tokA)
            | (go_at_call 12; (with_reducible refine A3.mono ?_); rintro e w2 ⟨rfl, rfl⟩)
            | (go_at_call 10; (with_reducible refine A4.mono ?_); rintro e w2 ⟨rfl, rfl⟩))
          go_ret
          exact ⟨rfl, grown_below G.out⟩
      | true =>
        rw [M1 hw] at A1
        rw [M2 hw] at A2
        rw [hw] at A0
        clear M1 M2 hw
        cases hk : chk c
        all_goals
          rw [hk] at A3 A4
          clear hk
          go_wp2_with (first
            | (have _t := tokA; go_at_call 12; (with_reducible refine A0.mono ?_); rintro e w2 ⟨rfl, rfl⟩; clear tokA)
            | (have _t := tokB; go_at_call 12; (with_reducible refine A1.mono ?_); rintro e w2 ⟨rfl, rfl⟩; clear tokB)
            | (have _t := tokC; go_at_call 12; (with_reducible refine A2.mono ?_); rintro e w2 ⟨rfl, rfl⟩; clear tokC)
            | (go_at_call 12; (with_reducible refine A3.mono ?_); rintro e w2 ⟨rfl, rfl⟩)
            | (go_at_call 10; (with_reducible refine A4.mono ?_); rintro e w2 ⟨rfl, rfl⟩))
          go_ret
          exact ⟨rfl, grown_below G.out⟩
end quorumGrows
end Go.Proofs.Ytakfobllkoghdaa
