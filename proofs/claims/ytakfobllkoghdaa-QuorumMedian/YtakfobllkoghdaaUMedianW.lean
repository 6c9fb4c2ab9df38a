/- Those that have reached it win, one more doesn't: the statement's walk. -/
import Derived.Test.YtakfobllkoghdaaUTwo
namespace Go.Proofs.Ytakfobllkoghdaa
open Go.RowKit Quo
set_option linter.unusedVariables false

namespace quorumMedian
set_option maxRecDepth 100000 in
set_option maxHeartbeats 6400000 in
theorem walk (w : World) (v0 : Value) (o0 : ∃ l, Tk w v0 l) (v1 : Value) (o1 : ∃ l, Ti w v1 l) :
    Calls Try.prog 6 #[v0, v1] w fun e w' => e = .returned (.bool true) ∧ Below w.heap.size w w' := by
  obtain ⟨c, hc, hcl, _⟩ := o0
  obtain ⟨m, hm, hml, hmb⟩ := o1
  have AW := awake_any w
  have CK : ∀ W, w.grownBy W none → _ := fun W g => check_any v0 c W (hc.grown g) hcl
  have R1 : ∀ W, w.grownBy W none → _ := fun W g => reached_any v0 v1 c m W (hc.grown g) hcl (hm.grown g) hml
  have LA : Hid (∀ W x, w.grownBy W none → Calls Try.prog 21 #[v1, .int .i64 x] W fun e w' => e = .returned (.int .i64 (lat m x)) ∧ w' = W) := fun W x g => rat_any v1 m x W (hm.grown g) hml
  have WN : Hid (∀ W V l, w.grownBy W none → eK.Rx W V l → l.length ≤ 7 → Calls Try.prog 12 #[v0, V] W fun e w' => e = .returned (.bool (wins c l)) ∧ w' = W) := fun W V l g hV hl => wins_any v0 V c l W (hc.grown g) hcl hV (by omega)
  have BD := rea_bd c m hmb
  obtain ⟨ad, cp, hv⟩ := hc.form
  subst hv
  obtain ⟨ab, cb, hv⟩ := hm.form
  subst hv
  obtain ⟨N, hN⟩ : ∃ N, c.length = N := ⟨_, rfl⟩
  have NL : Hid (c.length = N) := hN
  generalize m.length = nm at *
  rw [hN] at hc hcl CK R1 WN ⊢
  have H : Hid (eK.Rx w (.slice ad N cp) c) := hc
  clear hc hm hN hmb hml
  cases hk : chk c with
  | false =>
    have h0 : rea c m = 0 := by unfold rea; rw [hk]; rfl
    simp only [hk] at CK
    simp only [h0] at R1
    clear LA WN BD
    go_enter Try.func6, Try.ntmps6
    go_wp2_with (first
      | (go_at_call 9; (with_reducible refine AW.mono ?_); rintro e w1 ⟨rfl, hg1⟩)
      | (go_at_call 17; (with_reducible refine (R1 _ hg1).mono ?_); rintro e w2 ⟨rfl, hg2⟩; have hg3 := grown_tr hg1 hg2)
      | (go_at_call 10; (with_reducible refine (CK _ hg3).mono ?_); rintro e w4 ⟨rfl, rfl⟩))
    go_ret
    exact ⟨rfl, grown_below hg3⟩
  | true =>
    have h7 : N ≤ 7 := by have := ((chk_iff c).1 hk).2.1; rw [NL.out] at this; exact this
    have MW := median_wins m hk
    have MM := median_more m hk
    simp only [hk] at CK
    obtain ⟨n, hn⟩ : ∃ n, rea c m = n := ⟨_, rfl⟩
    rw [hn] at MW MM BD
    simp only [hn] at R1
    have HW : Hid (wins c (c.filter fun x => decide (n ≤ lat m x)) = true) := MW
    have HM : Hid (wins c (c.filter fun x => decide (n + 1 ≤ lat m x)) = false) := MM
    obtain ⟨b1, b2⟩ := BD
    clear hn hk MW MM
    by_cases hbig : 4611686018427387904 ≤ n
    · clear LA WN
      go_enter Try.func6, Try.ntmps6
      go_wp2_with (first
        | (go_at_call 9; (with_reducible refine AW.mono ?_); rintro e w1 ⟨rfl, hg1⟩)
        | (go_at_call 17; (with_reducible refine (R1 _ hg1).mono ?_); rintro e w2 ⟨rfl, hg2⟩; have hg3 := grown_tr hg1 hg2)
        | (go_at_call 10; (with_reducible refine (CK _ hg3).mono ?_); rintro e w4 ⟨rfl, rfl⟩))
      go_ret
      exact ⟨rfl, grown_below hg3⟩
    · go_enter Try.func6, Try.ntmps6
      go_wp2_with (first
        | (go_at_call 9; (with_reducible refine AW.mono ?_); rintro e w1 ⟨rfl, hg1⟩)
        | (go_at_call 17; (with_reducible refine (R1 _ hg1).mono ?_); rintro e w2 ⟨rfl, hg2⟩; have hg3 := grown_tr hg1 hg2)
        | (go_at_call 10; (with_reducible refine (CK _ hg3).mono ?_); rintro e w4 ⟨rfl, rfl⟩))
      clear AW R1 CK hg1 hg2
      go_loopw [6, 7, 8, 9] (fun x6 x7 i _ wr => ∃ (j : Nat) (a6 : Option Addr) (n6 c6 : Nat) (a7 : Option Addr) (n7 c7 : Nat), j ≤ N ∧ i = .int .i64 (j : Int) ∧ x6 = .slice a6 n6 c6 ∧ x7 = .slice a7 n7 c7 ∧ Hid (Two wr w.heap.size (.slice a6 n6 c6) (.slice a7 n7 c7) ((c.take j).filter fun x => decide (n ≤ lat m x)) ((c.take j).filter fun x => decide (n + 1 ≤ lat m x))) ∧ Hid (w.grownBy wr none)) (fun _ _ i _ _ => N - (intOf i).toNat)
      case atStart => exact ⟨0, none, 0, 0, none, 0, 0, by omega, rfl, rfl, rfl, ⟨Elm.nil _ _, Elm.nil _ _, fun q h => by cases h⟩, hg3⟩
      case round =>
        clear hg3
        obtain ⟨j, a6, n6, c6, a7, n7, c7, hj, rfl, rfl, rfl, T, G⟩ := hrel
        have hsz := G.out.size
        by_cases hlt : j < N
        · obtain ⟨y, hy⟩ : ∃ y, c[j]? = some y := ⟨_, List.getElem?_eq_getElem (by rw [NL.out]; exact hlt)⟩
          obtain ⟨g, o, rfl, y0⟩ := at_k (H.out.grown G.out) hy
          have LA1 := LA.out wr y G.out
          have F1 := filter_take (fun x => decide (n ≤ lat m x)) hy
          have F2 := filter_take (fun x => decide (n + 1 ≤ lat m x)) hy
          have YW : Hid (∀ W, w.grownBy W none → W.cell? ⟨g, o + j, none⟩ = some (.int .i64 y)) := fun W gW => by
            obtain ⟨g', o', hg', z0⟩ := at_k (H.out.grown gW) hy
            injection hg' with hg'
            injection hg' with e1 e2
            subst e1 e2
            exact z0
          have L1 : Hid (((c.take j).filter fun x => decide (n ≤ lat m x)).length ≤ 7) := Nat.le_trans (filter_len _ _ _) (by omega)
          have L2 : Hid (((c.take j).filter fun x => decide (n + 1 ≤ lat m x)).length ≤ 7) := Nat.le_trans (filter_len _ _ _) (by omega)
          generalize lat m y = Z at *
          generalize ((c.take j).filter fun x => decide (n ≤ lat m x)) = l1 at *
          generalize ((c.take j).filter fun x => decide (n + 1 ≤ lat m x)) = l2 at *
          have T6 : Hid (∀ o, Two (wr.alloc o) w.heap.size (.slice a6 n6 c6) (.slice a7 n7 c7) l1 l2) := fun o => T.out.grown (World.grownBy_alloc wr o none)
          have GR : Hid (∀ {o : Obj} {w3 : World}, (wr.alloc o).grownBy w3 (Value.slice a6 n6 c6).ownBlock → w.grownBy w3 none) := fun {o w3} hg => grown_more (grown_alloc G.out o) hg fun k e => .inr (T.out.a.lt k e).1
          clear hy
          by_cases h1 : n + 1 ≤ Z
          · rw [if_pos (decide_eq_true (by omega))] at F1
            rw [if_pos (decide_eq_true h1)] at F2
            have E1 : Hid (_ = l1 ++ [y]) := F1
            have E2 : Hid (_ = l2 ++ [y]) := F2
            have d1 : decide (n ≤ Z) = true := decide_eq_true (by omega)
            clear F1 F2 T
            go_wp2_with (first
              | (go_at_call 21; (with_reducible refine LA1.mono ?_); rintro e w2 ⟨rfl, rfl⟩)
              | (refine Elm.wpList_append (E := eK) rfl (.tmp 37) (.tmp 42) rfl w.heap.size (.slice a6 n6 c6) l1 rfl (T6.out _).a _ [y] rfl (one_k _ y) (by have := L1.out; simp at *; omega) (by have := L1.out; simp [eK] at *; omega) (by simp; omega) ?_; intro a3 n3 c3 w3 hO3 hg3 hl3; have G3 := GR.out hg3; have T3 := (T6.out _).app hO3 hg3 hl3; have y3 := YW.out w3 G3; have hsz3 := G3.size; have T3' : Hid (∀ o, Two (w3.alloc o) w.heap.size (.slice a7 n7 c7) (.slice a3 n3 c3) l2 (l1 ++ [y])) := fun o => (T3.grown (World.grownBy_alloc w3 o none)).swap)
              | (refine Elm.wpList_append (E := eK) rfl (.tmp 48) (.tmp 53) rfl w.heap.size (.slice a7 n7 c7) l2 rfl (T3'.out _).a _ [y] rfl (one_k w3 y) (by have := L2.out; simp at *; omega) (by have := L2.out; simp [eK] at *; omega) (by simp; omega) ?_; intro a4 n4 c4 w4 hO4 hg4 hl4; have T4 := ((T3'.out _).app hO4 hg4 hl4).swap))
            go_roundw
            case rel => exact ⟨j + 1, a3, n3, c3, a4, n4, c4, by omega, by go_num, rfl, rfl, (by rw [E1.out, E2.out]; exact T4 : Two w4 w.heap.size (.slice a3 n3 c3) (.slice a4 n4 c4) ((c.take (j + 1)).filter fun x => decide (n ≤ lat m x)) ((c.take (j + 1)).filter fun x => decide (n + 1 ≤ lat m x))), grown_more (grown_alloc G3 _) hg4 fun k e => .inr ((T3'.out (Obj.cells #[] 0)).a.lt k e).1⟩
            case measure => simp [intOf]; omega
          · rw [if_neg (by simpa using h1), List.append_nil] at F2
            have E2 : Hid (_ = l2) := F2
            by_cases h2 : n ≤ Z
            · rw [if_pos (decide_eq_true h2)] at F1
              have E1 : Hid (_ = l1 ++ [y]) := F1
              clear F1 F2 T
              go_wp2_with (first
                | (go_at_call 21; (with_reducible refine LA1.mono ?_); rintro e w2 ⟨rfl, rfl⟩)
                | (refine Elm.wpList_append (E := eK) rfl (.tmp 37) (.tmp 42) rfl w.heap.size (.slice a6 n6 c6) l1 rfl (T6.out _).a _ [y] rfl (one_k _ y) (by have := L1.out; simp at *; omega) (by have := L1.out; simp [eK] at *; omega) (by simp; omega) ?_; intro a3 n3 c3 w3 hO3 hg3 hl3; have G3 := GR.out hg3; have T3 := (T6.out _).app hO3 hg3 hl3; have y3 := YW.out w3 G3; have hsz3 := G3.size; have T3' : Hid (∀ o, Two (w3.alloc o) w.heap.size (.slice a7 n7 c7) (.slice a3 n3 c3) l2 (l1 ++ [y])) := fun o => (T3.grown (World.grownBy_alloc w3 o none)).swap))
              go_roundw
              case rel => exact ⟨j + 1, a3, n3, c3, a7, n7, c7, by omega, by go_num, rfl, rfl, (by rw [E1.out, E2.out]; exact T3 : Two w3 w.heap.size (.slice a3 n3 c3) (.slice a7 n7 c7) ((c.take (j + 1)).filter fun x => decide (n ≤ lat m x)) ((c.take (j + 1)).filter fun x => decide (n + 1 ≤ lat m x))), G3⟩
              case measure => simp [intOf]; omega
            · rw [if_neg (by simpa using h2), List.append_nil] at F1
              have E1 : Hid (_ = l1) := F1
              clear F1 F2
              go_wp2_with (go_at_call 21; (with_reducible refine LA1.mono ?_); rintro e w2 ⟨rfl, rfl⟩)
              go_roundw
              case rel => exact ⟨j + 1, a6, n6, c6, a7, n7, c7, by omega, by go_num, rfl, rfl, (by rw [E1.out, E2.out]; exact T.out : Two _ w.heap.size (.slice a6 n6 c6) (.slice a7 n7 c7) ((c.take (j + 1)).filter fun x => decide (n ≤ lat m x)) ((c.take (j + 1)).filter fun x => decide (n + 1 ≤ lat m x))), G⟩
              case measure => simp [intOf]; omega
        · have T9 := T.out
          rw [List.take_of_length_le (by rw [NL.out]; omega)] at T9
          have q1 : (c.filter fun x => decide (n ≤ lat m x)).length ≤ 7 := Nat.le_trans (List.length_filter_le _ _) (by rw [NL.out]; omega)
          have q2 : (c.filter fun x => decide (n + 1 ≤ lat m x)).length ≤ 7 := Nat.le_trans (List.length_filter_le _ _) (by rw [NL.out]; omega)
          have A1 := WN.out wr _ _ G.out T9.a.rx q1
          have A2 := WN.out wr _ _ G.out T9.b.rx q2
          rw [HW.out] at A1
          rw [HM.out] at A2
          have tokA : True := trivial
          clear T9 q1 q2 T WN LA HW HM
          go_wp2_with (first
            | (have _t := tokA; go_at_call 12; (with_reducible refine A1.mono ?_); rintro e w2 ⟨rfl, rfl⟩; clear tokA)
            | (go_at_call 12; (with_reducible refine A2.mono ?_); rintro e w2 ⟨rfl, rfl⟩))
          go_ret
          exact ⟨rfl, grown_below G.out⟩
end quorumMedian
end Go.Proofs.Ytakfobllkoghdaa
