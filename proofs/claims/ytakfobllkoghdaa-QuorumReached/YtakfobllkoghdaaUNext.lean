/- Next: the program's. -/
import Derived.Test.YtakfobllkoghdaaURea
namespace Go.Proofs.Ytakfobllkoghdaa
open Go.RowKit Quo
set_option linter.unusedVariables false
set_option maxRecDepth 10000

def nxE (c : List Int) (a r : Int) : Int := if nxB c a r = true then 0 else 1
def nxL (c : List Int) (a r : Int) : List Int := if nxB c a r = true then out c a r else []
theorem nxB_no {c : List Int} {a r : Int} (h : (chk c && mayA c a && mayR c r) = false) : nxB c a r = false := by unfold nxB; rw [h]; rfl
theorem nxB_chk {c : List Int} {a r : Int} (h : (chk c && mayA c a && mayR c r) = true) : nxB c a r = chk (out c a r) := by unfold nxB; rw [h]; rfl
theorem out_len {c : List Int} {a r : Int} : (out c a r).length ≤ c.length + 1 := by
  unfold out
  have := wo_len c r
  split
  · omega
  · rw [srt_len, List.length_append]; simp; omega
/-- What Next answers. -/
def NxA (c : List Int) (a r : Int) (w : World) (e : Ending) (w' : World) : Prop := ∃ ad n cp, e = .returned (.tuple #[.slice ad n cp, .int .i64 (nxE c a r)]) ∧ Hid (n = (nxL c a r).length) ∧ eK.Own w' w.heap.size (.slice ad n cp) (nxL c a r) ∧ w.grownBy w' none
theorem NxA.no {c : List Int} {a r : Int} {w w' : World} (h : nxB c a r = false) (g : w.grownBy w' none) : NxA c a r w (.returned (.tuple #[.slice none 0 0, .int .i64 1])) w' := by
  have e1 : nxE c a r = 1 := by unfold nxE; rw [h]; rfl
  have e2 : nxL c a r = [] := by unfold nxL; rw [h]; rfl
  exact ⟨none, 0, 0, by rw [e1], by rw [e2]; exact (rfl : 0 = 0), by rw [e2]; exact Elm.nil _ _, g⟩
theorem NxA.yes {c : List Int} {a r : Int} {w w' : World} {ad : Option Addr} {n cp : Nat} (h : nxB c a r = true) (ho : eK.Own w' w.heap.size (.slice ad n cp) (out c a r)) (g : w.grownBy w' none) : NxA c a r w (.returned (.tuple #[.slice ad n cp, .int .i64 0])) w' := by
  have e1 : nxE c a r = 0 := by unfold nxE; rw [h]; rfl
  have e2 : nxL c a r = out c a r := by unfold nxL; rw [h]; rfl
  exact ⟨ad, n, cp, by rw [e1], by rw [e2]; exact ho.len, by rw [e2]; exact ho, g⟩
set_option maxRecDepth 100000 in
theorem mayA_any (v : Value) (l : List Int) (x : Int) (w : World) (h : eK.Rx w v l) (hl : l.length ≤ 9223372036854775807) :
    Calls Try.prog 24 #[v, .int .i64 x] w fun e w' => e = .returned (.bool (mayA l x)) ∧ w' = w := by
  have CT := contains_any v l x w h hl
  obtain ⟨ad, cp, hv⟩ := h.form
  subst hv
  clear h
  unfold mayA
  by_cases h0 : 0 ≤ x
  · rw [decide_eq_true h0]
    go_enter Try.func24, Try.ntmps24
    go_wp2_with (go_at_call 23; (with_reducible refine CT.mono ?_); rintro e w1 ⟨rfl, rfl⟩)
    go_ret
    exact ⟨by simp, rfl⟩
  · rw [decide_eq_false h0]
    go_enter Try.func24, Try.ntmps24
    go_wp2_with (go_at_call 23; (with_reducible refine CT.mono ?_); rintro e w1 ⟨rfl, rfl⟩)
    go_ret
    exact ⟨by simp, rfl⟩
set_option maxRecDepth 100000 in
theorem mayR_any (v : Value) (l : List Int) (x : Int) (w : World) (h : eK.Rx w v l) (hl : l.length ≤ 9223372036854775807) :
    Calls Try.prog 25 #[v, .int .i64 x] w fun e w' => e = .returned (.bool (mayR l x)) ∧ w' = w := by
  have CT := contains_any v l x w h hl
  obtain ⟨ad, cp, hv⟩ := h.form
  subst hv
  clear h
  unfold mayR
  cases h0 : (x == 0)
  all_goals
    go_enter Try.func25, Try.ntmps25
    go_wp2_with (go_at_call 23; (with_reducible refine CT.mono ?_); rintro e w1 ⟨rfl, rfl⟩)
    go_ret
    exact ⟨by simp, rfl⟩
set_option maxRecDepth 100000 in
set_option maxHeartbeats 1600000 in
theorem next_no (v : Value) (l : List Int) (a r : Int) (w : World) (h : eK.Rx w v l) (hl : l.length ≤ 9223372036854775807) (hg : (chk l && mayA l a && mayR l r) = false) :
    Calls Try.prog 15 #[v, .int .i64 a, .int .i64 r] w fun e w' => NxA l a r w e w' := by
  have CK := check_any v l w h hl
  have MA := mayA_any v l a w h hl
  have MR := mayR_any v l r w h hl
  have NO : Hid (NxA l a r w (.returned (.tuple #[.slice none 0 0, .int .i64 1])) w) := NxA.no (nxB_no hg) (grown_refl _ _)
  obtain ⟨ad, cp, hv⟩ := h.form
  subst hv
  clear h
  cases h1 : chk l <;> cases h2 : mayA l a <;> cases h3 : mayR l r
  case true.true.true => rw [h1, h2, h3] at hg; cases hg
  all_goals
    rw [h1] at CK
    rw [h2] at MA
    rw [h3] at MR
    clear hg h1 h2 h3
    go_enter Try.func15, Try.ntmps15
    go_wp2_with (first
      | (go_at_call 10; (with_reducible refine CK.mono ?_); rintro e w1 ⟨rfl, rfl⟩)
      | (go_at_call 24; (with_reducible refine MA.mono ?_); rintro e w1 ⟨rfl, rfl⟩)
      | (go_at_call 25; (with_reducible refine MR.mono ?_); rintro e w1 ⟨rfl, rfl⟩))
    go_ret2
    exact NO.out
set_option maxRecDepth 100000 in
set_option maxHeartbeats 3200000 in
theorem next_yes (v : Value) (l : List Int) (a r : Int) (w : World) (h : eK.Rx w v l) (hl : l.length ≤ 9223372036854775807) (hg : (chk l && mayA l a && mayR l r) = true) :
    Calls Try.prog 15 #[v, .int .i64 a, .int .i64 r] w fun e w' => NxA l a r w e w' := by
  have CK := check_any v l w h hl
  have MA := mayA_any v l a w h hl
  have MR := mayR_any v l r w h hl
  have NC : Hid (nxB l a r = chk (out l a r)) := nxB_chk hg
  simp only [Bool.and_eq_true] at hg
  obtain ⟨⟨h1, h2⟩, h3⟩ := hg
  rw [h1] at CK
  rw [h2] at MA
  rw [h3] at MR
  obtain ⟨ad, cp, hv⟩ := h.form
  subst hv
  obtain ⟨N, hN⟩ : ∃ N, l.length = N := ⟨_, rfl⟩
  have NL : Hid (l.length = N) := hN
  rw [hN] at h hl CK MA MR ⊢
  have h7 : N ≤ 7 := by have := ((chk_iff l).1 h1).2.1; rw [hN] at this; exact this
  have H : Hid (eK.Rx w (.slice ad N cp) l) := h
  have tokA : True := trivial
  clear h hN h1 h2 h3
  go_enter Try.func15, Try.ntmps15
  go_wp2_with (first
    | (go_at_call 10; (with_reducible refine CK.mono ?_); rintro e w1 ⟨rfl, rfl⟩)
    | (go_at_call 24; (with_reducible refine MA.mono ?_); rintro e w1 ⟨rfl, rfl⟩)
    | (go_at_call 25; (with_reducible refine MR.mono ?_); rintro e w1 ⟨rfl, rfl⟩))
  clear CK MA MR
  go_loopw [8, 10, 28] (fun b _ i wr => ∃ (j : Nat) (a8 : Option Addr) (n8 c8 : Nat), j ≤ N ∧ i = .int .i64 (j : Int) ∧ b = .slice a8 n8 c8 ∧ Hid (eK.Own wr w1.heap.size (.slice a8 n8 c8) (wo (l.take j) r)) ∧ Hid (w1.grownBy wr none)) (fun _ _ i _ => N - (intOf i).toNat)
  case atStart => exact ⟨0, none, 0, 0, by omega, rfl, rfl, Elm.nil _ _, grown_refl _ _⟩
  case round =>
    obtain ⟨j, a8, n8, c8, hj, rfl, rfl, O8, G⟩ := hrel
    have hsz := G.out.size
    have LE : Hid ((wo (l.take j) r).length ≤ 7) := Nat.le_trans (wo_len _ _) (by rw [List.length_take]; omega)
    by_cases hlt : j < N
    · obtain ⟨y, hy⟩ : ∃ y, l[j]? = some y := ⟨_, List.getElem?_eq_getElem (by rw [NL.out]; exact hlt)⟩
      obtain ⟨g, o, rfl, y0⟩ := at_k (H.out.grown G.out) hy
      have WT := wo_take (r := r) hy
      cases hs : (y != r) with
      | true =>
        rw [hs, if_pos rfl] at WT
        have HT : Hid (wo (l.take (j + 1)) r = wo (l.take j) r ++ [y]) := WT
        have OW : Hid (∀ o, eK.Own (wr.alloc o) w1.heap.size (.slice a8 n8 c8) (wo (l.take j) r)) := fun o => O8.out.grown (World.grownBy_alloc wr o none)
        clear hy WT
        go_wp2_with (refine Elm.wpList_append (E := eK) rfl (.tmp 35) (.tmp 37) rfl w1.heap.size (.slice a8 n8 c8) (wo (l.take j) r) rfl (OW.out _) _ [y] rfl (one_k wr y) (by have := LE.out; simp; omega) (by have := LE.out; simp [eK]; omega) (by simp; omega) ?_; intro a3 n3 c3 w3 hO3 hg3 hl3)
        go_roundw
        case rel => exact ⟨j + 1, a3, n3, c3, by omega, by go_num, rfl, (by rw [HT.out]; exact hO3 : eK.Own w3 w1.heap.size (.slice a3 n3 c3) (wo (l.take (j + 1)) r)), grown_more (grown_alloc G.out _) hg3 fun k e => .inr (O8.out.lt k e).1⟩
        case measure => simp [intOf]; omega
      | false =>
        rw [hs, if_neg (by simp), List.append_nil] at WT
        have HT : Hid (wo (l.take (j + 1)) r = wo (l.take j) r) := WT
        clear hy WT
        go_wp2_with fail
        go_roundw
        case rel => exact ⟨j + 1, a8, n8, c8, by omega, by go_num, rfl, (by rw [HT.out]; exact O8.out : eK.Own wr w1.heap.size (.slice a8 n8 c8) (wo (l.take (j + 1)) r)), G⟩
        case measure => simp [intOf]; omega
    · have O6 : eK.Own wr w1.heap.size (.slice a8 n8 c8) (wo l r) := by
        have := O8.out
        rwa [List.take_of_length_le (by rw [NL.out]; omega)] at this
      have LE6 : (wo l r).length ≤ 7 := Nat.le_trans (wo_len _ _) (by rw [NL.out]; omega)
      have HLE6 : Hid ((wo l r).length ≤ 7) := LE6
      clear O8 LE
      by_cases ha : a = 0
      · have ho : out l a r = wo l r := by unfold out; rw [if_pos ha]
        have C6 := check_any _ _ wr O6.rx (by omega)
        rw [ho] at NC
        have G6 := G.out
        have FN : Hid (chk (wo l r) = false → NxA l a r w1 (.returned (.tuple #[.slice none 0 0, .int .i64 1])) wr) := fun hb => NxA.no (NC.out.trans hb) G6
        have FY : Hid (chk (wo l r) = true → NxA l a r w1 (.returned (.tuple #[.slice a8 n8 c8, .int .i64 0])) wr) := fun hb => NxA.yes (NC.out.trans hb) (by rw [ho]; exact O6) G6
        clear O6 LE6 G6 ho
        subst ha
        cases hb : chk (wo l r) with
        | false =>
          rw [hb] at C6
          have FN1 : Hid _ := FN.out hb
          clear FN FY hb
          go_wp2_with (go_at_call 10; (with_reducible refine C6.mono ?_); rintro e w4 ⟨rfl, rfl⟩)
          go_ret2
          exact FN1.out
        | true =>
          rw [hb] at C6
          have FN1 : Hid _ := FY.out hb
          clear FN FY hb
          go_wp2_with (go_at_call 10; (with_reducible refine C6.mono ?_); rintro e w4 ⟨rfl, rfl⟩)
          go_ret2
          exact FN1.out
      · have ho : out l a r = srt (wo l r ++ [a]) := by unfold out; rw [if_neg ha]
        have ha1 : (a != 0) = true := by simpa using ha
        have OW : Hid (∀ o, eK.Own (wr.alloc o) w1.heap.size (.slice a8 n8 c8) (wo l r)) := fun o => O6.grown (World.grownBy_alloc wr o none)
        rw [ho] at NC
        have G6 := G.out
        have GR : Hid (∀ o w3, (wr.alloc o).grownBy w3 (Value.slice a8 n8 c8).ownBlock → w1.grownBy w3 none) := fun o w3 hg => grown_more (grown_alloc G6 o) hg fun k e => .inr (O6.lt k e).1
        have SO : Hid (∀ W V, eK.Own W w1.heap.size V (wo l r ++ [a]) → _) := fun W V hO => sortK_any w1.heap.size V (wo l r ++ [a]) W (by rw [List.length_append]; simp; omega) hO
        have C6 : Hid (∀ W V, eK.Own W w1.heap.size V (srt (wo l r ++ [a])) → _) := fun W V hO => check_any V _ W hO.rx (by rw [srt_len, List.length_append]; simp; omega)
        have FN : Hid (chk (srt (wo l r ++ [a])) = false → ∀ W, w1.grownBy W none → NxA l a r w1 (.returned (.tuple #[.slice none 0 0, .int .i64 1])) W) := fun hb W g => NxA.no (NC.out.trans hb) g
        have FY : Hid (chk (srt (wo l r ++ [a])) = true → ∀ W a5 n5 c5, w1.grownBy W none → eK.Own W w1.heap.size (.slice a5 n5 c5) (srt (wo l r ++ [a])) → NxA l a r w1 (.returned (.tuple #[.slice a5 n5 c5, .int .i64 0])) W) := fun hb W a5 n5 c5 g hO => NxA.yes (NC.out.trans hb) (by rw [ho]; exact hO) g
        clear O6 LE6 G6 ho ha
        cases hb : chk (srt (wo l r ++ [a])) with
        | false =>
          rw [hb] at C6
          have FN1 : Hid _ := FN.out hb
          clear FN FY hb
          go_wp2_with (first
            | (refine Elm.wpList_append (E := eK) rfl (.tmp 42) (.tmp 44) rfl w1.heap.size (.slice a8 n8 c8) (wo l r) rfl (OW.out _) _ [a] rfl (one_k wr a) (by have := HLE6.out; simp; omega) (by have := HLE6.out; simp [eK]; omega) (by simp; omega) ?_; intro a3 n3 c3 w3 hO3 hg3 hl3)
            | (go_at_call 26; (with_reducible refine (SO.out w3 _ hO3).mono ?_); rintro e w4 ⟨rfl, hO4, hg4⟩)
            | (go_at_call 10; (with_reducible refine (C6.out w4 _ hO4).mono ?_); rintro e w5 ⟨rfl, rfl⟩))
          go_ret2
          exact FN1.out _ (grown_more (GR.out _ _ hg3) hg4 fun k e => .inr (hO3.lt k e).1)
        | true =>
          rw [hb] at C6
          have FN1 : Hid _ := FY.out hb
          clear FN FY hb
          go_wp2_with (first
            | (refine Elm.wpList_append (E := eK) rfl (.tmp 42) (.tmp 44) rfl w1.heap.size (.slice a8 n8 c8) (wo l r) rfl (OW.out _) _ [a] rfl (one_k wr a) (by have := HLE6.out; simp; omega) (by have := HLE6.out; simp [eK]; omega) (by simp; omega) ?_; intro a3 n3 c3 w3 hO3 hg3 hl3)
            | (go_at_call 26; (with_reducible refine (SO.out w3 _ hO3).mono ?_); rintro e w4 ⟨rfl, hO4, hg4⟩)
            | (go_at_call 10; (with_reducible refine (C6.out w4 _ hO4).mono ?_); rintro e w5 ⟨rfl, rfl⟩))
          go_ret2
          exact FN1.out _ _ _ _ (grown_more (GR.out _ _ hg3) hg4 fun k e => .inr (hO3.lt k e).1) hO4
theorem next_any (v : Value) (l : List Int) (a r : Int) (w : World) (h : eK.Rx w v l) (hl : l.length ≤ 9223372036854775807) :
    Calls Try.prog 15 #[v, .int .i64 a, .int .i64 r] w fun e w' => NxA l a r w e w' := by
  cases hg : (chk l && mayA l a && mayR l r) with
  | false => exact next_no v l a r w h hl hg
  | true => exact next_yes v l a r w h hl hg
end Go.Proofs.Ytakfobllkoghdaa
