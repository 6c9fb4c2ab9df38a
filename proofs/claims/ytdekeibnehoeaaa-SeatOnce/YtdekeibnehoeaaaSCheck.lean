/- may, Check; the reference's Right, Check. -/
import Derived.Test.YtdekeibnehoeaaaSBase
namespace Go.Proofs.Ytdekeibnehoeaaa
open Go.RowKit Sea
set_option linter.unusedVariables false
set_option maxRecDepth 10000

set_option maxRecDepth 100000 in
theorem may_any (c q : Int) (w : World) : Calls Try.prog 18 #[.int .i64 c, .int .i64 q] w fun e w' => e = .returned (.bool (may c q)) ∧ w' = w := by
  unfold may
  by_cases h1 : 1 ≤ c
  · rw [decide_eq_true h1]
    by_cases h2 : c ≤ 64
    · rw [decide_eq_true h2]
      go_enter Try.func18, Try.ntmps18
      go_wp2_with fail
      go_ret
      exact ⟨by simp, rfl⟩
    · rw [decide_eq_false h2]
      have d : decide (c ≤ 64) = false := decide_eq_false h2
      go_enter Try.func18, Try.ntmps18
      go_wp2_with fail
      go_ret
      exact ⟨by simp, rfl⟩
  · rw [decide_eq_false h1]
    have d : decide (1 ≤ c) = false := decide_eq_false h1
    go_enter Try.func18, Try.ntmps18
    go_wp2_with fail
    go_ret
    exact ⟨by simp, rfl⟩
set_option maxRecDepth 100000 in
theorem rright_any (c q : Int) (w : World) : Calls Try.prog 21 #[.int .i64 c, .int .i64 q] w fun e w' => e = .returned (.bool (may c q)) ∧ w' = w := by
  unfold may
  by_cases h1 : 1 ≤ c
  · rw [decide_eq_true h1]
    by_cases h2 : c ≤ 64
    · rw [decide_eq_true h2]
      go_enter Try.func21, Try.ntmps21
      go_wp2_with fail
      go_ret
      exact ⟨by simp, rfl⟩
    · rw [decide_eq_false h2]
      have d : decide (c ≤ 64) = false := decide_eq_false h2
      go_enter Try.func21, Try.ntmps21
      go_wp2_with fail
      go_ret
      exact ⟨by simp, rfl⟩
  · rw [decide_eq_false h1]
    have d : decide (1 ≤ c) = false := decide_eq_false h1
    go_enter Try.func21, Try.ntmps21
    go_wp2_with fail
    go_ret
    exact ⟨by simp, rfl⟩
/-- The client ahead of the j-th. -/
def lastC (X : List (Sn × S3)) : Nat → Int
  | 0 => 0
  | j + 1 => match X[j]? with
    | some x => x.1.cl
    | none => 0
/-- From the j-th session on. -/
def from_ (X : List (Sn × S3)) (j : Nat) : List Sn := (X.map (·.1)).drop j
theorem from_at {X : List (Sn × S3)} {j : Nat} {x : Sn × S3} (h : X[j]? = some x) : from_ X j = x.1 :: from_ X (j + 1) := by
  unfold from_
  have hl := (List.getElem?_eq_some_iff.1 h)
  rw [List.drop_eq_getElem_cons (by simpa using hl.1)]
  congr 1
  simp [hl.2]
theorem from_end {X : List (Sn × S3)} {j : Nat} (h : X.length ≤ j) : from_ X j = [] := by
  unfold from_
  exact List.drop_of_length_le (by simpa using h)
theorem lastC_succ {X : List (Sn × S3)} {j : Nat} {x : Sn × S3} (h : X[j]? = some x) : lastC X (j + 1) = x.1.cl := by simp [lastC, h]
set_option maxRecDepth 100000 in
set_option maxHeartbeats 1600000 in
theorem check_any (v : Value) (X : List (Sn × S3)) (w : World) (h : eS.Rx w v X) (hl : X.length ≤ 9223372036854775807) :
    Calls Try.prog 12 #[v] w fun e w' => e = .returned (.bool (chk (X.map (·.1)))) ∧ w.grownBy w' none := by
  obtain ⟨ad, cp, hv⟩ := h.form
  subst hv
  obtain ⟨N, hN⟩ : ∃ N, X.length = N := ⟨_, rfl⟩
  have NL : Hid (X.length = N) := hN
  rw [hN] at h hl ⊢
  have H : Hid (∀ W, w.grownBy W none → eS.Rx W (.slice ad N cp) X) := fun W g => h.grown g
  have G0 : Hid (w.grownBy w none) := grown_refl _ _
  clear h hN
  generalize hB : chk (X.map (·.1)) = B
  have HB : Hid (chkF (lastC X 0) (from_ X 0) = B) := hB
  clear hB
  have MA := may_any
  go_enter Try.func12, Try.ntmps12
  go_wp2_with fail
  go_loopw [3, 4, 7] (fun _ _ i wr => ∃ j : Nat, j ≤ N ∧ i = .int .i64 (j : Int) ∧ Hid (chkF (lastC X j) (from_ X j) = B) ∧ Hid (w.grownBy wr none)) (fun _ _ i _ => N - (intOf i).toNat)
  case atStart => exact ⟨0, by omega, rfl, HB, G0⟩
  case round =>
    obtain ⟨j, hj, rfl, I, G1⟩ := hrel
    by_cases hlt : j < N
    · obtain ⟨⟨s, u⟩, hy⟩ : ∃ y, X[j]? = some y := ⟨_, List.getElem?_eq_getElem (by rw [NL.out]; exact hlt)⟩
      have I1 : Hid ((may s.cl s.sq && decide (lastC X j < s.cl) && chkF s.cl (from_ X (j + 1))) = B) := by
        have := I.out
        rw [from_at hy, chkF] at this
        exact this
      have L1 : Hid (lastC X (j + 1) = s.cl) := lastC_succ hy
      obtain ⟨g, o, e1, r1⟩ := range_at (H.out wr G1.out) hy
      have RG : Hid (wr.rangeAt g (o + j * 5) (sc (s, u))) := r1
      have BX : Hid (∀ W, (wr.alloc (.cells #[.int .i64 s.cl, .int .i64 s.sq, .int .i64 s.er, .int .i64 s.tm, .slice u.a u.n u.c] 28)).grownBy W none → _) := fun W g => range_cells (box_s g)
      have GA : Hid (w.grownBy (wr.alloc (.cells #[.int .i64 s.cl, .int .i64 s.sq, .int .i64 s.er, .int .i64 s.tm, .slice u.a u.n u.c] 28)) none) := grown_alloc G1.out _
      subst e1
      clear hy I r1 G0 HB
      go_wp2_with (refine load_s g (o + j * 5) s u rfl RG.out ?_)
      obtain ⟨b0, b1, b2, b3, b4⟩ := BX.out _ (grown_refl _ _)
      clear BX
      generalize wr.heap.size = q at *
      generalize wr.alloc (.cells #[.int .i64 s.cl, .int .i64 s.sq, .int .i64 s.er, .int .i64 s.tm, .slice u.a u.n u.c] 28) = w1 at *
      cases hm : may s.cl s.sq with
      | false =>
        have MB : ∀ W, Calls Try.prog 18 #[.int .i64 s.cl, .int .i64 s.sq] W fun e w' => e = .returned (.bool false) ∧ w' = W := fun W => by have := MA s.cl s.sq W; rwa [hm] at this
        have E : Hid (false = B) := by have := I1.out; rw [hm] at this; exact this
        clear MA hm I1
        go_quiet ((go_at_call 18; with_reducible refine Calls.quiet_of_same (MB _)))
        go_wp2_with fail
        go_ret
        exact ⟨by rw [← E.out]; rfl, grown_drewN GA.out _⟩
      | true =>
        have MB : ∀ W, Calls Try.prog 18 #[.int .i64 s.cl, .int .i64 s.sq] W fun e w' => e = .returned (.bool true) ∧ w' = W := fun W => by have := MA s.cl s.sq W; rwa [hm] at this
        have MY := may_is.1 hm
        have I2 : Hid ((decide (lastC X j < s.cl) && chkF s.cl (from_ X (j + 1))) = B) := by have := I1.out; rw [hm, Bool.true_and] at this; exact this
        clear MA hm I1
        cases j with
        | zero =>
          have I3 : Hid (chkF (lastC X (0 + 1)) (from_ X (0 + 1)) = B) := by
            have := I2.out
            show _ = _
            rw [L1.out]
            change (decide ((0 : Int) < s.cl) && _) = B at this
            rwa [decide_eq_true (show (0 : Int) < s.cl by omega), Bool.true_and] at this
          clear I2
          go_quiet ((go_at_call 18; with_reducible refine Calls.quiet_of_same (MB _)))
          go_wp2_with fail
          go_roundw
          case rel => exact ⟨0 + 1, by omega, by go_num, I3, grown_drewN GA.out _⟩
          case measure => simp [intOf]; omega
        | succ k =>
          obtain ⟨⟨p, pu⟩, hp⟩ : ∃ y, X[k]? = some y := ⟨_, List.getElem?_eq_getElem (by rw [NL.out]; omega)⟩
          have r1 := range_in (H.out w1 GA.out) hp
          have p0 := (range_cells r1).1
          have I3 : Hid ((decide (p.cl < s.cl) && chkF s.cl (from_ X (k + 1 + 1))) = B) := by have := I2.out; rwa [lastC_succ hp] at this
          clear I2 hp r1
          by_cases hlt2 : p.cl < s.cl
          · have I4 : Hid (chkF (lastC X (k + 1 + 1)) (from_ X (k + 1 + 1)) = B) := by
              have := I3.out
              rw [L1.out]
              rwa [decide_eq_true hlt2, Bool.true_and] at this
            have d1 : decide (s.cl ≤ p.cl) = false := decide_eq_false (by omega)
            clear I3
            go_quiet ((go_at_call 18; with_reducible refine Calls.quiet_of_same (MB _)))
            go_wp2_with fail
            go_roundw
            case rel => exact ⟨k + 1 + 1, by omega, by go_num, I4, grown_drewN GA.out _⟩
            case measure => simp [intOf]; omega
          · have E : Hid (false = B) := by have := I3.out; rwa [decide_eq_false hlt2, Bool.false_and] at this
            have d1 : decide (s.cl ≤ p.cl) = true := decide_eq_true (by omega)
            clear I3
            go_quiet ((go_at_call 18; with_reducible refine Calls.quiet_of_same (MB _)))
            go_wp2_with fail
            go_ret
            exact ⟨by rw [← E.out]; rfl, grown_drewN GA.out _⟩
    · have E : Hid (true = B) := by
        have := I.out
        rw [from_end (by rw [NL.out]; omega)] at this
        exact this
      go_wp2_with fail
      go_ret
      exact ⟨by rw [← E.out]; rfl, G1.out⟩
set_option maxRecDepth 100000 in
set_option maxHeartbeats 1600000 in
theorem rcheck_any (v : Value) (X : List (Sn × S3)) (w : World) (h : eS.Rx w v X) (hl : X.length ≤ 9223372036854775807) :
    Calls Try.prog 13 #[v] w fun e w' => e = .returned (.bool (chk (X.map (·.1)))) ∧ w.grownBy w' none := by
  obtain ⟨ad, cp, hv⟩ := h.form
  subst hv
  obtain ⟨N, hN⟩ : ∃ N, X.length = N := ⟨_, rfl⟩
  have NL : Hid (X.length = N) := hN
  rw [hN] at h hl ⊢
  have H : Hid (∀ W, w.grownBy W none → eS.Rx W (.slice ad N cp) X) := fun W g => h.grown g
  have G0 : Hid (w.grownBy w none) := grown_refl _ _
  clear h hN
  generalize hB : chk (X.map (·.1)) = B
  have HB : Hid (chkF (lastC X 0) (from_ X 0) = B) := hB
  clear hB
  have MA := rright_any
  go_enter Try.func13, Try.ntmps13
  go_wp2_with fail
  go_loopw [3, 4] (fun b i wr => ∃ (j : Nat) (y : Int), j ≤ N ∧ i = .int .i64 (j : Int) ∧ b = .int .i64 y ∧ Hid (lastC X j = y) ∧ Hid (chkF (lastC X j) (from_ X j) = B) ∧ Hid (w.grownBy wr none)) (fun _ i _ => N - (intOf i).toNat)
  case atStart => exact ⟨0, 0, by omega, rfl, rfl, (rfl : lastC X 0 = 0), HB, G0⟩
  case round =>
    obtain ⟨j, y, hj, rfl, rfl, LY, I, G1⟩ := hrel
    by_cases hlt : j < N
    · obtain ⟨⟨s, u⟩, hy⟩ : ∃ y, X[j]? = some y := ⟨_, List.getElem?_eq_getElem (by rw [NL.out]; exact hlt)⟩
      have I1 : Hid ((may s.cl s.sq && decide (y < s.cl) && chkF s.cl (from_ X (j + 1))) = B) := by
        have := I.out
        rw [from_at hy, chkF, LY.out] at this
        exact this
      have L1 : Hid (lastC X (j + 1) = s.cl) := lastC_succ hy
      obtain ⟨g, o, e1, r1⟩ := range_at (H.out wr G1.out) hy
      obtain ⟨b0, b1, _⟩ := range_cells r1
      subst e1
      clear hy I r1 G0 HB LY
      cases hm : may s.cl s.sq with
      | false =>
        have MB : ∀ W, Calls Try.prog 21 #[.int .i64 s.cl, .int .i64 s.sq] W fun e w' => e = .returned (.bool false) ∧ w' = W := fun W => by have := MA s.cl s.sq W; rwa [hm] at this
        have E : Hid (false = B) := by have := I1.out; rw [hm] at this; exact this
        clear MA hm I1
        go_wp2_with fail
        go_quiet ((go_at_call 21; with_reducible refine Calls.quiet_of_same (MB _)))
        go_wp2_with fail
        go_ret
        exact ⟨by rw [← E.out]; rfl, grown_drewN G1.out _⟩
      | true =>
        have MB : ∀ W, Calls Try.prog 21 #[.int .i64 s.cl, .int .i64 s.sq] W fun e w' => e = .returned (.bool true) ∧ w' = W := fun W => by have := MA s.cl s.sq W; rwa [hm] at this
        have I2 : Hid ((decide (y < s.cl) && chkF s.cl (from_ X (j + 1))) = B) := by have := I1.out; rw [hm, Bool.true_and] at this; exact this
        clear MA hm I1
        by_cases hlt2 : y < s.cl
        · have I4 : Hid (chkF (lastC X (j + 1)) (from_ X (j + 1)) = B) := by
            have := I2.out
            show _ = _
            rw [L1.out]
            rwa [decide_eq_true hlt2, Bool.true_and] at this
          have d1 : decide (s.cl ≤ y) = false := decide_eq_false (by omega)
          clear I2
          go_wp2_with fail
          go_quiet ((go_at_call 21; with_reducible refine Calls.quiet_of_same (MB _)))
          go_wp2_with fail
          go_roundw
          case rel => exact ⟨j + 1, s.cl, by omega, by go_num, rfl, L1, I4, grown_drewN G1.out _⟩
          case measure => simp [intOf]; omega
        · have E : Hid (false = B) := by have := I2.out; rwa [decide_eq_false hlt2, Bool.false_and] at this
          have d1 : decide (s.cl ≤ y) = true := decide_eq_true (by omega)
          clear I2
          go_wp2_with fail
          go_quiet ((go_at_call 21; with_reducible refine Calls.quiet_of_same (MB _)))
          go_wp2_with fail
          go_ret
          exact ⟨by rw [← E.out]; rfl, grown_drewN G1.out _⟩
    · have E : Hid (true = B) := by
        have := I.out
        rw [from_end (by rw [NL.out]; omega)] at this
        exact this
      go_wp2_with fail
      go_ret
      exact ⟨by rw [← E.out]; rfl, G1.out⟩
end Go.Proofs.Ytdekeibnehoeaaa
