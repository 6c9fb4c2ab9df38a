/- Lists of numbers and of items; slices.Index, Contains. quorum's Check, Wins. The reference's Ints. -/
import Derived.Test.YtdpcebaggldaiaaMb
import Derived.Test.YtdpcebaggldaiaaMa
namespace Go.Proofs.Ytdpcebaggldaiaa
open Go.RowKit Quo
set_option linter.unusedVariables false
set_option maxRecDepth 10000

def eK : Elm Int where
  el := 3
  sl := 22
  size := 1
  bytes := 8
  zero := .int .i64 0
  enc := fun x => [.int .i64 x]
  hu := Try.underlying22
  hi := by kernel_rfl
  hz := rfl
  hs := by decide
  len := fun _ => rfl
  one := by intro x v hv; simp at hv; subst hv; rfl
  he := by kernel_rfl
  so := fun W => Try.sizeOf3 W
def eN : Elm Int where
  el := 2
  sl := 26
  size := 1
  bytes := 8
  zero := .int .i64 0
  enc := fun x => [.int .i64 x]
  hu := Try.underlying26
  hi := by kernel_rfl
  hz := rfl
  hs := by decide
  len := fun _ => rfl
  one := by intro x v hv; simp at hv; subst hv; rfl
  he := by kernel_rfl
  so := fun W => Try.sizeOf2 W
def eI : Elm (Int × Int) where
  el := 92
  sl := 90
  size := 2
  bytes := 16
  zero := .agg #[.int .i64 0, .int .i64 0]
  enc := fun p => [.int .i64 p.1, .int .i64 p.2]
  hu := Try.underlying90
  hi := by kernel_rfl
  hz := rfl
  hs := by decide
  len := fun _ => rfl
  one := by intro x v hv; simp at hv; rcases hv with rfl | rfl <;> rfl
  he := by kernel_rfl
  so := fun W => Try.sizeOf92 W
theorem at_k {w : World} {ad : Option Addr} {n c : Nat} {l : List Int} (h : eK.Rx w (.slice ad n c) l) {i : Nat} {x : Int} (hi : l[i]? = some x) :
    ∃ g o, ad = some ⟨g, o, none⟩ ∧ w.cell? ⟨g, o + i, none⟩ = some (.int .i64 x) := by
  obtain ⟨g, o, c', hv, hc⟩ := h.at_ hi
  injection hv with e1 e2 e3
  have := hc 0 _ rfl
  have e : eK.size = 1 := rfl
  rw [e, Nat.mul_one, Nat.add_zero] at this
  exact ⟨g, o, e1, this⟩
theorem at_n {w : World} {ad : Option Addr} {n c : Nat} {l : List Int} (h : eN.Rx w (.slice ad n c) l) {i : Nat} {x : Int} (hi : l[i]? = some x) :
    ∃ g o, ad = some ⟨g, o, none⟩ ∧ w.cell? ⟨g, o + i, none⟩ = some (.int .i64 x) := by
  obtain ⟨g, o, c', hv, hc⟩ := h.at_ hi
  injection hv with e1 e2 e3
  have := hc 0 _ rfl
  have e : eN.size = 1 := rfl
  rw [e, Nat.mul_one, Nat.add_zero] at this
  exact ⟨g, o, e1, this⟩
theorem at_i {w : World} {ad : Option Addr} {n c : Nat} {l : List (Int × Int)} (h : eI.Rx w (.slice ad n c) l) {i : Nat} {x : Int × Int} (hi : l[i]? = some x) :
    ∃ g o, ad = some ⟨g, o, none⟩ ∧ w.cell? ⟨g, o + i * 2, none⟩ = some (.int .i64 x.1) ∧ w.cell? ⟨g, o + i * 2 + 1, none⟩ = some (.int .i64 x.2) := by
  obtain ⟨g, o, c', hv, hc⟩ := h.at_ hi
  injection hv with e1 e2 e3
  have h0 := hc 0 _ rfl
  have h1 := hc 1 _ rfl
  have e : eI.size = 2 := rfl
  rw [e] at h0 h1
  rw [Nat.add_zero] at h0
  exact ⟨g, o, e1, h0, h1⟩
set_option maxRecDepth 100000 in
set_option maxHeartbeats 800000 in
theorem index_any (v : Value) (l : List Int) (x : Int) (w : World) (h : eK.Rx w v l) (hl : l.length ≤ 9223372036854775807) :
    Calls Try.prog 41 #[v, .int .i64 x] w fun e w' => ∃ i : Int, e = .returned (.int .i64 i) ∧ decide (0 ≤ i) = has l x ∧ w' = w := by
  obtain ⟨ad, cp, hv⟩ := h.form
  subst hv
  obtain ⟨N, hN⟩ : ∃ N, l.length = N := ⟨_, rfl⟩
  have NL : Hid (l.length = N) := hN
  rw [hN] at h hl ⊢
  have H : Hid (eK.Rx w (.slice ad N cp) l) := h
  clear h hN
  go_enter Try.func41, Try.ntmps41
  go_wp2_with fail
  go_loopw [5, 8] (fun _ i wr => ∃ j : Nat, j ≤ N ∧ i = .int .i64 (j : Int) ∧ Hid (has (l.take j) x = false) ∧ wr = w) (fun _ i _ => N - (intOf i).toNat)
  case atStart => exact ⟨0, by omega, rfl, (rfl : has (l.take 0) x = false), rfl⟩
  case round =>
    obtain ⟨j, hj, rfl, I, rfl⟩ := hrel
    by_cases hlt : j < N
    · obtain ⟨y, hy⟩ : ∃ y, l[j]? = some y := ⟨_, List.getElem?_eq_getElem (by rw [NL.out]; exact hlt)⟩
      obtain ⟨g, o, rfl, y0⟩ := at_k H.out hy
      cases hs : (x == y) with
      | true =>
        have FN : Hid (has l x = true) := has_all hy (by rw [← hs]; exact BEq.comm)
        clear hy
        go_wp2_with fail
        go_ret
        exact ⟨_, rfl, by rw [FN.out]; exact decide_eq_true (by omega), rfl⟩
      | false =>
        have hyx : (y == x) = false := by rw [← hs]; exact BEq.comm
        have I2 : Hid (has (l.take (j + 1)) x = false) := by show _ = _; rw [has_take hy, I.out, hyx]; rfl
        clear hy I hyx
        go_wp2_with fail
        go_roundw
        case rel => exact ⟨j + 1, by omega, by go_num, I2, trivial⟩
        case measure => simp [intOf]; omega
    · have e : has l x = false := by
        have := I.out
        rwa [List.take_of_length_le (by rw [NL.out]; omega)] at this
      have E : Hid (has l x = false) := e
      clear e
      go_wp2_with fail
      go_ret
      exact ⟨-1, rfl, by rw [E.out]; rfl, rfl⟩
set_option maxRecDepth 100000 in
theorem contains_any (v : Value) (l : List Int) (x : Int) (w : World) (h : eK.Rx w v l) (hl : l.length ≤ 9223372036854775807) :
    Calls Try.prog 22 #[v, .int .i64 x] w fun e w' => e = .returned (.bool (has l x)) ∧ w' = w := by
  have IX := index_any v l x w h hl
  obtain ⟨ad, cp, rfl⟩ := h.form
  clear h
  go_enter Try.func22, Try.ntmps22
  go_wp2_with (go_at_call 41; (with_reducible refine IX.mono ?_); rintro e w1 ⟨i, rfl, hi, rfl⟩)
  go_ret
  exact ⟨by rw [← hi]; first | rfl | simp, rfl⟩
end Go.Proofs.Ytdpcebaggldaiaa
namespace Go.Proofs.Ytdpcebaggldaiaa
open Go.RowKit Quo
set_option linter.unusedVariables false
set_option maxRecDepth 10000

def lastOf (l : List Int) (j : Nat) : Int := (l.take j).getLast?.getD 0
theorem lastOf_succ {l : List Int} {j : Nat} {x : Int} (h : l[j]? = some x) : lastOf l (j + 1) = x := by
  unfold lastOf
  rw [List.take_add_one, h]
  simp
theorem rise_more {l : List Int} {j : Nat} {x : Int} (h : l[j]? = some x) : rise 0 (l.take (j + 1)) = (rise 0 (l.take j) && decide (lastOf l j < x)) := rise_take h
theorem rise_cut {l : List Int} (j : Nat) (h : rise 0 (l.take j) = false) : rise 0 l = false := by
  cases hr : rise 0 l with
  | false => rfl
  | true =>
    obtain ⟨h1, h2⟩ := (rise_iff l 0).1 hr
    have : rise 0 (l.take j) = true := (rise_iff _ 0).2 ⟨fun x hx => h1 x (List.mem_of_mem_take hx), h2.sublist (List.take_sublist _ _)⟩
    rw [h] at this
    cases this
theorem chk_rise {l : List Int} (h1 : ¬ l.length < 1) (h2 : ¬ 7 < l.length) : chk l = rise 0 l := by
  unfold chk
  rw [decide_eq_false h1, decide_eq_false h2]
  rfl
theorem chk_short {l : List Int} (h : l.length < 1) : chk l = false := by
  unfold chk
  rw [decide_eq_true h]
  rfl
theorem chk_long {l : List Int} (h : 7 < l.length) : chk l = false := by
  unfold chk
  rw [decide_eq_true h]
  simp
set_option maxRecDepth 100000 in
set_option maxHeartbeats 800000 in
theorem qcheck_any (v : Value) (l : List Int) (w : World) (h : eK.Rx w v l) (hl : l.length ≤ 9223372036854775807) :
    Calls Try.prog 21 #[v] w fun e w' => e = .returned (.bool (chk l)) ∧ w' = w := by
  obtain ⟨ad, cp, hv⟩ := h.form
  subst hv
  obtain ⟨N, hN⟩ : ∃ N, l.length = N := ⟨_, rfl⟩
  have NL : Hid (l.length = N) := hN
  rw [hN] at h hl ⊢
  have H : Hid (eK.Rx w (.slice ad N cp) l) := h
  clear h hN
  by_cases h1 : N < 1
  · rw [chk_short (by rw [NL.out]; exact h1)]
    obtain rfl : N = 0 := by omega
    go_enter Try.func21, Try.ntmps21
    go_wp2_with fail
    go_ret
    exact ⟨rfl, rfl⟩
  by_cases h7 : 7 < N
  · rw [chk_long (by rw [NL.out]; exact h7)]
    have d1 : decide ((N : Int) < 1) = false := decide_eq_false (by omega)
    have d7 : decide ((7 : Int) < (N : Int)) = true := decide_eq_true (by omega)
    go_enter Try.func21, Try.ntmps21
    go_wp2_with fail
    go_ret
    exact ⟨rfl, rfl⟩
  have d1 : decide ((N : Int) < 1) = false := decide_eq_false (by omega)
  have d7 : decide ((7 : Int) < (N : Int)) = false := decide_eq_false (by omega)
  generalize hB : chk l = B
  have HB : Hid (rise 0 l = B) := by rw [← hB]; exact (chk_rise (by rw [NL.out]; exact h1) (by rw [NL.out]; exact h7)).symm
  clear hB
  go_enter Try.func21, Try.ntmps21
  go_wp2_with fail
  go_loopw [3, 5, 16] (fun b _ i wr => ∃ (j : Nat) (p : Int), j ≤ N ∧ i = .int .i64 (j : Int) ∧ b = .int .i64 p ∧ Hid (lastOf l j = p) ∧ Hid (rise 0 (l.take j) = true) ∧ wr = w) (fun _ _ i _ => N - (intOf i).toNat)
  case atStart => exact ⟨0, 0, by omega, rfl, rfl, (rfl : lastOf l 0 = 0), (rfl : rise 0 (l.take 0) = true), rfl⟩
  case round =>
    obtain ⟨j, p, hj, rfl, rfl, LP, I, rfl⟩ := hrel
    by_cases hlt : j < N
    · obtain ⟨y, hy⟩ : ∃ y, l[j]? = some y := ⟨_, List.getElem?_eq_getElem (by rw [NL.out]; exact hlt)⟩
      obtain ⟨g, o, rfl, y0⟩ := at_k H.out hy
      by_cases hs : p < y
      · have I2 : Hid (rise 0 (l.take (j + 1)) = true) := by show _ = _; rw [rise_more hy, I.out, LP.out]; simp [hs]
        have L2 : Hid (lastOf l (j + 1) = y) := lastOf_succ hy
        clear hy I LP
        go_wp2_with fail
        go_roundw
        case rel => exact ⟨j + 1, y, by omega, by go_num, rfl, L2, I2, trivial⟩
        case measure => simp [intOf]; omega
      · have FN : Hid (rise 0 l = false) := rise_cut (j + 1) (by rw [rise_more hy, I.out, LP.out]; simp [hs])
        clear hy I LP
        go_wp2_with fail
        go_ret
        exact ⟨by rw [← HB.out, FN.out]; rfl, rfl⟩
    · have e : rise 0 l = true := by
        have := I.out
        rwa [List.take_of_length_le (by rw [NL.out]; omega)] at this
      have E : Hid (rise 0 l = true) := e
      clear e
      go_wp2_with fail
      go_ret
      exact ⟨by rw [← HB.out, E.out]; rfl, rfl⟩
set_option maxRecDepth 100000 in
set_option maxHeartbeats 800000 in
theorem wins_any (v s : Value) (l m : List Int) (w : World) (h : eK.Rx w v l) (hl : l.length ≤ 9223372036854775807) (hs : eK.Rx w s m) (hm : m.length ≤ 9223372036854775807) :
    Calls Try.prog 53 #[v, s] w fun e w' => e = .returned (.bool (wins l m)) ∧ w' = w := by
  have CK := qcheck_any v l w h hl
  have CT := fun x => contains_any s m x w hs hm
  obtain ⟨ad, cp, hv⟩ := h.form
  subst hv
  obtain ⟨aq, cq, hv⟩ := hs.form
  subst hv
  obtain ⟨N, hN⟩ : ∃ N, l.length = N := ⟨_, rfl⟩
  have NL : Hid (l.length = N) := hN
  obtain ⟨M, hM⟩ : ∃ M, m.length = M := ⟨_, rfl⟩
  rw [hM] at CT hs hm ⊢
  rw [hN] at h hl CK ⊢
  have H : Hid (eK.Rx w (.slice ad N cp) l) := h
  clear h hs hN hM hm
  cases hc : chk l with
  | false =>
    have hW : wins l m = false := by unfold wins; rw [hc]; rfl
    rw [hW]
    rw [hc] at CK
    clear CT
    go_enter Try.func53, Try.ntmps53
    go_wp2_with (go_at_call 21; (with_reducible refine CK.mono ?_); rintro e w1 ⟨rfl, rfl⟩)
    go_ret
    exact ⟨rfl, rfl⟩
  | true =>
    have hW : wins l m = decide ((N : Int) < 2 * (ins l m : Nat)) := by
      unfold wins
      rw [hc, Bool.true_and, NL.out]
      exact decide_eq_decide.2 (by omega)
    rw [hc] at CK
    have h7 : N ≤ 7 := by have := ((chk_iff l).1 hc).2.1; rw [NL.out] at this; exact this
    rw [hW]
    clear hW hc
    go_enter Try.func53, Try.ntmps53
    go_wp2_with (go_at_call 21; (with_reducible refine CK.mono ?_); rintro e w1 ⟨rfl, rfl⟩)
    clear CK
    go_loopw [5, 7, 13] (fun b _ i wr => ∃ (j k : Nat), j ≤ N ∧ k ≤ j ∧ i = .int .i64 (j : Int) ∧ b = .int .i64 (k : Int) ∧ Hid (ins (l.take j) m = k) ∧ wr = w1) (fun _ _ i _ => N - (intOf i).toNat)
    case atStart => exact ⟨0, 0, by omega, by omega, rfl, rfl, (rfl : ins (l.take 0) m = 0), rfl⟩
    case round =>
      obtain ⟨j, k, hj, hk, rfl, rfl, I, rfl⟩ := hrel
      by_cases hlt : j < N
      · obtain ⟨y, hy⟩ : ∃ y, l[j]? = some y := ⟨_, List.getElem?_eq_getElem (by rw [NL.out]; exact hlt)⟩
        obtain ⟨g, o, rfl, y0⟩ := at_k H.out hy
        have CT1 := CT y
        have IT := ins_take (s := m) hy
        rw [I.out] at IT
        cases hs : has m y with
        | true =>
          rw [hs] at CT1 IT
          have I2 : Hid (ins (l.take (j + 1)) m = k + 1) := IT
          clear hy I IT CT
          go_wp2_with (go_at_call 22; (with_reducible refine CT1.mono ?_); rintro e w2 ⟨rfl, rfl⟩)
          go_roundw
          case rel => exact ⟨j + 1, k + 1, by omega, by omega, by go_num, by go_num, I2, trivial⟩
          case measure => simp [intOf]; omega
        | false =>
          rw [hs] at CT1 IT
          have I2 : Hid (ins (l.take (j + 1)) m = k) := IT
          clear hy I IT CT
          go_wp2_with (go_at_call 22; (with_reducible refine CT1.mono ?_); rintro e w2 ⟨rfl, rfl⟩)
          go_roundw
          case rel => exact ⟨j + 1, k, by omega, by omega, by go_num, by go_num, I2, trivial⟩
          case measure => simp [intOf]; omega
      · have E : Hid (ins l m = k) := by
          have := I.out
          rwa [List.take_of_length_le (by rw [NL.out]; omega)] at this
        clear I CT
        go_wp2_with fail
        go_ret
        exact ⟨by rw [E.out]; rfl, rfl⟩
end Go.Proofs.Ytdpcebaggldaiaa
namespace Go.Proofs.Ytdpcebaggldaiaa
open Go.RowKit Quo
set_option linter.unusedVariables false
set_option maxRecDepth 10000
def sameL (l k : List Int) : Bool := decide (l = k)
theorem take_more {l k : List Int} {j : Nat} {x y : Int} (h : l.take j = k.take j) (hx : l[j]? = some x) (hy : k[j]? = some y) (e : x = y) : l.take (j + 1) = k.take (j + 1) := by
  rw [List.take_add_one, List.take_add_one, h, hx, hy, e]
set_option maxRecDepth 100000 in
set_option maxHeartbeats 800000 in
theorem ints_any (v u : Value) (l k : List Int) (w : World) (h : eK.Rx w v l) (hl : l.length ≤ 9223372036854775807) (hu : eK.Rx w u k) (hk : k.length ≤ 9223372036854775807) :
    Calls Try.prog 17 #[v, u] w fun e w' => e = .returned (.bool (sameL l k)) ∧ w.grownBy w' none := by
  obtain ⟨ad, cp, hv⟩ := h.form
  subst hv
  obtain ⟨au, cu, hv⟩ := hu.form
  subst hv
  obtain ⟨N, hN⟩ : ∃ N, l.length = N := ⟨_, rfl⟩
  have NL : Hid (l.length = N) := hN
  obtain ⟨M, hM⟩ : ∃ M, k.length = M := ⟨_, rfl⟩
  have ML : Hid (k.length = M) := hM
  rw [hN] at h hl ⊢
  rw [hM] at hu hk ⊢
  have H : Hid (eK.Rx w (.slice ad N cp) l) := h
  have HU : Hid (eK.Rx w (.slice au M cu) k) := hu
  clear h hu hN hM
  by_cases hNM : N = M
  · subst hNM
    generalize hB : sameL l k = B
    have HB : Hid (sameL l k = B) := hB
    clear hB
    go_enter Try.func17, Try.ntmps17
    go_wp2_with fail
    go_loopw [5] (fun i wr => ∃ j : Nat, j ≤ N ∧ i = .int .i64 (j : Int) ∧ Hid (l.take j = k.take j) ∧ Hid (w.grownBy wr none)) (fun i _ => N - (intOf i).toNat)
    case atStart => exact ⟨0, by omega, rfl, (rfl : l.take 0 = k.take 0), grown_refl _ _⟩
    case round =>
      obtain ⟨j, hj, rfl, I, G⟩ := hrel
      by_cases hlt : j < N
      · obtain ⟨x, hx⟩ : ∃ x, l[j]? = some x := ⟨_, List.getElem?_eq_getElem (by rw [NL.out]; exact hlt)⟩
        obtain ⟨y, hy⟩ : ∃ y, k[j]? = some y := ⟨_, List.getElem?_eq_getElem (by rw [ML.out]; exact hlt)⟩
        obtain ⟨g, o, rfl, x0⟩ := at_k (H.out.grown G.out) hx
        obtain ⟨g2, o2, rfl, y0⟩ := at_k (HU.out.grown G.out) hy
        by_cases hxy : x = y
        · have I2 : Hid (l.take (j + 1) = k.take (j + 1)) := take_more I.out hx hy hxy
          subst hxy
          clear hx hy I
          go_upto_region 6 with fail
          refine region_still (by kernel_rfl) (by kernel_rfl) ?_
          iterate 9 still_step
          refine wpStill_nil ?_
          go_wp2_with fail
          go_roundw
          case rel => exact ⟨j + 1, by omega, by go_num, I2, grown_drew G.out⟩
          case measure => simp [intOf]; omega
        · have FN : Hid (false = B) := by
            have hne : sameL l k = false := decide_eq_false fun e => hxy (by rw [e, hy] at hx; injection hx with hx; exact hx.symm)
            rw [← HB.out]
            exact hne.symm
          have eb : (x != y) = true := by simpa using hxy
          have eb2 : (x == y) = false := by simpa using hxy
          clear hx hy I hxy
          go_upto_region 6 with fail
          refine region_still (by kernel_rfl) (by kernel_rfl) ?_
          iterate 9 still_step
          refine wpStill_nil ?_
          go_wp2_with fail
          go_ret
          exact ⟨by rw [← FN.out]; rfl, grown_drew G.out⟩
      · have FN : Hid (true = B) := by
          have e := I.out
          rw [List.take_of_length_le (by rw [NL.out]; omega), List.take_of_length_le (by rw [ML.out]; omega)] at e
          rw [← HB.out]
          exact (decide_eq_true e).symm
        go_wp2_with fail
        go_ret
        exact ⟨by rw [← FN.out]; rfl, G.out⟩
  · have hF : sameL l k = false := decide_eq_false fun e => hNM (by rw [← NL.out, ← ML.out, e])
    rw [hF]
    have d1 : ((N : Int) != (M : Int)) = true := by simp; omega
    go_enter Try.func17, Try.ntmps17
    go_wp2_with fail
    go_ret
    exact ⟨rfl, grown_refl _ _⟩
end Go.Proofs.Ytdpcebaggldaiaa
