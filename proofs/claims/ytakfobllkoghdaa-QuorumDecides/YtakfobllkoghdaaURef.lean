/- The reference: Ints, Reached. -/
import Derived.Test.YtakfobllkoghdaaUNext
namespace Go.Proofs.Ytakfobllkoghdaa
open Go.RowKit Quo
set_option linter.unusedVariables false
set_option maxRecDepth 10000

def sameL (l k : List Int) : Bool := decide (l = k)
theorem take_more {l k : List Int} {j : Nat} {x y : Int} (h : l.take j = k.take j) (hx : l[j]? = some x) (hy : k[j]? = some y) (e : x = y) : l.take (j + 1) = k.take (j + 1) := by
  rw [List.take_add_one, List.take_add_one, h, hx, hy, e]
set_option maxRecDepth 100000 in
set_option maxHeartbeats 800000 in
theorem ints_any (v u : Value) (l k : List Int) (w : World) (h : eK.Rx w v l) (hl : l.length ≤ 9223372036854775807) (hu : eK.Rx w u k) (hk : k.length ≤ 9223372036854775807) :
    Calls Try.prog 19 #[v, u] w fun e w' => e = .returned (.bool (sameL l k)) ∧ w.grownBy w' none := by
  obtain ⟨ad, cp, hv⟩ := h.form
  subst hv
  obtain ⟨au, cu, hv⟩ := hu.form
  subst hv
  obtain ⟨N, hN⟩ : ∃ N, l.length = N := ⟨_, rfl⟩
  have NL : Hid (l.length = N) := hN
  obtain ⟨M, hM⟩ : ∃ M, k.length = M := ⟨_, rfl⟩
  have ML : Hid (k.length = M) := hM
  rw [hN] at h hl ⊢
  rw [hM] at hu hk ⊢
  have H : Hid (eK.Rx w (.slice ad N cp) l) := h
  have HU : Hid (eK.Rx w (.slice au M cu) k) := hu
  clear h hu hN hM
  by_cases hNM : N = M
  · subst hNM
    generalize hB : sameL l k = B
    have HB : Hid (sameL l k = B) := hB
    clear hB
    go_enter Try.func19, Try.ntmps19
    go_wp2_with fail
    go_loopw [5] (fun i wr => ∃ j : Nat, j ≤ N ∧ i = .int .i64 (j : Int) ∧ Hid (l.take j = k.take j) ∧ Hid (w.grownBy wr none)) (fun i _ => N - (intOf i).toNat)
    case atStart => exact ⟨0, by omega, rfl, (rfl : l.take 0 = k.take 0), grown_refl _ _⟩
    case round =>
      obtain ⟨j, hj, rfl, I, G⟩ := hrel
      by_cases hlt : j < N
      · obtain ⟨x, hx⟩ : ∃ x, l[j]? = some x := ⟨_, List.getElem?_eq_getElem (by rw [NL.out]; exact hlt)⟩
        obtain ⟨y, hy⟩ : ∃ y, k[j]? = some y := ⟨_, List.getElem?_eq_getElem (by rw [ML.out]; exact hlt)⟩
        obtain ⟨g, o, rfl, x0⟩ := at_k (H.out.grown G.out) hx
        obtain ⟨g2, o2, rfl, y0⟩ := at_k (HU.out.grown G.out) hy
        by_cases hxy : x = y
        · have I2 : Hid (l.take (j + 1) = k.take (j + 1)) := take_more I.out hx hy hxy
          subst hxy
          clear hx hy I
          go_upto_region 6 with fail
          refine region_still (by kernel_rfl) (by kernel_rfl) ?_
          iterate 9 still_step
          refine wpStill_nil ?_
          go_wp2_with fail
          go_roundw
          case rel => exact ⟨j + 1, by omega, by go_num, I2, grown_drew G.out⟩
          case measure => simp [intOf]; omega
        · have FN : Hid (false = B) := by
            have hne : sameL l k = false := decide_eq_false fun e => hxy (by rw [e, hy] at hx; injection hx with hx; exact hx.symm)
            rw [← HB.out]
            exact hne.symm
          have eb : (x != y) = true := by simpa using hxy
          have eb2 : (x == y) = false := by simpa using hxy
          clear hx hy I hxy
          go_upto_region 6 with fail
          refine region_still (by kernel_rfl) (by kernel_rfl) ?_
          iterate 9 still_step
          refine wpStill_nil ?_
          go_wp2_with fail
          go_ret
          exact ⟨by rw [← FN.out]; rfl, grown_drew G.out⟩
      · have FN : Hid (true = B) := by
          have e := I.out
          rw [List.take_of_length_le (by rw [NL.out]; omega), List.take_of_length_le (by rw [ML.out]; omega)] at e
          rw [← HB.out]
          exact (decide_eq_true e).symm
        go_wp2_with fail
        go_ret
        exact ⟨by rw [← FN.out]; rfl, G.out⟩
  · have hF : sameL l k = false := decide_eq_false fun e => hNM (by rw [← NL.out, ← ML.out, e])
    rw [hF]
    have d1 : ((N : Int) != (M : Int)) = true := by simp; omega
    go_enter Try.func19, Try.ntmps19
    go_wp2_with fail
    go_ret
    exact ⟨rfl, grown_refl _ _⟩
theorem count_take {v : List Int} {k : Nat} {x : Int} (n : Int) (h : v[k]? = some x) : (v.take (k + 1)).countP (fun y => decide (n ≤ y)) = (v.take k).countP (fun y => decide (n ≤ y)) + (if decide (n ≤ x) = true then 1 else 0) := by
  rw [List.take_add_one, h, List.countP_append]
  simp [List.countP_cons]
theorem mem_take_more {v : List Int} {j : Nat} {x y : Int} (h : v[j]? = some x) (hy : y ∈ v.take (j + 1)) : y ∈ v.take j ∨ y = x := by
  rw [List.take_add_one, h] at hy
  simpa using hy
set_option maxRecDepth 100000 in
set_option maxHeartbeats 3200000 in
theorem rreached_any (v s : Value) (l : List Int) (m : List (Int × Int)) (w : World) (h : eK.Rx w v l) (hl : l.length ≤ 9223372036854775807) (hs : eI.Rx w s m) (hm : m.length ≤ 9223372036854775807) :
    Calls Try.prog 18 #[v, s] w fun e w' => e = .returned (.int .i64 (rea l m)) ∧ w' = w := by
  have CK := rcheck_any v l w h hl
  have LA := fun x => rat_any s m x w hs hm
  obtain ⟨ad, cp, hv⟩ := h.form
  subst hv
  obtain ⟨aq, cq, hv⟩ := hs.form
  subst hv
  obtain ⟨N, hN⟩ : ∃ N, l.length = N := ⟨_, rfl⟩
  have NL : Hid (l.length = N) := hN
  obtain ⟨M, hM⟩ : ∃ M, m.length = M := ⟨_, rfl⟩
  rw [hM] at LA hs hm ⊢
  rw [hN] at h hl CK ⊢
  have H : Hid (eK.Rx w (.slice ad N cp) l) := h
  clear h hs hN hM hm
  cases hc : chk l with
  | false =>
    have hW : rea l m = 0 := by unfold rea; rw [if_neg (by rw [hc]; simp)]
    rw [hW]
    rw [hc] at CK
    clear LA
    go_enter Try.func18, Try.ntmps18
    go_wp2_with (go_at_call 11; (with_reducible refine CK.mono ?_); rintro e w1 ⟨rfl, rfl⟩)
    go_ret
    exact ⟨rfl, rfl⟩
  | true =>
    have hW : rea l m = med (l.map (lat m)) := by unfold rea; rw [if_pos hc]
    rw [hc] at CK
    have h7 : N ≤ 7 := by have := ((chk_iff l).1 hc).2.1; rw [NL.out] at this; exact this
    have HV : Hid (l.map (lat m) ≠ []) := by have := chk_ne hc; show _ ≠ _; simpa using this
    have VL : Hid ((l.map (lat m)).length = N) := by show _ = _; rw [List.length_map, NL.out]
    have VA : Hid (∀ (j : Nat) (y : Int), l[j]? = some y → (l.map (lat m))[j]? = some (lat m y)) := fun j y e => by rw [List.getElem?_map, e]; rfl
    rw [hW]
    clear hW hc
    generalize hB : med (l.map (lat m)) = B
    have HB : Hid (med (l.map (lat m)) = B) := hB
    clear hB
    generalize l.map (lat m) = vs at *
    go_enter Try.func18, Try.ntmps18
    go_wp2_with (go_at_call 11; (with_reducible refine CK.mono ?_); rintro e w1 ⟨rfl, rfl⟩)
    clear CK
    go_loopw [5, 6, 7, 8, 9, 10] (fun b f i _ _ _ wr => ∃ (j : Nat) (p : Int) (q : Bool), j ≤ N ∧ i = .int .i64 (j : Int) ∧ b = .int .i64 p ∧ f = .bool q ∧ Hid (q = false → ∀ x ∈ vs.take j, good vs x = false) ∧ Hid (q = true → good vs p = true ∧ ∀ x ∈ vs.take j, good vs x = true → x ≤ p) ∧ wr = w1) (fun _ _ i _ _ _ _ => N - (intOf i).toNat)
    case atStart => exact ⟨0, 0, false, by omega, rfl, rfl, rfl, (fun _ x hx => by simp at hx), (fun h => by cases h), rfl⟩
    case round =>
      obtain ⟨j, p, q, hj, rfl, rfl, rfl, I0, I1, rfl⟩ := hrel
      by_cases hlt : j < N
      · obtain ⟨y, hy⟩ : ∃ y, l[j]? = some y := ⟨_, List.getElem?_eq_getElem (by rw [NL.out]; exact hlt)⟩
        obtain ⟨g, o, rfl, y0⟩ := at_k H.out hy
        have LA1 := LA y
        have VY : Hid (vs[j]? = some (lat m y)) := VA.out j y hy
        generalize lat m y = Y at LA1 VY
        clear hy
        go_wp2_with (go_at_call 21; (with_reducible refine LA1.mono ?_); rintro e w2 ⟨rfl, rfl⟩)
        clear LA1
        go_loopw [9, 10] (fun c i wr => ∃ (k t : Nat), k ≤ N ∧ t ≤ k ∧ i = .int .i64 (k : Int) ∧ c = .int .i64 (t : Int) ∧ Hid ((vs.take k).countP (fun x => decide (Y ≤ x)) = t) ∧ wr = w2) (fun _ i _ => N - (intOf i).toNat)
        case atStart => exact ⟨0, 0, by omega, by omega, rfl, rfl, (rfl : (vs.take 0).countP (fun x => decide (Y ≤ x)) = 0), rfl⟩
        case round =>
          obtain ⟨k, t, hk, ht, rfl, rfl, C, rfl⟩ := hrel
          by_cases hlk : k < N
          · obtain ⟨z, hz⟩ : ∃ z, l[k]? = some z := ⟨_, List.getElem?_eq_getElem (by rw [NL.out]; exact hlk)⟩
            obtain ⟨g', o', hg', z0⟩ := at_k H.out hz
            injection hg' with hg'
            injection hg' with e1 e2
            subst e1 e2
            have LA2 := LA z
            have CT := count_take Y (VA.out k z hz)
            rw [C.out] at CT
            generalize lat m z = Z at LA2 CT
            clear hz LA
            by_cases hYZ : Y ≤ Z
            · rw [if_pos (decide_eq_true hYZ)] at CT
              have C2 : Hid _ := CT
              clear CT C
              go_wp2_with (go_at_call 21; (with_reducible refine LA2.mono ?_); rintro e w3 ⟨rfl, rfl⟩)
              go_roundw
              case rel => exact ⟨k + 1, t + 1, by omega, by omega, by go_num, by go_num, C2, trivial⟩
              case measure => simp [intOf]; omega
            · rw [if_neg (by simpa using hYZ)] at CT
              have C2 : Hid _ := CT
              clear CT C
              go_wp2_with (go_at_call 21; (with_reducible refine LA2.mono ?_); rintro e w3 ⟨rfl, rfl⟩)
              go_roundw
              case rel => exact ⟨k + 1, t, by omega, by omega, by go_num, by go_num, C2, trivial⟩
              case measure => simp [intOf]; omega
          · have hG : good vs Y = decide ((N : Int) < 2 * (t : Int)) := by
              have := C.out
              rw [List.take_of_length_le (by rw [VL.out]; omega)] at this
              unfold good
              rw [this, VL.out]
              exact decide_eq_decide.2 (by omega)
            clear LA C
            by_cases hgd : (N : Int) < 2 * (t : Int)
            · rw [decide_eq_true hgd] at hG
              have hgd' : decide ((N : Int) < 2 * (t : Int)) = true := decide_eq_true hgd
              cases q with
              | false =>
                have J0 : Hid (true = false → ∀ x ∈ vs.take (j + 1), good vs x = false) := fun e => by cases e
                have J1 : Hid (true = true → good vs Y = true ∧ ∀ x ∈ vs.take (j + 1), good vs x = true → x ≤ Y) := fun _ => ⟨hG, fun x hx hgx => by
                  rcases mem_take_more VY.out hx with h1 | rfl
                  · rw [I0.out rfl x h1] at hgx; cases hgx
                  · exact Int.le_refl _⟩
                clear I0 I1 hG
                go_wp2_with fail
                go_roundw
                case rel => exact ⟨j + 1, Y, true, by omega, by go_num, rfl, rfl, J0, J1, trivial⟩
                case measure => simp [intOf]; omega
              | true =>
                have J0 : Hid (true = false → ∀ x ∈ vs.take (j + 1), good vs x = false) := fun e => by cases e
                by_cases hpy : p < Y
                · have J1 : Hid (true = true → good vs Y = true ∧ ∀ x ∈ vs.take (j + 1), good vs x = true → x ≤ Y) := fun _ => ⟨hG, fun x hx hgx => by
                    rcases mem_take_more VY.out hx with h1 | rfl
                    · have := (I1.out rfl).2 x h1 hgx; omega
                    · exact Int.le_refl _⟩
                  clear I0 I1 hG
                  go_wp2_with fail
                  go_roundw
                  case rel => exact ⟨j + 1, Y, true, by omega, by go_num, rfl, rfl, J0, J1, trivial⟩
                  case measure => simp [intOf]; omega
                · have J1 : Hid (true = true → good vs p = true ∧ ∀ x ∈ vs.take (j + 1), good vs x = true → x ≤ p) := fun _ => ⟨(I1.out rfl).1, fun x hx hgx => by
                    rcases mem_take_more VY.out hx with h1 | rfl
                    · exact (I1.out rfl).2 x h1 hgx
                    · omega⟩
                  clear I0 I1 hG
                  go_wp2_with fail
                  go_roundw
                  case rel => exact ⟨j + 1, p, true, by omega, by go_num, rfl, rfl, J0, J1, trivial⟩
                  case measure => simp [intOf]; omega
            · rw [decide_eq_false hgd] at hG
              have hgd' : decide ((N : Int) < 2 * (t : Int)) = false := decide_eq_false hgd
              have J0 : Hid (q = false → ∀ x ∈ vs.take (j + 1), good vs x = false) := fun e x hx => by
                rcases mem_take_more VY.out hx with h1 | rfl
                · exact I0.out e x h1
                · exact hG
              have J1 : Hid (q = true → good vs p = true ∧ ∀ x ∈ vs.take (j + 1), good vs x = true → x ≤ p) := fun e => ⟨(I1.out e).1, fun x hx hgx => by
                rcases mem_take_more VY.out hx with h1 | rfl
                · exact (I1.out e).2 x h1 hgx
                · rw [hG] at hgx; cases hgx⟩
              clear I0 I1 hG
              go_wp2_with fail
              go_roundw
              case rel => exact ⟨j + 1, p, q, by omega, by go_num, rfl, rfl, J0, J1, trivial⟩
              case measure => simp [intOf]; omega
      · have E : Hid (p = B) := by
          have e1 := I0.out
          have e2 := I1.out
          rw [List.take_of_length_le (by rw [VL.out]; omega)] at e1 e2
          rw [← HB.out]
          exact best_med HV.out e1 e2
        clear LA I0 I1
        go_wp2_with fail
        go_ret
        exact ⟨by rw [← E.out]; rfl, rfl⟩
end Go.Proofs.Ytakfobllkoghdaa
