/- the reference's Place, inside. -/
import Derived.Test.YtlolhdijadhklaaAPlace
import Derived.Test.YtlolhdijadhklaaAJoin
namespace Go.Proofs.Ytlolhdijadhklaa
open Go.RowKit Atl
set_option linter.unusedVariables false
set_option maxRecDepth 10000

set_option maxRecDepth 100000 in
set_option maxHeartbeats 1600000 in
theorem rplace_any (a : Am) (u : S3) (x : Int) (w : World) (h : Rat w a u) : Calls Try.prog 46 #[av a u, .int .i64 x] w fun e w' => e = .returned (.int .i64 (plc a.l x)) ∧ w.grownBy w' none := by
  obtain ⟨hR, hn, hb⟩ := h
  obtain ⟨ua, un, uc⟩ := u
  simp only at hn hR ⊢
  obtain ⟨W1, hW1⟩ : ∃ W1, W1 = w.alloc (.cells (aa a ⟨ua, un, uc⟩) 26) := ⟨_, rfl⟩
  have G1 : Hid (w.grownBy W1 none) := by rw [hW1]; exact World.grownBy_alloc _ _ none
  have c2 : W1.cell? ⟨w.heap.size, 2, none⟩ = some (.slice ua un uc) := by rw [hW1]; exact new_at _ rfl rfl
  have H : Hid (eS.Rx W1 (.slice ua un uc) a.l) := hR.grown G1.out
  have NL : Hid (a.l.length = un) := hn.symm
  have un16 : (un : Int) ≤ 9223372036854775807 := by omega
  generalize hA : plc a.l x = A
  have HA : Hid (fidx (fun s => decide (s.sh = x)) a.l = A) := by show _ = _; rw [fidx_plc, hA]
  have N0 : Hid (∀ i t, i < 0 → a.l[i]? = some t → decide (t.sh = x) = false) := fun i t hi _ => absurd hi (by omega)
  have HW1 : Hid (W1 = _) := hW1
  clear hR hn hb hW1 hA
  go_enter Try.func46, Try.ntmps46
  go_upto_region 1 with fail
  rw [← HW1.out]
  go_wp2_with fail
  go_loopw [5] (fun i wr => ∃ j : Nat, j ≤ un ∧ i = .int .i64 (j : Int) ∧ wr = W1 ∧ Hid (∀ i t, i < j → a.l[i]? = some t → decide (t.sh = x) = false)) (fun i _ => un - (intOf i).toNat)
  case atStart => exact ⟨0, by omega, rfl, rfl, N0⟩
  case round =>
    clear N0
    obtain ⟨j, hj, rfl, ew, NO⟩ := hrel
    subst ew
    by_cases hlt : j < un
    · obtain ⟨s, hy⟩ : ∃ y, a.l[j]? = some y := ⟨_, List.getElem?_eq_getElem (by rw [NL.out]; exact hlt)⟩
      have HY : Hid (a.l[j]? = some s) := hy
      obtain ⟨g, o, e1, r1⟩ := range_at H.out hy
      obtain ⟨b0, b1, b2, b3, b4⟩ := cells_s r1
      subst e1
      clear hy r1 b0 b1 b3 b4
      cases hd : (s.sh == x) with
      | true =>
        have F : Hid (A = (j : Int)) := by show _ = _; rw [← HA.out]; exact fidx_at HY.out (by simpa using hd) NO.out
        go_wp2_with fail
        go_ret
        exact ⟨by rw [F.out]; rfl, G1.out⟩
      | false =>
        have NO2 : Hid (∀ i t, i < j + 1 → a.l[i]? = some t → decide (t.sh = x) = false) := fun i t hi ht => by
          by_cases e : i = j
          · subst e
            rw [HY.out] at ht
            injection ht with ht
            rw [← ht]; simpa using hd
          · exact NO.out i t (by omega) ht
        go_wp2_with fail
        go_roundw
        case rel => exact ⟨j + 1, by omega, by go_num, by first | rfl | trivial, NO2⟩
        case measure => simp [intOf]; omega
    · have F : Hid (A = -1) := by show _ = _; rw [← HA.out]; exact fidx_no fun i t hi ht => NO.out i t (by rw [NL.out] at hi; omega) ht
      go_wp2_with fail
      go_ret
      exact ⟨by rw [F.out]; rfl, G1.out⟩
set_option maxRecDepth 100000 in
theorem inside_any (s : Sp) (k : ByteArray) (hk : k.size ≤ 140737488351232) (w : World) : Calls Try.prog 48 #[sv s, .string k] w fun e w' => e = .returned (.bool (parts s k)) ∧ w.grownBy w' none := by
  unfold parts
  have NA := rname_any k hk
  unfold ends
  cases h1 : named k with
  | false =>
    rw [h1] at NA
    go_enter Try.func48, Try.ntmps48
    go_wp2_with (go_at_call 41; (with_reducible refine (NA _).mono ?_); rintro e w2 ⟨rfl, e2⟩; have e2' := e2.symm; clear e2; subst e2')
    go_ret
    exact ⟨by simp, World.grownBy_alloc w _ none⟩
  | true =>
    rw [h1] at NA
    cases h2 : lt s.fr k with
    | false =>
      have BL : Op.bytesLess s.fr.toList k.toList = false := h2
      go_enter Try.func48, Try.ntmps48
      go_wp2_with (go_at_call 41; (with_reducible refine (NA _).mono ?_); rintro e w2 ⟨rfl, e2⟩; have e2' := e2.symm; clear e2; subst e2')
      go_ret
      exact ⟨by simp, World.grownBy_alloc w _ none⟩
    | true =>
      have BL : Op.bytesLess s.fr.toList k.toList = true := h2
      cases h3 : (s.up.toList == []) with
      | true =>
        go_enter Try.func48, Try.ntmps48
        go_wp2_with (go_at_call 41; (with_reducible refine (NA _).mono ?_); rintro e w2 ⟨rfl, e2⟩; have e2' := e2.symm; clear e2; subst e2')
        go_ret
        exact ⟨by simp, World.grownBy_alloc w _ none⟩
      | false =>
        unfold lt
        generalize hC : Op.bytesLess k.toList s.up.toList = C
        go_enter Try.func48, Try.ntmps48
        go_wp2_with (go_at_call 41; (with_reducible refine (NA _).mono ?_); rintro e w2 ⟨rfl, e2⟩; have e2' := e2.symm; clear e2; subst e2')
        go_ret
        exact ⟨by simp, World.grownBy_alloc w _ none⟩
end Go.Proofs.Ytlolhdijadhklaa
