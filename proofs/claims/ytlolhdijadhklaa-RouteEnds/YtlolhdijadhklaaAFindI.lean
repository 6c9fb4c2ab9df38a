/- Find's closure and its IndexFunc. -/
import Derived.Test.YtlolhdijadhklaaAPlace
namespace Go.Proofs.Ytlolhdijadhklaa
open Go.RowKit Atl
set_option linter.unusedVariables false
set_option maxRecDepth 10000

set_option maxRecDepth 100000 in
theorem fi1_any (s : Sp) (x : ByteArray) (q : Nat) (w : World) (hq : w.cell? ⟨q, 0, none⟩ = some (.string x)) : Calls Try.prog 39 #[sv s, .pointer (some ⟨q, 0, none⟩)] w fun e w' => e = .returned (.bool (ends s x)) ∧ w.grownBy w' none := by
  have h1 : (w.alloc (.cells (sa s) 29)).cell? ⟨q, 0, none⟩ = some (.string x) := (World.grownBy_alloc w _ none).cell hq (by simp)
  have RG : Hid (∀ W, (w.alloc (.cells (sa s) 29)).grownBy W none → W.rangeAt w.heap.size 0 (sc s)) := fun W g => (cs_new g).1
  have EN := ends_any s x
  clear hq
  generalize ends s x = B at *
  go_enter Try.func39, Try.ntmps39
  go_wp2_with (first | (refine load_s w.heap.size 0 s rfl (RG.out _ (grown_refl _ _)) ?_) | (go_at_call 40; (with_reducible refine (EN _).mono ?_); rintro e w3 ⟨rfl, g3⟩))
  go_ret
  exact ⟨rfl, grown_tr (World.grownBy_alloc w _ none) g3⟩
set_option maxRecDepth 100000 in
set_option maxHeartbeats 1600000 in
theorem ixf_any (v : Value) (l : List Sp) (x : ByteArray) (q : Nat) (w : World) (h : eS.Rx w v l) (hl : l.length ≤ 4611686018427387904) (hq : w.cell? ⟨q, 0, none⟩ = some (.string x)) :
    Calls Try.prog 38 #[v, .func (.func 39) #[] #[.pointer (some ⟨q, 0, none⟩)]] w fun e w' => e = .returned (.int .i64 (fidx (fun s => ends s x) l)) ∧ w.grownBy w' none := by
  have CL : Hid (∀ W s, w.grownBy W none → _) := fun W s g => fi1_any s x q W (g.cell hq (by simp))
  obtain ⟨ad, cp, hv⟩ := h.form
  subst hv
  obtain ⟨N, hN⟩ : ∃ N, l.length = N := ⟨_, rfl⟩
  have NL : Hid (l.length = N) := hN
  rw [hN] at h hl ⊢
  have H : Hid (∀ W, w.grownBy W none → eS.Rx W (.slice ad N cp) l) := fun W g => h.grown g
  have G0 : Hid (w.grownBy w none) := grown_refl _ _
  have N0 : Hid (∀ i t, i < 0 → l[i]? = some t → ends t x = false) := fun i t hi _ => absurd hi (by omega)
  generalize hA : fidx (fun s => ends s x) l = A
  have HA : Hid (fidx (fun s => ends s x) l = A) := hA
  clear h hN hq hA
  go_enter Try.func38, Try.ntmps38
  go_wp2_with fail
  go_loopw [5, 8] (fun _ i wr => ∃ j : Nat, j ≤ N ∧ i = .int .i64 (j : Int) ∧ Hid (w.grownBy wr none) ∧ Hid (∀ i t, i < j → l[i]? = some t → ends t x = false)) (fun _ i _ => N - (intOf i).toNat)
  case atStart => exact ⟨0, by omega, rfl, G0, N0⟩
  case round =>
    clear G0 N0
    obtain ⟨j, hj, rfl, G1, NO⟩ := hrel
    by_cases hlt : j < N
    · obtain ⟨s, hy⟩ : ∃ y, l[j]? = some y := ⟨_, List.getElem?_eq_getElem (by rw [NL.out]; exact hlt)⟩
      have HY : Hid (l[j]? = some s) := hy
      obtain ⟨g, o, e1, r1⟩ := range_at (H.out wr G1.out) hy
      have RG : Hid (wr.rangeAt g (o + j * 5) (sc s)) := r1
      have CB := CL.out wr s G1.out
      subst e1
      clear hy r1
      cases hd : ends s x with
      | true =>
        rw [hd] at CB
        have F : Hid (A = (j : Int)) := by show _ = _; rw [← HA.out]; exact fidx_at HY.out hd NO.out
        clear hd
        go_wp2_with (first | (refine load_s g (o + j * 5) s rfl RG.out ?_) | (go_at_call 39; (with_reducible refine CB.mono ?_); rintro e w2 ⟨rfl, g2⟩))
        go_ret
        exact ⟨by rw [F.out]; rfl, grown_tr G1.out g2⟩
      | false =>
        rw [hd] at CB
        have NO2 : Hid (∀ i t, i < j + 1 → l[i]? = some t → ends t x = false) := fun i t hi ht => by
          by_cases e : i = j
          · subst e
            rw [HY.out] at ht
            injection ht with ht
            rw [← ht]; exact hd
          · exact NO.out i t (by omega) ht
        clear hd
        go_wp2_with (first | (refine load_s g (o + j * 5) s rfl RG.out ?_) | (go_at_call 39; (with_reducible refine CB.mono ?_); rintro e w2 ⟨rfl, g2⟩))
        go_roundw
        case rel => exact ⟨j + 1, by omega, by go_num, grown_tr G1.out g2, NO2⟩
        case measure => simp [intOf]; omega
    · have F : Hid (A = -1) := by show _ = _; rw [← HA.out]; exact fidx_no fun i t hi ht => NO.out i t (by rw [NL.out] at hi; omega) ht
      go_wp2_with fail
      go_ret
      exact ⟨by rw [F.out]; rfl, G1.out⟩
end Go.Proofs.Ytlolhdijadhklaa
