/- place: the closure, IndexFunc; the reference's Place. -/
import Derived.Test.YtlolhdijadhklaaASmall
import Derived.Test.YtlolhdijadhklaaARow
namespace Go.Proofs.Ytlolhdijadhklaa
open Go.RowKit Atl
set_option linter.unusedVariables false
set_option maxRecDepth 10000

def fidx (P : Sp → Bool) (l : List Sp) : Int := if l.findIdx P < l.length then (l.findIdx P : Int) else -1
theorem fidx_at {P : Sp → Bool} {l : List Sp} {j : Nat} {s : Sp} (h : l[j]? = some s) (hp : P s = true) (hno : ∀ i t, i < j → l[i]? = some t → P t = false) : fidx P l = (j : Int) := by
  have hl := (List.getElem?_eq_some_iff.1 h).1
  have e : l.findIdx P = j := by
    rw [List.findIdx_eq hl, (List.getElem?_eq_some_iff.1 h).2]
    exact ⟨hp, fun i hi => hno i _ hi (List.getElem?_eq_getElem (by omega))⟩
  unfold fidx
  rw [e, if_pos hl]
theorem fidx_no {P : Sp → Bool} {l : List Sp} (hno : ∀ i t, i < l.length → l[i]? = some t → P t = false) : fidx P l = -1 := by
  unfold fidx
  rw [if_neg]
  intro h
  rw [List.findIdx_lt_length] at h
  obtain ⟨x, hx, hp⟩ := h
  obtain ⟨i, hi, e⟩ := List.getElem_of_mem hx
  have := hno i x hi (by rw [List.getElem?_eq_getElem hi, e])
  rw [this] at hp
  cases hp
theorem fidx_plc (l : List Sp) (x : Int) : fidx (fun s => decide (s.sh = x)) l = plc l x := rfl
set_option maxRecDepth 100000 in
theorem pl1_any (s : Sp) (x : Int) (q : Nat) (w : World) (hq : w.cell? ⟨q, 0, none⟩ = some (.int .i64 x)) : Calls Try.prog 84 #[sv s, .pointer (some ⟨q, 0, none⟩)] w fun e w' => e = .returned (.bool (decide (s.sh = x))) ∧ w.grownBy w' none := by
  have h1 : (w.alloc (.cells (sa s) 29)).cell? ⟨q, 0, none⟩ = some (.int .i64 x) := (World.grownBy_alloc w _ none).cell hq (by simp)
  clear hq
  go_enter Try.func84, Try.ntmps84
  go_wp2_with fail
  go_ret
  refine ⟨ret_bool ?_, World.grownBy_alloc w _ none⟩
  rw [Bool.eq_iff_iff]
  simp
set_option maxRecDepth 100000 in
set_option maxHeartbeats 1600000 in
theorem ixp_any (v : Value) (l : List Sp) (x : Int) (q : Nat) (w : World) (h : eS.Rx w v l) (hl : l.length ≤ 4611686018427387904) (hq : w.cell? ⟨q, 0, none⟩ = some (.int .i64 x)) :
    Calls Try.prog 38 #[v, .func (.func 84) #[] #[.pointer (some ⟨q, 0, none⟩)]] w fun e w' => e = .returned (.int .i64 (plc l x)) ∧ w.grownBy w' none := by
  have CL : Hid (∀ W s, w.grownBy W none → _) := fun W s g => pl1_any s x q W (g.cell hq (by simp))
  obtain ⟨ad, cp, hv⟩ := h.form
  subst hv
  obtain ⟨N, hN⟩ : ∃ N, l.length = N := ⟨_, rfl⟩
  have NL : Hid (l.length = N) := hN
  rw [hN] at h hl ⊢
  have H : Hid (∀ W, w.grownBy W none → eS.Rx W (.slice ad N cp) l) := fun W g => h.grown g
  have G0 : Hid (w.grownBy w none) := grown_refl _ _
  have N0 : Hid (∀ i t, i < 0 → l[i]? = some t → decide (t.sh = x) = false) := fun i t hi _ => absurd hi (by omega)
  generalize hA : plc l x = A
  have HA : Hid (fidx (fun s => decide (s.sh = x)) l = A) := by show _ = _; rw [fidx_plc, hA]
  clear h hN hq hA
  go_enter Try.func38, Try.ntmps38
  go_wp2_with fail
  go_loopw [5, 8] (fun _ i wr => ∃ j : Nat, j ≤ N ∧ i = .int .i64 (j : Int) ∧ Hid (w.grownBy wr none) ∧ Hid (∀ i t, i < j → l[i]? = some t → decide (t.sh = x) = false)) (fun _ i _ => N - (intOf i).toNat)
  case atStart => exact ⟨0, by omega, rfl, G0, N0⟩
  case round =>
    clear G0 N0
    obtain ⟨j, hj, rfl, G1, NO⟩ := hrel
    by_cases hlt : j < N
    · obtain ⟨s, hy⟩ : ∃ y, l[j]? = some y := ⟨_, List.getElem?_eq_getElem (by rw [NL.out]; exact hlt)⟩
      have HY : Hid (l[j]? = some s) := hy
      obtain ⟨g, o, e1, r1⟩ := range_at (H.out wr G1.out) hy
      have RG : Hid (wr.rangeAt g (o + j * 5) (sc s)) := r1
      have CB := CL.out wr s G1.out
      subst e1
      clear hy r1
      cases hd : decide (s.sh = x) with
      | true =>
        rw [hd] at CB
        have F : Hid (A = (j : Int)) := by show _ = _; rw [← HA.out]; exact fidx_at HY.out hd NO.out
        clear hd
        go_wp2_with (first | (refine load_s g (o + j * 5) s rfl RG.out ?_) | (go_at_call 84; (with_reducible refine CB.mono ?_); rintro e w2 ⟨rfl, g2⟩))
        go_ret
        exact ⟨by rw [F.out]; rfl, grown_tr G1.out g2⟩
      | false =>
        rw [hd] at CB
        have NO2 : Hid (∀ i t, i < j + 1 → l[i]? = some t → decide (t.sh = x) = false) := fun i t hi ht => by
          by_cases e : i = j
          · subst e
            rw [HY.out] at ht
            injection ht with ht
            rw [← ht]; exact hd
          · exact NO.out i t (by omega) ht
        clear hd
        go_wp2_with (first | (refine load_s g (o + j * 5) s rfl RG.out ?_) | (go_at_call 84; (with_reducible refine CB.mono ?_); rintro e w2 ⟨rfl, g2⟩))
        go_roundw
        case rel => exact ⟨j + 1, by omega, by go_num, grown_tr G1.out g2, NO2⟩
        case measure => simp [intOf]; omega
    · have F : Hid (A = -1) := by show _ = _; rw [← HA.out]; exact fidx_no fun i t hi ht => NO.out i t (by rw [NL.out] at hi; omega) ht
      go_wp2_with fail
      go_ret
      exact ⟨by rw [F.out]; rfl, G1.out⟩
set_option maxRecDepth 100000 in
set_option maxHeartbeats 1600000 in
theorem place_any (a : Am) (u : S3) (x : Int) (w : World) (h : Rat w a u) : Calls Try.prog 54 #[av a u, .int .i64 x] w fun e w' => e = .returned (.int .i64 (plc a.l x)) ∧ w.grownBy w' none := by
  have hq : (w.alloc (.cells (aa a u) 26)).heap.size = w.heap.size + 1 := by simp
  obtain ⟨W1, hW1⟩ : ∃ W1, W1 = (w.alloc (.cells (aa a u) 26)).alloc (.cells #[.int .i64 x] 3) := ⟨_, rfl⟩
  have G1 : Hid (w.grownBy W1 none) := by rw [hW1]; exact grown_tr (World.grownBy_alloc _ _ none) (World.grownBy_alloc _ _ none)
  have c1 : W1.cell? ⟨w.heap.size + 1, 0, none⟩ = some (.int .i64 x) := by rw [hW1]; exact new_at _ hq.symm rfl
  have CL := ixp_any (.slice u.a u.n u.c) a.l x (w.heap.size + 1) W1 (h.1.grown G1.out) (by have := h.2.2; omega) c1
  have c2 : W1.cell? ⟨w.heap.size, 2, none⟩ = some (.slice u.a u.n u.c) := by rw [hW1]; exact (World.grownBy_alloc _ _ none).cell (new_at _ rfl rfl) (by simp)
  have HW1 : Hid (W1 = _) := hW1
  clear h hW1 hq c1
  go_enter Try.func54, Try.ntmps54
  go_upto_region 1 with fail
  rw [← HW1.out]
  go_wp2_with (go_at_call 38; (with_reducible refine CL.mono ?_); rintro e w2 ⟨rfl, g2⟩)
  go_ret
  exact ⟨rfl, grown_tr G1.out g2⟩
end Go.Proofs.Ytlolhdijadhklaa
