/- joined. -/
import Derived.Test.YtlolhdijadhklaaASmall
import Derived.Test.YtlolhdijadhklaaARow
namespace Go.Proofs.Ytlolhdijadhklaa
open Go.RowKit Atl
set_option linter.unusedVariables false
set_option maxRecDepth 10000

/-- The end of the span ahead of the j-th. -/
def lastU (l : List Sp) : Nat → ByteArray
  | 0 => em
  | j + 1 => match l[j]? with
    | some s => s.up
    | none => em
theorem lastU_succ {l : List Sp} {j : Nat} {s : Sp} (h : l[j]? = some s) : lastU l (j + 1) = s.up := by simp [lastU, h]
theorem drop_at {l : List Sp} {j : Nat} {s : Sp} (h : l[j]? = some s) : l.drop j = s :: l.drop (j + 1) := by
  rw [List.drop_eq_getElem_cons (List.getElem?_eq_some_iff.1 h).1, (List.getElem?_eq_some_iff.1 h).2]
/-- What strings a map has: none is longer than the reach. -/
def Szl (l : List Sp) : Prop := ∀ s ∈ l, s.fr.size ≤ 140737488351232 ∧ s.up.size ≤ 140737488351232
/-- A span in a new box. -/
theorem box_s {w W : World} {s : Sp} {t : TypeId} (g : (w.alloc (.cells (sa s) t)).grownBy W none) : W.rangeAt w.heap.size 0 (sc s) ∧ W.cell? ⟨w.heap.size, 0, none⟩ = some (.string s.fr) ∧ W.cell? ⟨w.heap.size, 1, none⟩ = some (.string s.up) ∧ W.cell? ⟨w.heap.size, 2, none⟩ = some (.int .i64 s.sh) ∧ W.cell? ⟨w.heap.size, 3, none⟩ = some (.int .i64 s.ep) ∧ W.cell? ⟨w.heap.size, 4, none⟩ = some (.int .i64 s.gr) := by
  have h := (cs_new g).1
  exact ⟨h, h 0 _ rfl, h 1 _ rfl, h 2 _ rfl, h 3 _ rfl, h 4 _ rfl⟩
set_option maxRecDepth 100000 in
set_option maxHeartbeats 3200000 in
theorem joined_any (v : Value) (l : List Sp) (w : World) (h : eS.Rx w v l) (hl : l.length ≤ 4611686018427387904) (hz : Szl l) :
    Calls Try.prog 73 #[v] w fun e w' => e = .returned (.bool (jnF em l)) ∧ w.grownBy w' none := by
  obtain ⟨ad, cp, hv⟩ := h.form
  subst hv
  obtain ⟨N, hN⟩ : ∃ N, l.length = N := ⟨_, rfl⟩
  have NL : Hid (l.length = N) := hN
  rw [hN] at h hl ⊢
  have H : Hid (∀ W, w.grownBy W none → eS.Rx W (.slice ad N cp) l) := fun W g => h.grown g
  have HZ : Hid (Szl l) := hz
  have G0 : Hid (w.grownBy w none) := grown_refl _ _
  clear h hN hz
  generalize hB : jnF em l = B
  have HB : Hid (jnF (lastU l 0) (l.drop 0) = B) := hB
  clear hB
  have NA := name_any
  go_enter Try.func73, Try.ntmps73
  go_wp2_with fail
  go_loopw [3, 4, 5, 8] (fun f _ _ i wr => ∃ j : Nat, j ≤ N ∧ i = .int .i64 (j : Int) ∧ f = .string (lastU l j) ∧ Hid (jnF (lastU l j) (l.drop j) = B) ∧ Hid (w.grownBy wr none)) (fun _ _ _ i _ => N - (intOf i).toNat)
  case atStart => exact ⟨0, by omega, rfl, rfl, HB, G0⟩
  case round =>
    clear HB G0
    obtain ⟨j, hj, rfl, rfl, I, G1⟩ := hrel
    generalize hF : lastU l j = F at *
    by_cases hlt : j < N
    · obtain ⟨s, hy⟩ : ∃ y, l[j]? = some y := ⟨_, List.getElem?_eq_getElem (by rw [NL.out]; exact hlt)⟩
      have I1 : Hid (((s.fr.toList == F.toList) && ((l.drop (j + 1)).isEmpty || (named s.up && lt F s.up)) && jnF s.up (l.drop (j + 1))) = B) := by
        have := I.out
        rw [drop_at hy, jnF] at this
        exact this
      have L1 : Hid (lastU l (j + 1) = s.up) := lastU_succ hy
      have EM : Hid ((l.drop (j + 1)).isEmpty = decide (j + 1 = N)) := by
        show _ = _
        rw [Bool.eq_iff_iff, List.isEmpty_iff, List.drop_eq_nil_iff, NL.out]
        simp
        omega
      obtain ⟨g, o, e1, r1⟩ := range_at (H.out wr G1.out) hy
      have RG : Hid (wr.rangeAt g (o + j * 5) (sc s)) := r1
      have NB : ∀ W, _ := fun W => NA s.up (HZ.out s (List.mem_of_getElem? hy)).2 W
      have BX : Hid (∀ W, (wr.alloc (.cells (sa s) 29)).grownBy W none → _) := fun W g => box_s g
      have GA : Hid (w.grownBy (wr.alloc (.cells (sa s) 29)) none) := grown_alloc G1.out _
      have dW : IntKind.i64.wrap ((N : Int) - 1) = (N : Int) - 1 := by rw [IntKind.wrap_i64]; omega
      subst e1
      clear hy I r1 NA hF
      obtain ⟨q, hq⟩ : ∃ q, q = wr.heap.size := ⟨_, rfl⟩
      obtain ⟨W1, hW1⟩ : ∃ W1, W1 = wr.alloc (.cells (sa s) 29) := ⟨_, rfl⟩
      have b := BX.out _ (grown_refl _ _)
      rw [← hW1, ← hq] at b
      obtain ⟨_, b0, b1, b2, b3, b4⟩ := b
      have GA' := GA.out
      rw [← hW1] at GA'
      replace GA : Hid (w.grownBy W1 none) := GA'
      have HW1 : Hid (W1 = wr.alloc (.cells (sa s) 29)) := hW1
      have HQ : Hid (q = wr.heap.size) := hq
      clear BX GA' hW1 hq
      cases h1 : (s.fr.toList == F.toList) with
      | false =>
        have E : Hid (false = B) := by have := I1.out; rw [h1] at this; show _ = _; simpa using this
        have h1' : (s.fr.toList != F.toList) = true := by rw [bne, h1]; rfl
        clear I1
        go_upto_region 5 with (refine load_s g (o + j * 5) s rfl RG.out ?_)
        rw [← HQ.out, ← HW1.out]
        go_wp2_with fail
        go_ret
        exact ⟨by rw [← E.out]; rfl, GA.out⟩
      | true =>
        have h1' : (s.fr.toList != F.toList) = false := by rw [bne, h1]; rfl
        by_cases hlast : j + 1 = N
        · have I2 : Hid (jnF (lastU l (j + 1)) (l.drop (j + 1)) = B) := by
            have := I1.out
            rw [h1, EM.out, decide_eq_true hlast] at this
            show _ = _
            rw [L1.out]
            simpa using this
          have d1 : decide ((j : Int) < (N : Int) - 1) = false := decide_eq_false (by omega)
          have d2 : ¬ (j : Int) < (N : Int) - 1 := by omega
          clear I1 hlast
          go_upto_region 5 with (refine load_s g (o + j * 5) s rfl RG.out ?_)
          rw [← HQ.out, ← HW1.out]
          go_wp2_with fail
          go_roundw
          case rel => exact ⟨j + 1, by omega, by go_num, by rw [L1.out], I2, GA.out⟩
          case measure => simp [intOf]; omega
        · have I2 : Hid ((named s.up && lt F s.up && jnF (lastU l (j + 1)) (l.drop (j + 1))) = B) := by
            have := I1.out
            rw [h1, EM.out, decide_eq_false hlast] at this
            show _ = _
            rw [L1.out]
            simpa using this
          have d1 : decide ((j : Int) < (N : Int) - 1) = true := decide_eq_true (by omega)
          have d2 : (j : Int) < (N : Int) - 1 := by omega
          clear I1 hlast
          cases hn : named s.up with
          | false =>
            rw [hn] at NB
            have E : Hid (false = B) := by have := I2.out; rw [hn] at this; show _ = _; simpa using this
            clear I2
            go_upto_region 5 with (refine load_s g (o + j * 5) s rfl RG.out ?_)
            rw [← HQ.out, ← HW1.out]
            go_wp2_with ((go_at_call 37; (with_reducible refine (NB _).mono ?_); rintro e w2 ⟨rfl, e2⟩; have e2' := e2.symm; clear e2; subst e2'))
            go_ret
            exact ⟨by rw [← E.out]; rfl, GA.out⟩
          | true =>
            rw [hn] at NB
            rcases tri s.up F with ⟨h2, b1, b2⟩ | ⟨h2, b1⟩ | ⟨h2, b1, b2⟩
            · have I3 : Hid (jnF (lastU l (j + 1)) (l.drop (j + 1)) = B) := by have := I2.out; rw [hn, h2] at this; show _ = _; simpa using this
              clear I2
              go_upto_region 5 with (refine load_s g (o + j * 5) s rfl RG.out ?_)
              rw [← HQ.out, ← HW1.out]
              go_wp2_with ((go_at_call 37; (with_reducible refine (NB _).mono ?_); rintro e w2 ⟨rfl, e2⟩; have e2' := e2.symm; clear e2; subst e2'))
              go_roundw
              case rel => exact ⟨j + 1, by omega, by go_num, by rw [L1.out], I3, GA.out⟩
              case measure => simp [intOf]; omega
            · have E : Hid (false = B) := by have := I2.out; rw [hn, h2] at this; show _ = _; simpa using this
              clear I2
              go_upto_region 5 with (refine load_s g (o + j * 5) s rfl RG.out ?_)
              rw [← HQ.out, ← HW1.out]
              go_wp2_with ((go_at_call 37; (with_reducible refine (NB _).mono ?_); rintro e w2 ⟨rfl, e2⟩; have e2' := e2.symm; clear e2; subst e2'))
              go_ret
              exact ⟨by rw [← E.out]; rfl, GA.out⟩
            · have E : Hid (false = B) := by have := I2.out; rw [hn, h2] at this; show _ = _; simpa using this
              clear I2
              go_upto_region 5 with (refine load_s g (o + j * 5) s rfl RG.out ?_)
              rw [← HQ.out, ← HW1.out]
              go_wp2_with ((go_at_call 37; (with_reducible refine (NB _).mono ?_); rintro e w2 ⟨rfl, e2⟩; have e2' := e2.symm; clear e2; subst e2'))
              go_ret
              exact ⟨by rw [← E.out]; rfl, GA.out⟩
    · have E : Hid ((F.toList == []) = B) := by
        have := I.out
        rw [List.drop_of_length_le (by rw [NL.out]; omega)] at this
        exact this
      go_wp2_with fail
      go_ret
      exact ⟨ret_bool (by simpa using E.out), G1.out⟩
end Go.Proofs.Ytlolhdijadhklaa
