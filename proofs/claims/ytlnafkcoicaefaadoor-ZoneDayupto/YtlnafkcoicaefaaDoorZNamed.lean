/- What 'Named' answers. -/
import Derived.Test.YtlnafkcoicaefaaDoorZKnown
namespace Go.Proofs.YtlnafkcoicaefaaDoor
open Go.RowKit
set_option linter.unusedVariables false

theorem info_known : (Tryd.prog.info? 73).map (·.size) = some KC.size := by kernel_rfl
/-- The variable is loaded whole. -/
theorem wpList_known {w : World} {ops : Array Oper} {rest : List Oper} {o : Oper} {a : Act} {Q : Exit → Act → World → Prop} (hgd : o.guard = none) (ho : o.op = .load 73 (.global 0)) (hw : Kn w)
    (h : wpList Tryd.prog ops Q rest (a.put o.dst (.agg KC)) w) : wpList Tryd.prog ops Q (o :: rest) a w := by
  obtain ⟨t, fr, hg⟩ := hw
  exact wpList_plain hgd fun _ hK => wp_load_row 73 (.global 0) ho 0 rfl t KC fr _ hg Tryd.underlying73 rfl info_known (hK _ _ h)
theorem idx0 (w : World) : (Instr.index 73 (.agg KC) (.int .i64 0)).run Tryd.prog w = .ok (.agg #[.string (nm 0), .int .i64 (kz 0).b, .int .i64 (kz 0).s, .int .i64 (kz 0).on.m, .int .i64 (kz 0).on.k, .int .i64 (kz 0).on.d, .int .i64 (kz 0).on.a, .int .i64 (kz 0).off.m, .int .i64 (kz 0).off.k, .int .i64 (kz 0).off.d, .int .i64 (kz 0).off.a]) w := by kernel_rfl
theorem idx1 (w : World) : (Instr.index 73 (.agg KC) (.int .i64 1)).run Tryd.prog w = .ok (.agg #[.string (nm 1), .int .i64 (kz 1).b, .int .i64 (kz 1).s, .int .i64 (kz 1).on.m, .int .i64 (kz 1).on.k, .int .i64 (kz 1).on.d, .int .i64 (kz 1).on.a, .int .i64 (kz 1).off.m, .int .i64 (kz 1).off.k, .int .i64 (kz 1).off.d, .int .i64 (kz 1).off.a]) w := by kernel_rfl
theorem idx2 (w : World) : (Instr.index 73 (.agg KC) (.int .i64 2)).run Tryd.prog w = .ok (.agg #[.string (nm 2), .int .i64 (kz 2).b, .int .i64 (kz 2).s, .int .i64 (kz 2).on.m, .int .i64 (kz 2).on.k, .int .i64 (kz 2).on.d, .int .i64 (kz 2).on.a, .int .i64 (kz 2).off.m, .int .i64 (kz 2).off.k, .int .i64 (kz 2).off.d, .int .i64 (kz 2).off.a]) w := by kernel_rfl
theorem idx3 (w : World) : (Instr.index 73 (.agg KC) (.int .i64 3)).run Tryd.prog w = .ok (.agg #[.string (nm 3), .int .i64 (kz 3).b, .int .i64 (kz 3).s, .int .i64 (kz 3).on.m, .int .i64 (kz 3).on.k, .int .i64 (kz 3).on.d, .int .i64 (kz 3).on.a, .int .i64 (kz 3).off.m, .int .i64 (kz 3).off.k, .int .i64 (kz 3).off.d, .int .i64 (kz 3).off.a]) w := by kernel_rfl
theorem idx4 (w : World) : (Instr.index 73 (.agg KC) (.int .i64 4)).run Tryd.prog w = .ok (.agg #[.string (nm 4), .int .i64 (kz 4).b, .int .i64 (kz 4).s, .int .i64 (kz 4).on.m, .int .i64 (kz 4).on.k, .int .i64 (kz 4).on.d, .int .i64 (kz 4).on.a, .int .i64 (kz 4).off.m, .int .i64 (kz 4).off.k, .int .i64 (kz 4).off.d, .int .i64 (kz 4).off.a]) w := by kernel_rfl
theorem idx5 (w : World) : (Instr.index 73 (.agg KC) (.int .i64 5)).run Tryd.prog w = .ok (.agg #[.string (nm 5), .int .i64 (kz 5).b, .int .i64 (kz 5).s, .int .i64 (kz 5).on.m, .int .i64 (kz 5).on.k, .int .i64 (kz 5).on.d, .int .i64 (kz 5).on.a, .int .i64 (kz 5).off.m, .int .i64 (kz 5).off.k, .int .i64 (kz 5).off.d, .int .i64 (kz 5).off.a]) w := by kernel_rfl
theorem idx6 (w : World) : (Instr.index 73 (.agg KC) (.int .i64 6)).run Tryd.prog w = .ok (.agg #[.string (nm 6), .int .i64 (kz 6).b, .int .i64 (kz 6).s, .int .i64 (kz 6).on.m, .int .i64 (kz 6).on.k, .int .i64 (kz 6).on.d, .int .i64 (kz 6).on.a, .int .i64 (kz 6).off.m, .int .i64 (kz 6).off.k, .int .i64 (kz 6).off.d, .int .i64 (kz 6).off.a]) w := by kernel_rfl

theorem toList_eq (s : ByteArray) : s.toList = s.data.toList := by
  have key : ∀ (n i : Nat) (r : List UInt8), s.size - i = n → ByteArray.toList.loop s i r = r.reverse ++ s.data.toList.drop i := by
    intro n
    induction n with
    | zero =>
      intro i r hi
      rw [ByteArray.toList.loop, if_neg (by omega), List.drop_eq_nil_of_le (by rw [Array.length_toList]; show s.size ≤ i; omega), List.append_nil]
    | succ n ih =>
      intro i r hi
      have hlt : i < s.size := by omega
      rw [ByteArray.toList.loop, if_pos hlt, ih (i + 1) _ (by omega), List.reverse_cons, List.append_assoc]
      congr 1
      have hlt' : i < s.data.toList.length := by rw [Array.length_toList]; exact hlt
      rw [List.drop_eq_getElem_cons hlt', List.cons_append, List.nil_append]
      congr 1
      have hlt2 : i < s.data.size := hlt
      simp [ByteArray.get!]
      exact getElem!_pos s.data i hlt2
  have := key s.size 0 [] (by omega)
  simpa [ByteArray.toList] using this
theorem toList_inj {s t : ByteArray} : s.toList = t.toList ↔ s = t := by
  rw [toList_eq, toList_eq]
  constructor
  · intro h
    cases s; cases t
    simp at h
    rw [h]
  · intro h; rw [h]
theorem name_ne {s t : ByteArray} (h : ¬ s = t) : (t.toList == s.toList) = false := by
  have : ¬ t.toList = s.toList := fun e => h (toList_inj.mp e).symm
  simpa using this
set_option maxRecDepth 100000 in
set_option maxHeartbeats 1600000 in
theorem named_any (s : ByteArray) (w : World) (hK : Kn w) :
    Calls Tryd.prog 16 #[.string s] w fun e w' => w.grownBy w' none ∧ ((∃ i b, i < 7 ∧ s = nm i ∧ e = .returned (.tuple #[.pointer (some ⟨b, 0, none⟩), .int .i64 0]) ∧ w.heap.size ≤ b ∧ b < w'.heap.size ∧ Zn w' b (kz i)) ∨
      ((∀ i, i < 7 → s ≠ nm i) ∧ e = .returned (.tuple #[.pointer none, .int .i64 40]))) := by
  have M := fun i => make_ok (kz i) (kz_ok i)
  go_enter Tryd.func16, Tryd.ntmps16
  go_wp2_with (refine wpList_known rfl rfl hK ?_)
  go_loopw [7] (fun v wr => ∃ k : Nat, k ≤ 7 ∧ v = .int .i64 k ∧ w.grownBy wr none ∧ ∀ j, j < k → s ≠ nm j) (fun v _ => (7 - intOf v).toNat)
  case atStart => exact ⟨0, by omega, rfl, grown_refl _ _, fun j hj => by omega⟩
  case round =>
    obtain ⟨k, hk, rfl, hg, hno⟩ := hrel
    have HN : Hid (∀ j, j < k → s ≠ nm j) := hno
    clear hno
    have hk' : k = 0 ∨ k = 1 ∨ k = 2 ∨ k = 3 ∨ k = 4 ∨ k = 5 ∨ k = 6 ∨ k = 7 := by omega
    rcases hk' with rfl | rfl | rfl | rfl | rfl | rfl | rfl | rfl
    · by_cases hs : s = nm 0
      · have I := idx0
        go_wp2_with (go_at_call 9; go_must (refine (M 0 _).mono ?_); rintro e w1 ⟨b, rfl, hg1, hb1, hb2, hz⟩)
        have hs1 := hg.size
        simp at hb1
        go_ret2
        exact ⟨grown_more hg (grown_more (World.grownBy_alloc wr _ none) hg1 (by simp)) (by simp), .inl ⟨0, b, by omega, hs, rfl, by omega, hb2, hz⟩⟩
      · have I := idx0
        have hs' := name_ne hs
        have HS : Hid (¬ s = nm 0) := hs
        clear hs
        go_wp2_with (go_at_call 9; fail)
        go_roundw
        case rel => exact ⟨1, by omega, rfl, grown_alloc hg _, fun j hj => by
          rcases Nat.lt_succ_iff_lt_or_eq.mp hj with h | rfl
          · exact HN.out j h
          · exact HS.out⟩
        case measure => simp [intOf]
    · by_cases hs : s = nm 1
      · have I := idx1
        go_wp2_with (go_at_call 9; go_must (refine (M 1 _).mono ?_); rintro e w1 ⟨b, rfl, hg1, hb1, hb2, hz⟩)
        have hs1 := hg.size
        simp at hb1
        go_ret2
        exact ⟨grown_more hg (grown_more (World.grownBy_alloc wr _ none) hg1 (by simp)) (by simp), .inl ⟨1, b, by omega, hs, rfl, by omega, hb2, hz⟩⟩
      · have I := idx1
        have hs' := name_ne hs
        have HS : Hid (¬ s = nm 1) := hs
        clear hs
        go_wp2_with (go_at_call 9; fail)
        go_roundw
        case rel => exact ⟨2, by omega, rfl, grown_alloc hg _, fun j hj => by
          rcases Nat.lt_succ_iff_lt_or_eq.mp hj with h | rfl
          · exact HN.out j h
          · exact HS.out⟩
        case measure => simp [intOf]
    · by_cases hs : s = nm 2
      · have I := idx2
        go_wp2_with (go_at_call 9; go_must (refine (M 2 _).mono ?_); rintro e w1 ⟨b, rfl, hg1, hb1, hb2, hz⟩)
        have hs1 := hg.size
        simp at hb1
        go_ret2
        exact ⟨grown_more hg (grown_more (World.grownBy_alloc wr _ none) hg1 (by simp)) (by simp), .inl ⟨2, b, by omega, hs, rfl, by omega, hb2, hz⟩⟩
      · have I := idx2
        have hs' := name_ne hs
        have HS : Hid (¬ s = nm 2) := hs
        clear hs
        go_wp2_with (go_at_call 9; fail)
        go_roundw
        case rel => exact ⟨3, by omega, rfl, grown_alloc hg _, fun j hj => by
          rcases Nat.lt_succ_iff_lt_or_eq.mp hj with h | rfl
          · exact HN.out j h
          · exact HS.out⟩
        case measure => simp [intOf]
    · by_cases hs : s = nm 3
      · have I := idx3
        go_wp2_with (go_at_call 9; go_must (refine (M 3 _).mono ?_); rintro e w1 ⟨b, rfl, hg1, hb1, hb2, hz⟩)
        have hs1 := hg.size
        simp at hb1
        go_ret2
        exact ⟨grown_more hg (grown_more (World.grownBy_alloc wr _ none) hg1 (by simp)) (by simp), .inl ⟨3, b, by omega, hs, rfl, by omega, hb2, hz⟩⟩
      · have I := idx3
        have hs' := name_ne hs
        have HS : Hid (¬ s = nm 3) := hs
        clear hs
        go_wp2_with (go_at_call 9; fail)
        go_roundw
        case rel => exact ⟨4, by omega, rfl, grown_alloc hg _, fun j hj => by
          rcases Nat.lt_succ_iff_lt_or_eq.mp hj with h | rfl
          · exact HN.out j h
          · exact HS.out⟩
        case measure => simp [intOf]
    · by_cases hs : s = nm 4
      · have I := idx4
        go_wp2_with (go_at_call 9; go_must (refine (M 4 _).mono ?_); rintro e w1 ⟨b, rfl, hg1, hb1, hb2, hz⟩)
        have hs1 := hg.size
        simp at hb1
        go_ret2
        exact ⟨grown_more hg (grown_more (World.grownBy_alloc wr _ none) hg1 (by simp)) (by simp), .inl ⟨4, b, by omega, hs, rfl, by omega, hb2, hz⟩⟩
      · have I := idx4
        have hs' := name_ne hs
        have HS : Hid (¬ s = nm 4) := hs
        clear hs
        go_wp2_with (go_at_call 9; fail)
        go_roundw
        case rel => exact ⟨5, by omega, rfl, grown_alloc hg _, fun j hj => by
          rcases Nat.lt_succ_iff_lt_or_eq.mp hj with h | rfl
          · exact HN.out j h
          · exact HS.out⟩
        case measure => simp [intOf]
    · by_cases hs : s = nm 5
      · have I := idx5
        go_wp2_with (go_at_call 9; go_must (refine (M 5 _).mono ?_); rintro e w1 ⟨b, rfl, hg1, hb1, hb2, hz⟩)
        have hs1 := hg.size
        simp at hb1
        go_ret2
        exact ⟨grown_more hg (grown_more (World.grownBy_alloc wr _ none) hg1 (by simp)) (by simp), .inl ⟨5, b, by omega, hs, rfl, by omega, hb2, hz⟩⟩
      · have I := idx5
        have hs' := name_ne hs
        have HS : Hid (¬ s = nm 5) := hs
        clear hs
        go_wp2_with (go_at_call 9; fail)
        go_roundw
        case rel => exact ⟨6, by omega, rfl, grown_alloc hg _, fun j hj => by
          rcases Nat.lt_succ_iff_lt_or_eq.mp hj with h | rfl
          · exact HN.out j h
          · exact HS.out⟩
        case measure => simp [intOf]
    · by_cases hs : s = nm 6
      · have I := idx6
        go_wp2_with (go_at_call 9; go_must (refine (M 6 _).mono ?_); rintro e w1 ⟨b, rfl, hg1, hb1, hb2, hz⟩)
        have hs1 := hg.size
        simp at hb1
        go_ret2
        exact ⟨grown_more hg (grown_more (World.grownBy_alloc wr _ none) hg1 (by simp)) (by simp), .inl ⟨6, b, by omega, hs, rfl, by omega, hb2, hz⟩⟩
      · have I := idx6
        have hs' := name_ne hs
        have HS : Hid (¬ s = nm 6) := hs
        clear hs
        go_wp2_with (go_at_call 9; fail)
        go_roundw
        case rel => exact ⟨7, by omega, rfl, grown_alloc hg _, fun j hj => by
          rcases Nat.lt_succ_iff_lt_or_eq.mp hj with h | rfl
          · exact HN.out j h
          · exact HS.out⟩
        case measure => simp [intOf]
    · go_wp2_with fail
      go_ret2
      exact ⟨hg, .inr ⟨HN.out, rfl⟩⟩
end Go.Proofs.YtlnafkcoicaefaaDoor
