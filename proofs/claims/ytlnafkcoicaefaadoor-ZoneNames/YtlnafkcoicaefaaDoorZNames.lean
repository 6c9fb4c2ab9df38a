/- What 'Names' answers; 'ZoneNames', walked. -/
import Derived.Test.YtlnafkcoicaefaaDoorZArgs
import Derived.Deep.DeepAppendRoom
namespace Go.Proofs.YtlnafkcoicaefaaDoor
open Go.RowKit
set_option linter.unusedVariables false

theorem info_string : (Tryd.prog.info? 9).map (fun i => (i.zero, i.size, i.bytes)) = some (some (.string ⟨#[]⟩), 1, 16) := by kernel_rfl
theorem make_7 : ∃ M : Array Value, M.size = 7 ∧ ∀ w, (Instr.makeSlice 43 (.int .i64 0) (.int .i64 7)).run Tryd.prog w = .ok (.slice (some ⟨w.heap.size, 0, none⟩) 0 7) (w.alloc (.cells M 9)) := by
  obtain ⟨i, hi, hz0, hz1, hz2⟩ := info_parts info_string
  refine ⟨madeCells (Value.string ⟨#[]⟩).cells (7 * i.size), by rw [size_madeCells, hz1], fun w => ?_⟩
  exact run_makeSlice w 43 9 i (.string ⟨#[]⟩) Tryd.underlying43 hi hz0 .i64 .i64 0 7 (by omega) (by omega) (by rw [hz1]; decide) (by rw [hz2]; decide) (by decide)
/-- The first k names. -/
def nl (k : Nat) : List Value := (List.range k).map fun i => .string (nm i)
theorem nl_succ (k : Nat) : nl (k + 1) = nl k ++ [.string (nm k)] := by unfold nl; rw [List.range_succ]; simp
theorem one_string (w : World) (s : ByteArray) (t : TypeId) : ∀ j u, [Value.string s][j]? = some u → (w.alloc (.cells #[.string s] t)).cell? ((⟨w.heap.size, 0, none⟩ : Addr).add j) = some u := by
  intro j u h
  rw [Addr.add_lit, World.cell?_alloc_new]
  simpa using h
theorem one_cell_string (s : ByteArray) : ∀ u ∈ [Value.string s], u.oneCell' = true := by
  intro u h
  simp at h
  subst h
  rfl

set_option maxRecDepth 100000 in
set_option maxHeartbeats 1600000 in
theorem names_any (w : World) (hK : Kn w) :
    Calls Tryd.prog 15 #[] w fun e w' => ∃ g, e = .returned (.slice (some ⟨g, 0, none⟩) 7 7) ∧ w.heap.size ≤ g ∧ w.grownBy w' none ∧ ∀ i, i < 7 → w'.cell? ⟨g, i, none⟩ = some (.string (nm i)) := by
  obtain ⟨M, hM, HM⟩ := make_7
  obtain ⟨i0, hi0, _, hi1, _⟩ := info_parts info_string
  have hK1 := fun o => hK.kept (World.grownBy_alloc w o none) (by simp)
  go_enter Tryd.func15, Tryd.ntmps15
  go_wp2_with (refine wpList_known rfl rfl (hK1 _) ?_)
  go_loopw [1, 6] (fun v i wr => ∃ k : Nat, k ≤ 7 ∧ i = .int .i64 k ∧ v = .slice (some ⟨w.heap.size, 0, none⟩) k 7 ∧ w.grownBy wr none ∧ wr.ownsRow w.heap.size 9 1 (.slice (some ⟨w.heap.size, 0, none⟩) k 7) k (nl k)) (fun _ i _ => (7 - intOf i).toNat)
  case atStart => exact ⟨0, by omega, rfl, rfl, World.grownBy_alloc w _ none, World.ownsRow_made (base := w.heap.size) (e := 9) (size := 1) w M 7 (Nat.le_refl _) (by unfold maxLen; omega) (by omega)⟩
  case round =>
    obtain ⟨k, hk, rfl, rfl, hg, hO⟩ := hrel
    have hk' : k = 0 ∨ k = 1 ∨ k = 2 ∨ k = 3 ∨ k = 4 ∨ k = 5 ∨ k = 6 ∨ k = 7 := by omega
    rcases hk' with rfl | rfl | rfl | rfl | rfl | rfl | rfl | rfl
    · have I := idx0
      go_wp2_with (refine wpList_append_own_spare _ rfl (.tmp 9) (.tmp 12) 43 rfl w.heap.size 9 i0 1 Tryd.underlying43 hi0 hi1 w.heap.size 0 7 (nl 0) rfl ((hO.alloc _).alloc _) ⟨wr.heap.size + 1, 0, none⟩ 1 1 [.string (nm 0)] rfl rfl (by have := one_string (wr.alloc (.cells #[.string (nm 0), .int .i64 (kz 0).b, .int .i64 (kz 0).s, .int .i64 (kz 0).on.m, .int .i64 (kz 0).on.k, .int .i64 (kz 0).on.d, .int .i64 (kz 0).on.a, .int .i64 (kz 0).off.m, .int .i64 (kz 0).off.k, .int .i64 (kz 0).off.d, .int .i64 (kz 0).off.a] 72)) (nm 0) 9; simpa using this) (one_cell_string _) (by omega) ?_; intro w3 ow3 gw3)
      go_roundw
      case rel => exact ⟨1, by omega, rfl, rfl, grown_more (grown_alloc (grown_alloc hg _) _) gw3 (by intro b e; injection e with e; exact .inr (by omega)), by rw [nl_succ]; exact ow3⟩
      case measure => simp [intOf]
    · have I := idx1
      go_wp2_with (refine wpList_append_own_spare _ rfl (.tmp 9) (.tmp 12) 43 rfl w.heap.size 9 i0 1 Tryd.underlying43 hi0 hi1 w.heap.size 1 7 (nl 1) rfl ((hO.alloc _).alloc _) ⟨wr.heap.size + 1, 0, none⟩ 1 1 [.string (nm 1)] rfl rfl (by have := one_string (wr.alloc (.cells #[.string (nm 1), .int .i64 (kz 1).b, .int .i64 (kz 1).s, .int .i64 (kz 1).on.m, .int .i64 (kz 1).on.k, .int .i64 (kz 1).on.d, .int .i64 (kz 1).on.a, .int .i64 (kz 1).off.m, .int .i64 (kz 1).off.k, .int .i64 (kz 1).off.d, .int .i64 (kz 1).off.a] 72)) (nm 1) 9; simpa using this) (one_cell_string _) (by omega) ?_; intro w3 ow3 gw3)
      go_roundw
      case rel => exact ⟨2, by omega, rfl, rfl, grown_more (grown_alloc (grown_alloc hg _) _) gw3 (by intro b e; injection e with e; exact .inr (by omega)), by rw [nl_succ]; exact ow3⟩
      case measure => simp [intOf]
    · have I := idx2
      go_wp2_with (refine wpList_append_own_spare _ rfl (.tmp 9) (.tmp 12) 43 rfl w.heap.size 9 i0 1 Tryd.underlying43 hi0 hi1 w.heap.size 2 7 (nl 2) rfl ((hO.alloc _).alloc _) ⟨wr.heap.size + 1, 0, none⟩ 1 1 [.string (nm 2)] rfl rfl (by have := one_string (wr.alloc (.cells #[.string (nm 2), .int .i64 (kz 2).b, .int .i64 (kz 2).s, .int .i64 (kz 2).on.m, .int .i64 (kz 2).on.k, .int .i64 (kz 2).on.d, .int .i64 (kz 2).on.a, .int .i64 (kz 2).off.m, .int .i64 (kz 2).off.k, .int .i64 (kz 2).off.d, .int .i64 (kz 2).off.a] 72)) (nm 2) 9; simpa using this) (one_cell_string _) (by omega) ?_; intro w3 ow3 gw3)
      go_roundw
      case rel => exact ⟨3, by omega, rfl, rfl, grown_more (grown_alloc (grown_alloc hg _) _) gw3 (by intro b e; injection e with e; exact .inr (by omega)), by rw [nl_succ]; exact ow3⟩
      case measure => simp [intOf]
    · have I := idx3
      go_wp2_with (refine wpList_append_own_spare _ rfl (.tmp 9) (.tmp 12) 43 rfl w.heap.size 9 i0 1 Tryd.underlying43 hi0 hi1 w.heap.size 3 7 (nl 3) rfl ((hO.alloc _).alloc _) ⟨wr.heap.size + 1, 0, none⟩ 1 1 [.string (nm 3)] rfl rfl (by have := one_string (wr.alloc (.cells #[.string (nm 3), .int .i64 (kz 3).b, .int .i64 (kz 3).s, .int .i64 (kz 3).on.m, .int .i64 (kz 3).on.k, .int .i64 (kz 3).on.d, .int .i64 (kz 3).on.a, .int .i64 (kz 3).off.m, .int .i64 (kz 3).off.k, .int .i64 (kz 3).off.d, .int .i64 (kz 3).off.a] 72)) (nm 3) 9; simpa using this) (one_cell_string _) (by omega) ?_; intro w3 ow3 gw3)
      go_roundw
      case rel => exact ⟨4, by omega, rfl, rfl, grown_more (grown_alloc (grown_alloc hg _) _) gw3 (by intro b e; injection e with e; exact .inr (by omega)), by rw [nl_succ]; exact ow3⟩
      case measure => simp [intOf]
    · have I := idx4
      go_wp2_with (refine wpList_append_own_spare _ rfl (.tmp 9) (.tmp 12) 43 rfl w.heap.size 9 i0 1 Tryd.underlying43 hi0 hi1 w.heap.size 4 7 (nl 4) rfl ((hO.alloc _).alloc _) ⟨wr.heap.size + 1, 0, none⟩ 1 1 [.string (nm 4)] rfl rfl (by have := one_string (wr.alloc (.cells #[.string (nm 4), .int .i64 (kz 4).b, .int .i64 (kz 4).s, .int .i64 (kz 4).on.m, .int .i64 (kz 4).on.k, .int .i64 (kz 4).on.d, .int .i64 (kz 4).on.a, .int .i64 (kz 4).off.m, .int .i64 (kz 4).off.k, .int .i64 (kz 4).off.d, .int .i64 (kz 4).off.a] 72)) (nm 4) 9; simpa using this) (one_cell_string _) (by omega) ?_; intro w3 ow3 gw3)
      go_roundw
      case rel => exact ⟨5, by omega, rfl, rfl, grown_more (grown_alloc (grown_alloc hg _) _) gw3 (by intro b e; injection e with e; exact .inr (by omega)), by rw [nl_succ]; exact ow3⟩
      case measure => simp [intOf]
    · have I := idx5
      go_wp2_with (refine wpList_append_own_spare _ rfl (.tmp 9) (.tmp 12) 43 rfl w.heap.size 9 i0 1 Tryd.underlying43 hi0 hi1 w.heap.size 5 7 (nl 5) rfl ((hO.alloc _).alloc _) ⟨wr.heap.size + 1, 0, none⟩ 1 1 [.string (nm 5)] rfl rfl (by have := one_string (wr.alloc (.cells #[.string (nm 5), .int .i64 (kz 5).b, .int .i64 (kz 5).s, .int .i64 (kz 5).on.m, .int .i64 (kz 5).on.k, .int .i64 (kz 5).on.d, .int .i64 (kz 5).on.a, .int .i64 (kz 5).off.m, .int .i64 (kz 5).off.k, .int .i64 (kz 5).off.d, .int .i64 (kz 5).off.a] 72)) (nm 5) 9; simpa using this) (one_cell_string _) (by omega) ?_; intro w3 ow3 gw3)
      go_roundw
      case rel => exact ⟨6, by omega, rfl, rfl, grown_more (grown_alloc (grown_alloc hg _) _) gw3 (by intro b e; injection e with e; exact .inr (by omega)), by rw [nl_succ]; exact ow3⟩
      case measure => simp [intOf]
    · have I := idx6
      go_wp2_with (refine wpList_append_own_spare _ rfl (.tmp 9) (.tmp 12) 43 rfl w.heap.size 9 i0 1 Tryd.underlying43 hi0 hi1 w.heap.size 6 7 (nl 6) rfl ((hO.alloc _).alloc _) ⟨wr.heap.size + 1, 0, none⟩ 1 1 [.string (nm 6)] rfl rfl (by have := one_string (wr.alloc (.cells #[.string (nm 6), .int .i64 (kz 6).b, .int .i64 (kz 6).s, .int .i64 (kz 6).on.m, .int .i64 (kz 6).on.k, .int .i64 (kz 6).on.d, .int .i64 (kz 6).on.a, .int .i64 (kz 6).off.m, .int .i64 (kz 6).off.k, .int .i64 (kz 6).off.d, .int .i64 (kz 6).off.a] 72)) (nm 6) 9; simpa using this) (one_cell_string _) (by omega) ?_; intro w3 ow3 gw3)
      go_roundw
      case rel => exact ⟨7, by omega, rfl, rfl, grown_more (grown_alloc (grown_alloc hg _) _) gw3 (by intro b e; injection e with e; exact .inr (by omega)), by rw [nl_succ]; exact ow3⟩
      case measure => simp [intOf]
    · go_wp2_with fail
      go_ret
      refine ⟨w.heap.size, rfl, Nat.le_refl _, hg, fun i hi => ?_⟩
      rw [hO.cellAt i (by omega)]
      simp [nl, hi]
end Go.Proofs.YtlnafkcoicaefaaDoor
