/- The statements' first look, 'awake', answers true and writes nothing that was there. -/
import Derived.Test.YtcgfeinpendhnaaMore
import Derived.Lib.SmallJoins
namespace Go.Proofs.Ytcgfeinpendhnaa
open Go.RowKit

theorem known : Crc.more 0 [49, 50, 51, 52, 53, 54, 55, 56, 57] = 3421780262 := by decide +kernel

/-- A slice over the whole of the last new block, whose cells are the bytes l. -/
theorem rd_new (w : World) (l : List Int) (fr : Nat × Nat) (t : TypeId) (C : Array Value) (hC : C = (l.map (Value.int .u8)).toArray) (hl : l.length ≤ 9223372036854775807) (hb : Crc.Bytes l) (n cap : Nat) (hn : n = w.heap.size) :
    Rd (w.alloc (.cells C t fr)) (.slice (some ⟨n, 0, none⟩) l.length cap) l := by
  subst hn hC
  refine ⟨hb, hl, .inr ⟨w.heap.size, 0, cap, rfl, fun i hi => ?_⟩⟩
  rw [World.cell?_alloc_mark]
  simp [hi]

theorem made_below {w w' : World} {tb B : Nat} (h : Made w w' tb) (hB : B ≤ tb) (hs : B ≤ w.heap.size) : Below B w w' :=
  ⟨h.grown.os, h.grown.tape, h.grown.output, h.grown.size, fun k hk => h.grown.block k (by omega) (by simp; omega)⟩

theorem nine_sum (w : World) :
    Calls Try.prog 12 #[.pointer (some ⟨w.heap.size, 0, none⟩), .slice (some ⟨w.heap.size + 1, 0, none⟩) 9 9]
      ((w.alloc (.cells tab0 49)).alloc (.cells #[.int .u8 49, .int .u8 50, .int .u8 51, .int .u8 52, .int .u8 53, .int .u8 54, .int .u8 55, .int .u8 56, .int .u8 57] 5 (9, 10)))
      fun e w' => e = .returned (.int .u32 3421780262) ∧ Below w.heap.size w w' := by
  have hR := rd_new (w.alloc (.cells tab0 49)) [49, 50, 51, 52, 53, 54, 55, 56, 57] (9, 10) 5 _ rfl (by decide) (by unfold Crc.Bytes Crc.Byte; decide) (w.heap.size + 1) 9 (by simp)
  have hF := (fresh_new w).grown (World.grownBy_alloc (w.alloc (.cells tab0 49)) (.cells #[.int .u8 49, .int .u8 50, .int .u8 51, .int .u8 52, .int .u8 53, .int .u8 54, .int .u8 55, .int .u8 56, .int .u8 57] 5 (9, 10)) none) (by simp)
  refine (sum_first w.heap.size _ _ _ hR hF (by simp [Value.ownBlock])).mono fun e w' ⟨he, hM⟩ => ?_
  refine ⟨by rw [he, known]; rfl, ?_⟩
  exact ((Below.refl _ _).alloc (Nat.le_refl _) _ |>.alloc (by simp) _).trans (made_below hM (Nat.le_refl _) (by simp; omega))

set_option maxRecDepth 100000 in
set_option maxHeartbeats 400000 in
theorem awake_any (w : World) :
    Calls Try.prog 8 #[] w fun e w' => e = .returned (.bool true) ∧ Below w.heap.size w w' := by
  have hcv := Go.Joins.run_convert_bytes_const_at (P := Try.prog) (w.alloc (.cells tab0 49)) 22 5 #[.int .u8 49, .int .u8 50, .int .u8 51, .int .u8 52, .int .u8 53, .int .u8 54, .int .u8 55, .int .u8 56, .int .u8 57] 9 9 (w.heap.size + 1) (by simp) Try.underlying22 Try.underlying5
  go_enter Try.func8, Try.ntmps8
  go_wp2_with (first | (go_at_call 9; refine (new_any _).mono ?_; rintro e w' ⟨rfl, rfl⟩) | (go_at_call 12; refine (nine_sum w).mono ?_; rintro e w' ⟨rfl, hB⟩))
  go_ret
  exact ⟨rfl, hB⟩
end Go.Proofs.Ytcgfeinpendhnaa
