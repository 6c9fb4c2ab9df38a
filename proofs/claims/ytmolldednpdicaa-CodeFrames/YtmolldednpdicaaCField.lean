/- What the tests of a field and the writing of a field answer. -/
import Derived.Test.YtmolldednpdicaaCNumber
import Derived.Deep.RegionLaw
namespace Go.Proofs.Ytmolldednpdicaa
open Go.RowKit

/-- A field's cells. -/
def fc (f : Code.Fd) : Array Value := #[.int .i64 f.k, .int .i64 f.n, .string f.s]

theorem not_any (n : Int) (h : Code.In64 n) : bits .xor .i64 (-1) n = -1 - n := by
  unfold Code.In64 at h
  show IntKind.i64.wrap ((BitVec.ofInt 64 (-1) ^^^ BitVec.ofInt 64 n).toNat : Int) = _
  have h1 : BitVec.ofInt 64 (-1) = BitVec.allOnes 64 := by decide
  rw [h1, BitVec.allOnes_xor, BitVec.toNat_not, BitVec.toNat_ofInt]
  simp [IntKind.wrap, IntKind.bits, IntKind.signed]
  omega

theorem Own.lt {w : World} {base : Nat} {v : Value} {l : List Int} (h : Own w base v l) {k : Nat} (e : v.ownBlock = some k) : k < w.heap.size := (h.row.lt k e).2

set_option maxRecDepth 100000 in
theorem fold_any (n : Int) (h : Code.In64 n) (w : World) :
    Calls Try.prog 32 #[.int .i64 n] w fun e w' => e = .returned (.int .u64 (Code.fold n : Nat)) ∧ w' = w := by
  have hnot := not_any n h
  go_enter Try.func32, Try.ntmps32
  by_cases hn : n < 0
  · go_wp2
    go_ret
    refine ⟨ret_int ?_, rfl⟩
    unfold Code.fold Code.In64 at *
    rw [if_pos hn]
    simp only [IntKind.wrap_u64]
    omega
  · go_wp2
    go_ret
    refine ⟨ret_int ?_, rfl⟩
    unfold Code.fold Code.In64 at *
    rw [if_neg (by omega)]
    simp only [IntKind.wrap_u64]
    omega

set_option maxRecDepth 100000 in
theorem fits_any (f : Code.Fd) (w : World) :
    Calls Try.prog 19 #[.agg (fc f)] w fun e w' => e = .returned (.bool (decide (Code.Fits f))) ∧ w' = w.alloc (.cells (fc f) 38) := by
  obtain ⟨k, n, s⟩ := f
  simp only [fc]
  go_enter Try.func19, Try.ntmps19
  go_wp2
  all_goals
    go_ret
    refine ⟨?_, rfl⟩
    simp_all [Code.Fits] <;> omega

set_option maxRecDepth 100000 in
set_option maxHeartbeats 400000 in
theorem field_any (v : Value) (l0 : List Int) (f : Code.Fd) (hf : Code.Fits f) (hn : Code.In64 f.n) (base : Nat) (w : World) (hown : Own w base v l0) (hbase : base ≤ w.heap.size) (hb : l0.length ≤ 140737488280000) :
    Calls Try.prog 20 #[v, .agg (fc f)] w fun e w' => ∃ v', e = .returned v' ∧ Own w' base v' (l0 ++ Code.fb f) ∧ w.grownBy w' v.ownBlock := by
  obtain ⟨k, n, s⟩ := f
  simp only [fc] at *
  unfold Code.Fits at hf
  simp only at hf
  have hE0 := (Ext.refl hown).alloc (.cells #[.int .i64 k, .int .i64 n, .string s] 38)
  have hs0 : base ≤ (w.alloc (.cells #[.int .i64 k, .int .i64 n, .string s] 38)).heap.size := by simp; omega
  rcases hf with ⟨rfl, h0⟩ | rfl | ⟨rfl, h0⟩
  · obtain ⟨m, rfl⟩ := Int.eq_ofNat_of_zero_le h0
    have hfb : Code.fb ⟨1, m, s⟩ = Code.put m := by simp [Code.fb]
    have hu : IntKind.u64.wrap (m : Int) = (m : Int) := by unfold Code.In64 at hn; simp only [IntKind.wrap_u64]; omega
    have hn2 : m < 18446744073709551616 := by unfold Code.In64 at hn; omega
    rw [hfb]
    go_enter Try.func20, Try.ntmps20
    go_wp2_with (go_at_call 22; go_must (refine (number_any v l0 m hn2 base _ hE0.own hs0 (by omega)).mono ?_); rintro e w1 ⟨v1, rfl, hE1⟩)
    go_ret
    exact ⟨_, rfl, hE1.own, (hE0.trans hE1).grown⟩
  · have hfb : Code.fb ⟨2, n, s⟩ = Code.put (Code.fold n) := by simp [Code.fb]
    rw [hfb]
    go_enter Try.func20, Try.ntmps20
    go_wp2_with (first | (go_at_call 32; refine (fold_any n hn _).mono ?_; rintro e w1 ⟨rfl, rfl⟩) | (go_at_call 22; go_must (refine (number_any v l0 (Code.fold n) (Code.fold_lt hn) base _ hE0.own hs0 (by omega)).mono ?_); rintro e w1 ⟨v1, rfl, hE1⟩))
    go_ret
    exact ⟨_, rfl, hE1.own, (hE0.trans hE1).grown⟩
  · have hfb : Code.fb ⟨3, n, s⟩ = Code.put s.size ++ Code.toB s := by simp [Code.fb]
    have h3 := Code.put_len3 h0
    have hcell : (w.alloc (.cells #[.int .i64 3, .int .i64 n, .string s] 38)).cell? ⟨w.heap.size, 2, none⟩ = some (.string s) := by rw [World.cell?_alloc_new]; rfl
    have hu : IntKind.u64.wrap (s.size : Int) = (s.size : Int) := by simp only [IntKind.wrap_u64]; omega
    rw [hfb]
    go_enter Try.func20, Try.ntmps20
    have hE0' := hE0.drew
    have hs0' : base ≤ (w.alloc (.cells #[.int .i64 3, .int .i64 n, .string s] 38)).drew.heap.size := hs0
    have hne : some w.heap.size ≠ v.ownBlock := fun e => by have := hown.lt e.symm; omega
    go_wp2
    go_region_law (first
      | (refine step_of rfl (wp_append_str (.tmp 21) (.tmp 23) rfl base _ _ rfl hE1.own s rfl (by simp <;> omega) (by omega) ?_); intro v2 w2 hO2 hg2)
      | (go_simp; go_at_call 22; refine (number_any v l0 s.size (by omega) base _ hE0'.own hs0' (by omega)).mono ?_; rintro e w1 ⟨v1, rfl, hE1⟩; have hc1 := hE1.grown.cell (a := ⟨w.heap.size, 2, none⟩) hcell hne; have hz1 := hE1.grown.size))
    all_goals
      go_wp2
      go_ret
      refine ⟨_, rfl, ?_, grown_more (hE0'.trans hE1).grown hg2 (hE0'.trans hE1).at_⟩
      rw [← List.append_assoc]
      exact hO2
end Go.Proofs.Ytmolldednpdicaa
