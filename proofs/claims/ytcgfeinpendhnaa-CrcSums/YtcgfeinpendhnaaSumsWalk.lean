/- 'CrcSums', walked. -/
import Derived.Test.YtcgfeinpendhnaaRef
import Derived.OpenShut
namespace Go.Proofs.Ytcgfeinpendhnaa
open Go.RowKit

set_option maxRecDepth 100000 in
set_option maxHeartbeats 400000 in
theorem sums_any (b : Value) (l : List Int) (n : Nat) (w : World) (hb : Rd w b l) (hn : n < 4294967296) :
    Calls Try.prog 3 #[b, .int .u32 n] w fun e w' => e = .returned (.bool true) ∧ Below w.heap.size w w' := by
  have hnot : ∀ (x : Bool) (w : World), (Op.unary .not (.bool x)).run Try.prog w = .ok (.bool (!x)) w := fun _ _ => rfl
  obtain ⟨m, HM⟩ : ∃ m, Hid (Crc.more n l = m) := ⟨_, rfl⟩
  obtain ⟨s, HS⟩ : ∃ s, Hid (Crc.more 0 l = s) := ⟨_, rfl⟩
  go_enter Try.func3, Try.ntmps3
  go_wp2_with (first
    | (go_at_call 8; refine (awake_any _).mono ?_; rintro e w1 ⟨rfl, hB1⟩; have hz1 := hB1.size)
    | (go_at_call 9; refine (new_any _).mono ?_; rintro e w' ⟨rfl, rfl⟩; have hB2 := hB1.alloc hz1 (.cells tab0 49); have hF2 := fresh_new w1; have hb2 := hb.below hB1; have hb3 := hb.below hB2))
  refine (more_first_old w1.heap.size n hn b l w _ hb hB2 hz1 hF2).mono ?_
  rintro e w3 ⟨rfl, hM⟩
  have hB3 := hB2.trans (made_below (B := w.heap.size) hM hz1 hB2.size)
  have hR3 := hM.ready
  have hb4 := hb.below hB3
  rw [HM.out]
  clear hM hF2 hb2 hb3 hB2 hB1 hz1
  go_wp2_with fail
  refine (ref_rd n hn b l _ hb4).mono ?_
  rintro e w4 ⟨rfl, rfl⟩
  rw [HM.out]
  go_wp2_with fail
  refine (sum_again w1.heap.size b l _ hb4 hR3).mono ?_
  rintro e w4 ⟨rfl, rfl⟩
  rw [HS.out]
  go_wp2_with fail
  refine (refsum_rd b l _ hb4).mono ?_
  rintro e w4 ⟨rfl, rfl⟩
  rw [HS.out]
  go_wp2
  go_ret
  exact ⟨rfl, hB3⟩

theorem crcSums.walk (w : World) (v0 : Value) (l0 : List Int) (w0 : Rd w v0 l0) (_ : l0.length ≤ 140737488351232) (x1 : Int) (wx1 : (Lit.int .u32 x1).wf = true) :
    Calls Try.prog 3 #[v0, .int .u32 x1] w fun e w' => e = .returned (.bool true) ∧ Below w.heap.size w w' := by
  have h := bounds_u32 wx1
  obtain ⟨n, rfl⟩ : ∃ n : Nat, x1 = n := ⟨x1.toNat, by omega⟩
  exact sums_any v0 l0 n w w0 (by omega)
end Go.Proofs.Ytcgfeinpendhnaa
