/- 'CrcThree', walked where the third list is the shortest, and the first no longer than the second. -/
import Derived.Test.YtcgfeinpendhnaaThreeBase
namespace Go.Proofs.Ytcgfeinpendhnaa
open Go.RowKit

set_option maxRecDepth 100000 in
set_option maxHeartbeats 800000 in
theorem three_case3 (aa ab ac : Option Addr) (ca cb cc : Nat) (la lb lc : List Int) (n : Nat) (w : World) (ha : Rd w (.slice aa la.length ca) la) (hb : Rd w (.slice ab lb.length cb) lb) (hc : Rd w (.slice ac lc.length cc) lc)
    (t1 : (la.length : Int) ≤ lb.length) (t2 : (lc.length : Int) < la.length) (hn : (lc.length : Int) = (n : Int)) (hs : (n : Int) ≤ 1048576) (q1 : la.length ≤ ca) (q2 : lb.length ≤ cb) (q3 : lc.length ≤ cc) :
    Calls Try.prog 7 #[.slice aa la.length ca, .slice ab lb.length cb, .slice ac lc.length cc] w fun e w' => e = .returned (.bool true) ∧ Below w.heap.size w w' := by
  have hnot : ∀ (x : Bool) (w : World), (Op.unary .not (.bool x)).run Try.prog w = .ok (.bool (!x)) w := fun _ _ => rfl
  obtain ⟨i, hi, hz0, hz1, hz2⟩ := info_parts info5
  have n1 : n ≤ la.length := by omega
  have n2 : n ≤ lb.length := by omega
  have n3 : n ≤ lc.length := by omega
  go_enter Try.func7, Try.ntmps7
  go_wp2_with (first
    | (go_at_call 8; refine (awake_any _).mono ?_; rintro e w1 ⟨rfl, hB1⟩; have hzw1 := hB1.size)
    | (at_make; refine wpList_make_full _ rfl (.tmp 29) (.tmp 29) 22 rfl w1.heap.size 5 i (.int .u8 0) 1 Try.underlying22 hi hz0 hz1 .i64 .i64 _ _ n rfl rfl rfl rfl (by rw [hz2]; omega) (by unfold maxLen; omega) (Nat.le_refl _) ?_; intro w2 hw2 hg2; have hO2 := own_made hw2; have hB2 := hB1.grown hg2 hzw1 (fun k e => by cases e); have hgg2 : w1.heap.size < w2.heap.size := own_lt hO2))
  clear hg2 hw2 hi hz0 hz1 hz2 t1 t2
  go_loopw [9] (fun i wr => ∃ k : Nat, k ≤ n ∧ i = .int .i64 k ∧ Own wr w1.heap.size (.slice (some ⟨w1.heap.size, 0, none⟩) n n) (part la lb lc n k) ∧ Below w.heap.size w wr) (fun i _ => n - (intOf i).toNat)
  case atStart => exact ⟨0, by omega, rfl, by rw [part_zero]; exact hO2, hB2⟩
  case round =>
    obtain ⟨k, hk, rfl, hO, hBr⟩ := hrel
    by_cases hkn : k < n
    · obtain ⟨ba, oa, rfl, hba, hca⟩ := rd_at ha (by omega)
      obtain ⟨bb, ob, rfl, hbb, hcb⟩ := rd_at hb (by omega)
      obtain ⟨bc, oc, rfl, hbc, hcc⟩ := rd_at hc (by omega)
      have c1 := (hBr.cell (p := ⟨ba, oa + k, none⟩) hba).trans (hca k (by omega))
      have c2 := (hBr.cell (p := ⟨bb, ob + k, none⟩) hbb).trans (hcb k (by omega))
      have c3 := (hBr.cell (p := ⟨bc, oc + k, none⟩) hbc).trans (hcc k (by omega))
      have c4 := own_cell hO k hkn
      have z4 := own_free hO k
      obtain ⟨x, HX⟩ : ∃ x, Hid (x = (la.getD k 0).toNat) := ⟨_, rfl⟩
      obtain ⟨y, HY⟩ : ∃ x, Hid (x = (lb.getD k 0).toNat) := ⟨_, rfl⟩
      obtain ⟨z, HZ⟩ : ∃ x, Hid (x = (lc.getD k 0).toNat) := ⟨_, rfl⟩
      obtain ⟨q, HQ⟩ : ∃ x, Hid (x = ((part la lb lc n k).getD k 0).toNat) := ⟨_, rfl⟩
      rw [← HX.out] at c1
      rw [← HY.out] at c2
      rw [← HZ.out] at c3
      rw [← HQ.out] at c4
      have k1 : (k : Int) < (la.length : Int) := by omega
      have k2 : (k : Int) < (lb.length : Int) := by omega
      have k3 : (k : Int) < (lc.length : Int) := by omega
      clear hca hcb hcc HQ
      go_wp2
      go_region
      all_goals
        go_wp2
        go_roundw
        case rel => exact ⟨k + 1, by omega, by go_num, own_mix hO ha.bytes hb.bytes hc.bytes hkn HX.out HY.out HZ.out, (hBr.setCell hzw1 _).drew⟩
        case measure => simp [intOf]; omega
    · obtain rfl : k = n := by omega
      rw [part_all] at hO
      go_wp2_with (go_at_call 9; refine (new_any _).mono ?_; rintro e w' ⟨rfl, rfl⟩)
      have r1 : (k : Int) ≤ (ca : Int) := by omega
      have r2 : (k : Int) ≤ (cb : Int) := by omega
      have r3 : (k : Int) ≤ (cc : Int) := by omega
      have hEq := Crc.three ha.bytes hb.bytes hc.bytes k n1 n2 n3
      have hX3 := xor_three _ _ _ (Crc.more_lt 0 (la.take k)) (Crc.more_lt 0 (lb.take k)) (Crc.more_lt 0 (lc.take k))
      rw [← hEq] at hX3
      have hS0 : St w (wr.alloc (.cells tab0 49)).drew wr.heap.size w1.heap.size (.slice (some ⟨w1.heap.size, 0, none⟩) k k) (Crc.mix la lb lc k) :=
        (St.mk (hBr.alloc hBr.size _) (hO.grown (World.grownBy_alloc wr _ none) own_none) (.inl (fresh_new wr))).drew
      have hxt : (Value.slice (some ⟨w1.heap.size, 0, none⟩) k k).ownBlock ≠ some wr.heap.size := by
        have := own_lt hO
        simp [Value.ownBlock]
        omega
      have htb : w.heap.size ≤ wr.heap.size := hBr.size
      have hlx : (Crc.mix la lb lc k).length = k := Crc.mix_length la lb lc k
      have v0 : ∀ W', St w W' wr.heap.size w1.heap.size (.slice (some ⟨w1.heap.size, 0, none⟩) k k) (Crc.mix la lb lc k) → Rd W' (.slice (some ⟨w1.heap.size, 0, none⟩) k k) (Crc.mix la lb lc k) := fun W' h => h.own.rd (by omega)
      have v1 : ∀ W', St w W' wr.heap.size w1.heap.size (.slice (some ⟨w1.heap.size, 0, none⟩) k k) (Crc.mix la lb lc k) → Rd W' (.slice aa k ca) (la.take k) := fun W' h => (rd_take ha n1).below h.below
      have v2 : ∀ W', St w W' wr.heap.size w1.heap.size (.slice (some ⟨w1.heap.size, 0, none⟩) k k) (Crc.mix la lb lc k) → Rd W' (.slice ab k cb) (lb.take k) := fun W' h => (rd_take hb n2).below h.below
      have v3 : ∀ W', St w W' wr.heap.size w1.heap.size (.slice (some ⟨w1.heap.size, 0, none⟩) k k) (Crc.mix la lb lc k) → Rd W' (.slice ac k cc) (lc.take k) := fun W' h => (rd_take hc n3).below h.below
      obtain ⟨m0, HM0⟩ : ∃ m, Hid (Crc.more 0 (Crc.mix la lb lc k) = m) := ⟨_, rfl⟩
      obtain ⟨m1, HM1⟩ : ∃ m, Hid (Crc.more 0 (la.take k) = m) := ⟨_, rfl⟩
      obtain ⟨m2, HM2⟩ : ∃ m, Hid (Crc.more 0 (lb.take k) = m) := ⟨_, rfl⟩
      obtain ⟨m3, HM3⟩ : ∃ m, Hid (Crc.more 0 (lc.take k) = m) := ⟨_, rfl⟩
      rw [HM0.out, HM1.out, HM2.out, HM3.out] at hX3
      clear hEq hO hO2 hB2 hBr ha hb hc hlx hB1
      go_region_with (first
        | (go_at_call_of 12 (Value.slice (some ⟨w1.heap.size, 0, none⟩) k k); refine (st_sum hS0 hxt htb _ _ v0 m0 HM0.out).mono ?_; rintro e W1 ⟨rfl, hS1⟩)
        | (go_at_call_of 12 (Value.slice aa k ca); refine (st_sum hS1 hxt htb _ _ v1 m1 HM1.out).mono ?_; rintro e W2 ⟨rfl, hS2⟩)
        | (go_at_call_of 12 (Value.slice ab k cb); refine (st_sum hS2 hxt htb _ _ v2 m2 HM2.out).mono ?_; rintro e W3 ⟨rfl, hS3⟩)
        | (go_at_call_of 12 (Value.slice ac k cc); refine (st_sum hS3 hxt htb _ _ v3 m3 HM3.out).mono ?_; rintro e W4 ⟨rfl, hS4⟩))
      all_goals
        go_wp2
        go_ret
        exact ⟨rfl, hS4.below⟩
end Go.Proofs.Ytcgfeinpendhnaa
