/- 'CrcParts', walked. -/
import Derived.Test.YtcgfeinpendhnaaAppend
namespace Go.Proofs.Ytcgfeinpendhnaa
open Go.RowKit

set_option maxRecDepth 100000 in
set_option maxHeartbeats 400000 in
theorem parts_small (a b : Value) (la lb : List Int) (w : World) (ha : Rd w a la) (hb : Rd w b lb) (hs : (la.length : Int) + lb.length ≤ 1048576) :
    Calls Try.prog 4 #[a, b] w fun e w' => e = .returned (.bool true) ∧ Below w.heap.size w w' := by
  obtain ⟨aa, ca, ea⟩ := slice_of_rd ha
  obtain ⟨ab, cb, eb⟩ := slice_of_rd hb
  subst ea eb
  have HE : Hid (Crc.more 0 (la ++ lb) = Crc.more (Crc.more 0 la) lb) := Crc.more_append 0 la lb ha.bytes
  have hnot : ∀ (x : Bool) (w : World), (Op.unary .not (.bool x)).run Try.prog w = .ok (.bool (!x)) w := fun _ _ => rfl
  go_enter Try.func4, Try.ntmps4
  go_wp2_with (first
    | (go_at_call 8; refine (awake_any _).mono ?_; rintro e w1 ⟨rfl, hB1⟩; have hz1 := hB1.size)
    | (go_at_call 9; refine (new_any _).mono ?_; rintro e w' ⟨rfl, rfl⟩; have hB2 := (hB1.alloc hz1 (.cells tab0 49)).alloc (by simp <;> omega) (.cells #[] 5); have hF2 := (fresh_new w1).grown (World.grownBy_alloc _ (.cells #[] 5) none) (by simp); have hO2 := own_empty (w1.alloc (.cells tab0 49)) (w1.heap.size + 1) (by simp); have hA2 := ha.below hB2; have tok1 : True := trivial)
    | (at_builtin; have _t := tok1; go_must (refine wpList_append_rd rfl (.tmp 16) (.tmp 17) rfl (w1.heap.size + 1) _ [] rfl hO2 _ la rfl hA2 (by simp <;> omega) (by simp <;> omega) ?_); intro v3 w3 hO3 hg3; clear tok1; have hB3 := hO2.below hB2 (by simp <;> omega) (by omega) hg3; have hF3 := hF2.own hO2 (by omega) hg3; have hz3 := hg3.size; have hb3 := hb.below hB3; have tok2 : True := trivial)
    | (at_builtin; have _t := tok2; refine wpList_append_rd rfl (.tmp 19) (.tmp 20) rfl (w1.heap.size + 1) _ _ rfl hO3 _ lb rfl hb3 (by simp <;> omega) (by simp at hz3; omega) ?_; intro v4 w4 hO4 hg4; clear tok2; have hB4 := hO3.below hB3 (by simp at hz3; omega) (by omega) hg4; have hF4 := hF3.own hO3 (by omega) hg4; have hz4 := hg4.size))
  simp only [List.nil_append] at hO4
  refine (sum_first w1.heap.size v4 _ w4 (hO4.rd (by simp; omega)) hF4 (hO4.block (by omega))).mono ?_
  rintro e w5 ⟨rfl, hM⟩
  have hz5 := hM.size
  have hB5 := hB4.trans (made_below (B := w.heap.size) hM hz1 (by have := hB4.size; omega))
  have ha5 := ha.below hB5
  have hb5 := hb.below hB5
  have hR5 := hM.ready
  rw [HE.out]
  clear hg3 hg4 hO2 hO3 hO4 hF2 hF3 hF4 hA2 hb3 hB1 hB2 hB3 hB4 hM hz1 hz3 hz4 hz5
  go_wp2_with fail
  refine (sum_again w1.heap.size _ la w5 ha5 hR5).mono ?_
  rintro e w6 ⟨rfl, rfl⟩
  go_wp2_with fail
  refine (more_again w1.heap.size (Crc.more 0 la) (Crc.more_lt _ _) _ lb _ hb5 hR5).mono ?_
  rintro e w6 ⟨rfl, rfl⟩
  go_wp2
  go_ret
  exact ⟨rfl, hB5⟩

set_option maxRecDepth 100000 in
set_option maxHeartbeats 400000 in
theorem parts_great (a b : Value) (la lb : List Int) (w : World) (ha : Rd w a la) (hb : Rd w b lb) (hla : la.length ≤ 140737488351232) (hlb : lb.length ≤ 140737488351232) (hs : ¬ (la.length : Int) + lb.length ≤ 1048576) :
    Calls Try.prog 4 #[a, b] w fun e w' => e = .returned (.bool true) ∧ Below w.heap.size w w' := by
  obtain ⟨aa, ca, ea⟩ := slice_of_rd ha
  obtain ⟨ab, cb, eb⟩ := slice_of_rd hb
  subst ea eb
  have hnot : ∀ (x : Bool) (w : World), (Op.unary .not (.bool x)).run Try.prog w = .ok (.bool (!x)) w := fun _ _ => rfl
  have hs' : (1048576 : Int) < (la.length : Int) + lb.length := by omega
  clear hs
  go_enter Try.func4, Try.ntmps4
  go_wp2_with (go_at_call 8; refine (awake_any _).mono ?_; rintro e w1 ⟨rfl, hB1⟩)
  go_ret
  exact ⟨rfl, hB1⟩
theorem crcParts.walk (w : World) (v0 : Value) (l0 : List Int) (w0 : Rd w v0 l0) (b0 : l0.length ≤ 140737488351232) (v1 : Value) (l1 : List Int) (w1 : Rd w v1 l1) (b1 : l1.length ≤ 140737488351232) :
    Calls Try.prog 4 #[v0, v1] w fun e w' => e = .returned (.bool true) ∧ Below w.heap.size w w' := by
  by_cases hs : (l0.length : Int) + l1.length ≤ 1048576
  · exact parts_small v0 v1 l0 l1 w w0 w1 hs
  · exact parts_great v0 v1 l0 l1 w w0 w1 b0 b1 hs
end Go.Proofs.Ytcgfeinpendhnaa
