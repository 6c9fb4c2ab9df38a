/- 'CrcResidue', walked. -/
import Derived.Test.YtcgfeinpendhnaaAppend
import Derived.Test.YtcgfeinpendhnaaLaws
namespace Go.Proofs.Ytcgfeinpendhnaa
open Go.RowKit

theorem own_none {v : Value} : v.ownBlock = none ∨ v.ownBlock ≠ none := by
  cases v.ownBlock <;> simp

theorem low_rd (w : World) (m : Nat) (hm : m < 4294967296) :
    Rd (w.alloc (.cells #[.int .u8 ((m : Int) % 256), .int .u8 ((m : Int) / 256 % 256), .int .u8 ((m : Int) / 65536 % 256), .int .u8 ((m : Int) / 16777216)] 5)) (.slice (some ⟨w.heap.size, 0, none⟩) 4 4) (Crc.low m) :=
  rd_new w (Crc.low m) (0, 0) 5 _ rfl (by simp [Crc.low]) (Crc.low_bytes m hm) w.heap.size 4 rfl

set_option maxRecDepth 100000 in
set_option maxHeartbeats 400000 in
theorem residue_small (b : Value) (l : List Int) (w : World) (hb : Rd w b l) (hs : (l.length : Int) ≤ 1048576) :
    Calls Try.prog 6 #[b] w fun e w' => e = .returned (.bool true) ∧ Below w.heap.size w w' := by
  obtain ⟨ab, cb, eb⟩ := slice_of_rd hb
  subst eb
  have HE : Hid (Crc.more 0 (l ++ Crc.low (Crc.more 0 l)) = 558161692) := Crc.residue l hb.bytes
  have hm := Crc.more_lt 0 l
  obtain ⟨m, HM⟩ : ∃ m, Hid (Crc.more 0 l = m) := ⟨_, rfl⟩
  rw [HM.out] at HE hm
  have hnot : ∀ (x : Bool) (w : World), (Op.unary .not (.bool x)).run Try.prog w = .ok (.bool (!x)) w := fun _ _ => rfl
  go_enter Try.func6, Try.ntmps6
  go_wp2_with (first
    | (go_at_call 8; refine (awake_any _).mono ?_; rintro e w1 ⟨rfl, hB1⟩; have hz1 := hB1.size)
    | (go_at_call 9; refine (new_any _).mono ?_; rintro e w' ⟨rfl, rfl⟩; have hB2 := hB1.alloc hz1 (.cells tab0 49); have hF2 := fresh_new w1; have tok1 : True := trivial)
    | (go_at_call 12; have _t := tok1; refine (sum_first_old w1.heap.size _ l w _ hb hB2 hz1 hF2).mono ?_; rintro e w3 ⟨rfl, hM⟩; clear tok1; rw [HM.out]; have hR3 := hM.ready; have hB3 := hB2.trans (made_below (B := w.heap.size) hM hz1 hB2.size); have hz3 := hM.ready.lt; have hB4 := hB3.alloc hB3.size (.cells #[] 5); have hR4 := hR3.grown (World.grownBy_alloc _ (.cells #[] 5) none) (by simp); have hO4 := own_empty w3 w3.heap.size rfl; have hb4 := hb.below hB4; have tok2 : True := trivial)
    | (at_builtin; have _t := tok2; refine wpList_append_rd rfl (.tmp 15) (.tmp 16) rfl w3.heap.size _ [] rfl hO4 _ l rfl hb4 (by simp <;> omega) (by simp <;> omega) ?_; intro v5 w5 hO5 hg5; clear tok2; simp only [List.nil_append] at hO5; have hB5 := hO4.below hB4 (by simp <;> omega) (by omega) hg5; have hR5 := hR4.grown hg5 (fun e => hO4.block hz3 e.symm); have hz5 := hg5.size; have hq5 := low_rd w5 m hm; have hO6 := hO5.grown (World.grownBy_alloc w5 (.cells #[.int .u8 ((m : Int) % 256), .int .u8 ((m : Int) / 256 % 256), .int .u8 ((m : Int) / 65536 % 256), .int .u8 ((m : Int) / 16777216)] 5) none) own_none; have hB6 := hB5.alloc hB5.size (.cells #[.int .u8 ((m : Int) % 256), .int .u8 ((m : Int) / 256 % 256), .int .u8 ((m : Int) / 65536 % 256), .int .u8 ((m : Int) / 16777216)] 5); have hR6 := hR5.grown (World.grownBy_alloc w5 (.cells #[.int .u8 ((m : Int) % 256), .int .u8 ((m : Int) / 256 % 256), .int .u8 ((m : Int) / 65536 % 256), .int .u8 ((m : Int) / 16777216)] 5) none) (by simp); have tok3 : True := trivial)
    | (at_builtin; have _t := tok3; go_must (refine wpList_append_rd rfl (.tmp 18) (.tmp 30) rfl w3.heap.size _ l rfl hO6 _ (Crc.low m) rfl hq5 (by simp [Crc.low] <;> omega) (by simp at hz5 ⊢; omega) ?_); intro v7 w7 hO7 hg7; clear tok3))
  have hB7 := hO6.below hB6 hB6.size (by have := hB3.size; omega) hg7
  have hR7 := hR6.grown hg7 (fun e => hO6.block hz3 e.symm)
  clear hg5 hg7 hq5 hO4 hO5 hO6 hb4 hB2 hB3 hB4 hB5 hB6 hR3 hR4 hR5 hR6 hM hF2
  refine (sum_again w1.heap.size v7 _ w7 (hO7.rd (by simp [Crc.low]; omega)) hR7).mono ?_
  rintro e w8 ⟨rfl, rfl⟩
  rw [HE.out]
  go_wp2
  go_ret
  exact ⟨rfl, hB7⟩

set_option maxRecDepth 100000 in
theorem residue_great (b : Value) (l : List Int) (w : World) (hb : Rd w b l) (hl : l.length ≤ 140737488351232) (hs : ¬ (l.length : Int) ≤ 1048576) :
    Calls Try.prog 6 #[b] w fun e w' => e = .returned (.bool true) ∧ Below w.heap.size w w' := by
  obtain ⟨ab, cb, eb⟩ := slice_of_rd hb
  subst eb
  have hs' : (1048576 : Int) < (l.length : Int) := by omega
  have hnot : ∀ (x : Bool) (w : World), (Op.unary .not (.bool x)).run Try.prog w = .ok (.bool (!x)) w := fun _ _ => rfl
  clear hs
  go_enter Try.func6, Try.ntmps6
  go_wp2_with (go_at_call 8; refine (awake_any _).mono ?_; rintro e w1 ⟨rfl, hB1⟩)
  go_ret
  exact ⟨rfl, hB1⟩

theorem crcResidue.walk (w : World) (v0 : Value) (l0 : List Int) (w0 : Rd w v0 l0) (b0 : l0.length ≤ 140737488351232) :
    Calls Try.prog 6 #[v0] w fun e w' => e = .returned (.bool true) ∧ Below w.heap.size w w' := by
  by_cases hs : (l0.length : Int) ≤ 1048576
  · exact residue_small v0 l0 w w0 hs
  · exact residue_great v0 l0 w w0 b0 hs
end Go.Proofs.Ytcgfeinpendhnaa
