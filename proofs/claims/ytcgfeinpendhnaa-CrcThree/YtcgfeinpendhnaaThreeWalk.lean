/- 'CrcThree', walked, for all lengths. -/
import Derived.Test.YtcgfeinpendhnaaThreeCase1
import Derived.Test.YtcgfeinpendhnaaThreeCase2
import Derived.Test.YtcgfeinpendhnaaThreeCase3
import Derived.Test.YtcgfeinpendhnaaThreeCase4
namespace Go.Proofs.Ytcgfeinpendhnaa
open Go.RowKit

set_option maxRecDepth 100000 in
set_option maxHeartbeats 400000 in
theorem three_great (aa ab ac : Option Addr) (ca cb cc : Nat) (la lb lc : List Int) (w : World)
    (_ : la.length ≤ 140737488351232) (_ : lb.length ≤ 140737488351232) (_ : lc.length ≤ 140737488351232) (t0 : (1048576 : Int) < la.length) (t1 : (1048576 : Int) < lb.length) (t2 : (1048576 : Int) < lc.length) :
    Calls Try.prog 7 #[.slice aa la.length ca, .slice ab lb.length cb, .slice ac lc.length cc] w fun e w' => e = .returned (.bool true) ∧ Below w.heap.size w w' := by
  have hnot : ∀ (x : Bool) (w : World), (Op.unary .not (.bool x)).run Try.prog w = .ok (.bool (!x)) w := fun _ _ => rfl
  go_enter Try.func7, Try.ntmps7
  go_wp2_with (go_at_call 8; refine (awake_any _).mono ?_; rintro e w1 ⟨rfl, hB1⟩)
  all_goals (go_ret; exact ⟨rfl, hB1⟩)

theorem crcThree.walk (w : World) (v0 : Value) (l0 : List Int) (w0 : Rd w v0 l0) (b0 : l0.length ≤ 140737488351232) (c0 : ∀ a n c, v0 = .slice a n c → n ≤ c) (v1 : Value) (l1 : List Int) (w1 : Rd w v1 l1) (b1 : l1.length ≤ 140737488351232) (c1 : ∀ a n c, v1 = .slice a n c → n ≤ c)
    (v2 : Value) (l2 : List Int) (w2 : Rd w v2 l2) (b2 : l2.length ≤ 140737488351232) (c2 : ∀ a n c, v2 = .slice a n c → n ≤ c) :
    Calls Try.prog 7 #[v0, v1, v2] w fun e w' => e = .returned (.bool true) ∧ Below w.heap.size w w' := by
  obtain ⟨aa, ca, ea⟩ := slice_of_rd w0
  obtain ⟨ab, cb, eb⟩ := slice_of_rd w1
  obtain ⟨ac, cc, ec⟩ := slice_of_rd w2
  have q0 := c0 _ _ _ ea
  have q1 := c1 _ _ _ eb
  have q2 := c2 _ _ _ ec
  subst ea eb ec
  by_cases hg : (1048576 : Int) < l0.length ∧ (1048576 : Int) < l1.length ∧ (1048576 : Int) < l2.length
  · exact three_great aa ab ac ca cb cc l0 l1 l2 w b0 b1 b2 hg.1 hg.2.1 hg.2.2
  by_cases t1 : (l1.length : Int) < l0.length
  · by_cases t2 : (l2.length : Int) < l1.length
    · exact three_case1 aa ab ac ca cb cc l0 l1 l2 l2.length w w0 w1 w2 t1 t2 rfl (by omega) q0 q1 q2
    · exact three_case2 aa ab ac ca cb cc l0 l1 l2 l1.length w w0 w1 w2 t1 (by omega) rfl (by omega) q0 q1 q2
  · by_cases t2 : (l2.length : Int) < l0.length
    · exact three_case3 aa ab ac ca cb cc l0 l1 l2 l2.length w w0 w1 w2 (by omega) t2 rfl (by omega) q0 q1 q2
    · exact three_case4 aa ab ac ca cb cc l0 l1 l2 l0.length w w0 w1 w2 (by omega) (by omega) rfl (by omega) q0 q1 q2
end Go.Proofs.Ytcgfeinpendhnaa
