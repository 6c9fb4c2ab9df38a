/- The statement on reading: its walk. -/
import Derived.Test.YthjfecniipifhaaDoorKRefParse
import Derived.Test.YthjfecniipifhaaDoorKBack
namespace Go.Proofs.YthjfecniipifhaaDoor
open Go.RowKit
set_option linter.unusedVariables false

set_option maxRecDepth 100000 in
set_option maxHeartbeats 1600000 in
theorem parses_by (m0 m1 m2 m3 m4 i : Nat) (ad aw : Bool) (E : Int) (t : ByteArray)
    (P1 : ∀ w, Gl w → Calls Tryd.prog 10 #[.string t] w fun x w' => x = .returned (.tuple #[.agg #[.int .u64 m0, .int .u64 m1, .int .u64 m2, .int .u64 m3, .int .u64 m4, .bool ad, .bool aw], .int .i64 i, .int .i64 E]) ∧ w.grownBy w' none)
    (P2 : ∀ w, Calls Tryd.prog 11 #[.string t] w fun x w' => x = .returned (.tuple #[.agg #[.int .u64 m0, .int .u64 m1, .int .u64 m2, .int .u64 m3, .int .u64 m4, .bool ad, .bool aw], .int .i64 i, .int .i64 E]) ∧ w.grownBy w' none)
    (w : World) (hG : Gl w) :
    Calls Tryd.prog 3 #[.string t] w fun e w' => e = .returned (.bool true) ∧ w.grownBy w' none := by
  have AW := awake_any
  have ED := eql_cron m0 m1 m2 m3 m4 ad aw
  go_enter Tryd.func3, Tryd.ntmps3
  go_wp2_with (first
    | (go_at_call 9; go_must (refine (AW _ hG).mono ?_); rintro e w1 ⟨rfl, hg1⟩; have g1 := hG.kept hg1)
    | (go_at_call 10; go_must (refine (P1 _ g1).mono ?_); rintro e w2 ⟨rfl, hg2⟩)
    | (go_at_call 11; go_must (refine (P2 _).mono ?_); rintro e w3 ⟨rfl, hg3⟩; have k3 := fun o => grown_alloc hg3 o; have b0 := fun o => (Sev.of (k3 o)).1; have b1 := fun o => (Sev.of (k3 o)).2.1; have b2 := fun o => (Sev.of (k3 o)).2.2.1; have b3 := fun o => (Sev.of (k3 o)).2.2.2.1; have b4 := fun o => (Sev.of (k3 o)).2.2.2.2.1; have b5 := fun o => (Sev.of (k3 o)).2.2.2.2.2.1; have b6 := fun o => (Sev.of (k3 o)).2.2.2.2.2.2))
  go_ret
  exact ⟨ret_bool (by simp), grown_alloc (grown_more (grown_alloc (grown_more hg1 hg2 (by simp)) _) hg3 (by simp)) _⟩

theorem cronParses.walk (W : World) (hG : Gl W) (t : ByteArray) :
    Calls Tryd.prog 3 #[.string t] W fun e W' => e = .returned (.bool true) ∧ Below W.heap.size W W' := by
  have P1 := fun w hG => Parse_any t w hG
  have P2 := fun w => rParse t w
  generalize Cro.parse t.data.toList = p at P1 P2
  refine (parses_by p.1.mi p.1.ho p.1.da p.1.mo p.1.we p.2.1 p.1.ad p.1.aw p.2.2 t P1 P2 W hG).mono ?_
  rintro e W' ⟨rfl, hg⟩
  exact ⟨rfl, grown_below hg⟩
end Go.Proofs.YthjfecniipifhaaDoor
