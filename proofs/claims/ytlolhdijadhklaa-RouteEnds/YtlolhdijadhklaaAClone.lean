/- slices.Clone, Delete of one span. -/
import Derived.Test.YtlolhdijadhklaaAIns
import Derived.Lib.SmallJoins
import Derived.Deep.Upon
namespace Go.Proofs.Ytlolhdijadhklaa
open Go.RowKit Atl
set_option linter.unusedVariables false
set_option maxRecDepth 10000

set_option maxRecDepth 100000 in
theorem nilS_is (w : World) : (binOp .eql 22 (.slice none 0 0) (.slice none 0 0)).run Try.prog w = .ok (.bool true) w := by kernel_rfl
set_option maxRecDepth 100000 in
theorem nilS_not (a : Addr) (n c : Nat) (w : World) : (binOp .eql 22 (.slice (some a) n c) (.slice none 0 0)).run Try.prog w = .ok (.bool false) w := by kernel_rfl
set_option maxRecDepth 100000 in
set_option maxHeartbeats 800000 in
theorem clone_any (u : S3) (l : List Sp) (w : World) (h : eS.Rx w (.slice u.a u.n u.c) l) (hn : u.n = l.length) (hb : l.length * 56 ≤ 140737488355328) :
    Calls Try.prog 79 #[.slice u.a u.n u.c] w fun e w' => ∃ u' : S3, e = .returned (.slice u'.a u'.n u'.c) ∧ u'.n = l.length ∧ eS.Own w' w.heap.size (.slice u'.a u'.n u'.c) l ∧ w.grownBy w' none := by
  have N1 := nilS_is
  have N2 := nilS_not
  obtain ⟨ua, un, uc⟩ := u
  simp only at h hn ⊢
  rcases id h with ⟨e, rfl⟩ | ⟨a, c, e, hs, hc⟩
  · injection e with e1 e2 e3
    subst e1 e2 e3
    clear h hn hb
    go_enter Try.func79, Try.ntmps79
    go_wp2
    go_ret
    exact ⟨nil3, rfl, rfl, Elm.nil _ _, grown_refl _ _⟩
  · injection e with e1 e2 e3
    subst e1 e3
    have hX1 : ∀ o, eS.Rx (w.alloc o) (.slice (some a) un uc) l := fun o => h.grown (World.grownBy_alloc w o none)
    have hM : eS.Own (w.alloc (.cells #[] 29)) w.heap.size (.slice (some ⟨w.heap.size, 0, none⟩) 0 0) [] := Elm.made (E := eS) w #[] 0 _ rfl (by unfold maxLen; omega) rfl
    have HN : Hid (un = l.length) := hn
    have HB : Hid (l.length * 56 ≤ 140737488355328) := hb
    clear h hc hs e2 hn hb
    go_enter Try.func79, Try.ntmps79
    go_wp2_with (refine Elm.wpList_append (E := eS) rfl (.tmp 5) (.tmp 6) rfl w.heap.size _ [] rfl hM _ l rfl (hX1 _) (by have := HB.out; simp; omega) (by have := HB.out; show (0 + l.length) * 56 ≤ _; omega) (by simp) ?_; intro ad n c w2 hO2 hg2 hl2)
    go_ret
    obtain rfl : n = l.length := by have := hO2.len; simpa using this
    have gg : w.grownBy w2 none := grown_more (World.grownBy_alloc w _ none) hg2 (fun k hk => .inr (by injection hk with hk; exact Nat.le_of_eq hk))
    exact ⟨⟨ad, l.length, c⟩, rfl, rfl, hO2, gg⟩
end Go.Proofs.Ytlolhdijadhklaa
