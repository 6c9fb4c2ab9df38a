/- New. -/
import Derived.Test.YtlolhdijadhklaaAState
import Derived.Test.YtlolhdijadhklaaASmall
namespace Go.Proofs.Ytlolhdijadhklaa
open Go.RowKit Atl
set_option linter.unusedVariables false
set_option maxRecDepth 10000

def s11 : Sp := ⟨⟨#[]⟩, ⟨#[]⟩, 1, 1, 1⟩
set_option maxRecDepth 100000 in
set_option maxHeartbeats 3200000 in
theorem new_any (n : Int) (w : World) : Calls Try.prog 12 #[.int .i64 n] w fun e w' => Res w (newM n) (newE n) e w' := by
  have GR := groups_any n
  obtain ⟨W0, hW0⟩ : ∃ W0, W0 = w.alloc (.cells zaa 26) := ⟨_, rfl⟩
  have G0 : Hid (w.grownBy W0 none) := by rw [hW0]; exact World.grownBy_alloc _ _ none
  have Z0 : Hid (W0.heap.size = w.heap.size + 1) := by show _ = _; rw [hW0]; simp
  have CR : Hid (∀ W, W0.grownBy W none → Cs W w.heap.size zaa.toList) := fun W g => by rw [hW0] at g; exact cs_new g
  have HW0 : Hid (W0 = _) := hW0
  have TH0 : Hid (W0.there w.heap.size 0 11) := (CR.out W0 (grown_refl _ _)).there (by simp)
  clear hW0
  cases hn : (decide (1 ≤ n) && decide (n ≤ 8)) with
  | false =>
    have hh : ¬ (1 ≤ n ∧ n ≤ 8) := by simpa using hn
    have e1 : newM n = zA := by unfold newM; rw [if_neg hh]
    have e2 : newE n = 1 := by unfold newE; rw [if_neg hh]
    rw [e1, e2]
    rw [hn] at GR
    clear e1 e2 hh
    go_enter Try.func12, Try.ntmps12
    go_upto_region 1 with fail
    rw [show (#[Value.int .i64 0, .int .i64 0, .slice none 0 0, .int .i64 0, .int .i64 0, .int .i64 0, .int .i64 0, .int .i64 0, .int .i64 0, .int .i64 0, .string ⟨#[]⟩] : Array Value) = zaa from rfl, ← HW0.out]
    go_wp2_with (first
      | (go_at_call 42; (with_reducible refine (GR _).mono ?_); rintro e w2 ⟨rfl, e2⟩; have e2' := e2.symm; clear e2; subst e2')
      | (refine store_row (ty := 26) w.heap.size 0 (aa zA nil3) rfl rfl TH0.out (by kernel_rfl) (by simp [Value.oneCell']) ?_; intro w9 h9; have H9 : Hid (_ = _) := h9; clear h9))
    refine bodyPost_ret (v := .tuple #[av zA nil3, .int .i64 1]) ?_ rfl ?_
    · exact res_row2 (P := Try.prog) (fn := Try.f12) (p := 2) (u := 3) (ty := 26) rfl rfl (box_set (cs := ac zA nil3) (CR.out W0 (grown_refl _ _)) rfl H9.out) Try.underlying26 rfl (by kernel_rfl)
    · exact ⟨nil3, rfl, rat_nil _, box_grown G0.out (Nat.le_refl _) H9.out, fun k e => by simp [nil3, Value.ownBlock] at e⟩
  | true =>
    have hh : 1 ≤ n ∧ n ≤ 8 := by simpa using hn
    have e1 : newM n = ⟨n, 1, [s11], zP⟩ := by unfold newM; rw [if_pos hh]; rfl
    have e2 : newE n = 0 := by unfold newE; rw [if_pos hh]
    rw [e1, e2]
    rw [hn] at GR
    clear e1 e2 hh
    have GA : Hid (W0.grownBy (W0.alloc (.cells (sa s11) 29)) none) := World.grownBy_alloc _ _ none
    have RX : Hid (eS.Rx (W0.alloc (.cells (sa s11) 29)) (.slice (some ⟨W0.heap.size, 0, none⟩) 1 1) [s11]) := Elm.rx_one (E := eS) fun j u hj => new_at _ rfl (by have h2 : (sc s11)[j]? = some u := hj; simpa using h2)
    have TH1 : Hid ((W0.alloc (.cells (sa s11) 29)).there w.heap.size 0 11) := (CR.out _ GA.out).there (by simp)
    go_enter Try.func12, Try.ntmps12
    go_upto_region 1 with fail
    rw [show (#[Value.int .i64 0, .int .i64 0, .slice none 0 0, .int .i64 0, .int .i64 0, .int .i64 0, .int .i64 0, .int .i64 0, .int .i64 0, .int .i64 0, .string ⟨#[]⟩] : Array Value) = zaa from rfl, ← HW0.out]
    go_wp2_with (first
      | (go_at_call 42; (with_reducible refine (GR _).mono ?_); rintro e w2 ⟨rfl, e2⟩; have e2' := e2.symm; clear e2; subst e2')
      | (refine store_row (ty := 26) w.heap.size 0 (aa ⟨n, 1, [s11], zP⟩ ⟨some ⟨W0.heap.size, 0, none⟩, 1, 1⟩) rfl rfl TH1.out (by kernel_rfl) (by simp [Value.oneCell']) ?_; intro w9 h9; have H9 : Hid (w9 = (W0.alloc (.cells (sa s11) 29)).setCells w.heap.size 0 (ac ⟨n, 1, [s11], zP⟩ ⟨some ⟨W0.heap.size, 0, none⟩, 1, 1⟩)) := h9; clear h9))
    refine bodyPost_ret (v := .tuple #[av ⟨n, 1, [s11], zP⟩ ⟨some ⟨W0.heap.size, 0, none⟩, 1, 1⟩, .int .i64 0]) ?_ rfl ?_
    · exact res_row2 (P := Try.prog) (fn := Try.f12) (p := 2) (u := 3) (ty := 26) rfl rfl (box_set (cs := ac ⟨n, 1, [s11], zP⟩ ⟨some ⟨W0.heap.size, 0, none⟩, 1, 1⟩) (CR.out _ GA.out) rfl H9.out) Try.underlying26 rfl (by kernel_rfl)
    · refine ⟨⟨some ⟨W0.heap.size, 0, none⟩, 1, 1⟩, rfl, ⟨?_, rfl, by simp⟩, box_grown (grown_tr G0.out GA.out) (Nat.le_refl _) H9.out, fun k e => by have := Z0.out; change some W0.heap.size = some k at e; injection e with e; omega⟩
      rw [H9.out]
      exact RX.out.kept (Chg.of (F := fun k => k = w.heap.size) (grown_setCells _ _ _ _) (fun k e => by injection e with e; exact e.symm)) (fun k hk e => by have := Z0.out; change some W0.heap.size = some k at hk; injection hk with hk; omega)
end Go.Proofs.Ytlolhdijadhklaa
