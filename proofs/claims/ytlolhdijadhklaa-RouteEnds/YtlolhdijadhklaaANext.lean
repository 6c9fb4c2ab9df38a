/- next. -/
import Derived.Test.YtlolhdijadhklaaAPlace
namespace Go.Proofs.Ytlolhdijadhklaa
open Go.RowKit Atl
set_option linter.unusedVariables false
set_option maxRecDepth 10000

theorem zs_cells : sa zS = #[.string ⟨#[]⟩, .string ⟨#[]⟩, .int .i64 0, .int .i64 0, .int .i64 0] := rfl
set_option maxRecDepth 100000 in
set_option maxHeartbeats 3200000 in
theorem next_any (a : Am) (u : S3) (i : Nat) (w : World) (h : Rat w a u) (hi : i < a.l.length) : Calls Try.prog 101 #[av a u, .int .i64 (i : Int)] w fun e w' => e = .returned (.tuple #[sv (a.l.getD (i + 1) zS), .bool (decide (i + 1 < a.l.length))]) ∧ w.grownBy w' none := by
  obtain ⟨hR, hn, hb⟩ := h
  obtain ⟨ua, un, uc⟩ := u
  simp only at hn hR ⊢
  obtain ⟨W0, hW0⟩ : ∃ W0, W0 = (w.alloc (.cells (aa a ⟨ua, un, uc⟩) 26)).alloc (.cells (sa zS) 29) := ⟨_, rfl⟩
  have hq : (w.alloc (.cells (aa a ⟨ua, un, uc⟩) 26)).heap.size = w.heap.size + 1 := by simp
  have G0 : Hid (w.grownBy W0 none) := by rw [hW0]; exact grown_tr (World.grownBy_alloc _ _ none) (World.grownBy_alloc _ _ none)
  have c2 : W0.cell? ⟨w.heap.size, 2, none⟩ = some (.slice ua un uc) := by rw [hW0]; exact (World.grownBy_alloc _ _ none).cell (new_at _ rfl rfl) (by simp)
  have CZ : Cs W0 (w.heap.size + 1) (sc zS) := by
    rw [hW0]
    have k := cs_new (C := sa zS) (t := 29) (grown_refl ((w.alloc (.cells (aa a ⟨ua, un, uc⟩) 26)).alloc (.cells (sa zS) 29)) none)
    rwa [hq] at k
  have TH : Hid (W0.there (w.heap.size + 1) 0 5) := CZ.there (by simp)
  have HX : Hid (eS.Rx W0 (.slice ua un uc) a.l) := hR.grown G0.out
  have SET : Hid (∀ (x : Sp) (w3 : World), w3 = W0.setCells (w.heap.size + 1) 0 (sc x) → w3.rangeAt (w.heap.size + 1) 0 (sc x) ∧ w.grownBy w3 none) := fun x w3 e => by
    rw [e]
    exact ⟨(CZ.sets (sc x) rfl).1, grown_more G0.out (grown_setCells _ _ _ _) (fun k e => .inr (by injection e with e; omega))⟩
  have HW0 : Hid (W0 = _) := hW0
  rw [← hn] at hi
  have HN : Hid (un = a.l.length) := hn
  have hw1 : IntKind.i64.wrap ((i : Int) + 1) = (i : Int) + 1 := by rw [IntKind.wrap_i64]; omega
  clear hR hb hn hW0 hq CZ
  by_cases hlt : i + 1 < un
  · obtain ⟨s, hy⟩ : ∃ y, a.l[i + 1]? = some y := ⟨_, List.getElem?_eq_getElem (by rw [← HN.out]; exact hlt)⟩
    have e1 : a.l.getD (i + 1) zS = s := by rw [List.getD_eq_getElem?_getD, hy]; rfl
    rw [e1, ← HN.out, decide_eq_true hlt]
    obtain ⟨g, o, ea, r1⟩ := range_at HX.out hy
    have RG : Hid (W0.rangeAt g (o + (i + 1) * 5) (sc s)) := r1
    subst ea
    have dE : ((i : Int) + 1 == (un : Int)) = false := by simp; omega
    have b1 : 0 ≤ (i : Int) + 1 := by omega
    have b2 : (i : Int) + 1 < (un : Int) := by omega
    have nE : ((i : Int) + 1).toNat = i + 1 := by omega
    clear r1 hy e1 hi
    go_enter Try.func101, Try.ntmps101
    go_upto_region 1 with fail
    rw [show (#[Value.string ⟨#[]⟩, .string ⟨#[]⟩, .int .i64 0, .int .i64 0, .int .i64 0] : Array Value) = sa zS from rfl, ← HW0.out]
    go_wp2_with (first
      | (refine load_s g (o + (i + 1) * 5) s rfl RG.out ?_)
      | (refine store_row (ty := 29) (w.heap.size + 1) 0 (sa s) rfl rfl TH.out (by kernel_rfl) (by simp [Value.oneCell']) ?_; intro w3 hw3; have H3 : Hid (_ ∧ _) := (SET.out s w3 hw3); clear hw3))
    refine bodyPost_ret (v := .tuple #[sv s, .bool true]) ?_ rfl ?_
    · exact res_row2 (P := Try.prog) (fn := Try.f101) (p := 4) (u := 5) (ty := 29) rfl rfl H3.out.1 Try.underlying29 rfl (by kernel_rfl)
    · exact ⟨rfl, H3.out.2⟩
  · have e1 : a.l.getD (i + 1) zS = zS := by rw [List.getD_eq_getElem?_getD, List.getElem?_eq_none (by rw [← HN.out]; omega)]; rfl
    rw [e1, ← HN.out, decide_eq_false hlt]
    have dE : ((i : Int) + 1 == (un : Int)) = true := by simp; omega
    clear e1 hi hlt
    go_enter Try.func101, Try.ntmps101
    go_upto_region 1 with fail
    rw [show (#[Value.string ⟨#[]⟩, .string ⟨#[]⟩, .int .i64 0, .int .i64 0, .int .i64 0] : Array Value) = sa zS from rfl, ← HW0.out]
    go_wp2_with (first
      | (refine store_row (ty := 29) (w.heap.size + 1) 0 (sa zS) rfl rfl TH.out (by kernel_rfl) (by simp [Value.oneCell']) ?_; intro w3 hw3; have H3 : Hid (_ ∧ _) := (SET.out zS w3 hw3); clear hw3))
    refine bodyPost_ret (v := .tuple #[sv zS, .bool false]) ?_ rfl ?_
    · exact res_row2 (P := Try.prog) (fn := Try.f101) (p := 4) (u := 5) (ty := 29) rfl rfl H3.out.1 Try.underlying29 rfl (by kernel_rfl)
    · exact ⟨rfl, H3.out.2⟩

end Go.Proofs.Ytlolhdijadhklaa
