/- Find. -/
import Derived.Test.YtlolhdijadhklaaABox
import Derived.Test.YtlolhdijadhklaaAFindI
import Derived.Test.YtlolhdijadhklaaACheck
import Derived.Test.YtlolhdijadhklaaAMath2
namespace Go.Proofs.Ytlolhdijadhklaa
open Go.RowKit Atl
set_option linter.unusedVariables false
set_option maxRecDepth 10000

theorem fidx_fnd {a : Am} (h : Rgt a) (k : ByteArray) : fidx (fun s => ends s k) a.l = (fnd a.l k : Int) := by
  have hl := fnd_lt h k
  unfold fnd at hl ⊢
  unfold fidx
  rw [if_pos hl]
set_option maxRecDepth 100000 in
set_option maxHeartbeats 3200000 in
theorem find_any (a : Am) (u : S3) (k : ByteArray) (w : World) (h : Rat w a u) (hz : Szm a) (hk : k.size ≤ 140737488351232) : Calls Try.prog 10 #[av a u, .string k] w fun e w' => e = .returned (.tuple #[sv (findS a k), .bool (findB a k)]) ∧ w.grownBy w' none := by
  have NA := name_any k hk
  have CK : Hid (∀ W, w.grownBy W none → _) := fun W g => check_any a u W (h.grown g) hz
  obtain ⟨W0, hW0⟩ : ∃ W0, W0 = ((w.alloc (.cells (aa a u) 26)).alloc (.cells #[.string k] 9)).alloc (.cells (sa Atl.zS) 29) := ⟨_, rfl⟩
  have s1 : (w.alloc (.cells (aa a u) 26)).heap.size = w.heap.size + 1 := by simp
  have s2 : ((w.alloc (.cells (aa a u) 26)).alloc (.cells #[.string k] 9)).heap.size = w.heap.size + 2 := by simp
  have t1 : ∀ (x : World) o, x.grownBy (x.alloc o) none := fun x o => World.grownBy_alloc _ _ none
  have G0 : Hid (w.grownBy W0 none) := by rw [hW0]; exact grown_tr (t1 _ _) (grown_tr (t1 _ _) (t1 _ _))
  have CA : Hid (∀ W, W0.grownBy W none → Cs W w.heap.size (ac a u)) := fun W g => by rw [hW0] at g; exact cs_new (grown_tr (t1 _ _) (grown_tr (t1 _ _) g))
  have CK1 : Hid (∀ W, W0.grownBy W none → W.cell? ⟨w.heap.size + 1, 0, none⟩ = some (.string k)) := fun W g => by
    rw [hW0] at g
    have := (cs_new (grown_tr (t1 _ _) g)).1 0 _ rfl
    rwa [s1] at this
  have CR : Hid (∀ W, W0.grownBy W none → Cs W (w.heap.size + 2) (sc Atl.zS)) := fun W g => by
    rw [hW0] at g
    have := cs_new g
    rwa [s2] at this
  have HW0 : Hid (W0 = _) := hW0
  have RA : Hid (Rat w a u) := h
  have c1 := CK1.out W0 (grown_refl _ _)
  have CKK := CK.out W0 G0.out
  clear hW0 s1 s2 t1 h hz CK
  cases h1 : named k with
  | false =>
    have e1 : findB a k = false := by unfold findB; rw [h1]; rfl
    have e2 : findS a k = Atl.zS := by unfold findS; rw [e1]; rfl
    rw [e1, e2]
    rw [h1] at NA
    clear e1 e2 CKK RA
    go_enter Try.func10, Try.ntmps10
    go_upto_region 1 with fail
    rw [show (#[Value.string ⟨#[]⟩, .string ⟨#[]⟩, .int .i64 0, .int .i64 0, .int .i64 0] : Array Value) = sa Atl.zS from rfl, ← HW0.out]
    go_wp2_with (first
      | (go_at_call 37; (with_reducible refine (NA _).mono ?_); rintro e w2 ⟨rfl, e2⟩; have e2' := e2.symm; clear e2; subst e2')
      | (refine store_row (ty := 29) (w.heap.size + 2) 0 (sa Atl.zS) rfl rfl ((CR.out W0 (grown_refl _ _)).there (by simp)) (by kernel_rfl) (by simp [Value.oneCell']) ?_; intro w9 h9; have H9 : Hid (_ = _) := h9; clear h9))
    refine bodyPost_ret (v := .tuple #[sv Atl.zS, .bool false]) ?_ rfl ?_
    · exact res_row2 (P := Try.prog) (fn := Try.f10) (p := 4) (u := 5) (ty := 29) rfl rfl (box_set (cs := sc Atl.zS) (CR.out W0 (grown_refl _ _)) rfl H9.out) Try.underlying29 rfl (by kernel_rfl)
    · exact ⟨rfl, box_grown G0.out (by omega) H9.out⟩
  | true =>
    rw [h1] at NA
    cases h2 : chk a with
    | false =>
      have e1 : findB a k = false := by unfold findB; rw [h1, h2]; rfl
      have e2 : findS a k = Atl.zS := by unfold findS; rw [e1]; rfl
      rw [e1, e2]
      rw [h2] at CKK
      clear e1 e2 RA
      go_enter Try.func10, Try.ntmps10
      go_upto_region 1 with fail
      rw [show (#[Value.string ⟨#[]⟩, .string ⟨#[]⟩, .int .i64 0, .int .i64 0, .int .i64 0] : Array Value) = sa Atl.zS from rfl, ← HW0.out]
      go_wp2_with (first
        | (go_at_call 37; (with_reducible refine (NA _).mono ?_); rintro e w2 ⟨rfl, e2⟩; have e2' := e2.symm; clear e2; subst e2')
        | (refine load_ag w.heap.size 0 a u (by rfl) rfl (CA.out W0 (grown_refl _ _)).1 ?_)
        | (go_at_call 14; (with_reducible refine CKK.mono ?_); rintro e w3 ⟨rfl, g3⟩)
        | (refine store_row (ty := 29) (w.heap.size + 2) 0 (sa Atl.zS) rfl rfl ((CR.out w3 g3).there (by simp)) (by kernel_rfl) (by simp [Value.oneCell']) ?_; intro w9 h9; have H9 : Hid (_ = _) := h9; clear h9))
      refine bodyPost_ret (v := .tuple #[sv Atl.zS, .bool false]) ?_ rfl ?_
      · exact res_row2 (P := Try.prog) (fn := Try.f10) (p := 4) (u := 5) (ty := 29) rfl rfl (box_set (cs := sc Atl.zS) (CR.out w3 g3) rfl H9.out) Try.underlying29 rfl (by kernel_rfl)
      · exact ⟨rfl, box_grown (grown_tr G0.out g3) (by omega) H9.out⟩
    | true =>
      have RG := chk_is.1 h2
      have e1 : findB a k = true := by unfold findB; rw [h1, h2]; rfl
      have hl := fnd_lt RG k
      obtain ⟨s, hs⟩ : ∃ s, a.l[fnd a.l k]? = some s := ⟨_, List.getElem?_eq_getElem hl⟩
      have e2 : findS a k = s := by unfold findS; rw [e1, if_pos rfl, List.getD_eq_getElem?_getD, hs]; rfl
      rw [e1, e2]
      rw [h2] at CKK
      have IX : Hid (∀ W, W0.grownBy W none → _) := fun W g => ixf_any (.slice u.a u.n u.c) a.l k (w.heap.size + 1) W (RA.out.1.grown (grown_tr G0.out g)) (by have := RA.out.2.2; omega) (CK1.out W g)
      have FI : Hid (fidx (fun s => ends s k) a.l = (fnd a.l k : Int)) := fidx_fnd RG k
      obtain ⟨ua, un, uc⟩ := u
      have hn : un = a.l.length := RA.out.2.1
      have hb := RA.out.2.2
      have un16 : (un : Int) ≤ 9223372036854775807 := by omega
      rw [← hn] at hl
      have RR : Hid (∀ W, W0.grownBy W none → eS.Rx W (.slice ua un uc) a.l) := fun W g => RA.out.1.grown (grown_tr G0.out g)
      simp only at CKK CA IX HW0 ⊢
      obtain ⟨g, o, ea, _⟩ := range_at (RR.out W0 (grown_refl _ _)) hs
      subst ea
      have HS : Hid (∀ W, W0.grownBy W none → W.rangeAt g (o + fnd a.l k * 5) (sc s)) := fun W g => range_in (RR.out W g) hs
      generalize fnd a.l k = i at *
      have hiN : (i : Int) < (un : Int) := by omega
      clear e1 e2 RA RG hn hb hs RR c1
      go_enter Try.func10, Try.ntmps10
      go_upto_region 1 with fail
      rw [show (#[Value.string ⟨#[]⟩, .string ⟨#[]⟩, .int .i64 0, .int .i64 0, .int .i64 0] : Array Value) = sa Atl.zS from rfl, ← HW0.out]
      have c1 := CK1.out W0 (grown_refl _ _)
      go_wp2_with (first
        | (go_at_call 37; (with_reducible refine (NA _).mono ?_); rintro e w2 ⟨rfl, e2⟩; have e2' := e2.symm; clear e2; subst e2')
        | (refine load_ag w.heap.size 0 a _ (by rfl) rfl (CA.out W0 (grown_refl _ _)).1 ?_)
        | (go_at_call 14; (with_reducible refine CKK.mono ?_); rintro e w3 ⟨rfl, g3⟩; have d2 := (cells_a (CA.out w3 g3).1).2.2.1)
        | (go_at_call 38; (with_reducible refine (IX.out _ g3).mono ?_); rintro e w4 ⟨rfl, g4⟩; rw [FI.out]; have f2 := (cells_a (CA.out w4 (grown_tr g3 g4)).1).2.2.1)
        | (refine load_s g (o + i * 5) s rfl (HS.out w4 (grown_tr g3 g4)) ?_)
        | (refine store_row (ty := 29) (w.heap.size + 2) 0 (sa s) rfl rfl ((CR.out w4 (grown_tr g3 g4)).there (by simp)) (by kernel_rfl) (by simp [Value.oneCell']) ?_; intro w9 h9; have H9 : Hid (_ = _) := h9; clear h9))
      refine bodyPost_ret (v := .tuple #[sv s, .bool true]) ?_ rfl ?_
      · exact res_row2 (P := Try.prog) (fn := Try.f10) (p := 4) (u := 5) (ty := 29) rfl rfl (box_set (cs := sc s) (CR.out w4 (grown_tr g3 g4)) rfl H9.out) Try.underlying29 rfl (by kernel_rfl)
      · exact ⟨rfl, box_grown (grown_tr G0.out (grown_tr g3 g4)) (by omega) H9.out⟩
end Go.Proofs.Ytlolhdijadhklaa
