/- the reference's New, Find. -/
import Derived.Test.YtlolhdijadhklaaARCheck
import Derived.Test.YtlolhdijadhklaaAFindM
import Derived.Test.YtlolhdijadhklaaANew
namespace Go.Proofs.Ytlolhdijadhklaa
open Go.RowKit Atl
set_option linter.unusedVariables false
set_option maxRecDepth 10000

theorem fr_le {a : Am} (h : Rgt a) {k : ByteArray} {j : Nat} {t : Sp} (ht : a.l[j]? = some t) : lt k t.fr = decide (fnd a.l k < j) := by
  have hl := (List.getElem?_eq_some_iff.1 ht).1
  have hf := fnd_lt h k
  by_cases hj : fnd a.l k < j
  · rw [decide_eq_true hj]
    have he : ends (a.l[fnd a.l k]'hf) k = true := by
      unfold fnd at hf ⊢
      exact List.findIdx_getElem (p := fun s => ends s k) (w := hf)
    obtain ⟨f, hfs⟩ : ∃ f, a.l[fnd a.l k]? = some f := ⟨_, List.getElem?_eq_getElem hf⟩
    rw [(List.getElem?_eq_some_iff.1 hfs).2] at he
    obtain ⟨d, rfl⟩ : ∃ d, j = fnd a.l k + d + 1 := ⟨j - fnd a.l k - 1, by omega⟩
    obtain ⟨q, hq⟩ : ∃ q, a.l[fnd a.l k + d]? = some q := ⟨_, List.getElem?_eq_getElem (by omega)⟩
    obtain ⟨y, hy⟩ : ∃ y, a.l[fnd a.l k + 1]? = some y := ⟨_, List.getElem?_eq_getElem (by omega)⟩
    have h1 := jn_mono h.jn hfs d q hq (by omega)
    obtain ⟨e1, _, _⟩ := jn_next h.jn hq ht
    have h2 := (jn_next h.jn hfs hy).2.1
    have h3 : lt k f.up = true := by
      unfold ends at he
      have : (f.up.toList == []) = false := by
        cases hh : (f.up.toList == []) with
        | false => rfl
        | true =>
          have : f.up = em := list_em.1 (by simpa using hh)
          rw [this, named_em] at h2
          cases h2
      rw [this, Bool.false_or] at he
      exact he
    rw [e1]
    cases h5 : lt k q.up with
    | true => rfl
    | false =>
      have := le_lt h5 h3
      rw [this] at h1
      cases h1
  · rw [decide_eq_false hj]
    by_cases h0 : j = 0
    · subst h0
      obtain ⟨t', h1, h2⟩ := jn_at h.jn ht
      rw [List.take_zero] at h1
      have e : em = t' := h1
      rw [(jn_cons.1 h2).1, ← e]
      exact lt_em k
    · obtain ⟨p, hp⟩ : ∃ p, a.l[j - 1]? = some p := ⟨_, List.getElem?_eq_getElem (by omega)⟩
      have e1 : ends p k = false := by
        have hlt : j - 1 < fnd a.l k := by omega
        unfold fnd at hlt
        have := List.not_of_lt_findIdx hlt
        rw [(List.getElem?_eq_some_iff.1 hp).2] at this
        exact Bool.eq_false_iff.2 (by simpa using this)
      obtain ⟨e2, _, _⟩ := jn_next h.jn hp (by rw [show j - 1 + 1 = j by omega]; exact ht)
      unfold ends at e1
      rw [Bool.or_eq_false_iff] at e1
      rw [e2]
      exact e1.2
set_option maxRecDepth 100000 in
set_option maxHeartbeats 3200000 in
theorem rnew_any (n : Int) (w : World) : Calls Try.prog 13 #[.int .i64 n] w fun e w' => Res w (newM n) (newE n) e w' := by
  obtain ⟨W0, hW0⟩ : ∃ W0, W0 = w.alloc (.cells zaa 26) := ⟨_, rfl⟩
  have G0 : Hid (w.grownBy W0 none) := by rw [hW0]; exact World.grownBy_alloc _ _ none
  have Z0 : Hid (W0.heap.size = w.heap.size + 1) := by show _ = _; rw [hW0]; simp
  have CR : Hid (∀ W, W0.grownBy W none → Cs W w.heap.size zaa.toList) := fun W g => by rw [hW0] at g; exact cs_new g
  have HW0 : Hid (W0 = _) := hW0
  have TH0 : Hid (W0.there w.heap.size 0 11) := (CR.out W0 (grown_refl _ _)).there (by simp)
  clear hW0
  by_cases hh : 1 ≤ n ∧ n ≤ 8
  · have e1 : newM n = ⟨n, 1, [s11], zP⟩ := by unfold newM; rw [if_pos hh]; rfl
    have e2 : newE n = 0 := by unfold newE; rw [if_pos hh]
    rw [e1, e2]
    have p0 : ¬ n < 1 := by omega
    have p1 : ¬ 8 < n := by omega
    clear e1 e2 hh
    have GA : Hid (W0.grownBy (W0.alloc (.cells (sa s11) 29)) none) := World.grownBy_alloc _ _ none
    have RX : Hid (eS.Rx (W0.alloc (.cells (sa s11) 29)) (.slice (some ⟨W0.heap.size, 0, none⟩) 1 1) [s11]) := Elm.rx_one (E := eS) fun j u hj => new_at _ rfl (by have h2 : (sc s11)[j]? = some u := hj; simpa using h2)
    have TH1 : Hid ((W0.alloc (.cells (sa s11) 29)).there w.heap.size 0 11) := (CR.out _ GA.out).there (by simp)
    go_enter Try.func13, Try.ntmps13
    go_upto_region 1 with fail
    rw [show (#[Value.int .i64 0, .int .i64 0, .slice none 0 0, .int .i64 0, .int .i64 0, .int .i64 0, .int .i64 0, .int .i64 0, .int .i64 0, .int .i64 0, .string ⟨#[]⟩] : Array Value) = zaa from rfl, ← HW0.out]
    go_wp2_with (refine store_row (ty := 26) w.heap.size 0 (aa ⟨n, 1, [s11], zP⟩ ⟨some ⟨W0.heap.size, 0, none⟩, 1, 1⟩) rfl rfl TH1.out (by kernel_rfl) (by simp [Value.oneCell']) ?_; intro w9 h9; have H9 : Hid (w9 = (W0.alloc (.cells (sa s11) 29)).setCells w.heap.size 0 (ac ⟨n, 1, [s11], zP⟩ ⟨some ⟨W0.heap.size, 0, none⟩, 1, 1⟩)) := h9; clear h9)
    refine bodyPost_ret (v := .tuple #[av ⟨n, 1, [s11], zP⟩ ⟨some ⟨W0.heap.size, 0, none⟩, 1, 1⟩, .int .i64 0]) ?_ rfl ?_
    · exact res_row2 (P := Try.prog) (fn := Try.f13) (p := 2) (u := 3) (ty := 26) rfl rfl (box_set (cs := ac ⟨n, 1, [s11], zP⟩ ⟨some ⟨W0.heap.size, 0, none⟩, 1, 1⟩) (CR.out _ GA.out) rfl H9.out) Try.underlying26 rfl (by kernel_rfl)
    · refine ⟨⟨some ⟨W0.heap.size, 0, none⟩, 1, 1⟩, rfl, ⟨?_, rfl, by simp⟩, box_grown (grown_tr G0.out GA.out) (Nat.le_refl _) H9.out, fun k e => by have := Z0.out; change some W0.heap.size = some k at e; injection e with e; omega⟩
      rw [H9.out]
      exact RX.out.kept (Chg.of (F := fun k => k = w.heap.size) (grown_setCells _ _ _ _) (fun k e => by injection e with e; exact e.symm)) (fun k hk e => by have := Z0.out; change some W0.heap.size = some k at hk; injection hk with hk; omega)
  · have e1 : newM n = zA := by unfold newM; rw [if_neg hh]
    have e2 : newE n = 1 := by unfold newE; rw [if_neg hh]
    rw [e1, e2]
    clear e1 e2
    by_cases p0 : n < 1
    · clear hh
      go_enter Try.func13, Try.ntmps13
      go_upto_region 1 with fail
      rw [show (#[Value.int .i64 0, .int .i64 0, .slice none 0 0, .int .i64 0, .int .i64 0, .int .i64 0, .int .i64 0, .int .i64 0, .int .i64 0, .int .i64 0, .string ⟨#[]⟩] : Array Value) = zaa from rfl, ← HW0.out]
      go_wp2_with (refine store_row (ty := 26) w.heap.size 0 (aa zA nil3) rfl rfl TH0.out (by kernel_rfl) (by simp [Value.oneCell']) ?_; intro w9 h9; have H9 : Hid (_ = _) := h9; clear h9)
      refine bodyPost_ret (v := .tuple #[av zA nil3, .int .i64 1]) ?_ rfl ?_
      · exact res_row2 (P := Try.prog) (fn := Try.f13) (p := 2) (u := 3) (ty := 26) rfl rfl (box_set (cs := ac zA nil3) (CR.out W0 (grown_refl _ _)) rfl H9.out) Try.underlying26 rfl (by kernel_rfl)
      · exact ⟨nil3, rfl, rat_nil _, box_grown G0.out (Nat.le_refl _) H9.out, fun k e => by simp [nil3, Value.ownBlock] at e⟩
    · have p1 : 8 < n := by omega
      clear hh
      go_enter Try.func13, Try.ntmps13
      go_upto_region 1 with fail
      rw [show (#[Value.int .i64 0, .int .i64 0, .slice none 0 0, .int .i64 0, .int .i64 0, .int .i64 0, .int .i64 0, .int .i64 0, .int .i64 0, .int .i64 0, .string ⟨#[]⟩] : Array Value) = zaa from rfl, ← HW0.out]
      go_wp2_with (refine store_row (ty := 26) w.heap.size 0 (aa zA nil3) rfl rfl TH0.out (by kernel_rfl) (by simp [Value.oneCell']) ?_; intro w9 h9; have H9 : Hid (_ = _) := h9; clear h9)
      refine bodyPost_ret (v := .tuple #[av zA nil3, .int .i64 1]) ?_ rfl ?_
      · exact res_row2 (P := Try.prog) (fn := Try.f13) (p := 2) (u := 3) (ty := 26) rfl rfl (box_set (cs := ac zA nil3) (CR.out W0 (grown_refl _ _)) rfl H9.out) Try.underlying26 rfl (by kernel_rfl)
      · exact ⟨nil3, rfl, rat_nil _, box_grown G0.out (Nat.le_refl _) H9.out, fun k e => by simp [nil3, Value.ownBlock] at e⟩
set_option maxRecDepth 100000 in
set_option maxHeartbeats 12800000 in
theorem rfind_any (a : Am) (u : S3) (k : ByteArray) (w : World) (h : Rat w a u) (hz : Szm a) (hk : k.size ≤ 140737488351232) : Calls Try.prog 11 #[av a u, .string k] w fun e w' => e = .returned (.tuple #[sv (findS a k), .bool (findB a k)]) ∧ w.grownBy w' none := by
  have NA := rname_any k hk
  have CK : Hid (∀ W, w.grownBy W none → Calls Try.prog 15 #[av a u] W fun e w' => e = .returned (.bool (chk a)) ∧ W.grownBy w' none) := fun W g => rcheck_any a u W (h.grown g) hz
  obtain ⟨W0, hW0⟩ : ∃ W0, W0 = (w.alloc (.cells (aa a u) 26)).alloc (.cells (sa Atl.zS) 29) := ⟨_, rfl⟩
  have t1 : ∀ (x : World) o, x.grownBy (x.alloc o) none := fun x o => World.grownBy_alloc _ _ none
  have s1 : (w.alloc (.cells (aa a u) 26)).heap.size = w.heap.size + 1 := by simp
  have G0 : Hid (w.grownBy W0 none) := by rw [hW0]; exact grown_tr (t1 _ _) (t1 _ _)
  have CA : Hid (∀ W, W0.grownBy W none → W.rangeAt w.heap.size 0 (ac a u)) := fun W g => by rw [hW0] at g; exact (cs_new (grown_tr (t1 _ _) g)).1
  have CR : Hid (∀ W, W0.grownBy W none → Cs W (w.heap.size + 1) (sc Atl.zS)) := fun W g => by
    rw [hW0] at g
    have := cs_new g
    rwa [s1] at this
  have RA : Hid (Rat w a u) := h
  have HW0 : Hid (W0 = _) := hW0
  have RES : Hid (∀ (x : Sp) (W w3 : World), W0.grownBy W none → w3 = W.setCells (w.heap.size + 1) 0 (sc x) → w3.rangeAt (w.heap.size + 1) 0 (sc x) ∧ w.grownBy w3 none) := fun x W w3 g e => by
    rw [e]
    exact ⟨((CR.out W g).sets (sc x) rfl).1, grown_more (grown_tr G0.out g) (grown_setCells _ _ _ _) (fun k e => .inr (by injection e with e; omega))⟩
  have KC : chk a = true → Hid (Rgt a) := fun h => chk_is.1 h
  have KC : Hid (chk a = true → Hid (Rgt a)) := KC
  clear hW0 t1 s1 h hz hk
  unfold findS findB
  have CKK := CK.out W0 G0.out
  clear CK
  cases hc : chk a with
  | false =>
    rw [hc] at CKK
    rw [Bool.and_false, if_neg (by simp)]
    clear hc KC NA
    go_enter Try.func11, Try.ntmps11
    go_upto_region 1 with fail
    rw [show (#[Value.string ⟨#[]⟩, .string ⟨#[]⟩, .int .i64 0, .int .i64 0, .int .i64 0] : Array Value) = sa Atl.zS from rfl, ← HW0.out]
    go_wp2_with (first
      | (refine load_a w.heap.size 0 a u rfl (CA.out W0 (grown_refl _ _)) ?_)
      | (go_at_call 15; (with_reducible refine CKK.mono ?_); rintro e w2 ⟨rfl, g2⟩)
      | (refine store_row (ty := 29) (w.heap.size + 1) 0 (sa Atl.zS) rfl rfl ((CR.out w2 g2).there (by simp)) (by kernel_rfl) (by simp [Value.oneCell']) ?_; intro w3 hw3; have H3 : Hid (_ ∧ _) := (RES.out Atl.zS w2 w3 g2 hw3); clear hw3))
    refine bodyPost_ret (v := .tuple #[sv Atl.zS, .bool false]) ?_ rfl ?_
    · exact res_row2 (P := Try.prog) (fn := Try.f11) (p := 4) (u := 5) (ty := 29) rfl rfl H3.out.1 Try.underlying29 rfl (by kernel_rfl)
    · exact ⟨rfl, H3.out.2⟩
  | true =>
    rw [hc] at CKK
    have RG := (KC.out hc).out
    clear hc KC
    cases hnm : named k with
    | false =>
      rw [hnm] at NA
      rw [Bool.false_and, if_neg (by simp)]
      clear hnm RG
      go_enter Try.func11, Try.ntmps11
      go_upto_region 1 with fail
      rw [show (#[Value.string ⟨#[]⟩, .string ⟨#[]⟩, .int .i64 0, .int .i64 0, .int .i64 0] : Array Value) = sa Atl.zS from rfl, ← HW0.out]
      go_wp2_with (first
        | (refine load_a w.heap.size 0 a u rfl (CA.out W0 (grown_refl _ _)) ?_)
        | (go_at_call 15; (with_reducible refine CKK.mono ?_); rintro e w2 ⟨rfl, g2⟩)
        | (go_at_call 41; (with_reducible refine (NA _).mono ?_); rintro e w4 ⟨rfl, e4⟩; have e4' := e4.symm; clear e4; subst e4')
        | (refine store_row (ty := 29) (w.heap.size + 1) 0 (sa Atl.zS) rfl rfl ((CR.out w2 g2).there (by simp)) (by kernel_rfl) (by simp [Value.oneCell']) ?_; intro w3 hw3; have H3 : Hid (_ ∧ _) := (RES.out Atl.zS w2 w3 g2 hw3); clear hw3))
      refine bodyPost_ret (v := .tuple #[sv Atl.zS, .bool false]) ?_ rfl ?_
      · exact res_row2 (P := Try.prog) (fn := Try.f11) (p := 4) (u := 5) (ty := 29) rfl rfl H3.out.1 Try.underlying29 rfl (by kernel_rfl)
      · exact ⟨rfl, H3.out.2⟩
    | true =>
      rw [hnm] at NA
      rw [Bool.true_and, if_pos rfl]
      have hf := fnd_lt RG k
      have n16 := RG.n16
      have FR : Hid (∀ (j : Nat) (t : Sp), a.l[j]? = some t → lt k t.fr = decide (fnd a.l k < j)) := fun j t h => fr_le RG h
      obtain ⟨s, hs⟩ : ∃ s, a.l[fnd a.l k]? = some s := ⟨_, List.getElem?_eq_getElem hf⟩
      have HS : Hid (a.l[fnd a.l k]? = some s) := hs
      have ed : a.l.getD (fnd a.l k) Atl.zS = s := by rw [List.getD_eq_getElem?_getD, hs]; rfl
      rw [ed]
      obtain ⟨ua, un, uc⟩ := u
      have hn : un = a.l.length := RA.out.2.1
      obtain ⟨N, hN⟩ : ∃ N, a.l.length = N := ⟨_, rfl⟩
      obtain ⟨F, hF⟩ : ∃ F, fnd a.l k = F := ⟨_, rfl⟩
      rw [hF] at HS FR hf
      rw [hN] at hn hf n16
      subst hn
      have NL : Hid (a.l.length = un) := hN
      have HF : Hid (F < un ∧ un ≤ 16) := (⟨hf, n16⟩ : _ ∧ _)
      have RX : Hid (∀ W, W0.grownBy W none → eS.Rx W (.slice ua un uc) a.l) := fun W g => RA.out.1.grown (grown_tr G0.out g)
      try simp only at CA CKK HW0 ⊢
      clear hs ed hnm RG hN hF hf n16 RA
      go_enter Try.func11, Try.ntmps11
      go_upto_region 1 with fail
      rw [show (#[Value.string ⟨#[]⟩, .string ⟨#[]⟩, .int .i64 0, .int .i64 0, .int .i64 0] : Array Value) = sa Atl.zS from rfl, ← HW0.out]
      go_upto_region 4 with (first
        | (refine load_a w.heap.size 0 a _ rfl (CA.out W0 (grown_refl _ _)) ?_)
        | (go_at_call 15; (with_reducible refine CKK.mono ?_); rintro e w2 ⟨rfl, g2⟩)
        | (go_at_call 41; (with_reducible refine (NA _).mono ?_); rintro e w4 ⟨rfl, e4⟩; have e4' := e4.symm; clear e4; subst e4'))
      have G2 : Hid (W0.grownBy w2 none) := g2
      clear CKK NA g2
      have a2 := (cells_a (CA.out w2 G2.out)).2.2.1
      simp only at a2
      go_loopw [6] (fun i wr => ∃ j : Nat, j ≤ F ∧ i = .int .i64 (j : Int) ∧ wr = w2) (fun i _ => un - (intOf i).toNat)
      case atStart => exact ⟨0, by omega, rfl, rfl⟩
      case round =>
        obtain ⟨j, hj, rfl, ew⟩ := hrel
        subst ew
        have hju : j < un := by have := HF.out; omega
        have hju16 : un ≤ 16 := HF.out.2
        have hw1 : IntKind.i64.wrap ((j : Int) + 1) = (j : Int) + 1 := by rw [IntKind.wrap_i64]; omega
        have EXIT : Hid (j = F → ∃ g o, ua = some ⟨g, o, none⟩ ∧ wr.rangeAt g (o + j * 5) (sc s)) := fun e => by subst e; exact range_at (RX.out wr G2.out) HS.out
        by_cases hlt : j + 1 < un
        · obtain ⟨t, ht⟩ : ∃ t, a.l[j + 1]? = some t := ⟨_, List.getElem?_eq_getElem (by rw [NL.out]; exact hlt)⟩
          have FT := FR.out (j + 1) t ht
          obtain ⟨g, o, ea, r1⟩ := range_at (RX.out wr G2.out) ht
          have t0 := (cells_s r1).1
          subst ea
          have b1 : 0 ≤ (j : Int) + 1 := by omega
          have b2 : (j : Int) + 1 < (un : Int) := by omega
          have b3 : ((j : Int) + 1).toNat = j + 1 := by omega
          clear ht r1
          rcases tri t.fr k with ⟨l1, l2, l3⟩ | ⟨l1, l2⟩ | ⟨l1, l2, l3⟩
          · have ej : j = F := by rw [l1] at FT; have := of_decide_eq_true FT.symm; omega
            obtain ⟨g', o', ea', r2⟩ := EXIT.out ej
            injection ea' with ea'
            injection ea' with e1 e2 _
            subst e1 e2
            have R2 : Hid (wr.rangeAt g (o + j * 5) (sc s)) := r2
            have c1 : (j : Int) < (un : Int) := by omega
            have c2 : (j : Int).toNat = j := by omega
            clear FT l1 r2 EXIT ej
            go_upto_region 6 with fail
            have b0 : 0 ≤ (j : Int) := by omega
            clear b1 b2 b3 hw1 l2 l3 t0 hlt hju hju16 hj
            go_wp2_with (first
              | (refine load_s g (o + j * 5) s rfl R2.out ?_)
              | (refine store_row (ty := 29) (w.heap.size + 1) 0 (sa s) rfl rfl ((CR.out wr G2.out).there (by simp)) (by kernel_rfl) (by simp [Value.oneCell']) ?_; intro w3 hw3; have H3 : Hid (_ ∧ _) := (RES.out s wr w3 G2.out hw3); clear hw3))
            refine bodyPost_ret (v := .tuple #[sv s, .bool true]) ?_ rfl ?_
            · exact res_row2 (P := Try.prog) (fn := Try.f11) (p := 4) (u := 5) (ty := 29) rfl rfl H3.out.1 Try.underlying29 rfl (by kernel_rfl)
            · exact ⟨rfl, H3.out.2⟩
          · have hj2 : j + 1 ≤ F := by rw [l1] at FT; have := of_decide_eq_false FT.symm; omega
            clear FT l1 EXIT
            go_wp2_with fail
            go_roundw
            case rel => exact ⟨j + 1, hj2, by go_num, by first | rfl | trivial⟩
            case measure => simp [intOf]; omega
          · have hj2 : j + 1 ≤ F := by rw [l1] at FT; have := of_decide_eq_false FT.symm; omega
            clear FT l1 EXIT
            go_wp2_with fail
            go_roundw
            case rel => exact ⟨j + 1, hj2, by go_num, by first | rfl | trivial⟩
            case measure => simp [intOf]; omega
        · have ej : j = F := by have := HF.out; omega
          obtain ⟨g, o, ea, r2⟩ := EXIT.out ej
          subst ea
          have R2 : Hid (wr.rangeAt g (o + j * 5) (sc s)) := r2
          have b2 : ¬ ((j : Int) + 1 < (un : Int)) := by omega
          have c1 : (j : Int) < (un : Int) := by omega
          have c2 : (j : Int).toNat = j := by omega
          clear r2 EXIT ej hlt hju hju16 hj
          go_upto_region 6 with fail
          have b0 : 0 ≤ (j : Int) := by omega
          clear b2 hw1
          go_wp2_with (first
            | (refine load_s g (o + j * 5) s rfl R2.out ?_)
            | (refine store_row (ty := 29) (w.heap.size + 1) 0 (sa s) rfl rfl ((CR.out wr G2.out).there (by simp)) (by kernel_rfl) (by simp [Value.oneCell']) ?_; intro w3 hw3; have H3 : Hid (_ ∧ _) := (RES.out s wr w3 G2.out hw3); clear hw3))
          refine bodyPost_ret (v := .tuple #[sv s, .bool true]) ?_ rfl ?_
          · exact res_row2 (P := Try.prog) (fn := Try.f11) (p := 4) (u := 5) (ty := 29) rfl rfl H3.out.1 Try.underlying29 rfl (by kernel_rfl)
          · exact ⟨rfl, H3.out.2⟩

end Go.Proofs.Ytlolhdijadhklaa
