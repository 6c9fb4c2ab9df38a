/- What 'Parse' answers, of five words. -/
import Derived.Test.YteiiapnpdfgoaaaDoorKWhole
import Derived.BigRegion
namespace Go.Proofs.YteiiapnpdfgoaaaDoor
open Go.RowKit

set_option maxRecDepth 100000 in
set_option maxHeartbeats 1600000 in
theorem Parse_five (t : ByteArray) (ht : t.size ≤ 256) (h5 : (Cro.wds [] t.data.toList).length = 5) (w : World) (hG : Gl w) :
    Calls Tryd.prog 16 #[.string t] w fun e w' => e = .returned (parV (Cro.parse t.data.toList)) ∧ w.grownBy w' none := by
  have hlen : t.data.toList.length = t.size := by simp
  have FD := fields_any t ht
  have HB := fun k hk h hb => parse_bad (l := t.data.toList) (k := k) (by omega) h5 hk h hb
  have HK := fun h => parse_ok (l := t.data.toList) (by omega) h5 h
  have HW : Hid (∀ x ∈ Cro.wds [] t.data.toList, (⟨x.toArray⟩ : ByteArray).size ≤ 256) := fun x hx => by
    have := Cro.wds_len t.data.toList [] x hx
    rw [ba_size]
    simp at this
    omega
  obtain ⟨V, hV⟩ : ∃ V, V = Cro.parse t.data.toList := ⟨_, rfl⟩
  rw [← hV] at HB HK ⊢
  clear hV hlen
  generalize Cro.wds [] t.data.toList = ws at *
  have HB' : Hid _ := HB
  have HK' : Hid _ := HK
  clear HB HK
  rw [h5] at FD
  have H5 : Hid (ws.length = 5) := h5
  clear h5
  go_enter Tryd.func16, Tryd.ntmps16
  go_wp2_with (go_at_call 32; go_must (refine (FD _).mono ?_); rintro e w1 ⟨A, rfl, hA, hg, hc⟩)
  have GW : w.grownBy w1 none := grown_more (World.grownBy_alloc w _ none) hg (by simp)
  have KR : Hid (∀ wr, w1.grownBy wr none → Arr7 wr w.heap.size) := fun wr h => Arr7.of (grown_more hg h (by simp))
  have KC : Hid (∀ wr, w1.grownBy wr none → ∀ i x, ws[i]? = some x → wr.cell? ⟨A, i, none⟩ = some (str x)) := fun wr h i x hx => h.cell (hc i x hx) (by simp)
  have HS : w.heap.size < w1.heap.size := size_kept hg
  clear hc hg hA FD
  go_loopw [23] (fun i wr => ∃ k : Nat, k ≤ 5 ∧ i = .int .i64 k ∧ Arr wr w1.heap.size k (fun i => (Cro.F ws i).1) ∧ w1.grownBy wr none ∧ Hid (∀ j, j < k → (Cro.F ws j).2 = 0)) (fun i _ => (5 - (intOf i).toNat))
  case atStart => exact ⟨0, by omega, rfl, Arr.new _ _ _, World.grownBy_alloc _ _ _, fun j hj => by omega⟩
  case round =>
    obtain ⟨k, hk, rfl, hR, hg, HF⟩ := hrel
    have hGr := hG.kept (grown_more GW hg (by simp))
    obtain ⟨⟨d0, d1, d2, d3, d4, d5, d6⟩, fz⟩ := KR.out _ hg
    by_cases hlt : k < 5
    · obtain ⟨x, hx⟩ : ∃ x, ws[k]? = some x := ⟨_, List.getElem?_eq_getElem (by have := H5.out; omega)⟩
      have cx := KC.out _ hg k x hx
      have hxs := HW.out x (List.mem_of_getElem? hx)
      obtain ⟨s0, s1, s2⟩ := hGr.s k hlt
      have hbd := sp_bd k
      have PA := parse_any (Cro.sp k) ⟨x.toArray⟩ hxs (by omega) (by omega) (by omega)
      have hFk : Cro.fld (Cro.sp k) (Cro.spl 44 x) = Cro.F ws k := by
        unfold Cro.F
        rw [List.getD_eq_getElem?_getD, hx]
        rfl
      have e0 : fldV (Cro.fld (Cro.sp k) (Cro.spl 44 (⟨x.toArray⟩ : ByteArray).data.toList)) = .tuple #[.int .u64 (Cro.F ws k).1, .int .i64 (Cro.F ws k).2] := by
        show fldV (Cro.fld (Cro.sp k) (Cro.spl 44 x)) = _
        rw [hFk]
        rfl
      rw [e0] at PA
      clear e0 hFk hxs hx
      have hmr := hGr.m
      clear hGr
      have hRk := hR k hlt
      rw [if_neg (by omega)] at hRk
      obtain ⟨q1, q2⟩ := hRk
      by_cases hE : (Cro.F ws k).2 = 0
      · have HF' : Hid (∀ j, j < k + 1 → (Cro.F ws j).2 = 0) := fun j hj => by
          rcases Nat.lt_succ_iff_lt_or_eq.mp hj with h | rfl
          · exact HF.out j h
          · exact hE
        rw [hE] at PA
        have KS : Hid (∀ w2, wr.grownBy w2 none → Arr (w2.setCell ⟨w1.heap.size, k, none⟩ (.int .u64 ((Cro.F ws k).1 : Nat))) w1.heap.size (k + 1) (fun i => (Cro.F ws i).1)) := fun w2 h => (hR.kept h).set hlt
        have KQ : Hid (∀ w2, wr.grownBy w2 none → w2.cell? ⟨w1.heap.size, k, none⟩ = some (.int .u64 0) ∧ w2.frozen? ⟨w1.heap.size, k, none⟩ = false) := fun w2 h => by
          have := (hR.kept h) k hlt
          rw [if_neg (by omega)] at this
          exact this
        clear hE HF hR q1 q2
        generalize (Cro.F ws k).1 = S at PA KS
        generalize Cro.sp k = f at s0 s1 s2 PA hbd
        go_wp2_with (go_at_call 34; go_must (refine (PA _ hmr).mono ?_); rintro e w2 ⟨rfl, hg2⟩; obtain ⟨q1, q2⟩ := KQ.out _ hg2)
        go_roundw
        case rel => exact ⟨k + 1, by omega, by go_num, KS.out _ hg2, grown_set_new (grown_more hg hg2 (by simp)) _ (by simp) _, HF'⟩
        case measure => simp [intOf]; omega
      · have HV : Hid (V = (Cro.zero, k, (Cro.F ws k).2)) := HB'.out k hlt HF.out hE
        have KR2 : Hid (∀ w2, wr.grownBy w2 none → Arr7 w2 w.heap.size) := fun w2 h => KR.out _ (grown_more hg h (by simp))
        have hE' : ((Cro.F ws k).2 != 0) = true := by simpa using hE
        clear hE HF hR q1 q2 d0 d1 d2 d3 d4 d5 d6 fz
        generalize (Cro.F ws k).1 = S at PA
        generalize (Cro.F ws k).2 = E at PA HV hE'
        generalize Cro.sp k = f at s0 s1 s2 PA hbd
        go_wp2_with (go_at_call 34; go_must (refine (PA _ hmr).mono ?_); rintro e w2 ⟨rfl, hg2⟩; obtain ⟨⟨d0, d1, d2, d3, d4, d5, d6⟩, fz⟩ := KR2.out _ hg2)
        generalize hW : World.setCell _ _ _ = W
        have r0 : W.cell? ⟨w.heap.size, 0, none⟩ = some (.int .u64 0) := by subst hW; go_simp
        have r1 : W.cell? ⟨w.heap.size, 1, none⟩ = some (.int .u64 0) := by subst hW; go_simp
        have r2 : W.cell? ⟨w.heap.size, 2, none⟩ = some (.int .u64 0) := by subst hW; go_simp
        have r3 : W.cell? ⟨w.heap.size, 3, none⟩ = some (.int .u64 0) := by subst hW; go_simp
        have r4 : W.cell? ⟨w.heap.size, 4, none⟩ = some (.int .u64 0) := by subst hW; go_simp
        have r5 : W.cell? ⟨w.heap.size, 5, none⟩ = some (.bool false) := by subst hW; go_simp
        have r6 : W.cell? ⟨w.heap.size, 6, none⟩ = some (.bool false) := by subst hW; go_simp
        have HG : w.grownBy W none := by subst hW; exact grown_set_new (grown_set_new (grown_set_new (grown_set_new (grown_set_new (grown_set_new (grown_set_new (grown_more GW (grown_more hg hg2 (by simp)) (by simp)) _ (by simp) _) _ (by simp) _) _ (by simp) _) _ (by simp) _) _ (by simp) _) _ (by simp) _) _ (by simp) _
        clear hW
        refine bodyPost_ret (v := .tuple #[.agg #[.int .u64 0, .int .u64 0, .int .u64 0, .int .u64 0, .int .u64 0, .bool false, .bool false], .int .i64 k, .int .i64 E]) (by simp [results, Tryd.results16, go_sem, r0, r1, r2, r3, r4, r5, r6]) rfl ?_
        exact ⟨by rw [HV.out]; rfl, HG⟩
    · obtain rfl : k = 5 := by omega
      have HV : Hid _ := HK'.out HF.out
      obtain ⟨x2, hx2⟩ : ∃ x, ws[2]? = some x := ⟨_, List.getElem?_eq_getElem (by have := H5.out; omega)⟩
      obtain ⟨x4, hx4⟩ : ∃ x, ws[4]? = some x := ⟨_, List.getElem?_eq_getElem (by have := H5.out; omega)⟩
      have cx2 := KC.out _ hg 2 x2 hx2
      have cx4 := KC.out _ hg 4 x4 hx4
      have g2 : Hid (ws.getD 2 [] = x2) := by show _ = _; rw [List.getD_eq_getElem?_getD, hx2]; rfl
      have g4 : Hid (ws.getD 4 [] = x4) := by show _ = _; rw [List.getD_eq_getElem?_getD, hx4]; rfl
      have q0 := (hR 0 (by omega)).1
      have q1 := (hR 1 (by omega)).1
      have q2 := (hR 2 (by omega)).1
      have q3 := (hR 3 (by omega)).1
      have q4 := (hR 4 (by omega)).1
      rw [if_pos (by omega)] at q0 q1 q2 q3 q4
      simp only at q0 q1 q2 q3 q4
      generalize (Cro.F ws 0).1 = S0 at q0 HV
      generalize (Cro.F ws 1).1 = S1 at q1 HV
      generalize (Cro.F ws 2).1 = S2 at q2 HV
      generalize (Cro.F ws 3).1 = S3 at q3 HV
      generalize (Cro.F ws 4).1 = S4 at q4 HV
      clear hx2 hx4 hR HF HK' HB' KC hG HW
      go_wp2
      go_region
      go_wp2
      generalize hW : World.setCell _ _ _ = W
      have r0 : W.cell? ⟨w.heap.size, 0, none⟩ = some (.int .u64 S0) := by subst hW; go_simp
      have r1 : W.cell? ⟨w.heap.size, 1, none⟩ = some (.int .u64 S1) := by subst hW; go_simp
      have r2 : W.cell? ⟨w.heap.size, 2, none⟩ = some (.int .u64 S2) := by subst hW; go_simp
      have r3 : W.cell? ⟨w.heap.size, 3, none⟩ = some (.int .u64 S3) := by subst hW; go_simp
      have r4 : W.cell? ⟨w.heap.size, 4, none⟩ = some (.int .u64 S4) := by subst hW; go_simp
      have r5 : W.cell? ⟨w.heap.size, 5, none⟩ = some (.bool (x2 == [42])) := by subst hW; go_simp
      have r6 : W.cell? ⟨w.heap.size, 6, none⟩ = some (.bool (x4 == [42])) := by subst hW; go_simp
      have HG : w.grownBy W none := by subst hW; exact grown_set_new (grown_set_new (grown_set_new (grown_set_new (grown_set_new (grown_set_new (grown_set_new (grown_more GW hg (by simp)) _ (by simp) _) _ (by simp) _) _ (by simp) _) _ (by simp) _) _ (by simp) _) _ (by simp) _) _ (by simp) _
      clear hW
      refine bodyPost_ret (v := .tuple #[.agg #[.int .u64 S0, .int .u64 S1, .int .u64 S2, .int .u64 S3, .int .u64 S4, .bool (x2 == [42]), .bool (x4 == [42])], .int .i64 0, .int .i64 0]) (by simp [results, Tryd.results16, go_sem, r0, r1, r2, r3, r4, r5, r6]) rfl ?_
      exact ⟨by rw [HV.out, g2.out, g4.out]; rfl, grown_drewN HG 1⟩

theorem Parse_any (t : ByteArray) (w : World) (hG : Gl w) :
    Calls Tryd.prog 16 #[.string t] w fun e w' => e = .returned (parV (Cro.parse t.data.toList)) ∧ w.grownBy w' none := by
  by_cases ht : t.size ≤ 256
  · by_cases h5 : (Cro.wds [] t.data.toList).length = 5
    · exact Parse_five t ht h5 w hG
    · exact Parse_words t ht h5 w
  · exact Parse_long t (by omega) w
end Go.Proofs.YteiiapnpdfgoaaaDoor
