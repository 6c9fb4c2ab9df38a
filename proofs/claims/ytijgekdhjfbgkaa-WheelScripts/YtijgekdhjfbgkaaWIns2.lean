/- 'Insert', where it is done; 'Insert', whatever it is asked. -/
import Derived.Test.YtijgekdhjfbgkaaWIns
namespace Go.Proofs.Ytijgekdhjfbgkaa
open Go.RowKit Whl
set_option linter.unusedVariables false

set_option maxRecDepth 100000 in
set_option maxHeartbeats 1600000 in
theorem ins_done (b bm n m : Nat) (x : Int) (D : DataW Unit) (v : Nat → Value) (ls : Nat → List Int) (hx : I64 x) (hD : Maps.size D < 4096) (g1 : n < m) (g2 : m ≤ 226157759) (g3 : (m : Int) - n ≤ 262144) (w : World) (hW : WhD w b n bm D v ls) (hl : (ls (plc n m)).length ≤ 100000)
    (hk : ∀ W, w.grownBy W none → (Instr.lookup 51 (.map (some bm)) (.int .i64 x) true).run Try.prog W = .ok (.tuple #[.int .i64 0, .bool false]) W) :
    Calls Try.prog 10 #[.pointer (some ⟨b, 0, none⟩), .agg #[.int .i64 x, .int .i64 m]] w fun e w' => e = .returned (.int .i64 0) ∧ ∃ v', WhD w' b n bm (D.put (.int .i64 x) (.lit (.int .i64 m))) (upd v (plc n m) v') (upd ls (plc n m) (ls (plc n m) ++ [x])) ∧ (∀ k, v'.ownBlock = some k → (v (plc n m)).ownBlock = some k ∨ w.heap.size ≤ k) ∧ Chg (fun k => k = b ∨ k = bm ∨ (v (plc n m)).ownBlock = some k) w w' := by
  have hc0 : ∀ o, (w.alloc o).cell? ⟨b, 0, none⟩ = some (.int .i64 n) := fun o => (World.grownBy_alloc w o none).cell hW.c0 (by simp)
  have hc1 : ∀ o, (w.alloc o).cell? ⟨b, 1, none⟩ = some (.map (some bm)) := fun o => (World.grownBy_alloc w o none).cell hW.c1 (by simp)
  have d1 : decide ((m : Int) ≤ n) = false := decide_eq_false (by omega)
  have d2 : decide (226157759 < (m : Int)) = false := decide_eq_false (by omega)
  have d3 : decide (262144 < (m : Int) - n) = false := decide_eq_false (by omega)
  have hl' : ∀ o k, (Instr.lookup 51 (.map (some bm)) (.int .i64 x) true).run Try.prog ((w.alloc o).drewN k) = .ok (.tuple #[.int .i64 0, .bool false]) ((w.alloc o).drewN k) := fun o k => hk _ (grown_drewN (World.grownBy_alloc w o none) k)
  have hm' : Hid (∀ o k, ((w.alloc o).drewN k).ownsMap Try.prog 3 (plainElem Try.prog 2) bm (Maps.size D) D) := fun o k => hW.map.kept (grown_drewN (World.grownBy_alloc w o none) k) (by simp)
  have hsz : ((Maps.size D : Nat) == (4096 : Int)) = false := by simp; omega
  have hbm : bm < w.heap.size := hW.map.lt
  have PT : Hid (∀ w2, w.grownBy w2 (some bm) → WhD w2 b n bm (D.put (.int .i64 x) (.lit (.int .i64 m))) v ls → Calls Try.prog 20 #[.pointer (some ⟨b, 0, none⟩), .agg #[.int .i64 x, .int .i64 m]] w2 fun e w' => e = .returned (.tuple #[]) ∧ ∃ v', WhD w' b n bm (D.put (.int .i64 x) (.lit (.int .i64 m))) (upd v (plc n m) v') (upd ls (plc n m) (ls (plc n m) ++ [x])) ∧ (∀ k, v'.ownBlock = some k → (v (plc n m)).ownBlock = some k ∨ w2.heap.size ≤ k) ∧ Chg (fun k => k = b ∨ (v (plc n m)).ownBlock = some k) w2 w') :=
    fun w2 _ h => put_any b n bm _ v ls x m (by omega) g2 w2 h hl
  have HW : Hid (WhD w b n bm D v ls) := hW
  have hxm : Hid (plainElem (H := Unit) Try.prog 2 (.int .i64 (m : Int)) = some (.lit (.int .i64 m), [])) := elem64 ⟨by omega, by omega⟩
  have hxk : Hid (keyOf Try.prog 3 (.int .i64 x) = some (.int .i64 x)) := key64 hx
  have b1 : (0 : Int) ≤ n := by omega
  have b2 : (n : Int) < m := by omega
  have b3 : (m : Int) ≤ 226157759 := by omega
  clear hk hW hl
  generalize (n : Int) = now at *
  generalize (m : Int) = t at *
  go_enter Try.func10, Try.ntmps10
  go_wp2
  go_quiet (fail)
  go_upto_region 5 with fail
  refine region_still (by kernel_rfl) (by kernel_rfl) ?_
  iterate 12 still_step
  refine wpStill_nil ?_
  go_upto_region 10 with (at_len; refine wpList_len_own _ rfl _ 51 rfl 3 2 Try.underlying51 _ bm (Maps.size D) D rfl (hm'.out _ _) ?_)
  refine region_tail 8 (by kernel_rfl) (by kernel_rfl) ?_
  simp only [List.take_succ_cons, List.take_zero, List.drop_succ_cons, List.drop_zero]
  iterate 8 still_step
  refine wpStill_nil ?_
  have hm2 : Hid (∀ o k, ((w.alloc o).drewN k).drew.drew.ownsMap Try.prog 3 (plainElem Try.prog 2) bm (Maps.size D) D) := fun o k => HW.out.map.kept (grown_drew (grown_drew (grown_drewN (World.grownBy_alloc w o none) k))) (by simp)
  have kc : Hid (∀ o k w2, ((w.alloc o).drewN k).drew.drew.grownBy w2 (some bm) → w.grownBy w2 (some bm) ∧ (w.alloc o).grownBy w2 (some bm)) := fun o k w2 g => ⟨grown_more ((grown_drew (grown_drew (grown_drewN (World.grownBy_alloc w o none) k))).but _) g (fun _ e => .inl e), grown_more ((grown_drew (grown_drew (grown_drewN (grown_refl _ none) k))).but _) g (fun _ e => .inl e)⟩
  go_wp2_with (first
    | (at_mapUpdate; refine wpList_mapUpdate_own _ rfl _ _ _ 51 rfl 3 2 mapLaw Try.underlying51 _ bm (Maps.size D) _ rfl (hm2.out _ _) (by unfold maxLen; omega) _ _ _ rfl rfl hxk.out _ [] hxm.out ?_; intro w2 hm3 hg2; have g2w := (kc.out _ _ _ hg2).1; have hW2 := HW.out.put g2w hm3; have x0 := (kc.out _ _ _ hg2).2.cell (a := ⟨w.heap.size, 0, none⟩) (new_at w rfl rfl) (fun e => by injection e with e; simp at e; omega); have x1 := (kc.out _ _ _ hg2).2.cell (a := ⟨w.heap.size, 1, none⟩) (new_at w rfl rfl) (fun e => by injection e with e; simp at e; omega))
    | (go_at_call 20; (with_reducible refine (PT.out _ g2w hW2).mono ?_); rintro e w3 ⟨rfl, v', hW3, hv3, hC3⟩))
  go_ret
  refine ⟨rfl, v', hW3, fun k hk => ?_, ?_⟩
  · rcases hv3 k hk with e | e
    · exact .inl e
    · exact .inr (Nat.le_trans g2w.size e)
  · exact (Chg.of g2w fun k hk => .inr (.inl (by injection hk with hk; exact hk.symm))).trans hC3 fun k hk => .inl (by rcases hk with e | e; exact .inl e; exact .inr (.inr e))
theorem insert_any (b : Nat) (now : Int) (L : List It) (F : Nat → Prop) (i : It) (hi : I64 i.1) (w : World) (h : Wh w b now L F) :
    Calls Try.prog 10 #[.pointer (some ⟨b, 0, none⟩), .agg #[.int .i64 i.1, .int .i64 i.2]] w fun e w' => e = .returned (.int .i64 (insE now L i)) ∧ ∃ F', Wh w' b now (insL now L i) F' ∧ (∀ k, F' k → F k ∨ w.heap.size ≤ k) ∧ Chg F w w' := by
  obtain ⟨bm, D, v, ls, hW, hF, hT, hH, hO⟩ := id h
  have n0 := hO.n0
  have n1 := hO.n1
  have same : insE now L i ≠ 0 → ∀ er, insE now L i = er → ∀ (e : Ending) (w' : World), e = .returned (.int .i64 er) ∧ w.grownBy w' none → e = .returned (.int .i64 (insE now L i)) ∧ ∃ F', Wh w' b now (insL now L i) F' ∧ (∀ k, F' k → F k ∨ w.heap.size ≤ k) ∧ Chg F w w' := by
    rintro h0 er he e w' ⟨rfl, hg⟩
    refine ⟨by rw [he], F, ?_, fun k hk => .inl hk, Chg.of hg (by simp)⟩
    unfold insL
    rw [if_neg h0]
    exact h.kept (Chg.of (F := fun _ => False) hg (by simp)) (by simp)
  by_cases ht : i.2 ≤ now ∨ 226157759 < i.2 ∨ 262144 < i.2 - now
  · have e : insE now L i = 30 := by unfold insE; rw [if_pos ht]
    exact (ins_time b now i.1 i.2 ht n0 n1 w hW.c0).mono (same (by omega) 30 e)
  · cases hany : L.any (fun a => a.1 == i.1) with
    | true =>
      have e : insE now L i = 150 := by unfold insE; rw [if_neg ht, if_pos hany]
      obtain ⟨a, ha, hai⟩ := List.any_eq_true.1 hany
      have hai : a.1 = i.1 := by simpa using hai
      refine (ins_has b bm now i.1 i.2 a.2 (by omega) (by omega) (by omega) n0 w hW.c0 hW.c1 fun W g => ?_).mono (same (by omega) 150 e)
      rw [← hai]
      exact look_yes (hW.map.kept g (by simp)) hT ha (by rw [hai]; exact hi)
    | false =>
      have hn := any_id hany
      have hlk : ∀ W, w.grownBy W none → (Instr.lookup 51 (.map (some bm)) (.int .i64 i.1) true).run Try.prog W = .ok (.tuple #[.int .i64 0, .bool false]) W := fun W g => look_no (hW.map.kept g (by simp)) hT hn hi
      by_cases hfull : L.length = 4096
      · have e : insE now L i = 3 := by unfold insE; rw [if_neg ht, hany, if_neg (by simp), if_pos hfull]
        exact (ins_full b bm now i.1 i.2 D _ (by rw [hT.size, hfull]) (by omega) (by omega) (by omega) n0 w hW.c0 hW.c1 hW.map hlk).mono (same (by omega) 3 e)
      · have e : insE now L i = 0 := by unfold insE; rw [if_neg ht, hany, if_neg (by simp), if_neg hfull]
        have hlen := hO.len
        obtain ⟨n, rfl⟩ : ∃ n : Nat, now = n := ⟨now.toNat, by omega⟩
        obtain ⟨m, hm⟩ : ∃ m : Nat, i.2 = m := ⟨i.2.toNat, by omega⟩
        have hp := plc_lt n m
        rw [e, hm]
        refine (ins_done b bm n m i.1 D v ls hi (by rw [hT.size]; omega) (by omega) (by omega) (by omega) w hW (by have := hH.len hp; omega) hlk).mono ?_
        rintro _ w' ⟨rfl, v', hW', hv', hC⟩
        have hC' : Chg F w w' := ⟨hC.os, hC.tape, hC.output, hC.size, fun k hk hn => hC.block k hk fun c => hn (by
          rcases c with rfl | rfl | c
          · exact hF.fb
          · exact hF.fm
          · exact hF.fv _ hp k c)⟩
        refine ⟨rfl, grF F w w', ?_, fun k hk => hk.2, hC'⟩
        refine ⟨bm, _, _, _, hW', hF.more hW' (fun q hq k hk => ?_), ?_, ?_, hO.ins i hi⟩
        · by_cases eq : q = plc n m
          · subst eq
            rw [upd_same] at hk
            rcases hv' k hk with c | c
            · exact .inl (hF.fv _ hp k c)
            · exact .inr c
          · rw [upd_other _ _ eq] at hk
            exact .inl (hF.fv q hq k hk)
        · unfold insL
          rw [if_pos e, ← hm]
          exact hT.ins (hW.map.tidy mapLaw) hi hn
        · unfold insL
          rw [if_pos e]
          have := hH.add hn
          rw [hm] at this
          exact this
end Go.Proofs.Ytijgekdhjfbgkaa
