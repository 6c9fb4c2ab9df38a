/- 'Cancel', whatever it is asked. -/
import Derived.Test.YtijgekdhjfbgkaaWCan
namespace Go.Proofs.Ytijgekdhjfbgkaa
open Go.RowKit Go.Sort Go.Shelf Whl
set_option linter.unusedVariables false

set_option maxRecDepth 100000 in
set_option maxHeartbeats 1600000 in
theorem can_none (b bm : Nat) (x : Int) (w : World) (c1 : w.cell? ⟨b, 1, none⟩ = some (.map (some bm)))
    (hl : ∀ W, w.grownBy W none → (Instr.lookup 51 (.map (some bm)) (.int .i64 x) true).run Try.prog W = .ok (.tuple #[.int .i64 0, .bool false]) W) :
    Calls Try.prog 12 #[.pointer (some ⟨b, 0, none⟩), .int .i64 x] w fun e w' => e = .returned (.bool false) ∧ w.grownBy w' none := by
  have hnot : ∀ (x : Bool) (w : World), (Op.unary .not (.bool x)).run Try.prog w = .ok (.bool (!x)) w := fun _ _ => rfl
  have hc1 : ∀ o, (w.alloc o).cell? ⟨b, 1, none⟩ = some (.map (some bm)) := fun o => (World.grownBy_alloc w o none).cell c1 (by simp)
  have hl' : ∀ o, (Instr.lookup 51 (.map (some bm)) (.int .i64 x) true).run Try.prog (w.alloc o).drew = .ok (.tuple #[.int .i64 0, .bool false]) (w.alloc o).drew := fun o => hl _ (grown_drew (World.grownBy_alloc w o none))
  clear hl c1
  go_enter Try.func12, Try.ntmps12
  go_upto_region 3 with fail
  refine region_still (by kernel_rfl) (by kernel_rfl) ?_
  iterate 11 still_step
  refine wpStill_nil ?_
  go_wp2
  go_ret
  exact ⟨rfl, grown_drew (World.grownBy_alloc w _ none)⟩

set_option maxRecDepth 100000 in
set_option maxHeartbeats 3200000 in
theorem can_done (b bm n t : Nat) (x : Int) (D : DataW Unit) (v : Nat → Value) (ls : Nat → List Int) (hx : I64 x) (hn : n ≤ 226157759) (ht : t ≤ 226157759) (w : World) (hW : WhD w b n bm D v ls) (hl : (ls (plc n t)).length ≤ 100000) (hne : ls (plc n t) ≠ [])
    (hk : ∀ W, w.grownBy W none → (Instr.lookup 51 (.map (some bm)) (.int .i64 x) true).run Try.prog W = .ok (.tuple #[.int .i64 t, .bool true]) W) :
    Calls Try.prog 12 #[.pointer (some ⟨b, 0, none⟩), .int .i64 x] w fun e w' => e = .returned (.bool true) ∧ ∃ v', WhD w' b n bm (D.del (.int .i64 x)) (upd v (plc n t) v') (upd ls (plc n t) ((ls (plc n t)).filter fun y => y != x)) ∧ (∀ k, v'.ownBlock = some k → (v (plc n t)).ownBlock = some k) ∧ Chg (fun k => k = b ∨ k = bm ∨ (v (plc n t)).ownBlock = some k) w w' := by
  have hnot : ∀ (x : Bool) (w : World), (Op.unary .not (.bool x)).run Try.prog w = .ok (.bool (!x)) w := fun _ _ => rfl
  have PL := place_any n t hn ht
  have hp := plc_lt n t
  generalize plc n t = p at PL hp hl hne ⊢
  have hpi : (p : Int) < 193 := by omega
  have hc1 : ∀ o, (w.alloc o).cell? ⟨b, 1, none⟩ = some (.map (some bm)) := fun o => (World.grownBy_alloc w o none).cell hW.c1 (by simp)
  have hl' : ∀ o, (Instr.lookup 51 (.map (some bm)) (.int .i64 x) true).run Try.prog (w.alloc o).drew = .ok (.tuple #[.int .i64 t, .bool true]) (w.alloc o).drew := fun o => hk _ (grown_drew (World.grownBy_alloc w o none))
  have hbm : bm < w.heap.size := hW.map.lt
  have hblt : b < w.heap.size := World.block_lt_of_cell? w _ hW.c0
  have HW : Hid (WhD w b n bm D v ls) := hW
  have hm2 : Hid (∀ o, (w.alloc o).drew.drew.ownsMap Try.prog 3 (plainElem Try.prog 2) bm (Maps.size D) D) := fun o => hW.map.kept (grown_drew (grown_drew (World.grownBy_alloc w o none))) (by simp)
  have kc : Hid (∀ o w2, (w.alloc o).drew.drew.grownBy w2 (some bm) → w.grownBy w2 (some bm) ∧ (w.alloc o).grownBy w2 (some bm)) := fun o w2 g => ⟨grown_more ((grown_drew (grown_drew (World.grownBy_alloc w o none))).but _) g (fun _ e => .inl e), grown_more ((grown_drew (grown_drew (grown_refl _ none))).but _) g (fun _ e => .inl e)⟩
  have hxk : Hid (keyOf Try.prog 3 (.int .i64 x) = some (.int .i64 x)) := key64 hx
  clear hk hW
  go_enter Try.func12, Try.ntmps12
  go_upto_region 3 with fail
  refine region_still (by kernel_rfl) (by kernel_rfl) ?_
  iterate 11 still_step
  refine wpStill_nil ?_
  go_upto_region 6 with fail
  refine region_tail 5 (by kernel_rfl) (by kernel_rfl) ?_
  simp only [List.take_succ_cons, List.take_zero, List.drop_succ_cons, List.drop_zero]
  iterate 5 still_step
  refine wpStill_nil ?_
  go_upto_region 8 with (first
    | (at_delete; refine wpList_delete_own _ rfl _ _ 51 3 rfl 2 mapLaw Try.underlying51 _ bm (Maps.size D) D rfl (hm2.out _) _ _ rfl hxk.out ?_; intro w2 hm3 ht2; have g2w := (kc.out _ _ ht2.grown).1; have g2a := (kc.out _ _ ht2.grown).2; have hW2 := HW.out.put g2w hm3; have x0 := g2a.cell (a := ⟨w.heap.size, 0, none⟩) (new_at w rfl rfl) (fun e => by injection e with e; simp at e; omega); have c20 := hW2.c0; have c2p := hW2.cp p hp; clear ht2)
    | (go_at_call 21; (with_reducible refine (PL _).mono ?_); rintro e w3 ⟨rfl, rfl⟩))
  have hBlt : w.heap.size < w3.heap.size := World.block_lt_of_cell? w3 _ x0
  have hBv : (v p).ownBlock ≠ some w.heap.size := fun e => by have := ((HW.out.row p hp).lt _ e).2; omega
  have DF := delete_any x w.heap.size (v p) (ls p) w3.drew hl hne (hW2.row p hp) hBlt hBv x0
  have kb : ∀ {w4}, w3.drew.grownBy w4 (v p).ownBlock → w4.cell? ⟨b, 2 + p, none⟩ = some (v p) ∧ w4.frozen? ⟨b, 2 + p, none⟩ = false := fun {w4} g => by
    have hnb : some b ≠ (v p).ownBlock := fun e => hW2.nb p hp e.symm
    refine ⟨g.cell (show w3.drew.cell? _ = _ from hW2.cp p hp) hnb, ?_⟩
    rw [World.frozen?_of_block (w := w3.drew) (g.block b (World.block_lt_of_cell? _ _ (show w3.drew.cell? ⟨b, 0, none⟩ = _ from hW2.c0)) hnb)]
    exact hW2.fr _
  have HW2 : Hid _ := hW2
  clear hW2 c20 hne hm3
  go_region_with (go_at_call 22; (with_reducible refine DF.mono ?_); rintro e w4 ⟨ad, m, c, rfl, hO4, hg4, hl4⟩; have c4 := (kb hg4).1; have f4 := (kb hg4).2)
  all_goals
    go_wp2
    go_ret
    have gg : w3.grownBy w4 (v p).ownBlock := grown_more ((grown_drew (grown_refl w3 none)).but _) hg4 (fun _ e => .inl e)
    have LK : ∀ k, (Value.slice ad m c).ownBlock = some k → (v p).ownBlock = some k := fun k hk => by rw [← hl4]; exact hk
    have R := HW2.out.lay hp gg (.slice ad m c) ((ls p).filter fun y => y != x) hO4 (fun k hk => .inl (LK k hk))
    exact ⟨rfl, _, R.1, LK, (Chg.of g2w fun k hk => .inr (.inl (by injection hk with hk; exact hk.symm))).trans R.2 fun k hk => .inl (by rcases hk with e | e; exact .inl e; exact .inr (.inr e))⟩
theorem Held.drop {now : Int} {L : List It} {ls : Nat → List Int} (h : Held now L ls) {a : It} (ha : a ∈ L) (hu : Uni L) : Held now (dropL a.1 L) (upd ls (plc now.toNat a.2.toNat) ((ls (plc now.toNat a.2.toNat)).filter fun y => y != a.1)) := by
  have key : ∀ q id, (∃ c ∈ dropL a.1 L, c.1 = id ∧ plc now.toNat c.2.toNat = q) ↔ id ≠ a.1 ∧ ∃ c ∈ L, c.1 = id ∧ plc now.toNat c.2.toNat = q := fun q id => by
    unfold dropL
    constructor
    · rintro ⟨c, hc, e1, e2⟩
      obtain ⟨c1, c2⟩ := List.mem_filter.1 hc
      exact ⟨by rw [← e1]; simpa using c2, c, c1, e1, e2⟩
    · rintro ⟨hne, c, hc, e1, e2⟩
      exact ⟨c, List.mem_filter.2 ⟨hc, by rw [e1]; simpa using hne⟩, e1, e2⟩
  intro q hq
  obtain ⟨h1, h2⟩ := h q hq
  by_cases e : q = plc now.toNat a.2.toNat
  · subst e
    rw [upd_same]
    refine ⟨h1.filter _, fun id => ?_⟩
    rw [key, List.mem_filter, h2]
    constructor
    · rintro ⟨k1, k2⟩
      exact ⟨by simpa using k2, k1⟩
    · rintro ⟨k1, k2⟩
      exact ⟨k2, by simpa using k1⟩
  · rw [upd_other _ _ e]
    refine ⟨h1, fun id => ?_⟩
    rw [key, h2]
    constructor
    · rintro ⟨c, hc, e1, e2⟩
      refine ⟨fun c' => e ?_, c, hc, e1, e2⟩
      rw [← e2, hu c hc a ha (by rw [e1, c'])]
    · exact fun k => k.2
theorem cancel_any (b : Nat) (now : Int) (L : List It) (F : Nat → Prop) (x : Int) (hx : I64 x) (w : World) (h : Wh w b now L F) :
    Calls Try.prog 12 #[.pointer (some ⟨b, 0, none⟩), .int .i64 x] w fun e w' => e = .returned (.bool (L.any fun a => a.1 == x)) ∧ ∃ F', Wh w' b now (dropL x L) F' ∧ (∀ k, F' k → F k ∨ w.heap.size ≤ k) ∧ Chg F w w' := by
  obtain ⟨bm, D, v, ls, hW, hF, hT, hH, hO⟩ := id h
  have n0 := hO.n0
  have n1 := hO.n1
  cases hany : L.any (fun a => a.1 == x) with
  | false =>
    have hn := any_id hany
    refine (can_none b bm x w hW.c1 fun W g => look_no (hW.map.kept g (by simp)) hT hn hx).mono ?_
    rintro _ w' ⟨rfl, hg⟩
    refine ⟨rfl, F, ?_, fun k hk => .inl hk, Chg.of hg (by simp)⟩
    have e : dropL x L = L := List.filter_eq_self.2 fun a ha => by simpa using hn a ha
    rw [e]
    exact h.kept (Chg.of (F := fun _ => False) hg (by simp)) (by simp)
  | true =>
    obtain ⟨a, ha, hax⟩ := List.any_eq_true.1 hany
    have hax : a.1 = x := by simpa using hax
    subst hax
    have hlen := hO.len
    have l1 := hO.lo a ha
    have l2 := hO.hi a ha
    obtain ⟨n, rfl⟩ : ∃ n : Nat, now = n := ⟨now.toNat, by omega⟩
    obtain ⟨m, hm⟩ : ∃ m : Nat, a.2 = m := ⟨a.2.toNat, by omega⟩
    have hp := plc_lt n m
    have hmem : a.1 ∈ ls (plc n m) := ((hH _ hp).2 _).2 ⟨a, ha, rfl, by rw [hm]; rfl⟩
    refine (can_done b bm n m a.1 D v ls hx (by omega) (by omega) w hW (by have := hH.len hp; omega) (fun e => by rw [e] at hmem; cases hmem) fun W g => ?_).mono ?_
    · rw [← hm]
      exact look_yes (hW.map.kept g (by simp)) hT ha hx
    rintro _ w' ⟨rfl, v', hW', hv', hC⟩
    have hC' : Chg F w w' := ⟨hC.os, hC.tape, hC.output, hC.size, fun k hk hn => hC.block k hk fun c => hn (by
      rcases c with rfl | rfl | c
      · exact hF.fb
      · exact hF.fm
      · exact hF.fv _ hp k c)⟩
    refine ⟨rfl, grF F w w', ⟨bm, _, _, _, hW', hF.more hW' (fun q hq k hk => ?_), hT.drop (hW.map.tidy mapLaw) hO.uni (srt_nodup hO.srt) ha, ?_, hO.drop a.1⟩, fun k hk => hk.2, hC'⟩
    · by_cases eq : q = plc n m
      · subst eq
        rw [upd_same] at hk
        exact .inl (hF.fv _ hp k (hv' k hk))
      · rw [upd_other _ _ eq] at hk
        exact .inl (hF.fv q hq k hk)
    · have := hH.drop ha hO.uni
      rw [hm] at this
      exact this
end Go.Proofs.Ytijgekdhjfbgkaa
