/- The reference's 'Insert'. -/
import Derived.Test.YtijgekdhjfbgkaaWRefC
namespace Go.Proofs.Ytijgekdhjfbgkaa
open Go.RowKit Go.Sort Whl
set_option linter.unusedVariables false
/-- 'append(v, i)', v a slice of items of its own. -/
theorem wp_append_item {w : World} {o : Oper} {a : Act} {K : Act → World → Prop} {Q : Exit → Act → World → Prop} (s x : Operand)
    (ho : o.op = .call { callee := .builtin .append, args := #[s, x], argTypes := #[29, 29] })
    (v : Value) (l : List It) (hs : a.eval s = v) (hown : w.ownsRow 0 33 2 v l.length (cells l)) (q : Nat) (i : It) (hx : a.eval x = .slice (some ⟨q, 0, none⟩) 1 1) (h0 : w.cell? ⟨q, 0, none⟩ = some (.int .i64 i.1)) (h1 : w.cell? ⟨q, 1, none⟩ = some (.int .i64 i.2))
    (hb : l.length ≤ 100000)
    (h : ∀ ad m c w', w'.ownsRow 0 33 2 (.slice ad m c) (l ++ [i]).length (cells (l ++ [i])) → w.grownBy w' v.ownBlock → ((Value.slice ad m c).ownBlock = v.ownBlock ∨ (Value.slice ad m c).ownBlock = some w.heap.size) → K (a.put o.dst (.slice ad m c)) w') : o.wp Try.prog a w K Q := by
  obtain ⟨ii, hi, hz0, hz1, hz2⟩ := info_parts info_item
  obtain ⟨v', w', hr, h2, h3, h4, h5⟩ := run_append_own_at (P := Try.prog) w 0 29 o.type 33 ii (.agg #[.int .i64 0, .int .i64 0]) 2 16 Try.underlying29 hi hz0 hz1 hz2 rfl (by decide) v l.length (cells l) hown ⟨q, 0, none⟩ 1 1 (cells [i]) rfl
    (fun j u hu => by
      rw [cells_cons, cells_nil] at hu
      match j, hu with
      | 0, hu => simp at hu; subst hu; rw [Addr.add_lit]; exact h0
      | 1, hu => simp at hu; subst hu; rw [Addr.add_lit]; exact h1
      | j + 2, hu => simp at hu) (cells_one [i]) (by unfold maxLen; omega) (by omega) (Nat.zero_le _)
  unfold Oper.wp execOp
  simp only [ho, resolve, invoke, builtin, Sem.run_bind, Sem.run_pure, Result.andThen_ok, List.map_toArray, List.map_cons, List.map_nil, hs, hx, hr]
  obtain ⟨ad, m, c, rfl⟩ : ∃ ad m c, v' = .slice ad m c := by
    rcases h2.2 with ⟨e, _⟩ | ⟨g, cap, cur, e, _⟩
    · exact ⟨_, _, _, e⟩
    · exact ⟨_, _, _, e⟩
  exact h ad m c w' (by rw [cells_append, List.length_append]; exact h2) h3 h5
namespace Whl
/-- How many of the first n stand ahead of i. -/
def cnt (L : List It) (i : It) (n : Nat) : Nat := ((L.take n).filter fun a => bef a i).length
theorem cnt_zero (L : List It) (i : It) : cnt L i 0 = 0 := by simp [cnt]
theorem cnt_le (L : List It) (i : It) (n : Nat) : cnt L i n ≤ n := Nat.le_trans (List.length_filter_le _ _) (List.length_take_le _ _)
theorem cnt_no {L : List It} {i a : It} {n : Nat} (h : L[n]? = some a) (hb : bef a i = false) : cnt L i (n + 1) = cnt L i n := by
  unfold cnt
  rw [List.take_add_one, h, List.filter_append]
  simp [hb]
theorem bef_all {L : List It} (hs : Srt L) {i a : It} {n : Nat} (h : L[n]? = some a) (hb : bef a i = true) : ∀ b ∈ L.take (n + 1), bef b i = true := fun b hm => by
  obtain ⟨hlt, he⟩ := List.getElem?_eq_some_iff.1 h
  obtain ⟨j, hj, e⟩ := List.mem_iff_getElem.1 hm
  rw [List.length_take] at hj
  rw [List.getElem_take] at e
  by_cases c : j = n
  · subst c; rw [← e, he]; exact hb
  · have := List.pairwise_iff_getElem.1 hs j n (by omega) hlt (by omega)
    rw [e, he] at this
    exact bef_trans this hb
theorem cnt_yes {L : List It} (hs : Srt L) {i a : It} {n : Nat} (h : L[n]? = some a) (hb : bef a i = true) : cnt L i (n + 1) = n + 1 := by
  obtain ⟨hlt, he⟩ := List.getElem?_eq_some_iff.1 h
  unfold cnt
  rw [List.filter_eq_self.2 (bef_all hs h hb), List.length_take]
  omega
theorem bef_split : ∀ {L : List It}, Srt L → ∀ (i : It), L.take (L.filter fun a => bef a i).length = (L.filter fun a => bef a i) ∧ L.drop (L.filter fun a => bef a i).length = L.filter fun a => !bef a i
  | [], _, i => ⟨rfl, rfl⟩
  | b :: L, h, i => by
    obtain ⟨p1, p2⟩ := List.pairwise_cons.1 h
    have ih := bef_split p2 i
    cases hb : bef b i with
    | true =>
      rw [List.filter_cons_of_pos (p := fun a => bef a i) hb, List.filter_cons_of_neg (p := fun a => !bef a i) (by simp [hb])]
      exact ⟨by rw [List.length_cons, List.take_succ_cons, ih.1], by rw [List.length_cons, List.drop_succ_cons, ih.2]⟩
    | false =>
      have none : L.filter (fun a => bef a i) = [] := List.filter_eq_nil_iff.2 fun a ha e => by
        have := bef_trans (p1 a ha) e
        rw [this] at hb
        cases hb
      rw [List.filter_cons_of_neg (p := fun a => bef a i) (by simp [hb]), none, List.filter_cons_of_pos (p := fun a => !bef a i) (by simp [hb])]
      refine ⟨rfl, ?_⟩
      rw [none] at ih
      rw [← ih.2]
      rfl
theorem ins_at {L : List It} (hs : Srt L) (i : It) : ins i L = L.take (cnt L i L.length) ++ [i] ++ L.drop (cnt L i L.length) := by
  unfold cnt
  rw [List.take_length]
  obtain ⟨e1, e2⟩ := bef_split hs i
  rw [e1, e2]
  unfold ins
  simp
end Whl

set_option maxRecDepth 100000 in
set_option maxHeartbeats 1600000 in
theorem rins_time (b : Nat) (now x t : Int) (h : t ≤ now ∨ 226157759 < t ∨ 262144 < t - now) (h0 : 0 ≤ now) (h1 : now ≤ 226157759) (w : World) (c0 : w.cell? ⟨b, 0, none⟩ = some (.int .i64 now)) :
    Calls Try.prog 11 #[.pointer (some ⟨b, 0, none⟩), .agg #[.int .i64 x, .int .i64 t]] w fun e w' => e = .returned (.int .i64 30) ∧ w.grownBy w' none := by
  have hc0 : ∀ o, (w.alloc o).cell? ⟨b, 0, none⟩ = some (.int .i64 now) := fun o => (World.grownBy_alloc w o none).cell c0 (by simp)
  clear c0
  by_cases g1 : t ≤ now
  · go_enter Try.func11, Try.ntmps11
    go_wp2
    go_quiet (fail)
    go_wp2
    go_ret
    exact ⟨rfl, grown_drewN (World.grownBy_alloc w _ none) _⟩
  · have d1 : decide (t ≤ now) = false := decide_eq_false g1
    by_cases g2 : 226157759 < t
    · go_enter Try.func11, Try.ntmps11
      go_wp2
      go_quiet (fail)
      go_wp2
      go_ret
      exact ⟨rfl, grown_drewN (World.grownBy_alloc w _ none) _⟩
    · have d2 : decide (226157759 < t) = false := decide_eq_false g2
      have g3 : 262144 < t - now := by omega
      clear h
      go_enter Try.func11, Try.ntmps11
      go_wp2
      go_quiet (fail)
      go_wp2
      go_ret
      exact ⟨rfl, grown_drewN (World.grownBy_alloc w _ none) _⟩

set_option maxRecDepth 100000 in
set_option maxHeartbeats 6400000 in
theorem rins_in (q : Nat) (now : Int) (L : List It) (G : Nat → Prop) (i : It) (hO : Ok now L) (g1 : now < i.2) (g2 : i.2 ≤ 226157759) (g3 : i.2 - now ≤ 262144) (w : World) (h : RW w q now L G) :
    Calls Try.prog 11 #[.pointer (some ⟨q, 0, none⟩), .agg #[.int .i64 i.1, .int .i64 i.2]] w fun e w' => e = .returned (.int .i64 (insE now L i)) ∧ ∃ G', RW w' q now (insL now L i) G' ∧ (∀ k, G' k → G k ∨ w.heap.size ≤ k) ∧ Chg G w w' := by
  obtain ⟨v, h1, O, hq, hG⟩ := h.ex
  obtain ⟨ad, cp, rfl⟩ := own_form O
  have hlen := hO.len
  have hn0 := hO.n0
  have HO : Hid (Ok now L) := hO
  have HH : Hid (RW w q now L G) := h
  have gq := h.gq
  have hqlt : q < w.heap.size := h.lt q h.gq
  have hc0 : ∀ o, (w.alloc o).cell? ⟨q, 0, none⟩ = some (.int .i64 now) := fun o => (World.grownBy_alloc w o none).cell h.c0 (by simp)
  have d1 : decide (i.2 ≤ now) = false := decide_eq_false (by omega)
  have d2 : decide (226157759 < i.2) = false := decide_eq_false (by omega)
  have d3 : decide (262144 < i.2 - now) = false := decide_eq_false (by omega)
  have ee : ∀ er, er ≠ 0 → insE now L i = er → insL now L i = L := fun er h0 h1 => by unfold insL; rw [if_neg (by omega)]
  have ht : ¬ (i.2 ≤ now ∨ 226157759 < i.2 ∨ 262144 < i.2 - now) := by omega
  clear h hO
  go_enter Try.func11, Try.ntmps11
  go_wp2
  go_quiet (fail)
  go_upto_block 0 with fail
  generalize hw1 : (w.alloc (Obj.cells #[.int .i64 i.1, .int .i64 i.2] 33)).drewN _ = w1
  have K1 : w.grownBy w1 none := by rw [← hw1]; exact grown_drewN (World.grownBy_alloc w _ none) _
  have x0 : w1.cell? ⟨w.heap.size, 0, none⟩ = some (.int .i64 i.1) := by rw [← hw1]; exact new_at w rfl rfl
  have x1 : w1.cell? ⟨w.heap.size, 1, none⟩ = some (.int .i64 i.2) := by rw [← hw1]; exact new_at w rfl rfl
  have k0 := K1.cell HH.out.c0 (by simp)
  have k1 := K1.cell h1 (by simp)
  have kf : ∀ j, w1.frozen? ⟨q, j, none⟩ = false := fun j => by rw [World.frozen?_of_block (w := w) (K1.block q hqlt (by simp))]; exact HH.out.fr j
  have O1 := kept_ne O K1 (by simp)
  clear hw1 hc0 h1 O
  go_wp2_with fail
  go_loopw [5, 6] (fun p k wr => ∃ n : Nat, n ≤ L.length ∧ k = .int .i64 n ∧ p = .int .i64 (cnt L i n) ∧ w1.grownBy wr none ∧ Hid (∀ (j : Nat) (a : It), j < n → L[j]? = some a → a.1 ≠ i.1)) (fun _ k _ => (9000 - intOf k).toNat)
  case atStart => exact ⟨0, by omega, rfl, by rw [cnt_zero]; rfl, grown_refl _ _, fun j a hj => absurd hj (by omega)⟩
  case round =>
    obtain ⟨n, hn, rfl, rfl, hGr, HL⟩ := hrel
    have y0 := hGr.cell x0 (by simp)
    have y1 := hGr.cell x1 (by simp)
    have l0 := hGr.cell k0 (by simp)
    have l1 := hGr.cell k1 (by simp)
    have O2 := kept_ne O1 hGr (by simp)
    by_cases hlt : n < L.length
    · obtain ⟨a, han⟩ : ∃ a, L[n]? = some a := ⟨L[n], List.getElem?_eq_getElem hlt⟩
      obtain ⟨g, o, hix, cx, cy⟩ := (Ri.of_own O2).idx han
      have HA : Hid (L[n]? = some a) := han
      have hcl := cnt_le L i n
      have HY : Hid (bef a i = true → cnt L i (n + 1) = n + 1) := fun hb => cnt_yes HO.out.srt HA.out hb
      have HNo : Hid (bef a i = false → cnt L i (n + 1) = cnt L i n) := fun hb => cnt_no HA.out hb
      have BF := fun w => before_any a i w
      clear han
      go_upto_region 7 with fail
      refine region_still (by kernel_rfl) (by kernel_rfl) ?_
      iterate 11 still_step
      refine wpStill_nil ?_
      by_cases hat : a.1 = i.1
      · have hd : (a.1 == i.1) = true := by simpa using hat
        have hE : insE now L i = 150 := by
          unfold insE
          rw [if_neg ht, if_pos (List.any_eq_true.2 ⟨a, List.mem_of_getElem? HA.out, by simpa using hat⟩)]
        have hg : w.grownBy wr.drew none := grown_drew (grown_more K1 hGr (by simp))
        go_wp2_with fail
        go_ret
        exact ⟨ret_int hE.symm, G, by rw [ee 150 (by decide) hE]; exact HH.out.kept (Chg.of (F := fun _ => False) hg (by simp)) (fun _ _ => id), fun k hk => .inl hk, Chg.of hg (by simp)⟩
      · have hd : (a.1 == i.1) = false := by simpa using hat
        have HL' : Hid (∀ (j : Nat) (b : It), j < n + 1 → L[j]? = some b → b.1 ≠ i.1) := fun j b hj hb => by
          by_cases e : j = n
          · subst e; rw [HA.out] at hb; cases hb; exact hat
          · exact HL.out j b (by omega) hb
        generalize cnt L i n = p at *
        go_upto_region 9 with fail
        refine region_tail 8 (by kernel_rfl) (by kernel_rfl) ?_
        simp only [List.take_succ_cons, List.take_zero, List.drop_succ_cons, List.drop_zero]
        iterate 8 still_step
        refine wpStill_nil ?_
        cases hbf : bef a i with
        | true =>
          rw [hbf] at BF
          go_wp2_with (go_at_call 19; (with_reducible refine (BF _).mono ?_); rintro e w8 ⟨rfl, G8⟩)
          go_roundw
          case rel => exact ⟨n + 1, by omega, by go_num, by rw [HY.out hbf]; go_num, grown_more (grown_drew (grown_drew hGr)) G8 (by simp), HL'⟩
          case measure => simp [intOf]; omega
        | false =>
          rw [hbf] at BF
          go_wp2_with (go_at_call 19; (with_reducible refine (BF _).mono ?_); rintro e w8 ⟨rfl, G8⟩)
          go_roundw
          case rel => exact ⟨n + 1, by omega, by go_num, by rw [HNo.out hbf], grown_more (grown_drew (grown_drew hGr)) G8 (by simp), HL'⟩
          case measure => simp [intOf]; omega
    · have hd : decide ((n : Int) < L.length) = false := decide_eq_false (by omega)
      have en : n = L.length := by omega
      subst en
      have hany : (L.any fun a => a.1 == i.1) = false := List.any_eq_false.2 fun a ha => by
        obtain ⟨j, hj, e⟩ := List.mem_iff_getElem.1 ha
        have := HL.out j a hj (by rw [List.getElem?_eq_getElem hj, e])
        simpa using this
      have hgw : w.grownBy wr none := grown_more K1 hGr (by simp)
      by_cases hfull : L.length = 4096
      · have hE : insE now L i = 3 := by unfold insE; rw [if_neg ht, hany, if_neg (by simp), if_pos hfull]
        have d5 : decide ((L.length : Int) ≥ 4096) = true := decide_eq_true (by omega)
        have d6 : decide (4096 ≤ (L.length : Int)) = true := decide_eq_true (by omega)
        go_wp2_with fail
        go_ret
        exact ⟨ret_int hE.symm, G, by rw [ee 3 (by decide) hE]; exact HH.out.kept (Chg.of (F := fun _ => False) hgw (by simp)) (fun _ _ => id), fun k hk => .inl hk, Chg.of hgw (by simp)⟩
      · have hE : insE now L i = 0 := by unfold insE; rw [if_neg ht, hany, if_neg (by simp), if_neg hfull]
        have hI : Hid (insL now L i = L.take (cnt L i L.length) ++ [i] ++ L.drop (cnt L i L.length)) := by
          show insL now L i = _
          unfold insL
          rw [if_pos hE]
          exact ins_at HO.out.srt i
        have d5 : decide ((L.length : Int) ≥ 4096) = false := decide_eq_false (by omega)
        have d6 : decide (4096 ≤ (L.length : Int)) = false := decide_eq_false (by omega)
        have hpl := cnt_le L i L.length
        clear hany ee ht HL
        generalize cnt L i L.length = p at *
        obtain ⟨u2, s2, X2, b2⟩ := own_from O2 hpl
        have lt1 : (L.take p).length ≤ 4096 := by rw [List.length_take]; omega
        have lt2 : (L.drop p).length ≤ 4096 := by rw [List.length_drop]; omega
        have hqr : q < wr.heap.size := World.block_lt_of_cell? wr _ l0
        have hbx : w.heap.size < wr.heap.size := World.block_lt_of_cell? wr _ y0
        have kfr : ∀ j, wr.frozen? ⟨q, j, none⟩ = false := fun j => by rw [World.frozen?_of_block (w := w1) (hGr.block q (World.block_lt_of_cell? w1 _ k0) (by simp))]; exact kf j
        have tok1 : True := trivial
        go_upto_region 14 with (first
          | (with_reducible refine wpList_from rfl rfl s2 ?_)
          | (have _t := tok1; refine wpList_append_rx rfl (.tmp 67) (.tmp 73) rfl wr.heap.size _ [] rfl (own_empty wr _ rfl) u2 (L.drop p) rfl (X2.grown (World.grownBy_alloc wr _ none)) (by simp at lt2 ⊢; omega) (by simp) ?_; intro ad2 m2 c2 w2 O3 G2 r2; clear tok1))
        have K2 : wr.grownBy w2 none := grown_more (World.grownBy_alloc wr _ none) G2 (fun k hk => .inr (by have hk : some wr.heap.size = some k := hk; injection hk with hk; omega))
        have z0 := K2.cell y0 (by simp)
        have z1 := K2.cell y1 (by simp)
        have m0 := K2.cell l0 (by simp)
        have m1 := K2.cell l1 (by simp)
        have hq2 : q < w2.heap.size := World.block_lt_of_cell? w2 _ m0
        have kf2 : ∀ j, w2.frozen? ⟨q, j, none⟩ = false := fun j => by rw [World.frozen?_of_block (w := wr) (K2.block q hqr (by simp))]; exact kfr j
        obtain ⟨u1, s1, P1, b1⟩ := own_upto (kept_ne O2 K2 (by simp)) hpl
        have s1' : ∀ W, (Instr.slice 29 (.slice ad L.length cp) none (some (.int .i64 (p : Int))) none).run Try.prog W = .ok u1 W := fun W => by
          rw [← run_sliceAt_slice W 29 _ _ _ _ (by kernel_rfl)]
          exact s1 W
        have hq3 : some q ≠ u1.ownBlock := fun e => hq (by rw [← b1]; exact e.symm)
        have ub : ∀ k, u1.ownBlock = some k → k < wr.heap.size := fun k hk => (O2.lt k (by rw [← b1]; exact hk)).2
        have K2d : ∀ ob, w2.grownBy (w2.drew.alloc ob) none := fun ob => grown_alloc (grown_drew (grown_refl w2 none)) ob
        clear s1 l0 l1 y0 y1 x0 x1 k0 k1 X2 s2
        have hrow : ∀ o1, (w2.alloc o1).drew.ownsRow 0 33 2 u1 (L.take p).length (cells (L.take p)) := fun o1 => P1.alloc o1
        have hid0 : (w2.alloc (Obj.cells #[.int .i64 i.1, .int .i64 i.2] 33)).drew.cell? ⟨w2.heap.size, 0, none⟩ = some (.int .i64 i.1) := new_at w2 rfl rfl
        have hid1 : (w2.alloc (Obj.cells #[.int .i64 i.1, .int .i64 i.2] 33)).drew.cell? ⟨w2.heap.size, 1, none⟩ = some (.int .i64 i.2) := new_at w2 rfl rfl
        have kb : ∀ {o1 w3}, (w2.alloc o1).drew.grownBy w3 u1.ownBlock → w2.grownBy w3 u1.ownBlock := fun {o1 w3} g => grown_more ((grown_drew (World.grownBy_alloc w2 o1 none)).but _) g (fun _ e => .inl e)
        clear K2d
        go_region_law (refine step_of rfl (wp_append_item (.tmp 81) (.tmp 83) rfl u1 (L.take p) rfl (hrow _) _ i rfl hid0 hid1 (by omega) ?_); intro ad3 m3 c3 w3 O5 G3' r3; have G3 := kb G3'; have n0 := G3.cell m0 hq3; have n1 := G3.cell m1 hq3; have kf3 : ∀ j, w3.frozen? ⟨q, j, none⟩ = false := (fun j => by rw [World.frozen?_of_block (w := w2) (G3.block q hq2 hq3)]; exact kf2 j); have kf31 := kf3 1)
        all_goals
          have hz2 := K2.size
          have hz3 := G3.size
          have hwr := hgw.size
          have O3' : w2.ownsRow wr.heap.size 33 2 (.slice ad2 m2 c2) (L.drop p).length (cells (L.drop p)) := O3
          have r3' : ∀ k, (Value.slice ad3 m3 c3).ownBlock = some k → (G k ∨ w.heap.size ≤ k) ∧ k ≠ q := fun k hk => by
            rcases r3 with e | e
            · rw [e, b1] at hk
              exact ⟨.inl (hG k hk), fun e => hq (by rw [hk, e])⟩
            · rw [e] at hk
              injection hk with hk
              have hk : w2.heap.size + 1 = k := by simpa using hk
              exact ⟨.inr (by omega), by omega⟩
          obtain ⟨w4, hw4⟩ : ∃ w4, w4 = w3.setCell ⟨q, 1, none⟩ (.slice ad3 m3 c3) := ⟨_, rfl⟩
          have gs4 : w3.grownBy w4 (some q) := by rw [hw4]; exact grown_set _ _ _
          have f0 : w4.cell? ⟨q, 0, none⟩ = some (.int .i64 now) := by rw [hw4]; exact (set_other (by simp)).trans n0
          have f1 : w4.cell? ⟨q, 1, none⟩ = some (.slice ad3 m3 c3) := by rw [hw4]; exact set_same n1
          have kf4 : ∀ j, w4.frozen? ⟨q, j, none⟩ = false := fun j => by rw [hw4]; exact (World.frozen?_setCell _ _ _ _).trans (kf3 j)
          have O54 := kept_ne O5 gs4 (fun k hk e => (r3' k hk).2 (by injection e with e; exact e.symm))
          have O34 := kept_ne (kept_ne O3' G3 (fun k hk e => by have := (O3'.lt k hk).1; have := ub k e; omega)) gs4 (fun k hk e => by have := (O3'.lt k hk).1; injection e with e; omega)
          have hq4 : q < w4.heap.size := World.block_lt_of_cell? w4 _ f0
          have hq5 : some q ≠ (Value.slice ad3 m3 c3).ownBlock := fun e => (r3' q e.symm).2 rfl
          have hz4 := gs4.size
          have lt3 : (L.take p ++ [i]).length ≤ 5000 := by rw [List.length_append]; simp at lt1 ⊢; omega
          rw [← hw4]
          clear hw4 n0 n1 kf3 kf31 m0 m1 z0 z1 kf2 kfr
          go_wp2_with (refine wpList_append_rx rfl (.tmp 91) (.tmp 92) rfl 0 _ (L.take p ++ [i]) rfl O54 _ (L.drop p) rfl (Rx.of_own O34) (by omega) (Nat.zero_le _) ?_; intro ad5 m5 c5 w5 O6 G5 r5; have p0 := G5.cell f0 hq5; have p1 := G5.cell f1 hq5; have kf5 : ∀ j, w5.frozen? ⟨q, j, none⟩ = false := (fun j => by rw [World.frozen?_of_block (w := w4) (G5.block q hq4 hq5)]; exact kf4 j); have kf51 := kf5 1)
          go_ret
          have q5 : ∀ k, (Value.slice ad5 m5 c5).ownBlock = some k → (G k ∨ w.heap.size ≤ k) ∧ k ≠ q := fun k hk => by
            rcases r5 with e | e
            · rw [e] at hk; exact r3' k hk
            · rw [e] at hk
              injection hk with hk
              exact ⟨.inr (by omega), by omega⟩
          have R := RW.store (L := L.take p ++ [i] ++ L.drop p) p0 p1 kf5 O6 (fun e => (q5 q e).2 rfl)
          have gs6 := grown_set w5 ⟨q, 1, none⟩ (Value.slice ad5 m5 c5)
          have hK : w.grownBy w2 none := grown_more hgw K2 (by simp)
          have CC : Chg G w (w5.setCell ⟨q, 1, none⟩ (.slice ad5 m5 c5)) := ((((Chg.of (F := G) hK (by simp)).grown G3 fun k hk => .inl (hG k (by rw [← b1]; exact hk))).grown gs4 fun k hk => .inl (by injection hk with hk; rw [← hk]; exact gq)).grown G5 fun k hk => (r3' k hk).1).grown gs6 fun k hk => .inl (by injection hk with hk; rw [← hk]; exact gq)
          refine ⟨ret_int hE.symm, _, (by rw [hI.out]; exact R), fun k hk => ?_, CC⟩
          rcases hk with e | e
          · rw [e]; exact .inl gq
          · exact (q5 k e).1
theorem rins_any (q : Nat) (now : Int) (L : List It) (G : Nat → Prop) (i : It) (hO : Ok now L) (w : World) (h : RW w q now L G) :
    Calls Try.prog 11 #[.pointer (some ⟨q, 0, none⟩), .agg #[.int .i64 i.1, .int .i64 i.2]] w fun e w' => e = .returned (.int .i64 (insE now L i)) ∧ ∃ G', RW w' q now (insL now L i) G' ∧ (∀ k, G' k → G k ∨ w.heap.size ≤ k) ∧ Chg G w w' := by
  by_cases ht : i.2 ≤ now ∨ 226157759 < i.2 ∨ 262144 < i.2 - now
  · have hE : insE now L i = 30 := by unfold insE; rw [if_pos ht]
    refine (rins_time q now i.1 i.2 ht hO.n0 hO.n1 w h.c0).mono ?_
    rintro e w' ⟨rfl, hg⟩
    refine ⟨by rw [hE], G, ?_, fun k hk => .inl hk, Chg.of hg (by simp)⟩
    unfold insL
    rw [if_neg (by omega)]
    exact h.kept (Chg.of (F := fun _ => False) hg (by simp)) (fun _ _ => id)
  · exact rins_in q now L G i hO (by omega) (by omega) (by omega) w h
end Go.Proofs.Ytijgekdhjfbgkaa
