/- 'Now' and 'Waiting'. -/
import Derived.Test.YtijgekdhjfbgkaaWCan2
import Derived.Laws.MakeOwn
namespace Go.Proofs.Ytijgekdhjfbgkaa
open Go.RowKit Go.Sort Whl
set_option linter.unusedVariables false

set_option maxRecDepth 100000 in
theorem now_any (b : Nat) (now : Int) (w : World) (c0 : w.cell? ⟨b, 0, none⟩ = some (.int .i64 now)) : Calls Try.prog 17 #[.pointer (some ⟨b, 0, none⟩)] w fun e w' => e = .returned (.int .i64 now) ∧ w' = w := by
  go_enter Try.func17, Try.ntmps17
  go_wp2
  go_ret
  exact ⟨rfl, rfl⟩
theorem info_item : (Try.prog.info? 33).map (fun i => (i.zero, i.size, i.bytes)) = some (some (.agg #[.int .i64 0, .int .i64 0]), 2, 16) := by kernel_rfl
/-- 'append(v, i)', v a slice of items of its own. -/
theorem wpList_append_item {w : World} {ops : Array Oper} {rest : List Oper} {o : Oper} {a : Act} {Q : Exit → Act → World → Prop} (hgd : o.guard = none) (s x : Operand)
    (ho : o.op = .call { callee := .builtin .append, args := #[s, x], argTypes := #[29, 29] })
    (base : Nat) (v : Value) (l : List It) (hs : a.eval s = v) (hown : w.ownsRow base 33 2 v l.length (cells l)) (q : Nat) (i : It) (hx : a.eval x = .slice (some ⟨q, 0, none⟩) 1 1) (h0 : w.cell? ⟨q, 0, none⟩ = some (.int .i64 i.1)) (h1 : w.cell? ⟨q, 1, none⟩ = some (.int .i64 i.2))
    (hb : l.length ≤ 100000) (hbase : base ≤ w.heap.size)
    (h : ∀ ad m c w', w'.ownsRow base 33 2 (.slice ad m c) (l ++ [i]).length (cells (l ++ [i])) → w.grownBy w' v.ownBlock → ((Value.slice ad m c).ownBlock = v.ownBlock ∨ (Value.slice ad m c).ownBlock = some w.heap.size) → wpList Try.prog ops Q rest (a.put o.dst (.slice ad m c)) w') : wpList Try.prog ops Q (o :: rest) a w := by
  obtain ⟨ii, hi, hz0, hz1, hz2⟩ := info_parts info_item
  refine wpList_append_own_at w hgd s x 29 ho base 33 ii (.agg #[.int .i64 0, .int .i64 0]) 2 16 Try.underlying29 hi hz0 hz1 hz2 rfl (by decide) v l.length (cells l) hs hown ⟨q, 0, none⟩ 1 1 (cells [i]) hx rfl ?_ (cells_one [i]) (by unfold maxLen; omega) (by omega) hbase ?_
  · intro j u hu
    rw [cells_cons, cells_nil] at hu
    match j, hu with
    | 0, hu => simp at hu; subst hu; rw [Addr.add_lit]; exact h0
    | 1, hu => simp at hu; subst hu; rw [Addr.add_lit]; exact h1
    | j + 2, hu => simp at hu
  · intro v' w' hO hg _ hl
    obtain ⟨ad, m, c, rfl⟩ : ∃ ad m c, v' = .slice ad m c := by
      rcases hO.2 with ⟨e, _⟩ | ⟨g, cap, cur, e, _⟩
      · exact ⟨_, _, _, e⟩
      · exact ⟨_, _, _, e⟩
    exact h ad m c w' (by rw [cells_append, List.length_append]; exact hO) hg hl
/-- Those of the items that have come by are l. -/
structure Come (L : List It) (left : Lit → Bool) (l : List It) : Prop where
  mem : ∀ a, a ∈ l ↔ a ∈ L ∧ left (.int .i64 a.1) = false
  nd : l.Nodup
theorem Come.start {D : DataW Unit} {L : List It} (T : Tells D L) : Come L (Maps.has D) [] :=
  ⟨fun a => ⟨fun h => (by cases h), fun ⟨ha, h⟩ => by rw [T.has, List.any_eq_true.2 ⟨a, ha, by simp⟩] at h; cases h⟩, List.nodup_nil⟩
theorem Come.step {L : List It} {left : Lit → Bool} {l : List It} (h : Come L left l) (hu : Uni L) {i : It} (hi : i ∈ L) (hl : left (.int .i64 i.1) = true) : Come L (fun z => left z && !z.sameKey (.int .i64 i.1)) (l ++ [i]) := by
  refine ⟨fun a => ?_, ?_⟩
  · rw [List.mem_append, List.mem_singleton, h.mem]
    constructor
    · rintro (⟨ha, hla⟩ | rfl)
      · exact ⟨ha, by rw [hla]; rfl⟩
      · exact ⟨hi, by rw [show (Lit.int .i64 a.1).sameKey (.int .i64 a.1) = true by simp [Lit.sameKey]]; simp⟩
    · rintro ⟨ha, hla⟩
      by_cases e : a.1 = i.1
      · exact .inr (hu a ha i hi e)
      · refine .inl ⟨ha, ?_⟩
        rw [Maps.sameKey_ne (lit_ne e)] at hla
        simpa using hla
  · refine List.nodup_append.2 ⟨h.nd, by simp, fun a ha b hb => ?_⟩
    simp at hb
    subst hb
    rintro rfl
    have := ((h.mem _).1 ha).2
    rw [hl] at this
    cases this
theorem Come.done {L : List It} {left : Lit → Bool} {l : List It} (h : Come L left l) (hs : Srt L) (h0 : ∀ z, left z = false) : srtL l = L :=
  srt_ext (srtL_srt h.nd) hs fun a => by rw [srtL_mem, h.mem]; exact ⟨fun k => k.1, fun k => ⟨k, h0 _⟩⟩
theorem Come.len {L : List It} {left : Lit → Bool} {l : List It} (h : Come L left l) : l.length ≤ L.length := List.Nodup.length_le_of_subset h.nd fun a ha => ((h.mem a).1 ha).1

set_option maxRecDepth 100000 in
set_option maxHeartbeats 3200000 in
theorem waiting_any (b : Nat) (now : Int) (L : List It) (F : Nat → Prop) (w : World) (h : Wh w b now L F) :
    Calls Try.prog 18 #[.pointer (some ⟨b, 0, none⟩)] w fun e w' => ∃ ad m c, e = .returned (.slice ad m c) ∧ w'.ownsRow w.heap.size 33 2 (.slice ad m c) L.length (cells L) ∧ w.grownBy w' none := by
  obtain ⟨bm, D, v, ls, hW, hF, hT, hH, hO⟩ := h
  obtain ⟨ii, hi, hz0, hz1, hz2⟩ := info_parts info_item
  have hlen := hO.len
  have hsz := hT.size
  have c1 := hW.c1
  have hbm : bm < w.heap.size := hW.map.lt
  have hm : Hid (w.ownsMap Try.prog 3 (plainElem Try.prog 2) bm (Maps.size D) D) := hW.map
  have HT : Hid (Tells D L) := hT
  have HO : Hid (Ok now L) := hO
  have HL : Hid (Maps.size D ≤ 4096) := by show _ ≤ _; omega
  clear hW hF hT hH hO hsz
  go_enter Try.func18, Try.ntmps18
  go_wp2_with (first
    | (at_len; refine wpList_len_own _ rfl _ 51 rfl 3 2 Try.underlying51 _ bm (Maps.size D) D rfl hm.out ?_)
    | (at_make; refine wpList_make_own _ rfl _ _ 29 rfl w.heap.size 33 ii (.agg #[.int .i64 0, .int .i64 0]) 2 Try.underlying29 hi hz0 hz1 .i64 .i64 _ (Maps.size D) rfl rfl rfl (by rw [hz2]; have := HL.out; omega) (by have := HL.out; unfold maxLen; omega) (Nat.le_refl _) ?_; intro w1 hO1 hg1; have c11 := hg1.cell c1 (by simp); have hm1 := hm.out.kept hg1 (by simp))
    | (at_range; refine wpList_range_own _ rfl _ 51 rfl 3 2 mapLaw Try.underlying51 _ bm (Maps.size D) D rfl hm1 ?_; intro w2 hrg2 hg2 hs2))
  go_frame
  have hr1 : Hid (w.heap.size ≤ w1.heap.size) := hg1.size
  generalize w1.heap.size = r at hrg2 hr1 ⊢
  have hg12 := grown_more hg1 hg2 (by simp)
  have hO2 := hO1.kept hg2 (.inr (by simp [Value.ownBlock]))
  clear hg2 hs2 hm1 c11 hO1 hg1 c1
  go_loopw [3] (fun v wr => ∃ left cnt l ad m c, v = Value.slice ad m c ∧ wr.ranges Try.prog 3 (plainElem Try.prog 2) bm r (Maps.size D) D left cnt ∧ wr.ownsRow w.heap.size 33 2 (Value.slice ad m c) l.length (cells l) ∧ Come L left l ∧ w.grownBy wr none) (fun _ wr => wr.rangeLeft bm r)
  case atStart => exact ⟨_, _, [], _, _, _, rfl, hrg2, hO2, Come.start HT.out, hg12⟩
  case round =>
    obtain ⟨left, cnt, l, ad, m, c, rfl, hrg, hOr, hC, hgw⟩ := hrel
    have hll := hC.len
    go_wp2_with (at_next; refine wpList_next_ranges_ii _ rfl _ rfl 3 2 .i64 .i64 mapLaw Try.underlying3 Try.underlying2 bm r (Maps.size D) _ _ _ rfl hrg ?_ ?_)
    · intro _ hl0
      have OD := order_any w.heap.size (.slice ad m c) l wr (by omega) hOr
      rw [hC.done HO.out.srt hl0] at OD
      have e : l.length = L.length := by rw [← srtL_len, hC.done HO.out.srt hl0]
      rw [e] at OD
      have hrow : ∀ k, (Value.slice ad m c).ownBlock = some k → w.heap.size ≤ k := fun k hk => (hOr.lt k hk).1
      clear hrg hOr hC hll hm HT HO HL hrg2 hO2 hg12
      go_wp2_with (go_at_call 25; (with_reducible refine OD.mono ?_); rintro e w3 ⟨rfl, hO3, hg3⟩)
      go_ret
      exact ⟨ad, m, c, rfl, hO3, grown_more hgw hg3 fun k hk => .inr (hrow k hk)⟩
    · intro x y w3 cnt1 hwx hwy hlx hat hrg3 hlt hg3 hs3 hen
      have hne := row_ne_iter hOr hrg
      have hlow := row_ne_low hOr hbm
      have hO3 := hOr.kept hg3 (.inr (fun e => hne e.symm))
      have hgw3 := grown_more hgw hg3 (fun k e => .inr (by injection e with e; have := hr1.out; omega))
      obtain ⟨i, hi, hix, hiy⟩ : ∃ i ∈ L, i.1 = x ∧ i.2 = y := by
        have := Maps.has_true_of_atKey hat
        rw [HT.out.has] at this
        obtain ⟨i, hi, e⟩ := List.any_eq_true.1 this
        have e : i.1 = x := by simpa using e
        have h2 := HT.out.at_ i hi (.nil)
        rw [e, hat] at h2
        injection h2 with h2
        injection h2 with _ h2
        exact ⟨i, hi, e, h2.symm⟩
      subst hix hiy
      have hC3 := hC.step HO.out.uni hi hlx
      have hsz3 := hgw3.size
      have HRG : Hid (w3.ranges Try.prog 3 (plainElem Try.prog 2) bm r (Maps.size D) D (fun z => left z && !z.sameKey (.int .i64 i.1)) cnt1) := hrg3
      clear hs3 hO2 hg12 hrg2 hC hi hat hwx hwy hlx hrg3
      go_wp2_with (refine wpList_append_item rfl (.tmp 24) (.tmp 28) rfl w.heap.size _ l rfl (hO3.alloc _) _ i rfl (new_at w3 rfl rfl) (new_at w3 rfl rfl) (by omega) (by simp; omega) ?_; intro ad4 m4 c4 w4 hO4 hg4 _)
      have HRG4 := World.ranges.kept (World.ranges.alloc HRG.out _) hg4 hlow hne
      go_roundw
      case rel => exact ⟨_, cnt1, l ++ [i], ad4, m4, c4, rfl, HRG4, hO4, hC3, grown_more (grown_alloc hgw3 _) hg4 fun k hk => .inr (hOr.lt k hk).1⟩
      case measure => rw [HRG4.left_eq, hrg.left_eq]; exact hlt
end Go.Proofs.Ytijgekdhjfbgkaa
