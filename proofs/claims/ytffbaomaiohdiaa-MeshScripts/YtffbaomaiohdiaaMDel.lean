/- slices.Delete of one packet; slices.Clone of packets. -/
import Derived.Test.YtffbaomaiohdiaaMFind
import Derived.Lib.SliceRun
import Derived.Lib.SmallJoins
import Derived.Deep.RegionLaw
import Derived.Deep.Upon
namespace Go.Proofs.Ytffbaomaiohdiaa
open Go.RowKit Msh
set_option linter.unusedVariables false
set_option maxRecDepth 10000

/-- Cells are set in a block: what it holds then. -/
theorem heap_setCells (g : Nat) (e : TypeId) (fz : Nat × Nat) : ∀ (vs : List Value) (o : Nat) (cur : Array Value) (w : World), w.heap[g]? = some (.cells cur e fz) → o + vs.length ≤ cur.size →
    ∃ cur', (w.setCells g o vs).heap[g]? = some (.cells cur' e fz) ∧ cur'.toList = cur.toList.take o ++ vs ++ cur.toList.drop (o + vs.length)
  | [], o, cur, w, h, hl => ⟨cur, h, by simp⟩
  | v :: r, o, cur, w, h, hl => by
    simp only [List.length_cons] at hl
    have h1 : (w.setCell ⟨g, o, none⟩ v).heap[g]? = some (.cells (cur.setIfInBounds o v) e fz) := Joins.block_setCell h v
    obtain ⟨cur', h2, h3⟩ := heap_setCells g e fz r (o + 1) (cur.setIfInBounds o v) _ h1 (by simp; omega)
    refine ⟨cur', h2, ?_⟩
    rw [h3]
    simp only [Array.toList_setIfInBounds, List.length_cons]
    rw [List.take_set, List.drop_set, if_pos (by omega), show o + 1 + r.length = o + (r.length + 1) by omega]
    congr 1
    have hol : o < cur.toList.length := by simp; omega
    have e1 : (cur.toList.take (o + 1)).set o v = cur.toList.take o ++ [v] := by
      apply List.ext_getElem?
      intro k
      rw [List.getElem?_set]
      by_cases hk : o = k
      · subst hk
        rw [if_pos rfl, if_pos (by rw [List.length_take]; omega), List.getElem?_append_right (by rw [List.length_take]; omega), List.length_take, show o - min o cur.toList.length = 0 by omega]
        rfl
      · rw [if_neg hk]
        by_cases hk2 : k < o
        · rw [List.getElem?_take_of_lt (by omega), List.getElem?_append_left (by rw [List.length_take]; omega), List.getElem?_take_of_lt hk2]
        · rw [List.getElem?_take_eq_none (by omega), List.getElem?_eq_none (by simp; omega)]
    rw [e1]
    simp
theorem grown_setCells (b : Nat) : ∀ (vs : List Value) (o : Nat) (w : World), w.grownBy (w.setCells b o vs) (some b)
  | [], _, w => grown_refl w _
  | v :: r, o, w => grown_more (grown_set w ⟨b, o, none⟩ v) (grown_setCells b r (o + 1) _) (fun _ e => .inl e)
/-- The zero packet's cells. -/
abbrev zP : List Value := [.int .i64 0, .int .i64 0, .int .i64 0, .string ⟨#[]⟩]
theorem run_clear1 (w : World) (b o c : Nat) (ty : TypeId) (hc : ∀ j, j < 4 → (w.cell? ⟨b, o + j, none⟩).isSome = true) (hf : ∀ j, j < 4 → w.frozen? ⟨b, o + j, none⟩ = false) :
    (Builtin.clear_ #[27] ty #[.slice (some ⟨b, o, none⟩) 1 c]).run Try.prog w = .ok (.tuple #[]) (w.setCells b o zP) := by
  have hz : (Builtin.zeroCells (Value.cells eP.zero) 1).toList = zP := by kernel_rfl
  have hst := run_storeCells_cells (P := Try.prog) b o zP 0 w (by simpa using hc) (by simpa using hf) (by intro v hv; simp at hv; rcases hv with rfl | rfl <;> rfl)
  simp only [Nat.add_zero] at hst
  have hv : ∀ w, (zeroValue 37).run Try.prog w = .ok eP.zero w := fun w => Try.zeroValue37 w
  simp [Builtin.clear_, run_underlying Try.underlying27, hv, hz, hst]
set_option maxRecDepth 100000 in
set_option maxHeartbeats 800000 in
theorem del_any (v : Value) (l : List Pk) (i : Nat) (w : World) (hO : eP.Own w 0 v l) (hi : i < l.length) (hl : l.length ≤ 512) :
    Calls Try.prog 38 #[v, .int .i64 (i : Int), .int .i64 ((i : Int) + 1)] w fun e w' => ∃ ad n c, e = .returned (.slice ad n c) ∧ eP.Own w' 0 (.slice ad n c) (l.eraseIdx i) ∧ w.grownBy w' v.ownBlock ∧ (Value.slice ad n c).ownBlock = v.ownBlock := by
  obtain ⟨r, hr⟩ : ∃ r, l.length = i + 1 + r := ⟨l.length - (i + 1), by omega⟩
  rcases hO.2 with ⟨e, h0⟩ | ⟨g, cap, cur, e, hg, hh, h1, h2, h3, h4⟩
  · omega
  subst e
  rw [hr] at h1 h4 hO hl
  rw [hr]
  replace h3 : cur.size = cap * 4 := h3
  have ht : Try.prog.underlying 27 = some (.slice (Try.prog.elem 27)) := by rw [show Try.prog.elem 27 = 37 from eP.he]; exact eP.hu
  have SZ : ∀ W, (sizeOf (Try.prog.elem 27)).run Try.prog W = .ok 4 W := fun W => by rw [show Try.prog.elem 27 = 37 from eP.he]; exact eP.so W
  have S1 : ∀ W, (Instr.slice 27 (.slice (some ⟨g, 0, none⟩) (i + 1 + r) cap) none (some (.int .i64 (i : Int))) none).run Try.prog W = .ok (.slice (some ⟨g, 0, none⟩) i cap) W := fun W => by
    rw [run_slice_h W 27 _ _ _ ht .i64 (i : Int) (by omega) (by omega), SZ W]
    show Result.ok (sliced _ 0 (i : Int).toNat cap 4) W = _
    rw [Int.toNat_natCast]
    unfold sliced
    simp [Addr.add]
  obtain ⟨A, c2, S2, hA⟩ : ∃ A c2, (∀ W, (Instr.slice 27 (.slice (some ⟨g, 0, none⟩) (i + 1 + r) cap) (some (.int .i64 ((i : Int) + 1))) none none).run Try.prog W = .ok (.slice (some A) r c2) W) ∧ (r ≠ 0 → A = ⟨g, (i + 1) * 4, none⟩) := by
    have run : ∀ W, (Instr.slice 27 (.slice (some ⟨g, 0, none⟩) (i + 1 + r) cap) (some (.int .i64 ((i : Int) + 1))) none none).run Try.prog W = .ok (sliced (some ⟨g, 0, none⟩) (i + 1) (i + 1 + r) cap 4) W := fun W => by
      rw [run_slice_l W 27 _ _ _ ht .i64 ((i : Int) + 1) (by omega) (by omega), SZ W]
      show Result.ok (sliced _ ((i : Int) + 1).toNat _ cap 4) W = _
      rw [show ((i : Int) + 1).toNat = i + 1 by omega]
    by_cases hc : cap = i + 1
    · refine ⟨⟨g, 0, none⟩, cap - (i + 1), fun W => ?_, fun h => by omega⟩
      rw [run W]
      unfold sliced
      rw [if_pos hc, show i + 1 + r - (i + 1) = r by omega]
    · refine ⟨⟨g, (i + 1) * 4, none⟩, cap - (i + 1), fun W => ?_, fun _ => rfl⟩
      rw [run W]
      unfold sliced
      rw [if_neg hc, show i + 1 + r - (i + 1) = r by omega]
      simp [Addr.add]
  have S3 : ∀ W, (Instr.slice 27 (.slice (some ⟨g, 0, none⟩) (i + r) cap) (some (.int .i64 (((i + r : Nat) : Int)))) (some (.int .i64 ((i + 1 + r : Nat) : Int))) none).run Try.prog W = .ok (.slice (some ⟨g, (i + r) * 4, none⟩) 1 (cap - (i + r))) W := fun W => by
    rw [run_slice_lh W 27 _ _ _ ht .i64 .i64 _ _ (by omega) (by omega) (by omega), SZ W]
    show Result.ok (sliced _ ((i + r : Nat) : Int).toNat ((i + 1 + r : Nat) : Int).toNat cap 4) W = _
    rw [Int.toNat_natCast, Int.toNat_natCast]
    unfold sliced
    rw [if_neg (by omega), show i + 1 + r - (i + r) = 1 by omega]
    show Result.ok (Value.slice (some ((⟨g, 0, none⟩ : Addr).add ((i + r) * 4))) _ _) W = _
    rw [Addr.add_lit, Nat.zero_add]
  have S4 := S3
  simp only [Int.natCast_add, Int.cast_ofNat_Int] at S4
  -- the cells
  have cells : ∀ k, k < cap * 4 → (w.cell? ⟨g, k, none⟩).isSome = true ∧ w.frozen? ⟨g, k, none⟩ = false := fun k hk => by
    constructor
    · have hk' : k < cur.size := by rw [h3]; exact hk
      simp [World.cell?, hh, hk']
    · simp [World.frozen?, hh]
  obtain ⟨news, hn⟩ : ∃ news, news = eP.cells (l.drop (i + 1)) := ⟨_, rfl⟩
  have hnl : news.length = r * 4 := by rw [hn, Elm.cells_len, List.length_drop, hr]; show _ * 4 = _; rw [show i + 1 + r - (i + 1) = r by omega]
  have hsrc : Hid (∀ t u, news[t]? = some u → w.drew.cell? (A.add t) = some u) := fun t u hu => by
    have ht' : t < r * 4 := by rw [← hnl]; exact (List.getElem?_eq_some_iff.1 hu).1
    rw [hA (by omega)]
    rw [hn, Elm.cells_drop, List.getElem?_drop] at hu
    have := World.ownsRow.cells hO (g := g) rfl _ u hu
    rw [Addr.add_lit] at this ⊢
    rw [Nat.zero_add] at this
    exact this
  have hone : Hid (∀ u ∈ news, u.oneCell' = true) := by rw [hn]; exact eP.cells_one _
  have hspare : Hid (∀ t, t < news.length → (w.drew.cell? ⟨g, 0 + i * 4 + t, none⟩).isSome = true ∧ w.drew.frozen? ⟨g, 0 + i * 4 + t, none⟩ = false) := fun t ht' => cells _ (by rw [hnl] at ht'; omega)
  obtain ⟨ii, hi0, hz0, hz1, hz2⟩ := info_parts eP.hi
  obtain ⟨W1, hW1⟩ : ∃ W1, W1 = w.drew.setCells g (0 + i * 4) news := ⟨_, rfl⟩
  have HW1 : Hid (W1 = w.drew.setCells g (0 + i * 4) news) := hW1
  obtain ⟨cur1, hh1, hcur1⟩ := heap_setCells g 37 (0, 0) news (0 + i * 4) cur w.drew hh (by rw [hnl, h3]; omega)
  rw [← hW1] at hh1
  have hs1 : cur1.size = cap * 4 := by
    have := congrArg List.length hcur1
    simp only [Array.length_toList, List.length_append, List.length_take, List.length_drop] at this
    rw [hnl, h3] at this
    omega
  have CLR := fun ty => run_clear1 W1 g ((i + r) * 4) (cap - (i + r)) ty (fun j hj => by have : (i + r) * 4 + j < cur1.size := by rw [hs1]; omega
                                                                                         simp [World.cell?, hh1, this]) (fun j hj => by simp [World.frozen?, hh1])
  obtain ⟨cur2, hh2, hcur2⟩ := heap_setCells g 37 (0, 0) zP ((i + r) * 4) cur1 W1 hh1 (by rw [hs1]; show _ + 4 ≤ _; omega)
  have hs2 : cur2.size = cap * 4 := by
    have := congrArg List.length hcur2
    simp only [Array.length_toList, List.length_append, List.length_take, List.length_drop] at this
    rw [hs1] at this
    simp at this
    omega
  have FIN : Hid (eP.Own (W1.setCells g ((i + r) * 4) zP) 0 (.slice (some ⟨g, 0, none⟩) (i + r) cap) (l.eraseIdx i)) := by
    have el : (l.eraseIdx i).length = i + r := by rw [List.length_eraseIdx_of_lt hi, hr]; omega
    refine ⟨Elm.cells_len _ _, .inr ⟨g, cap, cur2, by rw [el], Nat.zero_le _, hh2, by rw [el]; omega, h2, hs2, ?_⟩⟩
    rw [el]
    show cur2.toList.take ((i + r) * 4) = _
    rw [hcur2, List.append_assoc, List.take_append_of_le_length (by rw [List.length_take, Array.length_toList, hs1]; omega), List.take_take, Nat.min_self, hcur1, List.eraseIdx_eq_take_drop_succ, Elm.cells_append, ← hn, Elm.cells_take, ← h4]
    rw [List.take_append_of_le_length (by simp only [List.length_append, List.length_take, Array.length_toList]; rw [hnl, h3]; omega), List.take_of_length_le (by simp only [List.length_append, List.length_take, Array.length_toList]; rw [hnl, h3]; omega), List.take_take]
    congr 1
    show _ = cur.toList.take (min (i * 4) _)
    rw [Nat.min_eq_left (by show i * 4 ≤ (i + 1 + r) * 4; omega), Nat.zero_add]
  have GR : Hid (w.grownBy (W1.setCells g ((i + r) * 4) zP) (some g)) := by
    refine grown_more ?_ (grown_setCells g zP _ W1) (fun _ e => .inl e)
    rw [hW1]
    exact grown_more (World.grownBy.but (grown_drew (grown_refl w none)) _) (grown_setCells g news _ _) (fun _ e => .inl e)
  have hcap : i + 1 + r ≤ cap := h1
  have hN : (i + 1 + r : Nat) ≤ 512 := hl
  clear hO hh h3 h4 hcur1 hh1 hs1 hcur2 hh2 hs2 hn hA hW1 cells h1 hl h2 hi hg ht
  go_enter Try.func38, Try.ntmps38
  go_wp2_with fail
  go_region_law (refine step_append_room rfl (.tmp 22) (.tmp 25) 27 rfl 37 ii 4 Try.underlying27 hi0 hz1 g 0 i cap (by simp [Act.eval, Act.put]) A r c2 news (by simp [Act.eval, Act.put]) hnl hsrc.out hone.out (by omega) hspare.out ?_; rw [← HW1.out])
  go_wp2
  go_ret
  exact ⟨_, _, _, rfl, FIN.out, GR.out, rfl⟩
set_option maxRecDepth 100000 in
theorem nilP_is (w : World) : (binOp .eql 27 (.slice none 0 0) (.slice none 0 0)).run Try.prog w = .ok (.bool true) w := by kernel_rfl
set_option maxRecDepth 100000 in
theorem nilP_not (a : Addr) (n c : Nat) (w : World) : (binOp .eql 27 (.slice (some a) n c) (.slice none 0 0)).run Try.prog w = .ok (.bool false) w := by kernel_rfl
set_option maxRecDepth 100000 in
set_option maxHeartbeats 800000 in
theorem clone_any (v : Value) (l : List Pk) (w : World) (h : eP.Own w 0 v l) (hl : l.length ≤ 512) :
    Calls Try.prog 34 #[v] w fun e w' => ∃ ad c, e = .returned (.slice ad l.length c) ∧ eP.Own w' w.heap.size (.slice ad l.length c) l ∧ w.grownBy w' none := by
  have N1 := nilP_is
  have N2 := nilP_not
  rcases h.2 with ⟨e, h0⟩ | ⟨g, cap, cur, e, hg, hh, h1, h2, h3, h4⟩
  · have hL : l = [] := List.eq_nil_of_length_eq_zero h0
    subst hL e
    go_enter Try.func34, Try.ntmps34
    go_wp2
    go_ret
    exact ⟨none, 0, rfl, Elm.nil _ _, grown_refl _ _⟩
  · have hX := h.rx
    subst e
    have hX1 : ∀ o, eP.Rx (w.alloc o) (.slice (some ⟨g, 0, none⟩) l.length cap) l := fun o => hX.grown (World.grownBy_alloc w o none)
    have hM : eP.Own (w.alloc (.cells #[] 37)) w.heap.size (.slice (some ⟨w.heap.size, 0, none⟩) 0 0) [] := Elm.made (E := eP) w #[] 0 _ rfl (by unfold maxLen; omega) rfl
    clear h hX hh h4
    go_enter Try.func34, Try.ntmps34
    go_wp2_with (refine Elm.wpList_append (E := eP) rfl (.tmp 5) (.tmp 6) rfl w.heap.size _ [] rfl hM _ l rfl (hX1 _) (by simp; omega) (by simp [eP]; omega) (by simp) ?_; intro ad n c w2 hO2 hg2 hl2)
    go_ret
    obtain rfl : n = l.length := by have := hO2.len; simpa using this
    have gg : w.grownBy w2 none := grown_more (World.grownBy_alloc w _ none) hg2 (fun k hk => .inr (by injection hk with hk; exact Nat.le_of_eq hk))
    exact ⟨ad, c, rfl, hO2, gg⟩
end Go.Proofs.Ytffbaomaiohdiaa
