/- slices.Delete of one span. -/
import Derived.Test.YtlolhdijadhklaaARow
import Derived.Lib.SliceRun
import Derived.Lib.SmallJoins
import Derived.Deep.RegionLaw
import Derived.Deep.Upon
namespace Go.Proofs.Ytlolhdijadhklaa
open Go.RowKit Atl
set_option linter.unusedVariables false
set_option maxRecDepth 10000

/-- Cells are set in a block: what it holds then. -/
theorem heap_setCells (g : Nat) (e : TypeId) (fz : Nat × Nat) : ∀ (vs : List Value) (o : Nat) (cur : Array Value) (w : World), w.heap[g]? = some (.cells cur e fz) → o + vs.length ≤ cur.size →
    ∃ cur', (w.setCells g o vs).heap[g]? = some (.cells cur' e fz) ∧ cur'.toList = cur.toList.take o ++ vs ++ cur.toList.drop (o + vs.length)
  | [], o, cur, w, h, hl => ⟨cur, h, by simp⟩
  | v :: r, o, cur, w, h, hl => by
    simp only [List.length_cons] at hl
    have h1 : (w.setCell ⟨g, o, none⟩ v).heap[g]? = some (.cells (cur.setIfInBounds o v) e fz) := Joins.block_setCell h v
    obtain ⟨cur', h2, h3⟩ := heap_setCells g e fz r (o + 1) (cur.setIfInBounds o v) _ h1 (by simp; omega)
    refine ⟨cur', h2, ?_⟩
    rw [h3]
    simp only [Array.toList_setIfInBounds, List.length_cons]
    rw [List.take_set, List.drop_set, if_pos (by omega), show o + 1 + r.length = o + (r.length + 1) by omega]
    congr 1
    have hol : o < cur.toList.length := by simp; omega
    have e1 : (cur.toList.take (o + 1)).set o v = cur.toList.take o ++ [v] := by
      apply List.ext_getElem?
      intro k
      rw [List.getElem?_set]
      by_cases hk : o = k
      · subst hk
        rw [if_pos rfl, if_pos (by rw [List.length_take]; omega), List.getElem?_append_right (by rw [List.length_take]; omega), List.length_take, show o - min o cur.toList.length = 0 by omega]
        rfl
      · rw [if_neg hk]
        by_cases hk2 : k < o
        · rw [List.getElem?_take_of_lt (by omega), List.getElem?_append_left (by rw [List.length_take]; omega), List.getElem?_take_of_lt hk2]
        · rw [List.getElem?_take_eq_none (by omega), List.getElem?_eq_none (by simp; omega)]
    rw [e1]
    simp
/-- The zero span's cells. -/
abbrev zSl : List Value := [.string ⟨#[]⟩, .string ⟨#[]⟩, .int .i64 0, .int .i64 0, .int .i64 0]
theorem run_clear1 (w : World) (b o c : Nat) (ty : TypeId) (hc : ∀ j, j < 5 → (w.cell? ⟨b, o + j, none⟩).isSome = true) (hf : ∀ j, j < 5 → w.frozen? ⟨b, o + j, none⟩ = false) :
    (Builtin.clear_ #[22] ty #[.slice (some ⟨b, o, none⟩) 1 c]).run Try.prog w = .ok (.tuple #[]) (w.setCells b o zSl) := by
  have hz : (Builtin.zeroCells (Value.cells eS.zero) 1).toList = zSl := by kernel_rfl
  have hst := run_storeCells_cells (P := Try.prog) b o zSl 0 w (by simpa using hc) (by simpa using hf) (by intro v hv; simp at hv; rcases hv with rfl | rfl <;> rfl)
  simp only [Nat.add_zero] at hst
  have hv : ∀ w, (zeroValue 29).run Try.prog w = .ok eS.zero w := fun w => Try.zeroValue29 w
  simp [Builtin.clear_, run_underlying Try.underlying22, hv, hz, hst]
set_option maxRecDepth 100000 in
set_option maxHeartbeats 3200000 in
theorem del_any (v : Value) (l : List Sp) (i : Nat) (w : World) (base : Nat) (hO : eS.Own w base v l) (hi : i < l.length) (hl : l.length ≤ 512) :
    Calls Try.prog 110 #[v, .int .i64 (i : Int), .int .i64 ((i : Int) + 1)] w fun e w' => ∃ ad n c, e = .returned (.slice ad n c) ∧ eS.Own w' base (.slice ad n c) (l.eraseIdx i) ∧ w.grownBy w' v.ownBlock ∧ (Value.slice ad n c).ownBlock = v.ownBlock := by
  obtain ⟨r, hr⟩ : ∃ r, l.length = i + 1 + r := ⟨l.length - (i + 1), by omega⟩
  rcases hO.2 with ⟨e, h0⟩ | ⟨g, cap, cur, e, hg, hh, h1, h2, h3, h4⟩
  · omega
  subst e
  rw [hr] at h1 h4 hO hl
  rw [hr]
  replace h3 : cur.size = cap * 5 := h3
  have ht : Try.prog.underlying 22 = some (.slice (Try.prog.elem 22)) := by rw [show Try.prog.elem 22 = 29 from eS.he]; exact eS.hu
  have SZ : ∀ W, (sizeOf (Try.prog.elem 22)).run Try.prog W = .ok 5 W := fun W => by rw [show Try.prog.elem 22 = 29 from eS.he]; exact eS.so W
  have S1 : ∀ W, (Instr.slice 22 (.slice (some ⟨g, 0, none⟩) (i + 1 + r) cap) none (some (.int .i64 (i : Int))) none).run Try.prog W = .ok (.slice (some ⟨g, 0, none⟩) i cap) W := fun W => by
    rw [run_slice_h W 22 _ _ _ ht .i64 (i : Int) (by omega) (by omega), SZ W]
    show Result.ok (sliced _ 0 (i : Int).toNat cap 5) W = _
    rw [Int.toNat_natCast]
    unfold sliced
    simp [Addr.add]
  obtain ⟨A, c2, S2, hA⟩ : ∃ A c2, (∀ W, (Instr.slice 22 (.slice (some ⟨g, 0, none⟩) (i + 1 + r) cap) (some (.int .i64 ((i : Int) + 1))) none none).run Try.prog W = .ok (.slice (some A) r c2) W) ∧ (r ≠ 0 → A = ⟨g, (i + 1) * 5, none⟩) := by
    have run : ∀ W, (Instr.slice 22 (.slice (some ⟨g, 0, none⟩) (i + 1 + r) cap) (some (.int .i64 ((i : Int) + 1))) none none).run Try.prog W = .ok (sliced (some ⟨g, 0, none⟩) (i + 1) (i + 1 + r) cap 5) W := fun W => by
      rw [run_slice_l W 22 _ _ _ ht .i64 ((i : Int) + 1) (by omega) (by omega), SZ W]
      show Result.ok (sliced _ ((i : Int) + 1).toNat _ cap 5) W = _
      rw [show ((i : Int) + 1).toNat = i + 1 by omega]
    by_cases hc : cap = i + 1
    · refine ⟨⟨g, 0, none⟩, cap - (i + 1), fun W => ?_, fun h => by omega⟩
      rw [run W]
      unfold sliced
      rw [if_pos hc, show i + 1 + r - (i + 1) = r by omega]
    · refine ⟨⟨g, (i + 1) * 5, none⟩, cap - (i + 1), fun W => ?_, fun _ => rfl⟩
      rw [run W]
      unfold sliced
      rw [if_neg hc, show i + 1 + r - (i + 1) = r by omega]
      simp [Addr.add]
  have S3 : ∀ W, (Instr.slice 22 (.slice (some ⟨g, 0, none⟩) (i + r) cap) (some (.int .i64 (((i + r : Nat) : Int)))) (some (.int .i64 ((i + 1 + r : Nat) : Int))) none).run Try.prog W = .ok (.slice (some ⟨g, (i + r) * 5, none⟩) 1 (cap - (i + r))) W := fun W => by
    rw [run_slice_lh W 22 _ _ _ ht .i64 .i64 _ _ (by omega) (by omega) (by omega), SZ W]
    show Result.ok (sliced _ ((i + r : Nat) : Int).toNat ((i + 1 + r : Nat) : Int).toNat cap 5) W = _
    rw [Int.toNat_natCast, Int.toNat_natCast]
    unfold sliced
    rw [if_neg (by omega), show i + 1 + r - (i + r) = 1 by omega]
    show Result.ok (Value.slice (some ((⟨g, 0, none⟩ : Addr).add ((i + r) * 5))) _ _) W = _
    rw [Addr.add_lit, Nat.zero_add]
  have S4 := S3
  simp only [Int.natCast_add, Int.cast_ofNat_Int] at S4
  -- the cells
  have cells : ∀ k, k < cap * 5 → (w.cell? ⟨g, k, none⟩).isSome = true ∧ w.frozen? ⟨g, k, none⟩ = false := fun k hk => by
    constructor
    · have hk' : k < cur.size := by rw [h3]; exact hk
      simp [World.cell?, hh, hk']
    · simp [World.frozen?, hh]
  obtain ⟨news, hn⟩ : ∃ news, news = eS.cells (l.drop (i + 1)) := ⟨_, rfl⟩
  have hnl : news.length = r * 5 := by rw [hn, Elm.cells_len, List.length_drop, hr]; show _ * 5 = _; rw [show i + 1 + r - (i + 1) = r by omega]
  have hsrc : Hid (∀ t u, news[t]? = some u → w.drew.cell? (A.add t) = some u) := fun t u hu => by
    have ht' : t < r * 5 := by rw [← hnl]; exact (List.getElem?_eq_some_iff.1 hu).1
    rw [hA (by omega)]
    rw [hn, Elm.cells_drop, List.getElem?_drop] at hu
    have := World.ownsRow.cells hO (g := g) rfl _ u hu
    rw [Addr.add_lit] at this ⊢
    rw [Nat.zero_add] at this
    exact this
  have hone : Hid (∀ u ∈ news, u.oneCell' = true) := by rw [hn]; exact eS.cells_one _
  have hspare : Hid (∀ t, t < news.length → (w.drew.cell? ⟨g, 0 + i * 5 + t, none⟩).isSome = true ∧ w.drew.frozen? ⟨g, 0 + i * 5 + t, none⟩ = false) := fun t ht' => cells _ (by rw [hnl] at ht'; omega)
  obtain ⟨ii, hi0, hz0, hz1, hz2⟩ := info_parts eS.hi
  obtain ⟨W1, hW1⟩ : ∃ W1, W1 = w.drew.setCells g (0 + i * 5) news := ⟨_, rfl⟩
  have HW1 : Hid (W1 = w.drew.setCells g (0 + i * 5) news) := hW1
  obtain ⟨cur1, hh1, hcur1⟩ := heap_setCells g 29 (0, 0) news (0 + i * 5) cur w.drew hh (by rw [hnl, h3]; omega)
  rw [← hW1] at hh1
  have hs1 : cur1.size = cap * 5 := by
    have := congrArg List.length hcur1
    simp only [Array.length_toList, List.length_append, List.length_take, List.length_drop] at this
    rw [hnl, h3] at this
    omega
  have CLR := fun ty => run_clear1 W1 g ((i + r) * 5) (cap - (i + r)) ty (fun j hj => by have : (i + r) * 5 + j < cur1.size := by rw [hs1]; omega
                                                                                         simp [World.cell?, hh1, this]) (fun j hj => by simp [World.frozen?, hh1])
  obtain ⟨cur2, hh2, hcur2⟩ := heap_setCells g 29 (0, 0) zSl ((i + r) * 5) cur1 W1 hh1 (by rw [hs1]; show _ + 5 ≤ _; omega)
  have hs2 : cur2.size = cap * 5 := by
    have := congrArg List.length hcur2
    simp only [Array.length_toList, List.length_append, List.length_take, List.length_drop] at this
    rw [hs1] at this
    simp at this
    omega
  have FIN : Hid (eS.Own (W1.setCells g ((i + r) * 5) zSl) base (.slice (some ⟨g, 0, none⟩) (i + r) cap) (l.eraseIdx i)) := by
    have el : (l.eraseIdx i).length = i + r := by rw [List.length_eraseIdx_of_lt hi, hr]; omega
    refine ⟨Elm.cells_len _ _, .inr ⟨g, cap, cur2, by rw [el], hg, hh2, by rw [el]; omega, h2, hs2, ?_⟩⟩
    rw [el]
    show cur2.toList.take ((i + r) * 5) = _
    rw [hcur2, List.append_assoc, List.take_append_of_le_length (by rw [List.length_take, Array.length_toList, hs1]; omega), List.take_take, Nat.min_self, hcur1, List.eraseIdx_eq_take_drop_succ, Elm.cells_append, ← hn, Elm.cells_take, ← h4]
    rw [List.take_append_of_le_length (by simp only [List.length_append, List.length_take, Array.length_toList]; rw [hnl, h3]; omega), List.take_of_length_le (by simp only [List.length_append, List.length_take, Array.length_toList]; rw [hnl, h3]; omega), List.take_take]
    congr 1
    have hm : min (i * eS.size) ((i + 1 + r) * eS.size) = i * 5 := by show min (i * 5) ((i + 1 + r) * 5) = i * 5; omega
    rw [hm, Nat.zero_add]
  have GR : Hid (w.grownBy (W1.setCells g ((i + r) * 5) zSl) (some g)) := by
    refine grown_more ?_ (grown_setCells g zSl _ W1) (fun _ e => .inl e)
    rw [hW1]
    exact grown_more (World.grownBy.but (grown_drew (grown_refl w none)) _) (grown_setCells g news _ _) (fun _ e => .inl e)
  have hcap : i + 1 + r ≤ cap := h1
  have hN : (i + 1 + r : Nat) ≤ 512 := hl
  clear hO hh h3 h4 hcur1 hh1 hs1 hcur2 hh2 hs2 hn hA hW1 cells h1 hl h2 hi hg ht
  go_enter Try.func110, Try.ntmps110
  go_wp2_with fail
  go_region_law (refine step_append_room rfl (.tmp 22) (.tmp 25) 22 rfl 29 ii 5 Try.underlying22 hi0 hz1 g 0 i cap (by simp [Act.eval, Act.put]) A r c2 news (by simp [Act.eval, Act.put]) hnl hsrc.out hone.out (by omega) hspare.out ?_; rw [← HW1.out])
  go_wp2
  go_ret
  exact ⟨_, _, _, rfl, FIN.out, GR.out, rfl⟩
end Go.Proofs.Ytlolhdijadhklaa
