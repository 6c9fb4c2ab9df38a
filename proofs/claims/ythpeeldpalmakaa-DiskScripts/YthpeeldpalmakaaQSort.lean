/- The library's sort, over names and over numbers; the names of a disk. -/
import Derived.Test.YthpeeldpalmakaaQCrash
import Derived.Test.YthpeeldpalmakaaQShelf
namespace Go.Proofs.Ythpeeldpalmakaa
open Go.RowKit Go.Sort Go.Shelf Dsk
set_option linter.unusedVariables false

section
variable {α : Type} [Inhabited α] (enc : α → Value)
theorem heap_put {w : World} {g n : Nat} {os : Array Obj} {cur : Array Value} {e : TypeId} {fr : Nat × Nat} (d : Array α) (hb : w.heap[g]? = some (.cells cur e fr)) :
    (grow (putRow enc (Sort.ahead w n) g 0 d) os).heap[g]? = some (.cells (putCells enc 0 d cur) e fr) := by
  have hg : g < w.heap.size := (Array.getElem?_eq_some_iff.1 hb).1
  rw [heap_grow_old _ _ (by simpa using hg)]
  simp [putRow, mapBlock, Sort.ahead, Array.getElem?_modify, hb, onCells]
theorem grown_put {w : World} {g n : Nat} {os : Array Obj} (d : Array α) : w.grownBy (grow (putRow enc (Sort.ahead w n) g 0 d) os) (some g) := by
  refine ⟨rfl, rfl, rfl, by simp, fun k hk hne => ?_⟩
  rw [heap_grow_old _ _ (by simpa using hk)]
  have : g ≠ k := fun e => hne (by rw [e])
  simp [putRow, mapBlock, Sort.ahead, Array.getElem?_modify, this]
theorem take_put (cur : Array Value) (ts : List α) (h : ts.length ≤ cur.size) : (putCells enc 0 ts.toArray cur).toList.take ts.length = ts.map enc := by
  apply List.ext_getElem?
  intro j
  by_cases hj : j < ts.length
  · rw [List.getElem?_take_of_lt hj, Array.getElem?_toList]
    simp [putCells, hj, show j < cur.size by omega]
  · rw [List.getElem?_take_eq_none (by omega), List.getElem?_eq_none (by simp; omega)]
theorem holds_block {w : World} {g : Nat} {cur : Array Value} {e : TypeId} {ss : List α} (hb : w.heap[g]? = some (.cells cur e (0, 0))) (ht : cur.toList.take ss.length = ss.map enc) : Holds enc w g 0 ss.toArray := by
  intro j hj
  have hj' : j < ss.length := by simpa using hj
  refine ⟨?_, by simp [World.frozen?, hb]⟩
  have h1 : (cur.toList.take ss.length)[j]? = (ss.map enc)[j]? := by rw [ht]
  rw [List.getElem?_take_of_lt hj'] at h1
  simp only [World.cell?, hb, Nat.zero_add]
  simp only [Option.isSome_none, Bool.false_eq_true, if_false]
  rw [← Array.getElem?_toList, h1]
  simp [hj']
end
theorem eS_cells (l : List (List UInt8)) : eS.cells l = l.map encStr := by
  unfold Elm.cells
  induction l with
  | nil => rfl
  | cons a l ih => rw [List.flatMap_cons, ih]; rfl
theorem eN_cells (l : List Int) : eN.cells l = l.map (Value.int .i64) := by
  unfold Elm.cells
  induction l with
  | nil => rfl
  | cons a l ih => rw [List.flatMap_cons, ih]; rfl
def srtS (l : List (List UInt8)) : List (List UInt8) := l.mergeSort fun x y => decide (x ≤ y)
theorem srtS_len (l : List (List UInt8)) : (srtS l).length = l.length := (List.mergeSort_perm _ _).length_eq
theorem sorted_len (l : List Int) : (sorted l).length = l.length := (List.mergeSort_perm _ _).length_eq
theorem sortS_any (base : Nat) (v : Value) (l : List (List UInt8)) (w : World) (hl : l.length < 4611686018427387904) (hown : eS.Own w base v l) :
    Calls Try.prog 30 #[v] w fun e w' => e = .returned (.tuple #[]) ∧ eS.Own w' base v (srtS l) ∧ w.grownBy w' v.ownBlock := by
  rcases hown.2 with ⟨hv, h0⟩ | ⟨g, cap, cur, hv, hbase, hb, h1, h2, h3, h4⟩
  · have hL : l = [] := List.eq_nil_of_length_eq_zero h0
    subst hL hv
    refine Calls.mono (AnyM.slices_Sort_string_none (P := Try.prog) Try.sortS none 0 w) ?_
    rintro e w' ⟨rfl, rfl⟩
    exact ⟨rfl, by rw [show srtS [] = [] by simp [srtS]]; exact hown, grown_refl _ _⟩
  · subst hv
    have h4' : cur.toList.take l.length = l.map encStr := by
      rw [eS_cells] at h4
      have : eS.size = 1 := rfl
      rw [this, Nat.mul_one] at h4
      exact h4
    refine Calls.mono (AnyM.slices_Sort_string (P := Try.prog) Try.sortS g 0 cap l w (holds_block encStr hb h4') (Array.getElem?_eq_some_iff.1 hb).1 hl) ?_
    rintro e w' ⟨rfl, n, os, rfl⟩
    refine ⟨rfl, ?_, grown_put encStr _⟩
    show World.ownsRow _ base eS.el eS.size _ (srtS l).length (eS.cells (srtS l))
    refine ⟨by rw [eS.cells_len], .inr ⟨g, cap, _, by rw [srtS_len], hbase, heap_put encStr _ hb, by rw [srtS_len]; exact h1, h2, by simp [putCells, h3], ?_⟩⟩
    have : eS.size = 1 := rfl
    rw [this, Nat.mul_one, eS_cells]
    rw [this, Nat.mul_one] at h3
    exact take_put encStr cur (srtS l) (by rw [srtS_len, h3]; exact h1)
theorem sortN_any (base : Nat) (v : Value) (l : List Int) (w : World) (hl : l.length < 4611686018427387904) (hown : eN.Own w base v l) :
    Calls Try.prog 37 #[v] w fun e w' => e = .returned (.tuple #[]) ∧ eN.Own w' base v (sorted l) ∧ w.grownBy w' v.ownBlock := by
  rcases hown.2 with ⟨hv, h0⟩ | ⟨g, cap, cur, hv, hbase, hb, h1, h2, h3, h4⟩
  · have hL : l = [] := List.eq_nil_of_length_eq_zero h0
    subst hL hv
    refine Calls.mono (AnyM.slices_Sort_int_none (P := Try.prog) Try.sortN none 0 w) ?_
    rintro e w' ⟨rfl, rfl⟩
    exact ⟨rfl, by rw [show sorted [] = [] by simp [sorted]]; exact hown, grown_refl _ _⟩
  · subst hv
    have h4' : cur.toList.take l.length = l.map (Value.int .i64) := by
      rw [eN_cells] at h4
      have : eN.size = 1 := rfl
      rw [this, Nat.mul_one] at h4
      exact h4
    refine Calls.mono (AnyM.slices_Sort_int (P := Try.prog) Try.sortN g 0 cap l w (holds_block (Value.int .i64) hb h4') (Array.getElem?_eq_some_iff.1 hb).1 hl) ?_
    rintro e w' ⟨rfl, n, os, rfl⟩
    refine ⟨rfl, ?_, grown_put (Value.int .i64) _⟩
    show World.ownsRow _ base eN.el eN.size _ (sorted l).length (eN.cells (sorted l))
    refine ⟨by rw [eN.cells_len], .inr ⟨g, cap, _, by rw [sorted_len], hbase, heap_put (Value.int .i64) _ hb, by rw [sorted_len]; exact h1, h2, by simp [putCells, h3], ?_⟩⟩
    have : eN.size = 1 := rfl
    rw [this, Nat.mul_one, eN_cells]
    rw [this, Nat.mul_one] at h3
    exact take_put (Value.int .i64) cur (sorted l) (by rw [sorted_len, h3]; exact h1)
/-- Lists in order that hold the same are one. -/
theorem srtS_perm {l l' : List (List UInt8)} (h : l.Perm l') : srtS l = srtS l' := by
  have tr : ∀ a b c : List UInt8, decide (a ≤ b) = true → decide (b ≤ c) = true → decide (a ≤ c) = true := fun a b c h1 h2 => by
    simp only [decide_eq_true_eq] at *
    exact List.le_trans h1 h2
  have tt : ∀ a b : List UInt8, (decide (a ≤ b) || decide (b ≤ a)) = true := fun a b => by
    simp only [Bool.or_eq_true, decide_eq_true_eq]
    exact List.le_total a b
  refine List.Perm.eq_of_pairwise (le := fun a b => decide (a ≤ b) = true) (fun a b _ _ h1 h2 => ?_) (List.pairwise_mergeSort tr tt l) (List.pairwise_mergeSort tr tt l') (((List.mergeSort_perm _ _).trans h).trans (List.mergeSort_perm _ _).symm)
  simp only [decide_eq_true_eq] at h1 h2
  exact List.le_antisymm h1 h2
theorem sorted_perm {l l' : List Int} (h : l.Perm l') : sorted l = sorted l' := by
  have tr : ∀ a b c : Int, decide (a ≤ b) = true → decide (b ≤ c) = true → decide (a ≤ c) = true := fun a b c h1 h2 => by
    simp only [decide_eq_true_eq] at *
    omega
  have tt : ∀ a b : Int, (decide (a ≤ b) || decide (b ≤ a)) = true := fun a b => by
    simp only [Bool.or_eq_true, decide_eq_true_eq]
    omega
  refine List.Perm.eq_of_pairwise (le := fun a b => decide (a ≤ b) = true) (fun a b _ _ h1 h2 => ?_) (List.pairwise_mergeSort tr tt l) (List.pairwise_mergeSort tr tt l') (((List.mergeSort_perm _ _).trans h).trans (List.mergeSort_perm _ _).symm)
  simp only [decide_eq_true_eq] at h1 h2
  omega
set_option maxRecDepth 100000 in
set_option maxHeartbeats 3200000 in
theorem names_run {w : World} {b bm : Nat} {M : List (List UInt8 × Nat)} (c0 : w.cell? ⟨b, 0, none⟩ = some (.map (some bm))) (hm : MapOf w bm M) (hl : M.length ≤ 64) :
    Calls Try.prog 20 #[.pointer (some ⟨b, 0, none⟩)] w fun e w' => ∃ ad n c, e = .returned (.slice ad n c) ∧ eS.Own w' w.heap.size (.slice ad n c) (srtS (M.map (·.1))) ∧ w.grownBy w' none := by
  obtain ⟨ii, hi, hz0, hz1, hz2⟩ := info_parts eS.hi
  have hbm : bm < w.heap.size := hm.lt
  have HM : Hid (MapOf w bm M) := hm
  have HL : Hid (M.length ≤ 64) := hl
  clear hm
  go_enter Try.func20, Try.ntmps20
  go_wp2_with (first
    | (at_len; refine wpList_len_M _ rfl _ rfl rfl HM.out ?_)
    | (at_make; (refine wpList_make_own _ rfl _ _ 27 rfl w.heap.size 9 ii (.string ⟨#[]⟩) 1 Try.underlying27 hi hz0 hz1 .i64 .i64 _ M.length rfl rfl rfl (by rw [hz2]; have := HL.out; show 16 * _ ≤ _; omega) (by have := HL.out; unfold maxLen; omega) (Nat.le_refl _) ?_); intro w1 hO1 hg1; have c11 := hg1.cell c0 (by simp); have hm1 := HM.out.grown hg1 (by simp))
    | (at_range; refine wpList_range_M _ rfl _ rfl rfl hm1 ?_; intro w2 cnt2 hrg2 hg2 hs2))
  go_frame
  have hr1 : Hid (w.heap.size ≤ w1.heap.size) := hg1.size
  have hO1' : eS.Own w1 w.heap.size (.slice (some ⟨w.heap.size, 0, none⟩) 0 M.length) [] := hO1
  have hw1 : w.heap.size < w1.heap.size := ((hO1'.lt w.heap.size rfl)).2
  generalize w1.heap.size = r at hrg2 hr1 hw1 ⊢
  have hg12 := grown_more hg1 hg2 (by simp)
  have hO2 := hO1'.grown hg2
  clear hg2 hs2 hm1 c11 hO1 hO1' hg1 c0
  go_loopw [3] (fun v wr => ∃ R cnt l ad n c, v = Value.slice ad n c ∧ Rng wr bm r M R cnt ∧ eS.Own wr w.heap.size (Value.slice ad n c) l ∧ (Value.slice ad n c).ownBlock ≠ some r ∧ (l ++ R.map (·.1)).Perm (M.map (·.1)) ∧ w.grownBy wr none) (fun _ wr => wr.rangeLeft bm r)
  case atStart => exact ⟨M, cnt2, [], _, _, _, rfl, hrg2, hO2, by simp [Value.ownBlock]; omega, by simp, hg12⟩
  case round =>
    obtain ⟨R, cnt, l, ad, n, c, rfl, hrg, hOr, hnr, hP, hgw⟩ := hrel
    have hll : l.length + R.length = M.length := by have := hP.length_eq; simpa using this
    have HP : Hid ((l ++ R.map (·.1)).Perm (M.map (·.1))) := hP
    clear hP hO2 hrg2 hg12
    go_wp2_with (at_next; refine wpList_next_M _ rfl _ rfl rfl hrg ?_ ?_)
    · intro h0
      have OD := sortS_any w.heap.size (.slice ad n c) l wr (by omega) hOr
      have hrow : ∀ k, (Value.slice ad n c).ownBlock = some k → w.heap.size ≤ k := fun k hk => (hOr.lt k hk).1
      have hp' : l.Perm (M.map (·.1)) := by have := HP.out; rw [h0] at this; simpa using this
      rw [srtS_perm hp'] at OD
      clear hrg hOr hll hl h0 hp'
      go_wp2_with (go_at_call 30; (with_reducible refine OD.mono ?_); rintro e w3 ⟨rfl, hO3, hg3⟩)
      go_ret
      exact ⟨ad, n, c, rfl, hO3, grown_more hgw hg3 fun k hk => .inr (hrow k hk)⟩
    · intro nm f R' w3 cnt1 hmem hperm hne hrg3 hlt hg3 hs3 hen
      have hgw3 := grown_more hgw hg3 (fun k e => .inr (by injection e with e; have := hr1.out; omega))
      have hO3 := hOr.but hg3 (fun k hk e => hnr (by rw [hk]; exact e.symm))
      have hlR : R.length = R'.length + 1 := by have := hperm.length_eq; simpa using this
      have HP' : Hid (((l ++ [nm]) ++ R'.map (·.1)).Perm (M.map (·.1))) := by
        have h1 := (hperm.map (·.1)).append_left l
        simp only [List.map_cons] at h1
        rw [List.append_assoc]
        exact h1.symm.trans HP.out
      have HM3 : Hid (w3.rangeLeft bm r < wr.rangeLeft bm r) := by
        show _ < _
        rw [hrg.left, hrg3.left]; exact hlt
      have hx0 : ∀ o, o = Obj.cells #[.string ⟨nm.toArray⟩] 9 → eS.Rx (w3.alloc o) (.slice (some ⟨w3.heap.size, 0, none⟩) 1 1) [nm] := fun o ho => Elm.rx_one fun j u hu => by
        match j, hu with
        | 0, hu => injection hu with hu; rw [← hu, ho]; exact new_at w3 rfl rfl
      have hO4 : ∀ o, eS.Own (w3.alloc o) w.heap.size (.slice ad n c) l := fun o => hO3.grown (World.grownBy_alloc w3 o none)
      have hrg4 : ∀ o, Rng (w3.alloc o) bm r M R' cnt1 := fun o => hrg3.kept (World.grownBy_alloc w3 o none) (by simp) (by simp)
      have hnl : (Value.slice ad n c).ownBlock ≠ some bm := fun e => by have := (hOr.lt bm e).1; omega
      have hz3 := hgw3.size
      have hrr := hrg3.lt.2.1
      clear hmem hperm hne hlt hrg hOr hs3 hO3 hg3 hgw HP
      go_wp2_with (at_builtin; refine Elm.wpList_append (E := eS) rfl (.tmp 22) (.tmp 24) rfl w.heap.size _ l rfl (hO4 _) _ [nm] rfl (hx0 _ rfl) (by simp; omega) (by show (l.length + 1) * 16 ≤ _; omega) (by simp; omega) ?_; intro ad4 n4 c4 w4 hO5 hg5 hl5)
      go_roundw
      case rel =>
        refine ⟨R', cnt1, l ++ [nm], ad4, n4, c4, rfl, (hrg4 _).kept hg5 (fun e => hnl e.symm) (fun e => hnr e.symm), hO5, fun e => ?_, HP'.out, grown_more hgw3 (grown_more ((World.grownBy_alloc w3 _ none).but _) hg5 (fun _ e => .inl e)) (fun k hk => .inr (((hO4 (Obj.cells #[] 0)).lt k hk).1))⟩
        rcases hl5 with h5 | h5
        · rw [h5] at e; exact hnr e
        · rw [h5] at e; injection e with e; simp at e; omega
      case measure =>
        rw [((hrg4 _).kept hg5 (fun e => hnl e.symm) (fun e => hnr e.symm)).left, ← hrg3.left]
        exact HM3.out
theorem names_any (b : Nat) (s : St) (F : Nat → Prop) (w : World) (h : Dk w b s F) :
    Calls Try.prog 20 #[.pointer (some ⟨b, 0, none⟩)] w fun e w' => ∃ ad n c, e = .returned (.slice ad n c) ∧ eS.Own w' w.heap.size (.slice ad n c) (srtS (s.l.map (·.1))) ∧ w.grownBy w' none := by
  obtain ⟨bm, M, c, G, h1, h2, h3, h4⟩ := id h
  have := h3.len
  rw [h2, lay_keys]
  rw [h2] at this
  exact names_run h1.c0 h1.map (by simpa [lay] using this)
end Go.Proofs.Ythpeeldpalmakaa
