/- The library's sort, over names and over numbers; the names of a disk. Which write a crash tears. Crash. -/
import Derived.Test.YtapdhkgeolcogaaGreatDoorGn
import Derived.Test.YtapdhkgeolcogaaGreatDoorGo
namespace Go.Proofs.YtapdhkgeolcogaaGreatDoor
open Go.RowKit Go.Sort Go.Shelf Dsk
set_option linter.unusedVariables false

section
variable {α : Type} [Inhabited α] (enc : α → Value)
theorem heap_put {w : World} {g n : Nat} {os : Array Obj} {cur : Array Value} {e : TypeId} {fr : Nat × Nat} (d : Array α) (hb : w.heap[g]? = some (.cells cur e fr)) :
    (grow (putRow enc (Sort.ahead w n) g 0 d) os).heap[g]? = some (.cells (putCells enc 0 d cur) e fr) := by
  have hg : g < w.heap.size := (Array.getElem?_eq_some_iff.1 hb).1
  rw [heap_grow_old _ _ (by simpa using hg)]
  simp [putRow, mapBlock, Sort.ahead, Array.getElem?_modify, hb, onCells]
theorem grown_put {w : World} {g n : Nat} {os : Array Obj} (d : Array α) : w.grownBy (grow (putRow enc (Sort.ahead w n) g 0 d) os) (some g) := by
  refine ⟨rfl, rfl, rfl, by simp, fun k hk hne => ?_⟩
  rw [heap_grow_old _ _ (by simpa using hk)]
  have : g ≠ k := fun e => hne (by rw [e])
  simp [putRow, mapBlock, Sort.ahead, Array.getElem?_modify, this]
theorem take_put (cur : Array Value) (ts : List α) (h : ts.length ≤ cur.size) : (putCells enc 0 ts.toArray cur).toList.take ts.length = ts.map enc := by
  apply List.ext_getElem?
  intro j
  by_cases hj : j < ts.length
  · rw [List.getElem?_take_of_lt hj, Array.getElem?_toList]
    simp [putCells, hj, show j < cur.size by omega]
  · rw [List.getElem?_take_eq_none (by omega), List.getElem?_eq_none (by simp; omega)]
theorem holds_block {w : World} {g : Nat} {cur : Array Value} {e : TypeId} {ss : List α} (hb : w.heap[g]? = some (.cells cur e (0, 0))) (ht : cur.toList.take ss.length = ss.map enc) : Holds enc w g 0 ss.toArray := by
  intro j hj
  have hj' : j < ss.length := by simpa using hj
  refine ⟨?_, by simp [World.frozen?, hb]⟩
  have h1 : (cur.toList.take ss.length)[j]? = (ss.map enc)[j]? := by rw [ht]
  rw [List.getElem?_take_of_lt hj'] at h1
  simp only [World.cell?, hb, Nat.zero_add]
  simp only [Option.isSome_none, Bool.false_eq_true, if_false]
  rw [← Array.getElem?_toList, h1]
  simp [hj']
end
theorem eS_cells (l : List (List UInt8)) : eS.cells l = l.map encStr := by
  unfold Elm.cells
  induction l with
  | nil => rfl
  | cons a l ih => rw [List.flatMap_cons, ih]; rfl
theorem eN_cells (l : List Int) : eN.cells l = l.map (Value.int .i64) := by
  unfold Elm.cells
  induction l with
  | nil => rfl
  | cons a l ih => rw [List.flatMap_cons, ih]; rfl
def srtS (l : List (List UInt8)) : List (List UInt8) := l.mergeSort fun x y => decide (x ≤ y)
theorem srtS_len (l : List (List UInt8)) : (srtS l).length = l.length := (List.mergeSort_perm _ _).length_eq
theorem sorted_len (l : List Int) : (sorted l).length = l.length := (List.mergeSort_perm _ _).length_eq
theorem sortS_any (base : Nat) (v : Value) (l : List (List UInt8)) (w : World) (hl : l.length < 4611686018427387904) (hown : eS.Own w base v l) :
    Calls Tryz.prog 53 #[v] w fun e w' => e = .returned (.tuple #[]) ∧ eS.Own w' base v (srtS l) ∧ w.grownBy w' v.ownBlock := by
  rcases hown.2 with ⟨hv, h0⟩ | ⟨g, cap, cur, hv, hbase, hb, h1, h2, h3, h4⟩
  · have hL : l = [] := List.eq_nil_of_length_eq_zero h0
    subst hL hv
    refine Calls.mono (AnyM.slices_Sort_string_none (P := Tryz.prog) Tryz.sortS none 0 w) ?_
    rintro e w' ⟨rfl, rfl⟩
    exact ⟨rfl, by rw [show srtS [] = [] by simp [srtS]]; exact hown, grown_refl _ _⟩
  · subst hv
    have h4' : cur.toList.take l.length = l.map encStr := by
      rw [eS_cells] at h4
      have : eS.size = 1 := rfl
      rw [this, Nat.mul_one] at h4
      exact h4
    refine Calls.mono (AnyM.slices_Sort_string (P := Tryz.prog) Tryz.sortS g 0 cap l w (holds_block encStr hb h4') (Array.getElem?_eq_some_iff.1 hb).1 hl) ?_
    rintro e w' ⟨rfl, n, os, rfl⟩
    refine ⟨rfl, ?_, grown_put encStr _⟩
    show World.ownsRow _ base eS.el eS.size _ (srtS l).length (eS.cells (srtS l))
    refine ⟨by rw [eS.cells_len], .inr ⟨g, cap, _, by rw [srtS_len], hbase, heap_put encStr _ hb, by rw [srtS_len]; exact h1, h2, by simp [putCells, h3], ?_⟩⟩
    have : eS.size = 1 := rfl
    rw [this, Nat.mul_one, eS_cells]
    rw [this, Nat.mul_one] at h3
    exact take_put encStr cur (srtS l) (by rw [srtS_len, h3]; exact h1)
theorem sortN_any (base : Nat) (v : Value) (l : List Int) (w : World) (hl : l.length < 4611686018427387904) (hown : eN.Own w base v l) :
    Calls Tryz.prog 64 #[v] w fun e w' => e = .returned (.tuple #[]) ∧ eN.Own w' base v (sorted l) ∧ w.grownBy w' v.ownBlock := by
  rcases hown.2 with ⟨hv, h0⟩ | ⟨g, cap, cur, hv, hbase, hb, h1, h2, h3, h4⟩
  · have hL : l = [] := List.eq_nil_of_length_eq_zero h0
    subst hL hv
    refine Calls.mono (AnyM.slices_Sort_int_none (P := Tryz.prog) Tryz.sortN none 0 w) ?_
    rintro e w' ⟨rfl, rfl⟩
    exact ⟨rfl, by rw [show sorted [] = [] by simp [sorted]]; exact hown, grown_refl _ _⟩
  · subst hv
    have h4' : cur.toList.take l.length = l.map (Value.int .i64) := by
      rw [eN_cells] at h4
      have : eN.size = 1 := rfl
      rw [this, Nat.mul_one] at h4
      exact h4
    refine Calls.mono (AnyM.slices_Sort_int (P := Tryz.prog) Tryz.sortN g 0 cap l w (holds_block (Value.int .i64) hb h4') (Array.getElem?_eq_some_iff.1 hb).1 hl) ?_
    rintro e w' ⟨rfl, n, os, rfl⟩
    refine ⟨rfl, ?_, grown_put (Value.int .i64) _⟩
    show World.ownsRow _ base eN.el eN.size _ (sorted l).length (eN.cells (sorted l))
    refine ⟨by rw [eN.cells_len], .inr ⟨g, cap, _, by rw [sorted_len], hbase, heap_put (Value.int .i64) _ hb, by rw [sorted_len]; exact h1, h2, by simp [putCells, h3], ?_⟩⟩
    have : eN.size = 1 := rfl
    rw [this, Nat.mul_one, eN_cells]
    rw [this, Nat.mul_one] at h3
    exact take_put (Value.int .i64) cur (sorted l) (by rw [sorted_len, h3]; exact h1)
/-- Lists in order that hold the same are one. -/
theorem srtS_perm {l l' : List (List UInt8)} (h : l.Perm l') : srtS l = srtS l' := by
  have tr : ∀ a b c : List UInt8, decide (a ≤ b) = true → decide (b ≤ c) = true → decide (a ≤ c) = true := fun a b c h1 h2 => by
    simp only [decide_eq_true_eq] at *
    exact List.le_trans h1 h2
  have tt : ∀ a b : List UInt8, (decide (a ≤ b) || decide (b ≤ a)) = true := fun a b => by
    simp only [Bool.or_eq_true, decide_eq_true_eq]
    exact List.le_total a b
  refine List.Perm.eq_of_pairwise (le := fun a b => decide (a ≤ b) = true) (fun a b _ _ h1 h2 => ?_) (List.pairwise_mergeSort tr tt l) (List.pairwise_mergeSort tr tt l') (((List.mergeSort_perm _ _).trans h).trans (List.mergeSort_perm _ _).symm)
  simp only [decide_eq_true_eq] at h1 h2
  exact List.le_antisymm h1 h2
theorem sorted_perm {l l' : List Int} (h : l.Perm l') : sorted l = sorted l' := by
  have tr : ∀ a b c : Int, decide (a ≤ b) = true → decide (b ≤ c) = true → decide (a ≤ c) = true := fun a b c h1 h2 => by
    simp only [decide_eq_true_eq] at *
    omega
  have tt : ∀ a b : Int, (decide (a ≤ b) || decide (b ≤ a)) = true := fun a b => by
    simp only [Bool.or_eq_true, decide_eq_true_eq]
    omega
  refine List.Perm.eq_of_pairwise (le := fun a b => decide (a ≤ b) = true) (fun a b _ _ h1 h2 => ?_) (List.pairwise_mergeSort tr tt l) (List.pairwise_mergeSort tr tt l') (((List.mergeSort_perm _ _).trans h).trans (List.mergeSort_perm _ _).symm)
  simp only [decide_eq_true_eq] at h1 h2
  omega
set_option maxRecDepth 100000 in
set_option maxHeartbeats 3200000 in
theorem names_run {w : World} {b bm : Nat} {M : List (List UInt8 × Nat)} (c0 : w.cell? ⟨b, 0, none⟩ = some (.map (some bm))) (hm : MapOf w bm M) (hl : M.length ≤ 64) :
    Calls Tryz.prog 28 #[.pointer (some ⟨b, 0, none⟩)] w fun e w' => ∃ ad n c, e = .returned (.slice ad n c) ∧ eS.Own w' w.heap.size (.slice ad n c) (srtS (M.map (·.1))) ∧ w.grownBy w' none := by
  obtain ⟨ii, hi, hz0, hz1, hz2⟩ := info_parts eS.hi
  have hbm : bm < w.heap.size := hm.lt
  have HM : Hid (MapOf w bm M) := hm
  have HL : Hid (M.length ≤ 64) := hl
  clear hm
  go_enter Tryz.func28, Tryz.ntmps28
  go_wp2_with (first
    | (at_len; refine wpList_len_M _ rfl _ rfl rfl HM.out ?_)
    | (at_make; (refine wpList_make_own _ rfl _ _ 27 rfl w.heap.size 9 ii (.string ⟨#[]⟩) 1 Tryz.underlying27 hi hz0 hz1 .i64 .i64 _ M.length rfl rfl rfl (by rw [hz2]; have := HL.out; show 16 * _ ≤ _; omega) (by have := HL.out; unfold maxLen; omega) (Nat.le_refl _) ?_); intro w1 hO1 hg1; have c11 := hg1.cell c0 (by simp); have hm1 := HM.out.grown hg1 (by simp))
    | (at_range; refine wpList_range_M _ rfl _ rfl rfl hm1 ?_; intro w2 cnt2 hrg2 hg2 hs2))
  go_frame
  have hr1 : Hid (w.heap.size ≤ w1.heap.size) := hg1.size
  have hO1' : eS.Own w1 w.heap.size (.slice (some ⟨w.heap.size, 0, none⟩) 0 M.length) [] := hO1
  have hw1 : w.heap.size < w1.heap.size := ((hO1'.lt w.heap.size rfl)).2
  generalize w1.heap.size = r at hrg2 hr1 hw1 ⊢
  have hg12 := grown_more hg1 hg2 (by simp)
  have hO2 := hO1'.grown hg2
  clear hg2 hs2 hm1 c11 hO1 hO1' hg1 c0
  go_loopw [3] (fun v wr => ∃ R cnt l ad n c, v = Value.slice ad n c ∧ Rng wr bm r M R cnt ∧ eS.Own wr w.heap.size (Value.slice ad n c) l ∧ (Value.slice ad n c).ownBlock ≠ some r ∧ (l ++ R.map (·.1)).Perm (M.map (·.1)) ∧ w.grownBy wr none) (fun _ wr => wr.rangeLeft bm r)
  case atStart => exact ⟨M, cnt2, [], _, _, _, rfl, hrg2, hO2, by simp [Value.ownBlock]; omega, by simp, hg12⟩
  case round =>
    obtain ⟨R, cnt, l, ad, n, c, rfl, hrg, hOr, hnr, hP, hgw⟩ := hrel
    have hll : l.length + R.length = M.length := by have := hP.length_eq; simpa using this
    have HP : Hid ((l ++ R.map (·.1)).Perm (M.map (·.1))) := hP
    clear hP hO2 hrg2 hg12
    go_wp2_with (at_next; refine wpList_next_M _ rfl _ rfl rfl hrg ?_ ?_)
    · intro h0
      have OD := sortS_any w.heap.size (.slice ad n c) l wr (by omega) hOr
      have hrow : ∀ k, (Value.slice ad n c).ownBlock = some k → w.heap.size ≤ k := fun k hk => (hOr.lt k hk).1
      have hp' : l.Perm (M.map (·.1)) := by have := HP.out; rw [h0] at this; simpa using this
      rw [srtS_perm hp'] at OD
      clear hrg hOr hll hl h0 hp'
      go_wp2_with (go_at_call 53; (with_reducible refine OD.mono ?_); rintro e w3 ⟨rfl, hO3, hg3⟩)
      go_ret
      exact ⟨ad, n, c, rfl, hO3, grown_more hgw hg3 fun k hk => .inr (hrow k hk)⟩
    · intro nm f R' w3 cnt1 hmem hperm hne hrg3 hlt hg3 hs3 hen
      have hgw3 := grown_more hgw hg3 (fun k e => .inr (by injection e with e; have := hr1.out; omega))
      have hO3 := hOr.but hg3 (fun k hk e => hnr (by rw [hk]; exact e.symm))
      have hlR : R.length = R'.length + 1 := by have := hperm.length_eq; simpa using this
      have HP' : Hid (((l ++ [nm]) ++ R'.map (·.1)).Perm (M.map (·.1))) := by
        have h1 := (hperm.map (·.1)).append_left l
        simp only [List.map_cons] at h1
        rw [List.append_assoc]
        exact h1.symm.trans HP.out
      have HM3 : Hid (w3.rangeLeft bm r < wr.rangeLeft bm r) := by
        show _ < _
        rw [hrg.left, hrg3.left]; exact hlt
      have hx0 : ∀ o, o = Obj.cells #[.string ⟨nm.toArray⟩] 9 → eS.Rx (w3.alloc o) (.slice (some ⟨w3.heap.size, 0, none⟩) 1 1) [nm] := fun o ho => Elm.rx_one fun j u hu => by
        match j, hu with
        | 0, hu => injection hu with hu; rw [← hu, ho]; exact new_at w3 rfl rfl
      have hO4 : ∀ o, eS.Own (w3.alloc o) w.heap.size (.slice ad n c) l := fun o => hO3.grown (World.grownBy_alloc w3 o none)
      have hrg4 : ∀ o, Rng (w3.alloc o) bm r M R' cnt1 := fun o => hrg3.kept (World.grownBy_alloc w3 o none) (by simp) (by simp)
      have hnl : (Value.slice ad n c).ownBlock ≠ some bm := fun e => by have := (hOr.lt bm e).1; omega
      have hz3 := hgw3.size
      have hrr := hrg3.lt.2.1
      clear hmem hperm hne hlt hrg hOr hs3 hO3 hg3 hgw HP
      go_wp2_with (at_builtin; refine Elm.wpList_append (E := eS) rfl (.tmp 22) (.tmp 24) rfl w.heap.size _ l rfl (hO4 _) _ [nm] rfl (hx0 _ rfl) (by simp; omega) (by show (l.length + 1) * 16 ≤ _; omega) (by simp; omega) ?_; intro ad4 n4 c4 w4 hO5 hg5 hl5)
      go_roundw
      case rel =>
        refine ⟨R', cnt1, l ++ [nm], ad4, n4, c4, rfl, (hrg4 _).kept hg5 (fun e => hnl e.symm) (fun e => hnr e.symm), hO5, fun e => ?_, HP'.out, grown_more hgw3 (grown_more ((World.grownBy_alloc w3 _ none).but _) hg5 (fun _ e => .inl e)) (fun k hk => .inr (((hO4 (Obj.cells #[] 0)).lt k hk).1))⟩
        rcases hl5 with h5 | h5
        · rw [h5] at e; exact hnr e
        · rw [h5] at e; injection e with e; simp at e; omega
      case measure =>
        rw [((hrg4 _).kept hg5 (fun e => hnl e.symm) (fun e => hnr e.symm)).left, ← hrg3.left]
        exact HM3.out
theorem names_any (b : Nat) (s : St) (F : Nat → Prop) (w : World) (h : Dk w b s F) :
    Calls Tryz.prog 28 #[.pointer (some ⟨b, 0, none⟩)] w fun e w' => ∃ ad n c, e = .returned (.slice ad n c) ∧ eS.Own w' w.heap.size (.slice ad n c) (srtS (s.l.map (·.1))) ∧ w.grownBy w' none := by
  obtain ⟨bm, M, c, G, h1, h2, h3, h4⟩ := id h
  have := h3.len
  rw [h2, lay_keys]
  rw [h2] at this
  exact names_run h1.c0 h1.map (by simpa [lay] using this)
end Go.Proofs.YtapdhkgeolcogaaGreatDoor
namespace Go.Proofs.YtapdhkgeolcogaaGreatDoor
open Go.RowKit Go.Sort Go.Shelf Dsk
set_option linter.unusedVariables false

theorem nums_lay_cons (p : List UInt8 × Nat) (R : List (List UInt8 × Nat)) (c : Nat → Fl) : nums (lay (p :: R) c) = (c p.2).ws.map (·.1) ++ nums (lay R c) := by rw [lay_cons, nums_cons]
theorem nums_perm {L L' : Ds} (h : L.Perm L') : (nums L).Perm (nums L') := h.flatMap_right _
set_option maxRecDepth 100000 in
set_option maxHeartbeats 6400000 in
theorem behind_run {w : World} {b bm : Nat} {M : List (List UInt8 × Nat)} {c : Nat → Fl} {G : Nat → Nat → Prop} {m : Int} (h : DkD w b bm M c G m) (keep : Nat) (hk : keep ≤ 9223372036854775807) (hb : (nums (lay M c)).length ≤ 1000000000) :
    Calls Tryz.prog 43 #[.pointer (some ⟨b, 0, none⟩), .int .i64 (keep : Int)] w fun e w' => e = .returned (.int .i64 (behind ⟨lay M c, m⟩ keep)) ∧ w.grownBy w' none := by
  have hm := h.map
  have c0 := h.c0
  have H : Hid (DkD w b bm M c G m) := h
  have hbm : bm < w.heap.size := hm.lt
  obtain ⟨B, hB⟩ : ∃ B, B = behind ⟨lay M c, m⟩ keep := ⟨_, rfl⟩
  rw [← hB]
  have HB : Hid (B = behind ⟨lay M c, m⟩ keep) := hB
  have HN : Hid ((nums (lay M c)).length ≤ 1000000000) := hb
  clear h hB hb
  go_enter Tryz.func43, Tryz.ntmps43
  go_wp2_with (at_range; refine wpList_range_M _ rfl _ rfl rfl hm ?_; intro w2 cnt2 hrg2 hg2 hs2)
  go_frame
  obtain ⟨r, hr⟩ : ∃ r, r = w.heap.size := ⟨_, rfl⟩
  rw [← hr] at hrg2 ⊢
  have hr1 : Hid (w.heap.size ≤ r) := Nat.le_of_eq hr.symm
  clear hs2 hr hm c0
  go_loopw [5] (fun v wr => ∃ R cnt l ad n cp, v = Value.slice ad n cp ∧ Rng wr bm r M R cnt ∧ eN.Own wr w.heap.size (Value.slice ad n cp) l ∧ (Value.slice ad n cp).ownBlock ≠ some r ∧ (l ++ nums (lay R c)).Perm (nums (lay M c)) ∧ w.grownBy wr none) (fun _ wr => wr.rangeLeft bm r)
  case atStart => exact ⟨M, cnt2, [], none, 0, 0, rfl, hrg2, Elm.nil _ _, by simp [Value.ownBlock], by simp, hg2⟩
  case round =>
    obtain ⟨R, cnt, l, ad, n, cp, rfl, hrg, hOr, hnr, hP, hgw⟩ := hrel
    have HP : Hid ((l ++ nums (lay R c)).Perm (nums (lay M c))) := hP
    clear hP hrg2 hg2
    go_wp2_with (at_next; refine wpList_next_M _ rfl _ rfl rfl hrg ?_ ?_)
    · intro h0
      have hp' : l.Perm (nums (lay M c)) := by have := HP.out; rw [h0] at this; simpa [lay, nums] using this
      have hll : l.length = (nums (lay M c)).length := hp'.length_eq
      have hN := HN.out
      have hn := hOr.len
      subst hn
      have OD := sortN_any w.heap.size (.slice ad l.length cp) l wr (by omega) hOr
      have hrow : ∀ k, (Value.slice ad l.length cp).ownBlock = some k → w.heap.size ≤ k := fun k hk => (hOr.lt k hk).1
      have k1 := hgw.cell H.out.c1 (by simp)
      have hlN : (l.length : Int) ≤ 1000000000 := by omega
      by_cases hkp : l.length ≤ keep
      · have e1 : B = m := by rw [HB.out]; unfold behind; rw [if_pos (by rw [← hll]; exact hkp)]
        have HE : Hid (B = m) := e1
        clear hrg hOr hll h0 hp' OD e1 hN
        go_wp2
        go_ret
        exact ⟨ret_int HE.out.symm, hgw⟩
      · have hsl : keep < (sorted l).length := by rw [sorted_len]; omega
        have e1 : B = (sorted l)[keep]'hsl := by
          rw [HB.out]; unfold behind
          rw [if_neg (by rw [← hll]; exact hkp)]
          show (sorted (nums (lay M c))).getD keep 0 = _
          rw [← sorted_perm hp']
          simp [List.getD, hsl]
        have hget : (sorted l)[keep]? = some B := by rw [e1]; exact List.getElem?_eq_getElem hsl
        have hlen : (Value.slice ad l.length cp) = .slice ad (sorted l).length cp := by rw [sorted_len]
        have IDX : Hid (∀ w3, eN.Own w3 w.heap.size (.slice ad l.length cp) (sorted l) → ∃ g q, (∀ W, (Instr.indexAt 115 (.slice ad l.length cp) (.int .i64 (keep : Int))).run Tryz.prog W = .ok (.pointer (some ⟨g, q, none⟩)) W) ∧ w3.cell? ⟨g, q, none⟩ = some (.int .i64 B)) := fun w3 hO3 => by
          obtain ⟨g, q, a1, a2, _⟩ := hO3.idx (by rw [sorted_len]; omega) hget
          exact ⟨g, q, a1, a2 0 _ rfl⟩
        clear hrg hOr hll h0 hp' e1 hget hlen hsl hN
        go_wp2_with (go_at_call 64; (with_reducible refine OD.mono ?_); rintro e w3 ⟨rfl, hO3, hg3⟩; obtain ⟨g, q, hix, hcl⟩ := IDX.out w3 hO3)
        go_ret
        exact ⟨rfl, grown_more hgw hg3 fun k hk => .inr (hrow k hk)⟩
    · intro nm f R' w3 cnt1 hmem hperm hne hrg3 hlt hg3 hs3 hen
      have hgw3 := grown_more hgw hg3 (fun k e => .inr (by injection e with e; have := hr1.out; omega))
      have hO3 := hOr.but hg3 (fun k hk e => hnr (by rw [hk]; exact e.symm))
      obtain ⟨vb, vw, g1, _⟩ := ((H.out.grown hgw3).fil _ hmem)
      obtain ⟨adw, cw, rfl⟩ := Elm.form g1.rw
      have k0 := g1.c1
      have HPR : Hid ((l ++ (c f).ws.map (·.1) ++ nums (lay R' c)).Perm (nums (lay M c))) := by
        have h1 := (nums_perm (lay_perm c hperm)).append_left l
        rw [nums_lay_cons, ← List.append_assoc] at h1
        exact h1.symm.trans HP.out
      have hlW : l.length + (c f).ws.length ≤ 1000000000 := by
        have h1 := HPR.out.length_eq
        have h2 := HN.out
        simp only [List.length_append, List.length_map] at h1
        omega
      have hrgm := hrg.left
      have hrgm3 := hrg3.left
      have HM3 : Hid (w3.rangeLeft bm r < wr.rangeLeft bm r) := by
        show _ < _
        rw [hrgm, hrgm3]; exact hlt
      have HWS : Hid (eW.Own w3 0 (.slice adw (c f).ws.length cw) (c f).ws) := g1.rw
      have hnl : (Value.slice ad n cp).ownBlock ≠ some bm := fun e => by have := (hOr.lt bm e).1; omega
      have hz3 := hgw3.size
      have hlN : ((c f).ws.length : Int) ≤ 1000000000 := by omega
      have HW3 : Hid (∀ wi, w.grownBy wi none → eW.Own wi 0 (.slice adw (c f).ws.length cw) (c f).ws) := fun wi g => by
        obtain ⟨vb', vw', g2, _⟩ := ((H.out.grown g).fil _ hmem)
        have e1 := g2.c1
        have e2 := (H.out.fil _ hmem)
        obtain ⟨vb0, vw0, g0, _⟩ := e2
        have x1 := hgw3.cell g0.c1 (by simp)
        rw [k0] at x1
        injection x1 with x1
        have x2 := g.cell g0.c1 (by simp)
        rw [← x1, e1] at x2
        injection x2 with x2
        rw [← x2]
        exact g2.rw
      clear g1 hperm hne hmem hrg hrgm hrgm3 hlt hOr hs3 hg3 hgw HP
      go_wp2
      go_loopw [5, 24] (fun v i wi => ∃ k : Nat, ∃ ad n cp, k ≤ (c f).ws.length ∧ i = Value.int .i64 (k : Int) ∧ v = Value.slice ad n cp ∧ eN.Own wi w.heap.size (Value.slice ad n cp) (l ++ ((c f).ws.take k).map (·.1)) ∧ (Value.slice ad n cp).ownBlock ≠ some r ∧ Rng wi bm r M R' cnt1 ∧ w.grownBy wi none) (fun _ i _ => (c f).ws.length - (intOf i).toNat)
      case atStart => exact ⟨0, ad, n, cp, Nat.zero_le _, rfl, rfl, by simpa using hO3, hnr, hrg3, hgw3⟩
      case round =>
        obtain ⟨k, ad, n, cp, hkl, rfl, rfl, hO, hn2, hrgi, hgi⟩ := hrel
        clear hO3 hnr hnl hz3
        by_cases hlt : k < (c f).ws.length
        · obtain ⟨p, hp⟩ : ∃ p, (c f).ws[k]? = some p := ⟨_, List.getElem?_eq_getElem hlt⟩
          obtain ⟨g, q, hidx, hcell, _, _⟩ := (HW3.out _ hgi).idx (by omega) hp
          have hidx' : ∀ W, (Instr.indexAt 89 (.slice adw (c f).ws.length cw) (.int .i64 (k : Int))).run Tryz.prog W = .ok (.pointer (some ⟨g, q, none⟩)) W := hidx
          have y0 : wr.cell? ⟨g, q, none⟩ = some (.int .i64 p.1) := hcell 0 _ rfl
          have y1 : wr.cell? ⟨g, q + 1, none⟩ = some (.int .i64 (p.2 : Int)) := hcell 1 _ rfl
          have HTK : Hid (l ++ ((c f).ws.take (k + 1)).map (·.1) = (l ++ ((c f).ws.take k).map (·.1)) ++ [p.1]) := by
            show _ = _
            rw [List.take_add_one, hp]
            simp
          have hll : (l ++ ((c f).ws.take k).map (·.1)).length ≤ 1000000000 := by simp; omega
          generalize l ++ ((c f).ws.take k).map (·.1) = l1 at hO HTK hll
          have hx0 : ∀ o1 o2, o2 = Obj.cells #[.int .i64 p.1] 2 → eN.Rx ((wr.alloc o1).alloc o2) (.slice (some ⟨wr.heap.size + 1, 0, none⟩) 1 1) [p.1] := fun o1 o2 ho => Elm.rx_one fun j u hu => by
            match j, hu with
            | 0, hu => injection hu with hu; rw [← hu, ho]; exact new_at (wr.alloc o1) (by simp) rfl
          have hO4 : ∀ o1 o2, eN.Own ((wr.alloc o1).alloc o2) w.heap.size (.slice ad n cp) l1 := fun o1 o2 => (hO.grown (World.grownBy_alloc wr o1 none)).grown (World.grownBy_alloc _ o2 none)
          have GA : ∀ o1 o2, w.grownBy ((wr.alloc o1).alloc o2) none := fun o1 o2 => grown_alloc (grown_alloc hgi o1) o2
          have RA : ∀ o1 o2, Rng ((wr.alloc o1).alloc o2) bm r M R' cnt1 := fun o1 o2 => (hrgi.kept (World.grownBy_alloc wr o1 none) (by simp) (by simp)).kept (World.grownBy_alloc _ o2 none) (by simp) (by simp)
          have hnb : (Value.slice ad n cp).ownBlock ≠ some bm := fun e => by have := (hO.lt bm e).1; omega
          have hrr := hrgi.lt.2.1
          have hwz := hgi.size
          have ol : ∀ k, (Value.slice ad n cp).ownBlock = some k → w.heap.size ≤ k := fun k hk => (hO.lt k hk).1
          clear hidx hcell hp
          go_wp2_with (at_builtin; refine Elm.wpList_append (E := eN) rfl (.tmp 28) (.tmp 31) rfl w.heap.size _ l1 rfl (hO4 _ _) _ [p.1] rfl (hx0 _ _ rfl) (by simp; omega) (by show (l1.length + 1) * 8 ≤ _; omega) (by simp; omega) ?_; intro ad4 n4 c4 w4 hO5 hg5 hl5)
          go_roundw
          case rel =>
            refine ⟨k + 1, ad4, n4, c4, by omega, by go_num, rfl, by rw [HTK.out]; exact hO5, fun e => ?_, (RA _ _).kept hg5 (fun e => hnb e.symm) (fun e => hn2 e.symm), grown_more (GA _ _) hg5 (fun k hk => .inr (ol k hk))⟩
            rcases hl5 with h5 | h5
            · rw [h5] at e; exact hn2 e
            · rw [h5] at e; injection e with e; simp at e; omega
          case measure => simp [intOf]; omega
        · have hkk : (c f).ws.take k = (c f).ws := List.take_of_length_le (by omega)
          rw [hkk] at hO
          have HEQ : Hid (wr.rangeLeft bm r = w3.rangeLeft bm r) := by
            show _ = _
            rw [hrgi.left, ← hrg3.left]
          clear hkk hrg3 hgw3
          go_wp2
          go_roundw
          case rel => exact ⟨R', cnt1, l ++ (c f).ws.map (·.1), ad, n, cp, rfl, hrgi, hO, hn2, HPR.out, hgi⟩
          case measure => rw [HEQ.out]; exact HM3.out
end Go.Proofs.YtapdhkgeolcogaaGreatDoor
namespace Go.Proofs.YtapdhkgeolcogaaGreatDoor
open Go.RowKit Go.Sort Go.Shelf Dsk
set_option linter.unusedVariables false

theorem upd_id {α : Type} (f : Nat → α) (p : Nat) : upd f p (f p) = f := by
  funext q
  unfold upd
  split
  · rename_i h; rw [h]
  · rfl
/-- What Crash leaves. -/
def CrashOut (b bm : Nat) (M : List (List UInt8 × Nat)) (c : Nat → Fl) (G : Nat → Nat → Prop) (m nx torn : Int) (w w' : World) : Prop :=
  ∃ c', DkD w' b bm M c' G m ∧ (∀ p ∈ M, c' p.2 = (c p.2).crash nx torn) ∧ Chg (fun k => ∃ p ∈ M, G p.2 k) w w'
set_option maxRecDepth 100000 in
set_option maxHeartbeats 3200000 in
theorem crash_all {w : World} {b bm : Nat} {M : List (List UInt8 × Nat)} {c : Nat → Fl} {G : Nat → Nat → Prop} {m : Int} (h : DkD w b bm M c G m) (keep torn nx : Int) (k : Nat) (hkeep : k = keep.toNat) (hk0 : keep ≤ 9223372036854775807) (BH : Calls Tryz.prog 43 #[.pointer (some ⟨b, 0, none⟩), .int .i64 (k : Int)] w fun e w' => e = .returned (.int .i64 nx) ∧ w.grownBy w' none)
    (hl : ∀ p ∈ M, (c p.2).by_.length ≤ 1048576) (hsz : ∀ p ∈ M, sz (c p.2) ≤ (c p.2).by_.length) (hws : ∀ p ∈ M, (c p.2).ws.length ≤ 1000000000) :
    Calls Tryz.prog 18 #[.pointer (some ⟨b, 0, none⟩), .int .i64 keep, .int .i64 torn] w fun e w' => e = .returned (.tuple #[]) ∧ CrashOut b bm M c G m nx torn w w' := by
  have hmx : max keep 0 = (k : Int) := by omega
  have c0 := h.c0
  have CR := crash_run
  have H : Hid (DkD w b bm M c G m) := h
  have HL : Hid (∀ p ∈ M, (c p.2).by_.length ≤ 1048576 ∧ sz (c p.2) ≤ (c p.2).by_.length ∧ (c p.2).ws.length ≤ 1000000000) := fun p hp => ⟨hl p hp, hsz p hp, hws p hp⟩
  have mp : ∀ w', w.grownBy w' none → MapOf w' bm M := fun w' g => H.out.map.grown g (by simp)
  clear h hl hsz hws hkeep
  go_enter Tryz.func18, Tryz.ntmps18
  go_wp2_with (first
    | (go_at_call 43; (with_reducible refine BH.mono ?_); rintro e w1 ⟨rfl, hg1⟩; have c01 := hg1.cell c0 (by simp))
    | (at_range; refine wpList_range_M _ rfl _ rfl rfl (mp _ hg1) ?_; intro w2 cnt2 hrg2 hg2 hs2))
  go_frame
  have hr1 : Hid (w.heap.size ≤ w1.heap.size) := hg1.size
  generalize w1.heap.size = r at hrg2 hr1 ⊢
  have hg12 := grown_more hg1 hg2 (by simp)
  clear hg1 hg2 hs2 c01 c0 mp BH hmx
  go_loopw [] (fun wr => ∃ R cnt c', Rng wr bm r M R cnt ∧ DkD wr b bm M c' G m ∧ (∀ p ∈ R, c' p.2 = c p.2) ∧ (∀ p ∈ M, p ∉ R → c' p.2 = (c p.2).crash nx torn) ∧ Chg (fun k => ∃ p ∈ M, G p.2 k) w wr) (fun wr => wr.rangeLeft bm r)
  case atStart => exact ⟨M, cnt2, c, hrg2, H.out.grown hg12, fun _ _ => rfl, fun p h1 h2 => absurd h1 h2, Chg.of hg12 (by simp)⟩
  case round =>
    obtain ⟨R, cnt, c', hrg, hD, h1, h2, hC⟩ := hrel
    clear hrg2 hg12
    have HD : Hid (DkD wr b bm M c' G m) := hD
    have H1 : Hid (∀ p ∈ R, c' p.2 = c p.2) := h1
    have H2 : Hid (∀ p ∈ M, p ∉ R → c' p.2 = (c p.2).crash nx torn) := h2
    have HC : Hid (Chg (fun k => ∃ p ∈ M, G p.2 k) w wr) := hC
    clear hD h1 h2 hC
    go_wp2_with (at_next; refine wpList_next_M _ rfl _ rfl rfl hrg ?_ ?_)
    · intro h0
      have HE : Hid (∀ p ∈ M, c' p.2 = (c p.2).crash nx torn) := fun p hp => H2.out p hp (by rw [h0]; simp)
      clear hrg h0
      go_wp2
      go_end0
      exact ⟨rfl, c', HD.out, HE.out, HC.out⟩
    · intro nm f R' w3 cnt1 hmem hperm hne hrg3 hlt hg3 hs3 hen
      have C3 : Chg (fun k => k = r) wr w3 := Chg.of hg3 fun k hk => by injection hk with hk; exact hk.symm
      have flt : ∀ p ∈ M, ∀ k, G p.2 k → k < w.heap.size := fun p hp => (H.out.fil p hp).lt
      have ninR : (nm, f) ∈ R := hperm.mem_iff.2 (by simp)
      have hcf : c' f = c f := H1.out _ ninR
      have blt : b < w.heap.size := World.block_lt_of_cell? w _ H.out.c0
      have bmlt : bm < w.heap.size := H.out.map.lt
      have hr1' := hr1.out
      have D3 : DkD w3 b bm M c' G m := HD.out.kept C3 (by omega) (by omega) fun p hp k hk e => by have := flt p hp k hk; omega
      obtain ⟨vb, vw, g1, gf, gb, gw, glt⟩ := D3.fil _ hmem
      rw [hcf] at g1
      obtain ⟨l1, l2, l3⟩ := HL.out _ hmem
      have CRf := crash_run f vb vw (c f) nx torn w3 g1 l1 l2 l3
      have DN : Hid (∀ w4 vb', FilD w4 f vb' (.slice none 0 0) ((c f).crash nx torn) → vb'.ownBlock = vb.ownBlock → Chg (fun k => k = f) w3 w4 → DkD w4 b bm M (upd c' f ((c f).crash nx torn)) G m ∧ Rng w4 bm r M R' cnt1 ∧ Chg (fun k => ∃ p ∈ M, G p.2 k) w w4) := fun w4 vb' a1 a2 a3 => by
        have a4 : Chg (G f) w3 w4 := a3.wide fun k hk => by rw [hk]; exact gf
        have hF4 : Fil w4 f ((c f).crash nx torn) (G f) := ⟨vb', .slice none 0 0, a1, gf, fun k hk => gb k (by rw [← a2]; exact hk), by simp [Value.ownBlock], fun k hk => Nat.lt_of_lt_of_le (glt k hk) a3.size⟩
        have D4 := D3.turn hmem a4 hF4 (fun k hk => .inl hk)
        rw [upd_id] at D4
        refine ⟨D4, hrg3.chg a3 (fun e => (D3.base _ hmem f gf).2 e.symm) (fun e => ?_), ?_⟩
        · have := flt _ hmem f gf; omega
        · exact (HC.out.grown hg3 fun k hk => .inr (by injection hk with hk; omega)).trans a3 fun k hk => .inl ⟨_, hmem, by rw [hk]; exact gf⟩
      have HA : Hid (∀ p ∈ R', upd c' f ((c f).crash nx torn) p.2 = c p.2) := fun p hp => by
        have hpR : p ∈ R := hperm.mem_iff.2 (by simp [hp])
        have hpM : p ∈ M := hrg.sub.subset hpR
        have : p.2 ≠ f := fun e => hne p.1 p.2 hp (by rw [H.out.inj p hpM _ hmem e])
        rw [upd_other _ _ this]
        exact H1.out p hpR
      have HBB : Hid (∀ p ∈ M, p ∉ R' → upd c' f ((c f).crash nx torn) p.2 = (c p.2).crash nx torn) := fun p hp hn => by
        by_cases e : p.2 = f
        · rw [e, upd_same]
        · rw [upd_other _ _ e]
          refine H2.out p hp fun hR => ?_
          rcases List.mem_cons.1 (hperm.mem_iff.1 hR) with e1 | e1
          · exact e (by rw [e1])
          · exact hn e1
      have hrgm := hrg.left
      have hrgm3 := hrg3.left
      have HM3 : Hid (cnt1 < wr.rangeLeft bm r) := by
        show _ < _
        rw [hrgm]; exact hlt
      clear g1 hperm hne hmem hrg hrgm hrgm3 hlt hs3 hg3 C3 flt ninR hcf D3 gf gb gw glt l1 l2 l3 blt bmlt hr1' hrg3
      go_wp2_with (go_at_call 44; (with_reducible refine CRf.mono ?_); rintro e w4 ⟨rfl, vb', a1, a2, a3⟩)
      obtain ⟨d1, d2, d3⟩ := DN.out w4 vb' a1 a2 a3
      go_roundw
      case rel => exact ⟨R', cnt1, _, d2, d1, HA.out, HBB.out, d3⟩
      case measure => rw [d2.left]; exact HM3.out
theorem crash_any (b : Nat) (s : St) (F : Nat → Prop) (keep torn : Int) (hk : keep ≤ 9223372036854775807) (w : World) (h : Dk w b s F) (m1 : s.m ≤ 1000000000) :
    Calls Tryz.prog 18 #[.pointer (some ⟨b, 0, none⟩), .int .i64 keep, .int .i64 torn] w fun e w' => e = .returned (.tuple #[]) ∧ ∃ F', Dk w' b (crashS s keep torn) F' ∧ (∀ k, F' k → F k ∨ w.heap.size ≤ k) ∧ Chg F w w' := by
  obtain ⟨bm, M, c, G, h1, h2, h3, h4⟩ := id h
  have hw := h3.wait
  have hn : (nums (lay M c)).length ≤ 1000000000 := by rw [wait_nums, ← h2]; omega
  have mem : ∀ p ∈ M, (p.1, c p.2) ∈ s.l := fun p hp => by rw [h2]; exact List.mem_map.2 ⟨p, hp, rfl⟩
  have hs : (⟨lay M c, s.m⟩ : St) = s := by rw [← h2]
  have BH := behind_run h1 keep.toNat (by omega) hn
  rw [hs] at BH
  refine (crash_all h1 keep torn (behind s keep.toNat) keep.toNat rfl hk BH (fun p hp => Nat.le_trans (mem_tot (mem p hp)) h3.tot) (fun p hp => h3.sz _ (mem p hp)) (fun p hp => ?_)).mono ?_
  · have h5 : (c p.2).ws.length ≤ wait s.l := by
      obtain ⟨A, B, e⟩ := List.append_of_mem (mem p hp)
      rw [e]
      simp [wait]
      omega
    omega
  · rintro e w' ⟨rfl, c', hD, hc, C⟩
    refine ⟨rfl, F, ⟨bm, M, c', G, hD, ?_, ok_crash h3 _ _, h4⟩, fun k hk => .inl hk, C.wide fun k hk => (h4 k).2 (.inr (.inr hk))⟩
    show s.l.map _ = _
    rw [h2]
    unfold lay
    rw [List.map_map]
    refine List.map_congr_left fun p hp => ?_
    simp only [Function.comp]
    rw [hc p hp]
end Go.Proofs.YtapdhkgeolcogaaGreatDoor
