/- Items put in order by the library's sort. -/
import Derived.Test.YtijgekdhjfbgkaaWPlace
import Derived.Sort.OwnSorted
namespace Go.Proofs.Ytijgekdhjfbgkaa
open Go.RowKit Go.Sort Go.Shelf Whl
set_option linter.unusedVariables false

section
variable {α : Type} [Inhabited α] (enc : α → Value)
theorem heap_put {w : World} {g n : Nat} {os : Array Obj} {cur : Array Value} {e : TypeId} {fr : Nat × Nat} (d : Array α) (hb : w.heap[g]? = some (.cells cur e fr)) :
    (grow (putRow enc (Sort.ahead w n) g 0 d) os).heap[g]? = some (.cells (putCells enc 0 d cur) e fr) := by
  have hg : g < w.heap.size := (Array.getElem?_eq_some_iff.1 hb).1
  rw [heap_grow_old _ _ (by simpa using hg)]
  simp [putRow, mapBlock, Sort.ahead, Array.getElem?_modify, hb, onCells]
theorem grown_put {w : World} {g n : Nat} {os : Array Obj} (d : Array α) : w.grownBy (grow (putRow enc (Sort.ahead w n) g 0 d) os) (some g) := by
  refine ⟨rfl, rfl, rfl, by simp, fun k hk hne => ?_⟩
  rw [heap_grow_old _ _ (by simpa using hk)]
  have : g ≠ k := fun e => hne (by rw [e])
  simp [putRow, mapBlock, Sort.ahead, Array.getElem?_modify, this]
theorem take_put (cur : Array Value) (ts : List α) (h : ts.length ≤ cur.size) : (putCells enc 0 ts.toArray cur).toList.take ts.length = ts.map enc := by
  apply List.ext_getElem?
  intro j
  by_cases hj : j < ts.length
  · rw [List.getElem?_take_of_lt hj, Array.getElem?_toList]
    simp [putCells, hj, show j < cur.size by omega]
  · rw [List.getElem?_take_eq_none (by omega), List.getElem?_eq_none (by simp; omega)]
theorem holds_block {w : World} {g : Nat} {cur : Array Value} {e : TypeId} {ss : List α} (hb : w.heap[g]? = some (.cells cur e (0, 0))) (ht : cur.toList.take ss.length = ss.map enc) : Holds enc w g 0 ss.toArray := by
  intro j hj
  have hj' : j < ss.length := by simpa using hj
  refine ⟨?_, by simp [World.frozen?, hb]⟩
  have h1 : (cur.toList.take ss.length)[j]? = (ss.map enc)[j]? := by rw [ht]
  rw [List.getElem?_take_of_lt hj'] at h1
  simp only [World.cell?, hb, Nat.zero_add]
  simp only [Option.isSome_none, Bool.false_eq_true, if_false]
  rw [← Array.getElem?_toList, h1]
  simp [hj']
end
/-- An item's two cells. -/
def itc (a : It) : List Value := [.int .i64 a.1, .int .i64 a.2]
def cells (l : List It) : List Value := l.flatMap itc
theorem cells_nil : cells [] = [] := rfl
theorem cells_cons (a : It) (l : List It) : cells (a :: l) = .int .i64 a.1 :: .int .i64 a.2 :: cells l := rfl
theorem cells_len : ∀ l : List It, (cells l).length = l.length * 2
  | [] => rfl
  | a :: l => by rw [cells_cons, List.length_cons, List.length_cons, cells_len l, List.length_cons]; omega
theorem cells_append (l m : List It) : cells (l ++ m) = cells l ++ cells m := by simp [cells]
theorem cells_at : ∀ (l : List It) (t : Nat), t < l.length * 2 → (cells l)[t]! = (itc l[t / 2]!)[t % 2]!
  | [], t, h => by simp at h
  | a :: l, 0, h => by rfl
  | a :: l, 1, h => by rfl
  | a :: l, t + 2, h => by
    have := cells_at l t (by simp at h; omega)
    rw [cells_cons, show (t + 2) / 2 = t / 2 + 1 by omega, show (t + 2) % 2 = t % 2 by omega]
    simpa using this
theorem flat_cells (l : List It) : flatK itc 2 l.toArray = (cells l).toArray := by
  refine ext_get! (by simp [cells_len]) fun t ht => ?_
  rw [size_flatK] at ht
  have ht' : t < l.length * 2 := by simpa using ht
  rw [get_flatK _ _ _ _ ht]
  have h1 : (cells l).toArray[t]! = (cells l)[t]! := by simp
  rw [h1, cells_at l t ht']
  simp
theorem cells_one (l : List It) : ∀ v ∈ cells l, v.oneCell' = true := by
  intro v hv
  unfold cells at hv
  obtain ⟨a, _, ha⟩ := List.mem_flatMap.1 hv
  simp [itc] at ha
  rcases ha with rfl | rfl <;> rfl
/-- How 'order' compares. -/
def cfI (a b : It) : Int := orI (cmpI a.2 b.2) (cmpI a.1 b.1)
theorem lt_bef (a b : It) : ltOf cfI a b = bef a b := by
  rw [Bool.eq_iff_iff, bef_iff]
  unfold ltOf cfI orI cmpI
  rw [decide_eq_true_iff]
  split <;> split <;> (try split) <;> (try split) <;> omega
theorem swoI : SWO (ltOf cfI) where
  irrefl x := by rw [lt_bef]; exact bef_irr x
  trans x y z h1 h2 := by rw [lt_bef] at *; exact bef_trans h1 h2
  ntrans x y z h1 h2 := by
    rw [lt_bef] at *
    cases h : bef x z with
    | false => rfl
    | true =>
      rw [bef_iff] at h
      have k1 : ¬ (x.2 < y.2 ∨ (x.2 = y.2 ∧ x.1 < y.1)) := fun c => by rw [bef_iff.2 c] at h1; cases h1
      have k2 : ¬ (y.2 < z.2 ∨ (y.2 = z.2 ∧ y.1 < z.1)) := fun c => by rw [bef_iff.2 c] at h2; cases h2
      omega
/-- A list put in order. -/
def srtL (l : List It) : List It := l.mergeSort fun x y => !(ltOf cfI) y x
theorem srtL_len (l : List It) : (srtL l).length = l.length := by simp [srtL]
theorem srtL_mem {l : List It} {a : It} : a ∈ srtL l ↔ a ∈ l := by simp [srtL]
theorem srtL_srt {l : List It} (hn : l.Nodup) : Srt (srtL l) := by
  have h1 : (srtL l).Pairwise fun x y => (!(ltOf cfI) y x) = true := List.pairwise_mergeSort (fun a b c h k => by
      simp only [lt_bef] at *
      have h' : bef b a = false := by simpa using h
      have k' : bef c b = false := by simpa using k
      have := swoI.ntrans c b a (by rw [lt_bef]; exact k') (by rw [lt_bef]; exact h')
      rw [lt_bef] at this
      simp [this]) (fun a b => by
      simp only [lt_bef]
      cases h : bef a b with
      | true => simp [bef_asym h]
      | false => simp) l
  have h2 : (srtL l).Nodup := (List.mergeSort_perm _ _).nodup_iff.2 hn
  exact (h1.and h2).imp fun {a b} ⟨h, hne⟩ => by
    simp only [lt_bef] at h
    cases k : bef a b with
    | true => rfl
    | false => exact absurd (bef_tot k (by simpa using h)) hne
theorem isAgg_item (w : World) : (isAgg 33).run Try.prog w = .ok true w := Try.isAgg33 w
theorem sizeOf_item (w : World) : (Go.sizeOf 33).run Try.prog w = .ok 2 w := Try.sizeOf33 w

set_option maxRecDepth 100000 in
set_option maxHeartbeats 800000 in
theorem order_any (base : Nat) (v : Value) (l : List It) (w : World) (hl : l.length < 4611686018427387904) (hown : w.ownsRow base 33 2 v l.length (cells l)) :
    Calls Try.prog 25 #[v] w fun e w' => e = .returned (.tuple #[]) ∧ w'.ownsRow base 33 2 v l.length (cells (srtL l)) ∧ w.grownBy w' v.ownBlock := by
  have eg : ∀ args w, (callFunc 30 args).run Try.prog w = .ok (.enter 30 args) w := enters_of Try.func30 (by kernel_rfl) rfl
  have SR : Calls Try.prog 29 #[v, .func (.func 30) #[] #[]] w fun e w' => e = .returned (.tuple #[]) ∧ w'.ownsRow base 33 2 v l.length (cells (srtL l)) ∧ w.grownBy w' v.ownBlock := by
    have none : l = [] → ∀ p cap, v = .slice p 0 cap → Calls Try.prog 29 #[v, .func (.func 30) #[] #[]] w fun e w' => e = .returned (.tuple #[]) ∧ w'.ownsRow base 33 2 v l.length (cells (srtL l)) ∧ w.grownBy w' v.ownBlock := by
      intro hl p cap hv
      subst hl
      have := AnyF.slices_SortFunc_none (P := Try.prog) { Try.sortL with } p cap (.func (.func 30) #[] #[]) w
      rw [← hv] at this
      refine Calls.mono this ?_
      rintro e w' ⟨rfl, rfl⟩
      exact ⟨rfl, by rw [show srtL [] = [] by simp [srtL]]; exact hown, grown_refl _ _⟩
    rcases hown.2 with ⟨hv, h0⟩ | ⟨g, cap, cur, hv, hbase, hb, h1, h2, h3, h4⟩
    · exact none (List.eq_nil_of_length_eq_zero h0) _ _ hv
    · subst hv
      have hH : HoldsK itc 2 w g 0 l.toArray := by
        unfold HoldsK
        rw [flat_cells]
        exact holds_block id hb (by rw [cells_len, List.map_id]; exact h4)
      have := AnyQ.slices_SortFunc_total (P := Try.prog) Try.sortL 2 isAgg_item sizeOf_item itc (fun _ => rfl) (fun x v hv => by simp [itc] at hv; rcases hv with rfl | rfl <;> rfl) cfI swoI 30 #[] g 0 cap l.toArray w eg
        (fun m os dk _ x y => less_any x.1 x.2 y.1 y.2 _) hH (Array.getElem?_eq_some_iff.1 hb).1 (by simpa using hl) (fun x y h k => by rw [lt_bef] at h k; exact bef_tot h k)
      refine Calls.mono this ?_
      rintro e w' ⟨rfl, n, os, rfl⟩
      refine ⟨rfl, ?_, ?_⟩
      · unfold sortWorldK putRowK
        rw [show (l.toArray.toList.mergeSort fun x y => !(ltOf cfI) y x) = srtL l from rfl, flat_cells]
        refine ⟨by rw [cells_len, srtL_len], .inr ⟨g, cap, _, rfl, hbase, heap_put id _ hb, h1, h2, by simp [putCells, h3], ?_⟩⟩
        have := take_put id cur (cells (srtL l)) (by rw [cells_len, srtL_len, h3]; omega)
        rw [cells_len, srtL_len, List.map_id] at this
        exact this
      · unfold sortWorldK putRowK
        exact grown_put id _
  clear eg
  go_enter Try.func25, Try.ntmps25
  go_wp2_with (go_at_call 29; (with_reducible refine SR.mono ?_); rintro e w1 ⟨rfl, hO1, hg1⟩)
  go_end0
  exact ⟨rfl, hO1, hg1⟩
end Go.Proofs.Ytijgekdhjfbgkaa
