/- What 'Parse' answers. -/
import Derived.Test.YteiiapnpdfgoaaaDoorKParse
namespace Go.Proofs.YteiiapnpdfgoaaaDoor
open Go.RowKit

theorem below_grown {w w' : World} (h : Below w.heap.size w w') : w.grownBy w' none := ⟨h.os, h.tape, h.output, h.size, fun k hk _ => h.block k hk⟩

set_option maxRecDepth 100000 in
theorem blank_pays (w : World) : PredAtRunes Tryd.prog 33 #[] Cro.blkR w := fun W r _ _ => by
  unfold FnGives
  have e : Hid (Cro.blkR r = (r == 32 || r == 9)) := rfl
  by_cases h1 : r = 32
  · subst h1
    go_enter Tryd.func33, Tryd.ntmps33
    go_wp2
    go_ret
    exact ⟨rfl, 0, rfl⟩
  · have z1 : ((r : Int) == 32) = false := by simp; omega
    by_cases h2 : r = 9
    · subst h2
      go_enter Tryd.func33, Tryd.ntmps33
      go_wp2
      go_ret
      exact ⟨rfl, 0, rfl⟩
    · have z2 : ((r : Int) == 9) = false := by simp; omega
      go_enter Tryd.func33, Tryd.ntmps33
      go_wp2
      go_ret
      exact ⟨ret_bool (by rw [e.out]; simp [h1, h2]), 0, rfl⟩

theorem fields_any (t : ByteArray) (ht : t.size ≤ 256) (w : World) :
    Calls Tryd.prog 32 #[.string t, .func (.func 33) #[] #[]] w fun e w' => ∃ A, e = .returned (.slice (some ⟨A, 0, none⟩) (Cro.wds [] t.data.toList).length (Cro.wds [] t.data.toList).length) ∧ w.heap.size ≤ A ∧ w.grownBy w' none ∧
      ∀ i x, (Cro.wds [] t.data.toList)[i]? = some x → w'.cell? ⟨A, i, none⟩ = some (str x) := by
  have hf := Cro.fields_wds t
  refine (Tryd.strings_FieldsFunc_runes 33 #[] (enters_of Tryd.func33 (by kernel_rfl) rfl) Cro.blkR t w (by omega) (blank_pays w)).mono ?_
  rintro e w' ⟨A, rfl, hA, ho, hb⟩
  have hl : (Lib.goFieldsP Cro.blkR t).length = (Cro.wds [] t.data.toList).length := by rw [← hf, List.length_map]
  refine ⟨A, by rw [hl], hA, below_grown hb, fun i x hx => ?_⟩
  rw [← hf, List.getElem?_map] at hx
  obtain ⟨y, hy, rfl⟩ := Option.map_eq_some_iff.mp hx
  have := World.ownsRow.cells ho (g := A) rfl i (.string y) (by rw [List.getElem?_map, hy]; rfl)
  rw [addr_at] at this
  exact this

/-- The variable that holds the fields' numbers. -/
def Sg (w : World) : Prop := ∀ i, i < 5 → w.cell? ⟨0, i * 3, none⟩ = some (.int .i64 (Cro.sp i).lo) ∧ w.cell? ⟨0, i * 3 + 1, none⟩ = some (.int .i64 (Cro.sp i).hi) ∧ w.cell? ⟨0, i * 3 + 2, none⟩ = some (.int .i64 (Cro.sp i).last)
theorem Sg.kept {w w' : World} (h : Sg w) (g : w.grownBy w' none) : Sg w' := fun i hi => by
  obtain ⟨a, b, c⟩ := h i hi
  exact ⟨g.cell a (by simp), g.cell b (by simp), g.cell c (by simp)⟩
/-- What the program's variables hold. -/
structure Gl (w : World) : Prop where
  m : Mx w
  s : Sg w
theorem Gl.kept {w w' : World} (h : Gl w) (g : w.grownBy w' none) : Gl w' := ⟨h.m.kept g, h.s.kept g⟩
theorem sp_bd (i : Nat) : (Cro.sp i).last ≤ 59 ∧ (Cro.sp i).lo ≤ 1 ∧ (Cro.sp i).hi ≤ 59 ∧ (Cro.sp i).lo ≤ (Cro.sp i).last := by
  unfold Cro.sp
  split <;> decide
end Go.Proofs.YteiiapnpdfgoaaaDoor
namespace Go.Proofs.YteiiapnpdfgoaaaDoor.Cro
/-- An expression. -/
structure C where
  mi : Nat
  ho : Nat
  da : Nat
  mo : Nat
  we : Nat
  ad : Bool
  aw : Bool
def zero : C := ⟨0, 0, 0, 0, 0, false, false⟩
/-- What the i-th word says. -/
def F (ws : List (List UInt8)) (i : Nat) : Nat × Int := fld (sp i) (spl 44 (ws.getD i []))
/-- The first field with a fault among the next n, from i on. -/
def scan (ws : List (List UInt8)) : Nat → Nat → Option (Nat × Int)
  | 0, _ => none
  | n + 1, i => if (F ws i).2 = 0 then scan ws n (i + 1) else some (i, (F ws i).2)
def parse (l : List UInt8) : C × Nat × Int :=
  if 256 < l.length then (zero, 0, 2) else
  if (wds [] l).length ≠ 5 then (zero, 5, 50) else
  match scan (wds [] l) 5 0 with
  | some (i, e) => (zero, i, e)
  | none => (⟨(F (wds [] l) 0).1, (F (wds [] l) 1).1, (F (wds [] l) 2).1, (F (wds [] l) 3).1, (F (wds [] l) 4).1, (wds [] l).getD 2 [] == [42], (wds [] l).getD 4 [] == [42]⟩, 0, 0)
theorem scan_bad (ws : List (List UInt8)) : ∀ (n i k : Nat), i ≤ k → k < i + n → (∀ j, i ≤ j → j < k → (F ws j).2 = 0) → (F ws k).2 ≠ 0 → scan ws n i = some (k, (F ws k).2)
  | 0, i, k, h1, h2, _, _ => by omega
  | n + 1, i, k, h1, h2, h3, h4 => by
    rw [scan]
    by_cases e : i = k
    · subst e
      rw [if_neg h4]
    · rw [if_pos (h3 i (by omega) (by omega))]
      exact scan_bad ws n (i + 1) k (by omega) (by omega) (fun j a b => h3 j (by omega) b) h4
theorem scan_ok (ws : List (List UInt8)) : ∀ (n i : Nat), (∀ j, i ≤ j → j < i + n → (F ws j).2 = 0) → scan ws n i = none
  | 0, _, _ => rfl
  | n + 1, i, h => by
    rw [scan, if_pos (h i (by omega) (by omega))]
    exact scan_ok ws n (i + 1) (fun j a b => h j (by omega) (by omega))
theorem sets_lt (f : Sp) (N : Nat) (hl : f.last < N) (hlo : f.lo < N) : ∀ (l : List It) (x : Nat), x < 2 ^ N → sets f x l < 2 ^ N
  | [], _, h => h
  | i :: t, _, h => sets_lt f N hl hlo t _ (Nat.or_lt_two_pow h (set_lt f i N hl hlo))
theorem fld_lt (f : Sp) (N : Nat) (hl : f.last < N) (hlo : f.lo < N) (l : List (List UInt8)) : (fld f l).1 < 2 ^ N := by
  unfold fld
  split
  · exact Nat.two_pow_pos N
  · split
    · exact sets_lt f N hl hlo _ _ (Nat.two_pow_pos N)
    · exact Nat.two_pow_pos N
theorem F_lt (ws : List (List UInt8)) (i : Nat) : (F ws i).1 < 2 ^ 60 := by
  refine fld_lt _ 60 ?_ ?_ _
  · unfold sp; split <;> decide
  · unfold sp; split <;> decide
end Go.Proofs.YteiiapnpdfgoaaaDoor.Cro
namespace Go.Proofs.YteiiapnpdfgoaaaDoor
open Go.RowKit
abbrev crv (c : Cro.C) : Value := .agg #[.int .u64 c.mi, .int .u64 c.ho, .int .u64 c.da, .int .u64 c.mo, .int .u64 c.we, .bool c.ad, .bool c.aw]
def parV (x : Cro.C × Nat × Int) : Value := .tuple #[crv x.1, .int .i64 x.2.1, .int .i64 x.2.2]

set_option maxRecDepth 100000 in
theorem Parse_long (t : ByteArray) (ht : 256 < t.size) (w : World) :
    Calls Tryd.prog 16 #[.string t] w fun e w' => e = .returned (parV (Cro.parse t.data.toList)) ∧ w.grownBy w' none := by
  have hp : Cro.parse t.data.toList = (Cro.zero, 0, 2) := by
    unfold Cro.parse
    have hlen : t.data.toList.length = t.size := by simp
    rw [if_pos (by omega)]
  rw [hp]
  clear hp
  go_enter Tryd.func16, Tryd.ntmps16
  go_wp2_with (go_at_call 32; fail)
  go_returns
  exact ⟨rfl, World.grownBy_alloc w _ none⟩

set_option maxRecDepth 100000 in
set_option maxHeartbeats 400000 in
theorem Parse_words (t : ByteArray) (ht : t.size ≤ 256) (hne : (Cro.wds [] t.data.toList).length ≠ 5) (w : World) :
    Calls Tryd.prog 16 #[.string t] w fun e w' => e = .returned (parV (Cro.parse t.data.toList)) ∧ w.grownBy w' none := by
  have hp : Cro.parse t.data.toList = (Cro.zero, 5, 50) := by
    unfold Cro.parse
    have hlen : t.data.toList.length = t.size := by simp
    rw [if_neg (by omega), if_pos hne]
  rw [hp]
  clear hp
  have FD := fields_any t ht
  generalize Cro.wds [] t.data.toList = ws at hne FD
  have hb : ((ws.length : Int) != 5) = true := by simp; omega
  clear hne
  go_enter Tryd.func16, Tryd.ntmps16
  go_wp2_with (go_at_call 32; go_must (refine (FD _).mono ?_); rintro e w1 ⟨A, rfl, hA, hg, hc⟩; have d0 := cell_kept hg 0 _ rfl; have d1 := cell_kept hg 1 _ rfl; have d2 := cell_kept hg 2 _ rfl; have d3 := cell_kept hg 3 _ rfl; have d4 := cell_kept hg 4 _ rfl; have d5 := cell_kept hg 5 _ rfl; have d6 := cell_kept hg 6 _ rfl; have fz := frozen_kept hg)
  generalize hW : World.setCell _ _ _ = W
  have r0 : W.cell? ⟨w.heap.size, 0, none⟩ = some (.int .u64 0) := by subst hW; go_simp
  have r1 : W.cell? ⟨w.heap.size, 1, none⟩ = some (.int .u64 0) := by subst hW; go_simp
  have r2 : W.cell? ⟨w.heap.size, 2, none⟩ = some (.int .u64 0) := by subst hW; go_simp
  have r3 : W.cell? ⟨w.heap.size, 3, none⟩ = some (.int .u64 0) := by subst hW; go_simp
  have r4 : W.cell? ⟨w.heap.size, 4, none⟩ = some (.int .u64 0) := by subst hW; go_simp
  have r5 : W.cell? ⟨w.heap.size, 5, none⟩ = some (.bool false) := by subst hW; go_simp
  have r6 : W.cell? ⟨w.heap.size, 6, none⟩ = some (.bool false) := by subst hW; go_simp
  have HG : w.grownBy W none := by subst hW; exact grown_set_new (grown_set_new (grown_set_new (grown_set_new (grown_set_new (grown_set_new (grown_set_new (grown_more (World.grownBy_alloc w _ none) hg (by simp)) _ (by simp) _) _ (by simp) _) _ (by simp) _) _ (by simp) _) _ (by simp) _) _ (by simp) _) _ (by simp) _
  clear hW
  refine bodyPost_ret (v := .tuple #[.agg #[.int .u64 0, .int .u64 0, .int .u64 0, .int .u64 0, .int .u64 0, .bool false, .bool false], .int .i64 5, .int .i64 50]) (by simp [results, Tryd.results16, go_sem, r0, r1, r2, r3, r4, r5, r6]) rfl ?_
  exact ⟨rfl, HG⟩

/-- Seven cells, none, free to be written. -/
def Arr7 (w : World) (b : Nat) : Prop := (w.cell? ⟨b, 0, none⟩ = some (.int .u64 0) ∧ w.cell? ⟨b, 1, none⟩ = some (.int .u64 0) ∧ w.cell? ⟨b, 2, none⟩ = some (.int .u64 0) ∧ w.cell? ⟨b, 3, none⟩ = some (.int .u64 0) ∧
  w.cell? ⟨b, 4, none⟩ = some (.int .u64 0) ∧ w.cell? ⟨b, 5, none⟩ = some (.bool false) ∧ w.cell? ⟨b, 6, none⟩ = some (.bool false)) ∧ ∀ i, w.frozen? ⟨b, i, none⟩ = false
theorem Arr7.of {w w1 : World} {t : TypeId} (hg : (w.alloc (.cells #[.int .u64 0, .int .u64 0, .int .u64 0, .int .u64 0, .int .u64 0, .bool false, .bool false] t)).grownBy w1 none) : Arr7 w1 w.heap.size :=
  ⟨⟨cell_kept hg 0 _ rfl, cell_kept hg 1 _ rfl, cell_kept hg 2 _ rfl, cell_kept hg 3 _ rfl, cell_kept hg 4 _ rfl, cell_kept hg 5 _ rfl, cell_kept hg 6 _ rfl⟩, frozen_kept hg⟩
/-- The five sets, as far as they are told. -/
def Arr (w : World) (b k : Nat) (X : Nat → Nat) : Prop := ∀ i, i < 5 → w.cell? ⟨b, i, none⟩ = some (.int .u64 ((if i < k then X i else 0 : Nat) : Int)) ∧ w.frozen? ⟨b, i, none⟩ = false
theorem Arr.new (w : World) (X : Nat → Nat) (t : TypeId) : Arr (w.alloc (.cells #[.int .u64 0, .int .u64 0, .int .u64 0, .int .u64 0, .int .u64 0] t)) w.heap.size 0 X := fun i hi => by
  refine ⟨?_, by simp⟩
  rw [World.cell?_alloc_new, if_neg (by omega)]
  match i, hi with
  | 0, _ => rfl
  | 1, _ => rfl
  | 2, _ => rfl
  | 3, _ => rfl
  | 4, _ => rfl
theorem Arr.kept {w w' : World} {b k : Nat} {X : Nat → Nat} (h : Arr w b k X) (g : w.grownBy w' none) : Arr w' b k X := fun i hi => by
  obtain ⟨h1, h2⟩ := h i hi
  refine ⟨g.cell h1 (by simp), ?_⟩
  have hlt := World.block_lt_of_cell? w _ h1
  rw [World.frozen?_of_block (w := w) (g.block b hlt (by simp))]
  exact h2
theorem Arr.set {w : World} {b k : Nat} {X : Nat → Nat} (h : Arr w b k X) (hk : k < 5) : Arr (w.setCell ⟨b, k, none⟩ (.int .u64 (X k : Nat))) b (k + 1) X := fun i hi => by
  obtain ⟨h1, h2⟩ := h i hi
  refine ⟨?_, by rw [World.frozen?_setCell]; exact h2⟩
  by_cases e : i = k
  · subst e
    rw [World.cell?_setCell_same _ _ _ h1, if_pos (by omega)]
  · rw [World.cell?_setCell_other _ _ _ _ (fun e' => e (by injection e' with _ e2 _; exact e2.symm)), h1]
    by_cases c : i < k
    · rw [if_pos c, if_pos (by omega)]
    · rw [if_neg c, if_neg (by omega)]
theorem parse_bad {l : List UInt8} {k : Nat} (hl : l.length ≤ 256) (h5 : (Cro.wds [] l).length = 5) (hk : k < 5) (h : ∀ j, j < k → (Cro.F (Cro.wds [] l) j).2 = 0) (hb : (Cro.F (Cro.wds [] l) k).2 ≠ 0) : Cro.parse l = (Cro.zero, k, (Cro.F (Cro.wds [] l) k).2) := by
  unfold Cro.parse
  rw [if_neg (by omega), if_neg (by omega), Cro.scan_bad _ 5 0 k (by omega) (by omega) (fun j _ h' => h j h') hb]
theorem parse_ok {l : List UInt8} (hl : l.length ≤ 256) (h5 : (Cro.wds [] l).length = 5) (h : ∀ j, j < 5 → (Cro.F (Cro.wds [] l) j).2 = 0) :
    Cro.parse l = (⟨(Cro.F (Cro.wds [] l) 0).1, (Cro.F (Cro.wds [] l) 1).1, (Cro.F (Cro.wds [] l) 2).1, (Cro.F (Cro.wds [] l) 3).1, (Cro.F (Cro.wds [] l) 4).1, (Cro.wds [] l).getD 2 [] == [42], (Cro.wds [] l).getD 4 [] == [42]⟩, 0, 0) := by
  unfold Cro.parse
  rw [if_neg (by omega), if_neg (by omega), Cro.scan_ok _ 5 0 (fun j _ h' => h j (by omega))]

end Go.Proofs.YteiiapnpdfgoaaaDoor
