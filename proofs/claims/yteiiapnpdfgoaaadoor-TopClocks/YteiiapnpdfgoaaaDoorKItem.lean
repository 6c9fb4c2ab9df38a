/- What 'bounds', 'item' answer. -/
import Derived.Test.YteiiapnpdfgoaaaDoorKNum
import Derived.Test.YteiiapnpdfgoaaaDoorKShelf
namespace Go.Proofs.YteiiapnpdfgoaaaDoor
open Go.RowKit

theorem toList_eq (s : ByteArray) : s.toList = s.data.toList := by
  have key : ∀ (n i : Nat) (r : List UInt8), s.size - i = n → ByteArray.toList.loop s i r = r.reverse ++ s.data.toList.drop i := by
    intro n
    induction n with
    | zero =>
      intro i r hi
      rw [ByteArray.toList.loop, if_neg (by omega), List.drop_eq_nil_of_le (by rw [Array.length_toList]; show s.size ≤ i; omega), List.append_nil]
    | succ n ih =>
      intro i r hi
      have hlt : i < s.size := by omega
      rw [ByteArray.toList.loop, if_pos hlt, ih (i + 1) _ (by omega), List.reverse_cons, List.append_assoc]
      congr 1
      have hlt' : i < s.data.toList.length := by rw [Array.length_toList]; exact hlt
      rw [List.drop_eq_getElem_cons hlt', List.cons_append, List.nil_append]
      congr 1
      have hlt2 : i < s.data.size := hlt
      simp [ByteArray.get!]
      exact getElem!_pos s.data i hlt2
  have := key s.size 0 [] (by omega)
  simpa [ByteArray.toList] using this
theorem toList_inj {s t : ByteArray} : s.toList = t.toList ↔ s = t := by
  rw [toList_eq, toList_eq]
  constructor
  · intro h
    cases s; cases t
    simp at h
    rw [h]
  · intro h; rw [h]
theorem name_ne {s t : ByteArray} (h : ¬ s = t) : (t.toList == s.toList) = false := by
  have : ¬ t.toList = s.toList := fun e => h (toList_inj.mp e).symm
  simpa using this
theorem ba_eta (s : ByteArray) : (⟨s.data.toList.toArray⟩ : ByteArray) = s := by cases s; simp
theorem ba_of {s : ByteArray} {l : List UInt8} (h : s.data.toList = l) : s = ⟨l.toArray⟩ := by subst h; exact (ba_eta s).symm

theorem ba_size (l : List UInt8) : (⟨l.toArray⟩ : ByteArray).size = l.length := by simp [ByteArray.size]
theorem ne_text {t : ByteArray} (l : List UInt8) (h : ¬ t = ⟨l.toArray⟩) : (t.toList == l) = false := by
  rw [toList_eq]
  have : ¬ t.data.toList = l := fun e => h (ba_of e)
  simpa using this
/-- Cells of the first and of the second of two blocks that were laid. -/
theorem kept_a {w w1 : World} {C : Array Value} {t : TypeId} {o : Obj} (hg : ((w.alloc (.cells C t)).alloc o).grownBy w1 none) (i : Nat) (v : Value) (h : C[i]? = some v) : w1.cell? ⟨w.heap.size, i, none⟩ = some v :=
  cell_kept (grown_more (World.grownBy_alloc (w.alloc (.cells C t)) o none) hg (by simp)) i v h
theorem kept_b {w w1 : World} {D : Array Value} {t : TypeId} {o : Obj} (hg : ((w.alloc o).alloc (.cells D t)).grownBy w1 none) (i : Nat) (v : Value) (h : D[i]? = some v) : w1.cell? ⟨w.heap.size + 1, i, none⟩ = some v := by
  have := cell_kept hg i v h
  rwa [World.size_alloc] at this
theorem frozen_b {w w1 : World} {D : Array Value} {t : TypeId} {o : Obj} (hg : ((w.alloc o).alloc (.cells D t)).grownBy w1 none) (i : Nat) : w1.frozen? ⟨w.heap.size + 1, i, none⟩ = false := by
  have := frozen_kept hg i
  rwa [World.size_alloc] at this
/-- The variable that strings.Index reads holds some number. -/
def Mx (w : World) : Prop := ∃ m, w.cell? ⟨2, 0, none⟩ = some (.int .i64 m)
theorem Mx.kept {w w' : World} (h : Mx w) (g : w.grownBy w' none) : Mx w' := by
  obtain ⟨m, e⟩ := h
  exact ⟨m, g.cell e (by simp)⟩
/-- 'strings.Cut'. -/
theorem cut_any (s sep : ByteArray) (w : World) (hs : s.size < 4294967281) (hm : Mx w) :
    Calls Tryd.prog 52 #[.string s, .string sep] w fun e w' => e = .returned (.tuple #[.string ⟨(Lib.cut s.data.toList sep.data.toList).1.toArray⟩, .string ⟨(Lib.cut s.data.toList sep.data.toList).2.1.toArray⟩, .bool (Lib.cut s.data.toList sep.data.toList).2.2]) ∧ w.grownBy w' none := by
  obtain ⟨m, hm⟩ := hm
  refine (Tryd.strings_Cut s sep m w hs hm).mono ?_
  rintro e w' ⟨he, n, rfl⟩
  exact ⟨he, grown_drewN (grown_refl w none) n⟩
theorem cut_len (s sep : List UInt8) : (Lib.cut s sep).1.length ≤ s.length ∧ (Lib.cut s sep).2.1.length ≤ s.length := by
  unfold Lib.cut
  split
  · simp
    omega
  · simp

set_option maxRecDepth 100000 in
set_option maxHeartbeats 400000 in
theorem bounds_star (f : Cro.Sp) (w : World) :
    Calls Tryd.prog 54 #[spn f, .string ⟨#[42]⟩] w fun e w' => e = .returned (.tuple #[.int .i64 f.lo, .int .i64 f.hi, .bool true]) ∧ w.grownBy w' none := by
  obtain ⟨a, b, c⟩ := f
  go_enter Tryd.func54, Tryd.ntmps54
  go_wp2_with (go_at_call 52; fail)
  go_region
  go_wp2
  go_ret3
  exact ⟨rfl, grown_drewN (World.grownBy_alloc w _ none) 1⟩

set_option maxRecDepth 100000 in
set_option maxHeartbeats 400000 in
/-- 'bounds', of a text that isn't a star: 'number' of the two parts. -/
theorem bounds_two (f : Cro.Sp) (t x y : ByteArray) (k : Bool) (p q : Nat) (c d : Bool) (w : World) (hne : ¬ t = ⟨#[42]⟩)
    (HC : ∀ w, Mx w → Calls Tryd.prog 52 #[.string t, .string ⟨#[45]⟩] w fun e w' => e = .returned (.tuple #[.string x, .string y, .bool k]) ∧ w.grownBy w' none)
    (H1 : ∀ w, Calls Tryd.prog 53 #[.string x] w fun e w' => e = .returned (.tuple #[.int .i64 p, .bool c]) ∧ w' = w)
    (H2 : ∀ w, Calls Tryd.prog 53 #[.string y] w fun e w' => e = .returned (.tuple #[.int .i64 q, .bool d]) ∧ w' = w) (hm : Mx w) :
    Calls Tryd.prog 54 #[spn f, .string t] w fun e w' => e = .returned (.tuple #[.int .i64 p, .int .i64 q, .bool (c && d)]) ∧ w.grownBy w' none := by
  obtain ⟨a, b, z⟩ := f
  have hn := ne_text [42] hne
  clear hne
  have tok : True := trivial
  have HM : ∀ o, Mx (w.alloc o) := fun o => hm.kept (World.grownBy_alloc w o none)
  cases c
  all_goals
    go_enter Tryd.func54, Tryd.ntmps54
    go_wp2_with (first
      | (go_at_call 52; go_must (refine (HC _ (HM _)).mono ?_); rintro e w1 ⟨rfl, hg⟩)
      | (go_at_call 53; have _t := tok; go_must (refine (H1 _).mono ?_); rintro e w2 ⟨rfl, rfl⟩; clear tok)
      | (go_at_call 53; go_must (refine (H2 _).mono ?_); rintro e w2 ⟨rfl, rfl⟩))
    go_ret3
    exact ⟨rfl, grown_more (World.grownBy_alloc w _ none) hg (by simp)⟩

theorem bounds_some (f : Cro.Sp) (t : ByteArray) (a b : Nat) (h : Cro.bnds f t.data.toList = some (a, b)) (w : World) (hs : t.size < 4294967281) (hm : Mx w) :
    Calls Tryd.prog 54 #[spn f, .string t] w fun e w' => e = .returned (.tuple #[.int .i64 a, .int .i64 b, .bool true]) ∧ w.grownBy w' none := by
  unfold Cro.bnds at h
  by_cases hst : t.data.toList = [42]
  · rw [if_pos hst] at h
    simp only [Option.some.injEq, Prod.mk.injEq] at h
    obtain ⟨rfl, rfl⟩ := h
    obtain rfl := ba_of hst
    exact bounds_star f w
  · rw [if_neg hst] at h
    have hl := cut_len t.data.toList [45]
    split at h
    · rename_i p q e1 e2
      simp only [Option.some.injEq, Prod.mk.injEq] at h
      obtain ⟨rfl, rfl⟩ := h
      exact bounds_two f t _ _ _ _ _ true true w (fun e => hst (by rw [e])) (fun w hm => cut_any t ⟨#[45]⟩ w hs hm) (number_some _ _ e1) (number_some _ _ e2) hm
    · cases h
theorem bounds_none (f : Cro.Sp) (t : ByteArray) (h : Cro.bnds f t.data.toList = none) (hs : t.size < 4294967281) : ∃ a b : Nat, ∀ w, Mx w →
    Calls Tryd.prog 54 #[spn f, .string t] w fun e w' => e = .returned (.tuple #[.int .i64 a, .int .i64 b, .bool false]) ∧ w.grownBy w' none := by
  unfold Cro.bnds at h
  by_cases hst : t.data.toList = [42]
  · rw [if_pos hst] at h
    cases h
  · rw [if_neg hst] at h
    have hl := cut_len t.data.toList [45]
    have hsz : t.data.toList.length = t.size := by simp
    have hne : ¬ t = ⟨#[42]⟩ := fun e => hst (by rw [e])
    cases e1 : Cro.num (Lib.cut t.data.toList [45]).1 with
    | none =>
      cases e2 : Cro.num (Lib.cut t.data.toList [45]).2.1 with
      | none =>
        exact ⟨0, 0, fun w hm => bounds_two f t _ _ _ 0 0 false false w hne (fun w hm => cut_any t ⟨#[45]⟩ w hs hm) (number_none _ (by rw [ba_size]; show (Lib.cut t.data.toList [45]).1.length ≤ _; omega) e1) (number_none _ (by rw [ba_size]; show (Lib.cut t.data.toList [45]).2.1.length ≤ _; omega) e2) hm⟩
      | some q =>
        exact ⟨0, q, fun w hm => bounds_two f t _ _ _ 0 q false true w hne (fun w hm => cut_any t ⟨#[45]⟩ w hs hm) (number_none _ (by rw [ba_size]; show (Lib.cut t.data.toList [45]).1.length ≤ _; omega) e1) (number_some _ _ e2) hm⟩
    | some p =>
      cases e2 : Cro.num (Lib.cut t.data.toList [45]).2.1 with
      | none =>
        exact ⟨p, 0, fun w hm => bounds_two f t _ _ _ p 0 true false w hne (fun w hm => cut_any t ⟨#[45]⟩ w hs hm) (number_some _ _ e1) (number_none _ (by rw [ba_size]; show (Lib.cut t.data.toList [45]).2.1.length ≤ _; omega) e2) hm⟩
      | some q =>
        rw [e1, e2] at h
        cases h

set_option maxRecDepth 100000 in
set_option maxHeartbeats 400000 in
/-- 'item', with a step. -/
theorem item_step (f : Cro.Sp) (t x y : ByteArray) (p q s : Nat) (c d : Bool) (w : World)
    (HC : ∀ w, Mx w → Calls Tryd.prog 52 #[.string t, .string ⟨#[47]⟩] w fun e w' => e = .returned (.tuple #[.string x, .string y, .bool true]) ∧ w.grownBy w' none)
    (HB : ∀ w, Mx w → Calls Tryd.prog 54 #[spn f, .string x] w fun e w' => e = .returned (.tuple #[.int .i64 p, .int .i64 q, .bool c]) ∧ w.grownBy w' none)
    (HN : ∀ w, Calls Tryd.prog 53 #[.string y] w fun e w' => e = .returned (.tuple #[.int .i64 s, .bool d]) ∧ w' = w) (hm : Mx w) :
    Calls Tryd.prog 43 #[spn f, .string t] w fun e w' => e = .returned (.tuple #[itv ⟨p, q, s⟩, .bool (c && d)]) ∧ w.grownBy w' none := by
  obtain ⟨a, b, z⟩ := f
  have HM : ∀ o o', Mx ((w.alloc o).alloc o') := fun o o' => hm.kept (grown_alloc (World.grownBy_alloc w o none) o')
  cases c
  all_goals
    go_enter Tryd.func43, Tryd.ntmps43
    go_wp2_with (first
      | (go_at_call 52; go_must (refine (HC _ (HM _ _)).mono ?_); rintro e w1 ⟨rfl, hg⟩; have hm1 := Mx.kept (HM _ _) hg; have c0 := kept_a hg 0 _ rfl; have c1 := kept_a hg 1 _ rfl; have c2 := kept_a hg 2 _ rfl)
      | (go_at_call 54; go_must (refine (HB _ hm1).mono ?_); rintro e w2 ⟨rfl, hg2⟩; have hG := grown_more hg hg2 (by simp); have d0 := kept_b hG 0 _ rfl; have d1 := kept_b hG 1 _ rfl; have d2 := kept_b hG 2 _ rfl; have f0 := frozen_b hG 0; have f1 := frozen_b hG 1; have f2 := frozen_b hG 2)
      | (go_at_call 53; go_must (refine (HN _).mono ?_); rintro e w2 ⟨rfl, rfl⟩))
  · generalize hW : World.setCell _ _ _ = W
    have r0 : W.cell? ⟨w.heap.size + 1, 0, none⟩ = some (.int .i64 p) := by subst hW; go_simp
    have r1 : W.cell? ⟨w.heap.size + 1, 1, none⟩ = some (.int .i64 q) := by subst hW; go_simp
    have r2 : W.cell? ⟨w.heap.size + 1, 2, none⟩ = some (.int .i64 s) := by subst hW; go_simp
    have HG : w.grownBy W none := by subst hW; exact grown_set_new (grown_set_new (grown_set_new (grown_more (grown_alloc (World.grownBy_alloc w _ none) _) hG (by simp)) _ (by simp) _) _ (by simp) _) _ (by simp) _
    clear hW
    refine bodyPost_ret (v := .tuple #[.agg #[.int .i64 p, .int .i64 q, .int .i64 s], .bool false]) (by simp [results, Tryd.results43, go_sem, r0, r1, r2]) rfl ?_
    exact ⟨rfl, HG⟩
  · generalize hW : World.setCell _ _ _ = W
    have r0 : W.cell? ⟨w.heap.size + 1, 0, none⟩ = some (.int .i64 p) := by subst hW; go_simp
    have r1 : W.cell? ⟨w.heap.size + 1, 1, none⟩ = some (.int .i64 q) := by subst hW; go_simp
    have r2 : W.cell? ⟨w.heap.size + 1, 2, none⟩ = some (.int .i64 s) := by subst hW; go_simp
    have HG : w.grownBy W none := by subst hW; exact grown_set_new (grown_set_new (grown_set_new (grown_more (grown_alloc (World.grownBy_alloc w _ none) _) hG (by simp)) _ (by simp) _) _ (by simp) _) _ (by simp) _
    clear hW
    refine bodyPost_ret (v := .tuple #[.agg #[.int .i64 p, .int .i64 q, .int .i64 s], .bool d]) (by simp [results, Tryd.results43, go_sem, r0, r1, r2]) rfl ?_
    exact ⟨rfl, HG⟩

set_option maxRecDepth 100000 in
set_option maxHeartbeats 400000 in
/-- 'item', a number alone. -/
theorem item_number (f : Cro.Sp) (t x y : ByteArray) (n : Nat) (w : World)
    (HC : ∀ w, Mx w → Calls Tryd.prog 52 #[.string t, .string ⟨#[47]⟩] w fun e w' => e = .returned (.tuple #[.string x, .string y, .bool false]) ∧ w.grownBy w' none)
    (HN : ∀ w, Calls Tryd.prog 53 #[.string x] w fun e w' => e = .returned (.tuple #[.int .i64 n, .bool true]) ∧ w' = w) (hm : Mx w) :
    Calls Tryd.prog 43 #[spn f, .string t] w fun e w' => e = .returned (.tuple #[itv ⟨n, n, 1⟩, .bool true]) ∧ w.grownBy w' none := by
  obtain ⟨a, b, z⟩ := f
  have HM : ∀ o o', Mx ((w.alloc o).alloc o') := fun o o' => hm.kept (grown_alloc (World.grownBy_alloc w o none) o')
  go_enter Tryd.func43, Tryd.ntmps43
  go_wp2_with (first
    | (go_at_call 52; go_must (refine (HC _ (HM _ _)).mono ?_); rintro e w1 ⟨rfl, hg⟩; have hm1 := Mx.kept (HM _ _) hg; have c0 := kept_a hg 0 _ rfl; have c1 := kept_a hg 1 _ rfl; have c2 := kept_a hg 2 _ rfl; have hG := hg; have d0 := kept_b hG 0 _ rfl; have d1 := kept_b hG 1 _ rfl; have d2 := kept_b hG 2 _ rfl; have f0 := frozen_b hG 0; have f1 := frozen_b hG 1; have f2 := frozen_b hG 2)
    | (go_at_call 53; go_must (refine (HN _).mono ?_); rintro e w2 ⟨rfl, rfl⟩))
  generalize hW : World.setCell _ _ _ = W
  have r0 : W.cell? ⟨w.heap.size + 1, 0, none⟩ = some (.int .i64 n) := by subst hW; go_simp
  have r1 : W.cell? ⟨w.heap.size + 1, 1, none⟩ = some (.int .i64 n) := by subst hW; go_simp
  have r2 : W.cell? ⟨w.heap.size + 1, 2, none⟩ = some (.int .i64 1) := by subst hW; go_simp
  have HG : w.grownBy W none := by subst hW; exact grown_set_new (grown_set_new (grown_set_new (grown_more (grown_alloc (World.grownBy_alloc w _ none) _) hG (by simp)) _ (by simp) _) _ (by simp) _) _ (by simp) _
  clear hW
  refine bodyPost_ret (v := .tuple #[.agg #[.int .i64 n, .int .i64 n, .int .i64 1], .bool true]) (by simp [results, Tryd.results43, go_sem, r0, r1, r2]) rfl ?_
  exact ⟨rfl, HG⟩

set_option maxRecDepth 100000 in
set_option maxHeartbeats 400000 in
/-- 'item', without a step. -/
theorem item_bare (f : Cro.Sp) (t x y : ByteArray) (p q : Nat) (c : Bool) (w : World)
    (HC : ∀ w, Mx w → Calls Tryd.prog 52 #[.string t, .string ⟨#[47]⟩] w fun e w' => e = .returned (.tuple #[.string x, .string y, .bool false]) ∧ w.grownBy w' none)
    (HB : ∀ w, Mx w → Calls Tryd.prog 54 #[spn f, .string x] w fun e w' => e = .returned (.tuple #[.int .i64 p, .int .i64 q, .bool c]) ∧ w.grownBy w' none)
    (HN : ∀ w, Calls Tryd.prog 53 #[.string x] w fun e w' => e = .returned (.tuple #[.int .i64 0, .bool false]) ∧ w' = w)
    (H1 : ∀ w, Calls Tryd.prog 53 #[.string ⟨#[49]⟩] w fun e w' => e = .returned (.tuple #[.int .i64 1, .bool true]) ∧ w' = w) (hm : Mx w) :
    Calls Tryd.prog 43 #[spn f, .string t] w fun e w' => e = .returned (.tuple #[itv ⟨p, q, 1⟩, .bool c]) ∧ w.grownBy w' none := by
  obtain ⟨a, b, z⟩ := f
  have HM : ∀ o o', Mx ((w.alloc o).alloc o') := fun o o' => hm.kept (grown_alloc (World.grownBy_alloc w o none) o')
  have tok : True := trivial
  cases c
  all_goals
    go_enter Tryd.func43, Tryd.ntmps43
    go_wp2_with (first
      | (go_at_call 52; go_must (refine (HC _ (HM _ _)).mono ?_); rintro e w1 ⟨rfl, hg⟩; have hm1 := Mx.kept (HM _ _) hg; have c0 := kept_a hg 0 _ rfl; have c1 := kept_a hg 1 _ rfl; have c2 := kept_a hg 2 _ rfl)
      | (go_at_call 54; go_must (refine (HB _ hm1).mono ?_); rintro e w2 ⟨rfl, hg2⟩; have hG := grown_more hg hg2 (by simp); have d0 := kept_b hG 0 _ rfl; have d1 := kept_b hG 1 _ rfl; have d2 := kept_b hG 2 _ rfl; have f0 := frozen_b hG 0; have f1 := frozen_b hG 1; have f2 := frozen_b hG 2)
      | (go_at_call 53; have _t := tok; go_must (refine (HN _).mono ?_); rintro e w2 ⟨rfl, rfl⟩; clear tok)
      | (go_at_call 53; go_must (refine (H1 _).mono ?_); rintro e w2 ⟨rfl, rfl⟩))
  · generalize hW : World.setCell _ _ _ = W
    have r0 : W.cell? ⟨w.heap.size + 1, 0, none⟩ = some (.int .i64 p) := by subst hW; go_simp
    have r1 : W.cell? ⟨w.heap.size + 1, 1, none⟩ = some (.int .i64 q) := by subst hW; go_simp
    have r2 : W.cell? ⟨w.heap.size + 1, 2, none⟩ = some (.int .i64 1) := by subst hW; go_simp
    have HG : w.grownBy W none := by subst hW; exact grown_set_new (grown_set_new (grown_set_new (grown_more (grown_alloc (World.grownBy_alloc w _ none) _) hG (by simp)) _ (by simp) _) _ (by simp) _) _ (by simp) _
    clear hW
    refine bodyPost_ret (v := .tuple #[.agg #[.int .i64 p, .int .i64 q, .int .i64 1], .bool false]) (by simp [results, Tryd.results43, go_sem, r0, r1, r2]) rfl ?_
    exact ⟨rfl, HG⟩
  · generalize hW : World.setCell _ _ _ = W
    have r0 : W.cell? ⟨w.heap.size + 1, 0, none⟩ = some (.int .i64 p) := by subst hW; go_simp
    have r1 : W.cell? ⟨w.heap.size + 1, 1, none⟩ = some (.int .i64 q) := by subst hW; go_simp
    have r2 : W.cell? ⟨w.heap.size + 1, 2, none⟩ = some (.int .i64 1) := by subst hW; go_simp
    have HG : w.grownBy W none := by subst hW; exact grown_set_new (grown_set_new (grown_set_new (grown_more (grown_alloc (World.grownBy_alloc w _ none) _) hG (by simp)) _ (by simp) _) _ (by simp) _) _ (by simp) _
    clear hW
    refine bodyPost_ret (v := .tuple #[.agg #[.int .i64 p, .int .i64 q, .int .i64 1], .bool true]) (by simp [results, Tryd.results43, go_sem, r0, r1, r2]) rfl ?_
    exact ⟨rfl, HG⟩
end Go.Proofs.YteiiapnpdfgoaaaDoor
