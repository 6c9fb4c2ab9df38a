/- What '(span).parse' answers. -/
import Derived.Test.YteiiapnpdfgoaaaDoorKItemS
import Derived.Test.YteiiapnpdfgoaaaDoorKText
import Derived.Deep.DeepAppendRoom
namespace Go.Proofs.YteiiapnpdfgoaaaDoor
open Go.RowKit

/-- A list of bytes as a string. -/
abbrev str (l : List UInt8) : Value := .string ⟨l.toArray⟩
theorem info_item : (Tryd.prog.info? 108).map (fun i => (i.zero, i.size, i.bytes)) = some (some (.agg #[.int .i64 0, .int .i64 0, .int .i64 0]), 3, 24) := by kernel_rfl
theorem split_any (t : ByteArray) (hs : t.size < 4294967281) (w : World) (hm : Mx w) :
    Calls Tryd.prog 42 #[.string t, .string ⟨#[44]⟩] w fun e w' => e = .returned (.slice (some ⟨w.heap.size, 0, none⟩) (Cro.spl 44 t.data.toList).length (Cro.spl 44 t.data.toList).length) ∧ w' = w.alloc (.cells ((Cro.spl 44 t.data.toList).map str).toArray 9) := by
  obtain ⟨m, hm⟩ := hm
  have h := Cro.split_spl 44 _ t.data.toList (Nat.le_refl _)
  have hb := Lib.splitB_data ⟨#[44]⟩ 0 (Lib.count t.data.toList [44]) t
  have e : (Lib.splitB ⟨#[44]⟩ 0 (Lib.count t.data.toList [44]) t).map Value.string = (Cro.spl 44 t.data.toList).map str := by
    rw [← h.1, ← hb, List.map_map]
    congr 1
  refine (Tryd.strings_Split t ⟨#[44]⟩ m w hs hm (by decide)).mono ?_
  rintro e1 w' ⟨rfl, rfl⟩
  refine ⟨?_, ?_⟩
  · rw [h.2]
  · exact congrArg (fun x => w.alloc (.cells (List.toArray x) 9)) e

theorem addr_at (g j : Nat) : (⟨g, 0, none⟩ : Addr).add j = ⟨g, j, none⟩ := by unfold Addr.add; split <;> simp_all
def icells (i : Cro.It) : List Value := [.int .i64 i.a, .int .i64 i.b, .int .i64 i.s]
/-- The slice v is the call's own, from block 'base' on, and holds the items l. -/
def OwnIt (w : World) (base : Nat) (v : Value) (l : List Cro.It) : Prop := w.ownsRow base 108 3 v l.length (l.flatMap icells)
theorem icells_len (l : List Cro.It) : (l.flatMap icells).length = l.length * 3 := by
  induction l with
  | nil => rfl
  | cons x t ih => simp [List.flatMap_cons, icells] at ih ⊢; omega
theorem icells_at : ∀ (l : List Cro.It) (i : Nat) (x : Cro.It), l[i]? = some x → (l.flatMap icells)[i * 3]? = some (.int .i64 x.a) ∧ (l.flatMap icells)[i * 3 + 1]? = some (.int .i64 x.b) ∧ (l.flatMap icells)[i * 3 + 2]? = some (.int .i64 x.s)
  | [], i, x, h => by simp at h
  | y :: t, 0, x, h => by
    simp at h
    subst h
    simp [icells]
  | y :: t, i + 1, x, h => by
    have ih := icells_at t i x (by simpa using h)
    have e : (y :: t).flatMap icells = .int .i64 y.a :: .int .i64 y.b :: .int .i64 y.s :: t.flatMap icells := by simp [icells]
    rw [e, show (i + 1) * 3 = i * 3 + 1 + 1 + 1 by omega]
    simpa using ih
theorem OwnIt.nil (w : World) (base : Nat) : OwnIt w base (.slice none 0 0) [] := World.ownsRow_nil _ _ _ _
theorem OwnIt.kept {w w' : World} {base : Nat} {v : Value} {l : List Cro.It} (h : OwnIt w base v l) (g : w.grownBy w' none) : OwnIt w' base v l := by
  refine World.ownsRow.kept h g ?_
  cases hv : v.ownBlock with
  | none => exact .inl rfl
  | some k => exact .inr (by simp)
theorem OwnIt.row {w : World} {base : Nat} {v : Value} {l : List Cro.It} (h : OwnIt w base v l) : (l = [] ∧ v = .slice none 0 0) ∨ ∃ g cap, v = .slice (some ⟨g, 0, none⟩) l.length cap ∧ ∀ i x, l[i]? = some x → w.cell? ⟨g, i * 3, none⟩ = some (.int .i64 x.a) ∧ w.cell? ⟨g, i * 3 + 1, none⟩ = some (.int .i64 x.b) ∧ w.cell? ⟨g, i * 3 + 2, none⟩ = some (.int .i64 x.s) := by
  rcases h.2 with ⟨e, h0⟩ | ⟨g, cap, cur, e, hg, _⟩
  · exact .inl ⟨List.eq_nil_of_length_eq_zero h0, e⟩
  · refine .inr ⟨g, cap, e, fun i x hx => ?_⟩
    obtain ⟨h1, h2, h3⟩ := icells_at l i x hx
    have hc := World.ownsRow.cells h (g := g) (by rw [e]; rfl)
    have c1 := hc _ _ h1
    have c2 := hc _ _ h2
    have c3 := hc _ _ h3
    rw [addr_at] at c1 c2 c3
    exact ⟨c1, c2, c3⟩
theorem OwnIt.len {w : World} {base : Nat} {v : Value} {l : List Cro.It} (h : OwnIt w base v l) : ∃ a c, v = .slice a l.length c := by
  rcases h.row with ⟨rfl, rfl⟩ | ⟨g, cap, rfl, _⟩
  · exact ⟨_, _, rfl⟩
  · exact ⟨_, _, rfl⟩
/-- 'append(v, x)', v the call's own. -/
theorem wpList_append_it {w : World} {ops : Array Oper} {rest : List Oper} {o : Oper} {a : Act} {Q : Exit → Act → World → Prop} (hgd : o.guard = none) (s x : Operand)
    (ho : o.op = .call { callee := .builtin .append, args := #[s, x], argTypes := #[105, 105] })
    (base : Nat) (v : Value) (l0 : List Cro.It) (hs : a.eval s = v) (hown : OwnIt w base v l0) (q : Nat) (i : Cro.It) (hx : a.eval x = .slice (some ⟨q, 0, none⟩) 1 1)
    (c0 : w.cell? ⟨q, 0, none⟩ = some (.int .i64 i.a)) (c1 : w.cell? ⟨q, 1, none⟩ = some (.int .i64 i.b)) (c2 : w.cell? ⟨q, 2, none⟩ = some (.int .i64 i.s))
    (hb : l0.length ≤ 1000) (hbase : base ≤ w.heap.size)
    (h : ∀ v' w', OwnIt w' base v' (l0 ++ [i]) → w.grownBy w' v.ownBlock → wpList Tryd.prog ops Q rest (a.put o.dst v') w') : wpList Tryd.prog ops Q (o :: rest) a w := by
  obtain ⟨ti, hi, hz0, hz1, hz2⟩ := info_parts info_item
  refine wpList_append_own w hgd s x 105 ho base 108 ti _ 3 24 Tryd.underlying105 hi hz0 hz1 hz2 rfl (by decide) v l0.length (l0.flatMap icells) hs hown ⟨q, 0, none⟩ 1 1 (icells i) hx rfl ?_ ?_ ?_ (by omega) hbase ?_
  · intro j u hu
    match j, hu with
    | 0, hu => simp [icells] at hu; subst hu; rw [Addr.add_lit]; exact c0
    | 1, hu => simp [icells] at hu; subst hu; rw [Addr.add_lit]; exact c1
    | 2, hu => simp [icells] at hu; subst hu; rw [Addr.add_lit]; exact c2
    | j + 3, hu => simp [icells] at hu
  · intro u hu
    simp [icells] at hu
    rcases hu with rfl | rfl | rfl <;> rfl
  · unfold maxLen; omega
  · intro v' w' hown' hg _
    refine h v' w' ?_ hg
    unfold OwnIt
    simpa using hown'

/-- What 'parse' hands back. -/
def fldV (x : Nat × Int) : Value := .tuple #[.int .u64 x.1, .int .i64 x.2]
theorem itms_none {f : Cro.Sp} {l : List (List UInt8)} {i : Nat} {x : List UInt8} (h : l[i]? = some x) (hx : Cro.itm f x = none) : Cro.itms f l = none := by
  induction l generalizing i with
  | nil => simp at h
  | cons y t ih =>
    cases i with
    | zero =>
      simp at h
      subst h
      rw [Cro.itms, hx]
    | succ i =>
      rw [Cro.itms, ih (by simpa using h)]
      cases Cro.itm f y <;> rfl
theorem itms_snoc {f : Cro.Sp} {l : List (List UInt8)} {r : List Cro.It} {x : List UInt8} {i : Cro.It} (h : Cro.itms f l = some r) (hx : Cro.itm f x = some i) : Cro.itms f (l ++ [x]) = some (r ++ [i]) := by
  induction l generalizing r with
  | nil =>
    simp [Cro.itms] at h
    subst h
    simp [Cro.itms, hx]
  | cons y t ih =>
    rw [Cro.itms] at h
    cases e1 : Cro.itm f y with
    | none => rw [e1] at h; cases h
    | some a =>
      cases e2 : Cro.itms f t with
      | none => rw [e1, e2] at h; cases h
      | some b =>
        rw [e1, e2] at h
        injection h with h
        subst h
        rw [List.cons_append, Cro.itms, e1, ih e2]
        rfl
theorem itms_len {f : Cro.Sp} : ∀ {l : List (List UInt8)} {r : List Cro.It}, Cro.itms f l = some r → r.length = l.length
  | [], r, h => by simp [Cro.itms] at h; subst h; rfl
  | y :: t, r, h => by
    rw [Cro.itms] at h
    cases e1 : Cro.itm f y with
    | none => rw [e1] at h; cases h
    | some a =>
      cases e2 : Cro.itms f t with
      | none => rw [e1, e2] at h; cases h
      | some b =>
        rw [e1, e2] at h
        injection h with h
        subst h
        simp [itms_len e2]
theorem itm_s {f : Cro.Sp} {x : List UInt8} {i : Cro.It} (h : Cro.itm f x = some i) : i.s ≤ 9999 := by
  unfold Cro.itm at h
  split at h
  · split at h
    · rename_i e2
      injection h with h
      subst h
      exact Cro.num_le e2
    · cases h
  · split at h
    · injection h with h
      subst h
      exact (by decide : (1 : Nat) ≤ 9999)
    · split at h
      · injection h with h
        subst h
        exact (by decide : (1 : Nat) ≤ 9999)
      · cases h
theorem itms_s {f : Cro.Sp} : ∀ {l : List (List UInt8)} {r : List Cro.It}, Cro.itms f l = some r → ∀ i ∈ r, i.s ≤ 9999
  | [], r, h => by simp [Cro.itms] at h; subst h; simp
  | y :: t, r, h => by
    rw [Cro.itms] at h
    cases e1 : Cro.itm f y with
    | none => rw [e1] at h; cases h
    | some a =>
      cases e2 : Cro.itms f t with
      | none => rw [e1, e2] at h; cases h
      | some b =>
        rw [e1, e2] at h
        injection h with h
        subst h
        intro i hi
        rcases List.mem_cons.mp hi with rfl | hi
        · exact itm_s e1
        · exact itms_s e2 i hi
theorem sets_snoc (f : Cro.Sp) (i : Cro.It) : ∀ (l : List Cro.It) (x : Nat), Cro.sets f x (l ++ [i]) = Cro.sets f x l ||| f.set i
  | [], x => rfl
  | y :: t, x => by rw [List.cons_append, Cro.sets, Cro.sets, sets_snoc f i t]
theorem fld_bad {f : Cro.Sp} {L : List (List UInt8)} {k : Nat} {x : List UInt8} (h : L[k]? = some x) (hx : Cro.itm f x = none) : fldV (Cro.fld f L) = .tuple #[.int .u64 0, .int .i64 50] := by
  unfold Cro.fld
  rw [itms_none h hx]
  rfl
theorem fld_out {f : Cro.Sp} {L : List (List UInt8)} {r : List Cro.It} (h : Cro.itms f L = some r) {i : Cro.It} (hi : i ∈ r) (hx : f.holdsB i = false) : fldV (Cro.fld f L) = .tuple #[.int .u64 0, .int .i64 51] := by
  have : ¬ r.all f.holdsB = true := fun e => by
    have := List.all_eq_true.mp e i hi
    rw [hx] at this
    cases this
  unfold Cro.fld
  rw [h]
  simp only
  rw [if_neg this]
  rfl
theorem fld_ok {f : Cro.Sp} {L : List (List UInt8)} {r : List Cro.It} (h : Cro.itms f L = some r) (hx : r.all f.holdsB = true) : fldV (Cro.fld f L) = .tuple #[.int .u64 (Cro.sets f 0 r : Nat), .int .i64 0] := by
  unfold Cro.fld
  rw [h]
  simp only
  rw [if_pos hx]
  rfl
theorem u64_or (x y : Nat) (hx : x < 18446744073709551616) (hy : y < 18446744073709551616) : bits BinOp.or IntKind.u64 (x : Int) (y : Int) = ((x ||| y : Nat) : Int) := bits_or_u64_nat _ _ hx hy
theorem grown_own {w w1 w2 : World} {v : Value} {base : Nat} {l : List Cro.It} (h : w.grownBy w1 none) (hO : OwnIt w1 base v l) (hb : w.heap.size ≤ base) (g : w1.grownBy w2 v.ownBlock) : w.grownBy w2 none :=
  grown_more h g (fun b e => .inr (by have := (World.ownsRow.lt hO b e).1; omega))

set_option maxRecDepth 100000 in
set_option maxHeartbeats 1600000 in
theorem parse_any (f : Cro.Sp) (t : ByteArray) (ht : t.size ≤ 256) (h1 : f.last < 64) (h2 : f.lo < 64) (h3 : f.hi ≤ 9999) (w : World) (hm : Mx w) :
    Calls Tryd.prog 34 #[spn f, .string t] w fun e w' => e = .returned (fldV (Cro.fld f (Cro.spl 44 t.data.toList))) ∧ w.grownBy w' none := by
  have SP := split_any t (by omega)
  have HL : Hid (∀ x ∈ Cro.spl 44 t.data.toList, (⟨x.toArray⟩ : ByteArray).size < 4294967281) := fun x hx => by
    have := Cro.spl_len 44 _ x hx
    have hlen : t.data.toList.length = t.size := by simp
    rw [ba_size]
    omega
  have hN : (Cro.spl 44 t.data.toList).length ≤ 257 := by
    have := Cro.spl_many 44 t.data.toList
    have hlen : t.data.toList.length = t.size := by simp
    omega
  generalize Cro.spl 44 t.data.toList = L at SP HL hN ⊢
  obtain ⟨V, hV⟩ : ∃ V, V = fldV (Cro.fld f L) := ⟨_, rfl⟩
  rw [← hV]
  have HV : Hid (V = fldV (Cro.fld f L)) := hV
  clear hV
  have HM : ∀ o, Mx (w.alloc o) := fun o => hm.kept (World.grownBy_alloc w o none)
  have IS := fun (x : List UInt8) (i : Cro.It) (h : Cro.itm f x = some i) (hs : (⟨x.toArray⟩ : ByteArray).size < 4294967281) => item_some f ⟨x.toArray⟩ i h hs
  have IN := fun (x : List UInt8) (h : Cro.itm f x = none) (hs : (⟨x.toArray⟩ : ByteArray).size < 4294967281) => item_none f ⟨x.toArray⟩ h hs
  obtain ⟨N, hNe⟩ : ∃ N, N = L.length := ⟨_, rfl⟩
  rw [← hNe] at SP hN
  have HN : Hid (N = L.length) := hNe
  clear hNe
  go_enter Tryd.func34, Tryd.ntmps34
  go_wp2_with (first
    | (go_at_call 42; go_must (refine (SP _ (HM _)).mono ?_); rintro e w1 ⟨rfl, rfl⟩))
  obtain ⟨W0, hW0⟩ : ∃ W0, W0 = (w.alloc (.cells #[.int .i64 f.lo, .int .i64 f.hi, .int .i64 f.last] 59)).alloc (.cells (L.map str).toArray 9) := ⟨_, rfl⟩
  have KA : Hid (∀ wr, W0.grownBy wr none → wr.cell? ⟨w.heap.size, 0, none⟩ = some (.int .i64 f.lo) ∧ wr.cell? ⟨w.heap.size, 1, none⟩ = some (.int .i64 f.hi) ∧ wr.cell? ⟨w.heap.size, 2, none⟩ = some (.int .i64 f.last)) := fun wr hg => by
    subst hW0
    exact ⟨kept_a hg 0 _ rfl, kept_a hg 1 _ rfl, kept_a hg 2 _ rfl⟩
  have KB : Hid (∀ wr, W0.grownBy wr none → ∀ k x, L[k]? = some x → wr.cell? ⟨w.heap.size + 1, k, none⟩ = some (str x)) := fun wr hg k x hx => by
    subst hW0
    exact kept_b hg k _ (by simp [hx])
  have KS : W0.heap.size = w.heap.size + 2 := by subst hW0; simp
  have KM : Mx W0 := by subst hW0; exact hm.kept (grown_alloc (World.grownBy_alloc w _ none) _)
  have KG : w.grownBy W0 none := by subst hW0; exact grown_alloc (World.grownBy_alloc w _ none) _
  rw [← hW0]
  clear hW0 SP HM hm
  go_loopw [6, 17] (fun v i wr => ∃ (k : Nat) (r : List Cro.It), k ≤ N ∧ i = .int .i64 k ∧ OwnIt wr (w.heap.size + 2) v r ∧ W0.grownBy wr none ∧ r.length = k ∧ Hid (Cro.itms f (L.take k) = some r)) (fun _ i _ => (N - (intOf i).toNat))
  case atStart => exact ⟨0, [], by omega, rfl, OwnIt.nil _ _, grown_refl _ _, rfl, by show _ = _; simp [Cro.itms]⟩
  case round =>
    obtain ⟨k, r, hk, rfl, hO, hG, hr, HI⟩ := hrel
    obtain ⟨c0, c1, c2⟩ := KA.out _ hG
    have hmr := KM.kept hG
    by_cases hlt : k < N
    · obtain ⟨x, hx⟩ : ∃ x, L[k]? = some x := ⟨_, List.getElem?_eq_getElem (by have := HN.out; omega)⟩
      have cx := KB.out _ hG k x hx
      have hxs := HL.out x (List.mem_of_getElem? hx)
      cases hi : Cro.itm f x with
      | none =>
        obtain ⟨i, HC⟩ := IN x hi hxs
        have HF : Hid (V = .tuple #[.int .u64 0, .int .i64 50]) := HV.out.trans (fld_bad hx hi)
        clear hi IN IS HI hxs hx
        go_wp2_with (go_at_call 43; go_must (refine (HC _ hmr).mono ?_); rintro e w1 ⟨rfl, hg1⟩)
        go_ret2
        exact ⟨ret_val HF.out.symm, grown_more KG (grown_alloc (grown_more hG hg1 (by simp)) _) (by simp)⟩
      | some i =>
        have HC := IS x i hi hxs
        have HI' : Hid (Cro.itms f (L.take (k + 1)) = some (r ++ [i])) := by
          show _ = _
          rw [List.take_add_one, hx]
          exact itms_snoc HI.out hi
        clear hi IN IS HI hxs hx
        go_wp2_with (first
          | (go_at_call 43; go_must (refine (HC _ hmr).mono ?_); rintro e w1 ⟨rfl, hg1⟩)
          | (refine wpList_append_it rfl (.tmp 29) (.tmp 31) rfl (w.heap.size + 2) _ r rfl ((hO.kept hg1).kept (grown_alloc (World.grownBy_alloc w1 _ none) _)) (w1.heap.size + 1) i rfl (by go_simp) (by go_simp) (by go_simp) (by omega) (by have := hG.size; have := hg1.size; simp; omega) ?_; intro v4 w4 hO4 hg4))
        go_roundw
        case rel => exact ⟨k + 1, r ++ [i], by omega, by go_num, hO4, grown_own (grown_alloc (grown_alloc (grown_more hG hg1 (by simp)) _) _) ((hO.kept hg1).kept (grown_alloc (World.grownBy_alloc w1 _ none) _)) (by omega) hg4, by simp [hr], HI'⟩
        case measure => simp [intOf]; omega
    · obtain rfl : k = N := by omega
      have hI := HI.out
      rw [show k = L.length from HN.out, List.take_length] at hI
      have HI' : Hid (Cro.itms f L = some r) := hI
      have HS : Hid (∀ i ∈ r, i.s ≤ 9999) := itms_s hI
      obtain ⟨va, vc, hv⟩ := hO.len
      have RW : Hid (∀ j i, r[j]? = some i → ∃ g, va = some ⟨g, 0, none⟩ ∧ ∀ w2, wr.grownBy w2 none → w2.cell? ⟨g, j * 3, none⟩ = some (.int .i64 i.a) ∧ w2.cell? ⟨g, j * 3 + 1, none⟩ = some (.int .i64 i.b) ∧ w2.cell? ⟨g, j * 3 + 2, none⟩ = some (.int .i64 i.s)) := fun j i hj => by
        rcases hO.row with ⟨rfl, _⟩ | ⟨g, cap, e, hc⟩
        · simp at hj
        · rw [hv] at e
          injection e with e1 e2 e3
          obtain ⟨x1, x2, x3⟩ := hc j i hj
          exact ⟨g, e1, fun w2 hg => ⟨hg.cell x1 (by simp), hg.cell x2 (by simp), hg.cell x3 (by simp)⟩⟩
      have GG : Hid (w.grownBy wr none) := grown_more KG hG (by simp)
      have KA2 : Hid (∀ w2, wr.grownBy w2 none → w2.cell? ⟨w.heap.size, 0, none⟩ = some (.int .i64 f.lo) ∧ w2.cell? ⟨w.heap.size, 1, none⟩ = some (.int .i64 f.hi) ∧ w2.cell? ⟨w.heap.size, 2, none⟩ = some (.int .i64 f.last)) := fun w2 hg => KA.out w2 (grown_more hG hg (by simp))
      have HH := holds_any f
      have HT := fun (i : Cro.It) (hs : 0 < i.s) (hb : i.b ≤ 100000) (hs2 : i.s ≤ 100000) => set_any f i h1 h2 hs hb hs2
      subst hv
      subst hr
      clear hO HI hI KA KB KM KG hG IS IN HL hmr
      go_wp2
      go_loopw [11, 36] (fun s j w2 => ∃ (m x : Nat), m ≤ r.length ∧ j = .int .i64 m ∧ s = .int .u64 x ∧ x < 18446744073709551616 ∧ wr.grownBy w2 none ∧ Hid (Cro.sets f 0 (r.take m) = x ∧ (r.take m).all f.holdsB = true)) (fun _ j _ => (r.length - (intOf j).toNat))
      case atStart => exact ⟨0, 0, by omega, rfl, rfl, by omega, grown_refl _ _, ⟨by simp [Cro.sets], by simp⟩⟩
      case round =>
        clear c0 c1 c2
        obtain ⟨m, x, hm, rfl, rfl, hx, hG2, HX⟩ := hrel
        have A0 := fun o => (KA2.out _ (grown_alloc hG2 o)).1
        have A1 := fun o => (KA2.out _ (grown_alloc hG2 o)).2.1
        have A2 := fun o => (KA2.out _ (grown_alloc hG2 o)).2.2
        by_cases hlt2 : m < r.length
        · obtain ⟨i, hi⟩ : ∃ i, r[m]? = some i := ⟨_, List.getElem?_eq_getElem hlt2⟩
          obtain ⟨g, rfl, hcs⟩ := RW.out m i hi
          obtain ⟨d0, d1, d2⟩ := hcs _ hG2
          have HHi := HH i
          have his := HS.out i (List.mem_of_getElem? hi)
          have HF : Hid (f.holdsB i = false → V = .tuple #[.int .u64 0, .int .i64 51]) := fun h => HV.out.trans (fld_out HI'.out (List.mem_of_getElem? hi) h)
          have HE : Hid (r.take (m + 1) = r.take m ++ [i]) := by show _ = _; rw [List.take_add_one, hi]; rfl
          clear hi hcs
          cases hb : f.holdsB i with
          | false =>
            rw [hb] at HHi
            have HF' : Hid (V = .tuple #[.int .u64 0, .int .i64 51]) := HF.out hb
            clear HF hb
            go_wp2_with (go_at_call 44; go_must (refine (HHi _).mono ?_); rintro e w1 ⟨rfl, hg1⟩)
            go_ret2
            exact ⟨ret_val HF'.out.symm, grown_more GG.out (grown_more (grown_alloc hG2 _) hg1 (by simp)) (by simp)⟩
          | true =>
            rw [hb] at HHi
            have hb' := of_decide_eq_true hb
            have HTi := HT i (by omega) (by omega) (by omega)
            have hlt3 := Cro.set_lt f i 64 h1 h2
            have HO : Hid (bits BinOp.or IntKind.u64 (x : Int) ((f.set i : Nat) : Int) = ((x ||| f.set i : Nat) : Int)) := u64_or _ _ hx hlt3
            have HLT : Hid (x ||| f.set i < 18446744073709551616) := Nat.or_lt_two_pow (n := 64) hx hlt3
            have HX' : Hid (Cro.sets f 0 (r.take (m + 1)) = (x ||| f.set i) ∧ (r.take (m + 1)).all f.holdsB = true) := by
              have h := HX.out
              show _ ∧ _
              rw [HE.out, sets_snoc, List.all_append, h.1, h.2]
              exact ⟨rfl, by simp [hb]⟩
            clear HF hb hb' HX HE hlt3
            generalize f.set i = y at HTi HO HLT HX'
            go_wp2_with (first
              | (go_at_call 44; go_must (refine (HHi _).mono ?_); rintro e w1 ⟨rfl, hg1⟩; have hgA := grown_more (grown_alloc hG2 _) hg1 (by simp); obtain ⟨e0, e1, e2⟩ := KA2.out _ hgA; have i0 := cell_kept hg1 0 _ rfl; have i1 := cell_kept hg1 1 _ rfl; have i2 := cell_kept hg1 2 _ rfl)
              | (go_at_call 45; go_must (refine (HTi _).mono ?_); rintro e w3 ⟨rfl, hg3⟩))
            go_roundw
            case rel => exact ⟨m + 1, x ||| y, by omega, by go_num, by rw [HO.out], HLT.out, grown_more hgA hg3 (by simp), HX'⟩
            case measure => simp [intOf]; omega
        · obtain rfl : m = r.length := by omega
          have h := HX.out
          rw [List.take_length] at h
          have HF : Hid (V = .tuple #[.int .u64 x, .int .i64 0]) := by
            show _ = _
            rw [HV.out, fld_ok HI'.out h.2, h.1]
          clear h HX
          go_wp2
          go_ret2
          exact ⟨ret_val HF.out.symm, grown_more GG.out hG2 (by simp)⟩
end Go.Proofs.YteiiapnpdfgoaaaDoor
