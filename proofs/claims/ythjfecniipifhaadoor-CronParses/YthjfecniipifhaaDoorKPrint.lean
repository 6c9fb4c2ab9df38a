/- What '(span).print' answers. -/
import Derived.Test.YthjfecniipifhaaDoorKWhole
import Derived.Lib.ItoaNum
import Derived.Laws.Concat
namespace Go.Proofs.YthjfecniipifhaaDoor.Cro
/-- The end of a run of bits. -/
def rend (x : Nat) : Nat → Nat → Nat
  | 0, n => n
  | f + 1, n => if x.testBit (n + 1) = true then rend x f (n + 1) else n
/-- A number below a hundred, in digits. -/
def dg (n : Nat) : List UInt8 := if n < 10 then [UInt8.ofNat (48 + n)] else [UInt8.ofNat (48 + n / 10), UInt8.ofNat (48 + n % 10)]
/-- A run's text. -/
def pie (n m : Nat) : List UInt8 := if n < m then dg n ++ 45 :: dg m else dg n
/-- The runs of a set, from n on. -/
def runs (x last : Nat) : Nat → Nat → List (List UInt8)
  | 0, _ => []
  | f + 1, n => if n ≤ last then (if x.testBit n = true then pie n (rend x 64 n) :: runs x last f (rend x 64 n + 1) else runs x last f (n + 1)) else []
/-- A set's text. -/
def prn (f : Sp) (x : Nat) : List UInt8 := Lib.join (runs x f.last 64 f.lo) [44]
theorem rend_ge (x : Nat) : ∀ (f n : Nat), n ≤ rend x f n
  | 0, n => Nat.le_refl _
  | f + 1, n => by
    rw [rend]
    split
    · have := rend_ge x f (n + 1); omega
    · exact Nat.le_refl _
theorem runs_end (x last f n : Nat) (h : last < n) : runs x last f n = [] := by
  cases f with
  | zero => rfl
  | succ f => rw [runs, if_neg (by omega)]
theorem runs_fuel (x last : Nat) : ∀ (k j n : Nat), last + 1 ≤ n + k → last + 1 ≤ n + j → runs x last k n = runs x last j n
  | 0, j, n, h, _ => by rw [runs_end x last j n (by omega), runs]
  | k + 1, 0, n, _, h => by rw [runs_end x last (k + 1) n (by omega), runs]
  | k + 1, j + 1, n, h, h' => by
    have := rend_ge x 64 n
    rw [runs, runs]
    split
    · split
      · rw [runs_fuel x last k j (rend x 64 n + 1) (by omega) (by omega)]
      · exact runs_fuel x last k j (n + 1) (by omega) (by omega)
    · rfl
theorem dg_len (n : Nat) : (dg n).length ≤ 2 := by
  unfold dg
  split <;> simp
theorem dec_dg {n : Nat} (h : n < 100) : Lib.decDigits n = dg n := by
  unfold dg
  by_cases h1 : n < 10
  · rw [Lib.decDigits, dif_pos h1, if_pos h1]
  · rw [Lib.decDigits, dif_neg h1, if_neg h1, Lib.decDigits, dif_pos (by omega)]
    rfl
theorem join_len (l : List (List UInt8)) (c : UInt8) (h : ∀ y ∈ l, y.length ≤ 5) : (Lib.join l [c]).length ≤ l.length * 6 := by
  cases l with
  | nil => simp [Lib.join_nil]
  | cons x r =>
    have ht : ∀ r : List (List UInt8), (∀ y ∈ r, y.length ≤ 5) → (Lib.joinTail [c] r).length ≤ r.length * 6 := by
      intro r
      induction r with
      | nil => intro _; simp [Lib.joinTail]
      | cons y r ih =>
        intro hr
        have h1 := ih (fun z hz => hr z (by simp [hz]))
        have h2 := hr y (by simp)
        have e : Lib.joinTail [c] (y :: r) = ([c] ++ y) ++ Lib.joinTail [c] r := by simp [Lib.joinTail]
        rw [e]
        simp
        omega
    have h1 := ht r (fun z hz => h z (by simp [hz]))
    have h2 := h x (by simp)
    rw [Lib.join_cons]
    simp
    omega
theorem testBit_lt {x N i : Nat} (hx : x < 2 ^ N) (h : x.testBit i = true) : i < N := by
  have := Nat.ge_two_pow_of_testBit h
  rcases Nat.lt_or_ge i N with h1 | h1
  · exact h1
  · have := Nat.pow_le_pow_right (n := 2) (by omega) h1
    omega
theorem rend_le {x : Nat} (hx : x < 2 ^ 60) : ∀ (f n : Nat), n ≤ 59 → rend x f n ≤ 59
  | 0, _, h => h
  | f + 1, n, h => by
    rw [rend]
    split
    · rename_i hb
      have := testBit_lt hx hb
      exact rend_le hx f (n + 1) (by omega)
    · exact h
theorem pie_len (n m : Nat) : (pie n m).length ≤ 5 := by
  have h1 := dg_len n
  have h2 := dg_len m
  unfold pie
  split
  · simp; omega
  · omega
theorem runs_all (x last : Nat) : ∀ (k n : Nat), (runs x last k n).length ≤ k ∧ ∀ y ∈ runs x last k n, y.length ≤ 5
  | 0, n => by simp [runs]
  | k + 1, n => by
    rw [runs]
    split
    · split
      · obtain ⟨h1, h2⟩ := runs_all x last k (rend x 64 n + 1)
        refine ⟨by simp; omega, fun y hy => ?_⟩
        rcases List.mem_cons.mp hy with rfl | hy
        · exact pie_len _ _
        · exact h2 y hy
      · obtain ⟨h1, h2⟩ := runs_all x last k (n + 1)
        exact ⟨by omega, h2⟩
    · simp
theorem prn_len (f : Sp) (x : Nat) : (prn f x).length ≤ 384 := by
  obtain ⟨h1, h2⟩ := runs_all x f.last 64 f.lo
  have := join_len _ 44 h2
  unfold prn
  omega
end Go.Proofs.YthjfecniipifhaaDoor.Cro
namespace Go.Proofs.YthjfecniipifhaaDoor
open Go.RowKit
set_option linter.unusedVariables false

theorem info_string : (Tryd.prog.info? 9).map (fun i => (i.zero, i.size, i.bytes)) = some (some (.string ⟨#[]⟩), 1, 16) := by kernel_rfl
/-- The slice v is the call's own, from block 'base' on, and holds the texts l. -/
def OwnS (w : World) (base : Nat) (v : Value) (l : List (List UInt8)) : Prop := w.ownsRow base 9 1 v l.length (l.map str)
theorem OwnS.nil (w : World) (base : Nat) : OwnS w base (.slice none 0 0) [] := World.ownsRow_nil _ _ _ _
theorem OwnS.kept {w w' : World} {base : Nat} {v : Value} {l : List (List UInt8)} (h : OwnS w base v l) (g : w.grownBy w' none) : OwnS w' base v l := by
  refine World.ownsRow.kept h g ?_
  cases hv : v.ownBlock with
  | none => exact .inl rfl
  | some k => exact .inr (by simp)
theorem wpList_append_str {w : World} {ops : Array Oper} {rest : List Oper} {o : Oper} {a : Act} {Q : Exit → Act → World → Prop} (hgd : o.guard = none) (s x : Operand)
    (ho : o.op = .call { callee := .builtin .append, args := #[s, x], argTypes := #[42, 42] })
    (base : Nat) (v : Value) (l0 : List (List UInt8)) (hs : a.eval s = v) (hown : OwnS w base v l0) (q : Nat) (i : List UInt8) (hx : a.eval x = .slice (some ⟨q, 0, none⟩) 1 1)
    (c0 : w.cell? ⟨q, 0, none⟩ = some (str i)) (hb : l0.length ≤ 1000) (hbase : base ≤ w.heap.size)
    (h : ∀ v' w', OwnS w' base v' (l0 ++ [i]) → w.grownBy w' v.ownBlock → wpList Tryd.prog ops Q rest (a.put o.dst v') w') : wpList Tryd.prog ops Q (o :: rest) a w := by
  obtain ⟨ti, hi, hz0, hz1, hz2⟩ := info_parts info_string
  refine wpList_append_own w hgd s x 42 ho base 9 ti _ 1 16 Tryd.underlying42 hi hz0 hz1 hz2 rfl (by decide) v l0.length (l0.map str) hs hown ⟨q, 0, none⟩ 1 1 [str i] hx rfl ?_ ?_ ?_ (by omega) hbase ?_
  · intro j u hu
    match j, hu with
    | 0, hu => simp at hu; subst hu; rw [Addr.add_lit]; exact c0
    | j + 1, hu => simp at hu
  · intro u hu
    simp at hu
    subst hu
    rfl
  · unfold maxLen; omega
  · intro v' w' hown' hg _
    refine h v' w' ?_ hg
    unfold OwnS
    simpa using hown'
theorem grown_ownS {w w1 w2 : World} {v : Value} {base : Nat} {l : List (List UInt8)} (h : w.grownBy w1 none) (hO : OwnS w1 base v l) (hb : w.heap.size ≤ base) (g : w1.grownBy w2 v.ownBlock) : w.grownBy w2 none :=
  grown_more h g (fun b e => .inr (by have := (World.ownsRow.lt hO b e).1; omega))
/-- 'strings.Join' of texts that are the call's own. -/
theorem join_own (v : Value) (l : List (List UInt8)) (sep : ByteArray) (base : Nat) (w : World) (h : OwnS w base v l) (hl : (Lib.join l sep.data.toList).length ≤ 100000) (hn : l.length ≤ 1000) :
    Calls Tryd.prog 26 #[v, .string sep] w fun e w' => e = .returned (str (Lib.join l sep.data.toList)) ∧ w.grownBy w' none := by
  rcases h.2 with ⟨rfl, h0⟩ | ⟨g, cap, cur, rfl, hg, hb, hcap, _⟩
  · obtain rfl : l = [] := List.eq_nil_of_length_eq_zero h0
    refine (Tryd.strings_Join_none none 0 sep w).mono ?_
    rintro e w' ⟨rfl, rfl⟩
    exact ⟨rfl, grown_refl _ _⟩
  · have hcs := World.ownsRow.cells h (g := g) rfl
    have e : (l.map (fun x => (⟨x.toArray⟩ : ByteArray))).map (·.data.toList) = l := by rw [List.map_map]; simp [Function.comp_def]
    have := Tryd.strings_Join g 0 cap (l.map (fun x => (⟨x.toArray⟩ : ByteArray))) sep w (fun j x hx => by
      rw [List.getElem?_map] at hx
      obtain ⟨y, hy, rfl⟩ := Option.map_eq_some_iff.mp hx
      have := hcs j (str y) (by rw [List.getElem?_map, hy]; rfl)
      rw [addr_at] at this
      rw [Nat.zero_add]
      exact this) (by obtain ⟨h', _⟩ := Array.getElem?_eq_some_iff.mp hb; exact h') (by rw [List.length_map]; omega) (by rw [List.length_map]; omega) (by rw [e]; omega)
    rw [e, List.length_map] at this
    refine this.mono ?_
    rintro e w' ⟨rfl, hb⟩
    exact ⟨rfl, below_grown hb⟩
theorem itoa_any (n : Nat) (h : n < 100) (w : World) : Calls Tryd.prog 43 #[.int .i64 n] w fun e w' => e = .returned (str (Cro.dg n)) ∧ w' = w := by
  rw [← Cro.dec_dg h]
  exact Tryd.strconv_Itoa_small n h w
theorem add_str {P : Program} (x y : List UInt8) (hx : x.length ≤ 100) (hy : y.length ≤ 100) (w : World) : (Op.stringOp .add ⟨x.toArray⟩ ⟨y.toArray⟩).run P w = .ok (str (x ++ y)) w := run_string_add_lists w x y (by omega) (by omega)

set_option maxRecDepth 100000 in
set_option maxHeartbeats 1600000 in
theorem print_any (f : Cro.Sp) (x : Nat) (hx : x < 2 ^ 60) (hl : f.last ≤ 59) (hlo : f.lo ≤ 1) (w : World) :
    Calls Tryd.prog 25 #[spn f, .int .u64 x] w fun e w' => e = .returned (str (Cro.prn f x)) ∧ w.grownBy w' none := by
  have HA := fun n (hn : n ≤ 60) => has_any x n (by omega) (show n ≤ 64 by omega)
  have HT : Hid (∀ i, x.testBit i = true → i < 60) := fun i h => Cro.testBit_lt hx h
  obtain ⟨V, hV⟩ : ∃ V, V = Cro.prn f x := ⟨_, rfl⟩
  rw [← hV]
  have HV : Hid (V = Lib.join (Cro.runs x f.last 64 f.lo) [44]) := hV
  clear hV
  obtain ⟨lo, hi, la⟩ := f
  simp only at hl hlo HV
  go_enter Tryd.func25, Tryd.ntmps25
  go_wp2
  obtain ⟨W0, hW0⟩ : ∃ W0, W0 = w.alloc (.cells #[.int .i64 lo, .int .i64 hi, .int .i64 la] 48) := ⟨_, rfl⟩
  have KA : Hid (∀ wr, W0.grownBy wr none → wr.cell? ⟨w.heap.size, 0, none⟩ = some (.int .i64 lo) ∧ wr.cell? ⟨w.heap.size, 2, none⟩ = some (.int .i64 la)) := fun wr hg => by
    subst hW0
    exact ⟨cell_kept hg 0 _ rfl, cell_kept hg 2 _ rfl⟩
  have KS : W0.heap.size = w.heap.size + 1 := by subst hW0; simp
  have KG : w.grownBy W0 none := by subst hW0; exact World.grownBy_alloc w _ none
  rw [← hW0]
  clear hW0
  go_loopw [5, 6] (fun v i wr => ∃ (n k : Nat) (l : List (List UInt8)), i = .int .i64 n ∧ OwnS wr (w.heap.size + 1) v l ∧ W0.grownBy wr none ∧ l.length ≤ n ∧ n ≤ 61 ∧ la + 1 ≤ n + k ∧ Hid (l ++ Cro.runs x la k n = Cro.runs x la 64 lo) ∧ Hid (∀ y ∈ l, y.length ≤ 5)) (fun _ i _ => (61 - (intOf i).toNat))
  case atStart => exact ⟨lo, 64, [], rfl, OwnS.nil _ _, grown_refl _ _, by simp, by omega, by omega, by show _ = _; rfl, fun y hy => by simp at hy⟩
  case round =>
    obtain ⟨n, k, l, rfl, hO, hG, hln, hn, hk, HR, HY⟩ := hrel
    obtain ⟨c0, c2⟩ := KA.out _ hG
    by_cases hle : n ≤ la
    · obtain ⟨k, rfl⟩ : ∃ k', k = k' + 1 := ⟨k - 1, by omega⟩
      have HAn := HA n (by omega)
      cases hb : x.testBit n with
      | false =>
        rw [hb] at HAn
        have HR' : Hid (l ++ Cro.runs x la k (n + 1) = Cro.runs x la 64 lo) := by
          have := HR.out
          rw [Cro.runs, if_pos hle, if_neg (by simp [hb])] at this
          exact this
        clear HR hb
        go_wp2_with (go_at_call 32; go_must (refine (HAn _).mono ?_); rintro e w1 ⟨rfl, rfl⟩)
        go_roundw
        case rel => exact ⟨n + 1, k, l, by go_num, hO, hG, by omega, by omega, by omega, HR', HY⟩
        case measure => simp [intOf]; omega
      | true =>
        rw [hb] at HAn
        have hn59 := HT.out n hb
        have HR' : Hid (l ++ Cro.pie n (Cro.rend x 64 n) :: Cro.runs x la k (Cro.rend x 64 n + 1) = Cro.runs x la 64 lo) := by
          have := HR.out
          rw [Cro.runs, if_pos hle, if_pos hb] at this
          exact this
        clear HR
        have IT := itoa_any n (by omega)
        have HB : Hid (x.testBit n = true) := hb
        clear hb
        go_wp2_with (first
          | (go_at_call 32; go_must (refine (HAn _).mono ?_); rintro e w1 ⟨rfl, rfl⟩)
          | (go_at_call 43; go_must (refine (IT _).mono ?_); rintro e w1 ⟨rfl, rfl⟩))
        go_loop [6] (fun i => ∃ m j : Nat, i = .int .i64 m ∧ n ≤ m ∧ m ≤ 59 ∧ 60 ≤ m + j ∧ Hid (Cro.rend x j m = Cro.rend x 64 n)) (fun i => (61 - (intOf i).toNat))
        case atStart => exact ⟨n, 64, rfl, by omega, by omega, by omega, by show _ = _; rfl⟩
        case round =>
          obtain ⟨m, j, rfl, hnm, hm, hj, HE⟩ := hrel
          obtain ⟨j, rfl⟩ : ∃ j', j = j' + 1 := ⟨j - 1, by omega⟩
          have HAm : ∀ w, Calls Tryd.prog 32 #[.int .u64 x, .int .i64 ((m : Int) + 1)] w fun e w' => e = .returned (.bool (x.testBit (m + 1))) ∧ w' = w := HA (m + 1) (by omega)
          cases hb : x.testBit (m + 1) with
          | true =>
            rw [hb] at HAm
            have := HT.out _ hb
            have HE' : Hid (Cro.rend x j (m + 1) = Cro.rend x 64 n) := by
              have := HE.out
              rw [Cro.rend, if_pos hb] at this
              exact this
            clear HE hb
            go_wp2_with (go_at_call 32; go_must (refine (HAm _).mono ?_); rintro e w2 ⟨rfl, rfl⟩)
            go_round
            case rel => exact ⟨m + 1, j, by go_num, by omega, by omega, by omega, HE'⟩
            case measure => simp [intOf]; omega
          | false =>
            rw [hb] at HAm
            have hE := HE.out
            rw [Cro.rend, if_neg (by simp [hb])] at hE
            have hR := HR'.out
            rw [← hE] at hR
            clear HE hb hE HR'
            have ITm := itoa_any m (by omega)
            by_cases hlt : n < m
            · have HR2 : Hid ((l ++ [Cro.dg n ++ ([45] ++ Cro.dg m)]) ++ Cro.runs x la k (m + 1) = Cro.runs x la 64 lo) := by
                show _ = _
                rw [Cro.pie, if_pos hlt] at hR
                rw [← hR]
                simp
              clear hR
              have l1 := Cro.dg_len n
              have l2 := Cro.dg_len m
              generalize Cro.dg n = dn at *
              generalize Cro.dg m = dm at *
              have A1 : ∀ w, (Op.stringOp .add ⟨#[45]⟩ ⟨dm.toArray⟩).run Tryd.prog w = .ok (str ([45] ++ dm)) w := fun w => add_str [45] dm (by simp) (by omega) w
              have A2 : ∀ w, (Op.stringOp .add ⟨dn.toArray⟩ ⟨([45] ++ dm).toArray⟩).run Tryd.prog w = .ok (str (dn ++ ([45] ++ dm))) w := fun w => add_str dn ([45] ++ dm) (by omega) (by simp; omega) w
              go_wp2_with (first
                | (go_at_call 32; go_must (refine (HAm _).mono ?_); rintro e w2 ⟨rfl, rfl⟩)
                | (go_at_call 43; go_must (refine (ITm _).mono ?_); rintro e w2 ⟨rfl, rfl⟩)
                | (refine wpList_append_str rfl (.tmp 38) (.tmp 40) rfl (w.heap.size + 1) _ l rfl (hO.kept (World.grownBy_alloc _ _ none)) _ _ rfl (by rw [World.cell?_alloc_new]; rfl) (by omega) (by have := hG.size; simp; omega) ?_; intro v4 w4 hO4 hg4))
              have HY' : Hid (∀ y ∈ l ++ [dn ++ ([45] ++ dm)], y.length ≤ 5) := fun y hy => by
                rcases List.mem_append.mp hy with h | h
                · exact HY.out y h
                · simp at h; subst h; simp; omega
              go_roundw
              case rel => exact ⟨m + 1, k, l ++ [dn ++ ([45] ++ dm)], by go_num, hO4, grown_ownS (grown_alloc hG _) (hO.kept (World.grownBy_alloc _ _ none)) (by omega) hg4, by simp; omega, by omega, by omega, HR2, HY'⟩
              case measure => simp [intOf]; omega
            · obtain rfl : m = n := by omega
              have HR2 : Hid ((l ++ [Cro.dg m]) ++ Cro.runs x la k (m + 1) = Cro.runs x la 64 lo) := by
                show _ = _
                rw [Cro.pie, if_neg hlt] at hR
                rw [← hR]
                simp
              clear hR
              have l1 := Cro.dg_len m
              generalize Cro.dg m = dm at *
              go_wp2_with (first
                | (go_at_call 32; go_must (refine (HAm _).mono ?_); rintro e w2 ⟨rfl, rfl⟩)
                | (refine wpList_append_str rfl (.tmp 38) (.tmp 40) rfl (w.heap.size + 1) _ l rfl (hO.kept (World.grownBy_alloc _ _ none)) _ _ rfl (by rw [World.cell?_alloc_new]; rfl) (by omega) (by have := hG.size; simp; omega) ?_; intro v4 w4 hO4 hg4))
              have HY' : Hid (∀ y ∈ l ++ [dm], y.length ≤ 5) := fun y hy => by
                rcases List.mem_append.mp hy with h | h
                · exact HY.out y h
                · simp at h; subst h; omega
              go_roundw
              case rel => exact ⟨m + 1, k, l ++ [dm], by go_num, hO4, grown_ownS (grown_alloc hG _) (hO.kept (World.grownBy_alloc _ _ none)) (by omega) hg4, by simp; omega, by omega, by omega, HR2, HY'⟩
              case measure => simp [intOf]; omega
    · have hR := HR.out
      rw [Cro.runs_end _ _ _ _ (by omega), List.append_nil] at hR
      have hV := HV.out
      rw [← hR] at hV
      subst hV
      have J := join_own _ l ⟨#[44]⟩ _ _ hO (by have := Cro.join_len l 44 HY.out; show (Lib.join l [44]).length ≤ _; omega) (by omega)
      clear hR HR HV hO HA
      go_wp2_with (go_at_call 26; go_must (refine J.mono ?_); rintro e w1 ⟨rfl, hg1⟩)
      go_ret
      exact ⟨rfl, grown_more KG (grown_more hG hg1 (by simp)) (by simp)⟩
end Go.Proofs.YthjfecniipifhaaDoor
