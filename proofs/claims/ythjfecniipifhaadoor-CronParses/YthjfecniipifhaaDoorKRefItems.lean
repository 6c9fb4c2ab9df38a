/- What the document's own 'item' answers. -/
import Derived.Test.YthjfecniipifhaaDoorKRefItem
import Derived.Test.YthjfecniipifhaaDoorKRefItMath
namespace Go.Proofs.YthjfecniipifhaaDoor
open Go.RowKit
set_option linter.unusedVariables false
/-- What 'item' hands back, of a place on. -/
def riP (o : Option (Cro.It × Nat)) (i : Nat) (e : Ending) : Prop := match o with
  | some (t, k) => ∃ st, e = .returned (riv t.a t.b t.s ((i + k : Nat) : Int) true st)
  | none => ∃ a b s x st, e = .returned (riv a b s x false st)
theorem dig_call (s : ByteArray) (i : Nat) (hs : s.size ≤ 256) (hi : i ≤ 300) (n q : Nat) (h : Cro.nm (s.data.toList.drop i) = some (n, q)) (w : World) :
    Calls Tryd.prog 55 #[.string s, .int .i64 i] w fun e w' => e = .returned (.tuple #[.int .i64 n, .int .i64 ((i + q : Nat) : Int)]) ∧ w' = w := by
  have := rDigits s i hs hi w
  unfold digV at this
  rw [h] at this
  exact this
theorem dig_not_call (s : ByteArray) (i : Nat) (hs : s.size ≤ 256) (hi : i ≤ 300) (h : Cro.nm (s.data.toList.drop i) = none) (w : World) :
    Calls Tryd.prog 55 #[.string s, .int .i64 i] w fun e w' => e = .returned (.tuple #[.int .i64 (-1), .int .i64 i]) ∧ w' = w := by
  have := rDigits s i hs hi w
  unfold digV at this
  rw [h] at this
  exact this
theorem idx_call (s : ByteArray) (i k : Nat) (b : UInt8) (h : (s.data.toList.drop i)[k]? = some b) : ∀ w', (Instr.index 9 (.string s) (.int .i64 ((i + k : Nat) : Int))).run Tryd.prog w' = .ok (.int .u8 (b.toNat : Int)) w' := by
  rw [List.getElem?_drop] at h
  exact index_at (P := Tryd.prog) Tryd.underlying9 s (i + k) b h
theorem in_text {s : ByteArray} {i k : Nat} {b : UInt8} (h : (s.data.toList.drop i)[k]? = some b) : i + k < s.size := by
  rw [List.getElem?_drop] at h
  rcases Nat.lt_or_ge (i + k) s.data.toList.length with h' | h'
  · simpa using h'
  · rw [List.getElem?_eq_none h'] at h; cases h
theorem out_text {s : ByteArray} {i k : Nat} (h : (s.data.toList.drop i)[k]? = none) : s.size ≤ i + k := by
  rw [List.getElem?_drop, List.getElem?_eq_none_iff] at h
  simpa using h
theorem nat_ne {b c : UInt8} (h : ¬ b = c) : b.toNat ≠ c.toNat := fun e => h (UInt8.toNat_inj.mp e)
theorem comma (b : UInt8) : ((b.toNat : Int) == 44) = decide (b = 44) := by
  by_cases h : b = 44
  · subst h; decide
  · have := nat_ne h
    have e : (44 : UInt8).toNat = 44 := rfl
    rw [e] at this
    rw [decide_eq_false h]
    simp
    omega
/-- The end: nothing, a comma, or another byte. -/
theorem riP_end {f : Cro.Sp} {l : List UInt8} {t : Cro.It} {k i : Nat} {st : Bool} (h : Cro.itR f l = some (t, k)) (hn : l[k]? = none) : riP (Cro.itO f l) i (.returned (riv t.a t.b t.s ((i + k : Nat) : Int) true st)) := by
  have : Cro.itO f l = some (t, k) := by unfold Cro.itO; rw [h]; simp only; rw [if_pos (.inl hn)]
  rw [this]
  exact ⟨st, rfl⟩
theorem riP_more {f : Cro.Sp} {l : List UInt8} {t : Cro.It} {k i : Nat} {st : Bool} {b : UInt8} (h : Cro.itR f l = some (t, k)) (hn : l[k]? = some b) : riP (Cro.itO f l) i (.returned (riv t.a t.b t.s ((i + k : Nat) : Int) ((b.toNat : Int) == 44) st)) := by
  rw [comma]
  by_cases c : b = 44
  · have : Cro.itO f l = some (t, k) := by unfold Cro.itO; rw [h]; simp only; rw [if_pos (.inr (by rw [hn, c]))]
    rw [this, decide_eq_true c]
    exact ⟨st, rfl⟩
  · have : Cro.itO f l = none := by unfold Cro.itO; rw [h]; simp only; rw [if_neg (by rw [hn]; simp [c])]
    rw [this, decide_eq_false c]
    exact ⟨_, _, _, _, st, rfl⟩
theorem riP_no {f : Cro.Sp} {l : List UInt8} {i : Nat} (h : Cro.itR f l = none) (a b s x : Int) (st : Bool) : riP (Cro.itO f l) i (.returned (riv a b s x false st)) := by
  have : Cro.itO f l = none := by unfold Cro.itO; rw [h]
  rw [this]
  exact ⟨a, b, s, x, st, rfl⟩
theorem posted {f : Nat} {vs : Array Value} {w : World} {v : Value} {P : Ending → Prop} (h : Calls Tryd.prog f vs w fun e w' => e = .returned v ∧ w.grownBy w' none) (hp : P (.returned v)) : Calls Tryd.prog f vs w fun e w' => P e ∧ w.grownBy w' none :=
  h.mono (by rintro e w' ⟨rfl, g⟩; exact ⟨hp, g⟩)
theorem rItem (s : ByteArray) (i j : Nat) (hj : j < 5) (hs : s.size ≤ 256) (hi : i ≤ s.size) (w : World) :
    Calls Tryd.prog 40 #[.string s, .int .i64 i, .int .i64 j] w fun e w' => riP (Cro.itO (Cro.sp j) (s.data.toList.drop i)) i e ∧ w.grownBy w' none := by
  have hdd : ∀ k, (s.data.toList.drop i).drop k = s.data.toList.drop (i + k) := fun k => by rw [List.drop_drop]
  by_cases h42 : (s.data.toList.drop i)[0]? = some 42
  · have I0 := idx_call s i 0 42 h42
    have t0 := in_text h42
    have hh : Cro.hdR (Cro.sp j) (s.data.toList.drop i) = some ((Cro.sp j).lo, (Cro.sp j).hi, true, 1) := by unfold Cro.hdR; rw [if_pos h42]
    cases h1 : (s.data.toList.drop i)[1]? with
    | none =>
      have t1 := out_text h1
      refine posted (it_star_end s i j hj hs (by omega) I0 (by omega) w) ?_
      exact riP_end (t := ⟨_, _, 1⟩) (k := 1) (by unfold Cro.itR; rw [hh]; simp only; rw [if_neg (by rw [h1]; simp)]) h1
    | some c =>
      have t1 := in_text h1
      have I1 := idx_call s i 1 c h1
      by_cases h47 : c = 47
      · subst h47
        cases hn : Cro.nm ((s.data.toList.drop i).drop (1 + 1)) with
        | none =>
          have D := dig_not_call s (i + 2) hs (by omega) (by rw [← hdd]; exact hn)
          refine posted (it_star_step_no s i j hj hs (by omega) I0 (by omega) I1 D w) ?_
          exact riP_no (by unfold Cro.itR; rw [hh]; simp only; rw [if_pos ⟨trivial, h1⟩, hn]) _ _ _ _ _
        | some x =>
          obtain ⟨n, q⟩ := x
          have D := dig_call s (i + 2) hs (by omega) n q (by rw [← hdd]; exact hn)
          have hn9 := Cro.num_le (Cro.nm_some hn).2.2.1
          have hR : Cro.itR (Cro.sp j) (s.data.toList.drop i) = some (⟨(Cro.sp j).lo, (Cro.sp j).hi, n⟩, 1 + 1 + q) := by unfold Cro.itR; rw [hh]; simp only; rw [if_pos ⟨trivial, h1⟩, hn]
          have ea : i + (1 + 1 + q) = i + 2 + q := by omega
          cases h3 : (s.data.toList.drop i)[1 + 1 + q]? with
          | none =>
            have t3 := out_text h3
            have t4 := (Cro.nm_some hn).1
            rw [List.length_drop, List.length_drop] at t4
            have hl : s.data.toList.length = s.size := by simp
            refine posted (it_star_step_end s i j n (i + 2 + q) hj hs (by omega) I0 (by omega) hn9 (by omega) I1 D w) ?_
            have := riP_end (i := i) (st := true) hR h3
            rw [ea] at this
            exact this
          | some b =>
            have t3 := in_text h3
            have I3 := idx_call s i _ b h3
            rw [ea] at I3
            refine posted (it_star_step_more s i j n (i + 2 + q) b.toNat hj hs (by omega) I0 (by omega) hn9 (by omega) (UInt8.toNat_lt b) I1 D I3 w) ?_
            have := riP_more (i := i) (st := true) hR h3
            rw [ea] at this
            exact this
      · refine posted (it_star_more s i j c.toNat hj hs (by omega) I0 (by omega) (UInt8.toNat_lt c) (nat_ne h47) I1 w) ?_
        exact riP_more (t := ⟨_, _, 1⟩) (k := 1) (by unfold Cro.itR; rw [hh]; simp only; rw [if_neg (by rw [h1]; simp [h47])]) h1
  · cases hn : Cro.nm (s.data.toList.drop i) with
    | none =>
      have D := dig_not_call s i hs (by omega) hn
      have hh : Cro.itR (Cro.sp j) (s.data.toList.drop i) = none := by unfold Cro.itR Cro.hdR; rw [if_neg h42, hn]
      cases h0 : (s.data.toList.drop i)[0]? with
      | none =>
        have t0 := out_text h0
        exact posted (it_none s i j hj hs (by omega) (by omega) D w) (riP_no hh _ _ _ _ _)
      | some c =>
        have t0 := in_text h0
        have I0 := idx_call s i 0 c h0
        exact posted (it_bad s i j c.toNat hj hs (by omega) (UInt8.toNat_lt c) (nat_ne (c := 42) (fun e => h42 (by rw [h0, e]))) I0 D w) (riP_no hh _ _ _ _ _)
    | some x =>
      obtain ⟨a, k⟩ := x
      obtain ⟨n1, n2, n3, n4⟩ := Cro.nm_some hn
      have ha := Cro.num_le n3
      have D1 := dig_call s i hs (by omega) a k hn
      have hl : s.data.toList.length = s.size := by simp
      rw [List.length_drop] at n1
      obtain ⟨c0, h0⟩ : ∃ c, (s.data.toList.drop i)[0]? = some c := ⟨_, List.getElem?_eq_getElem (by rw [List.length_drop]; omega)⟩
      have I0 := idx_call s i 0 c0 h0
      have c42 : c0.toNat ≠ 42 := nat_ne (c := 42) (fun e => h42 (by rw [h0, e]))
      cases h1 : (s.data.toList.drop i)[k]? with
      | none =>
        have t1 := out_text h1
        have hh : Cro.hdR (Cro.sp j) (s.data.toList.drop i) = some (a, a, false, k) := by unfold Cro.hdR; rw [if_neg h42, hn]; simp only; rw [if_neg (by rw [h1]; simp)]
        refine posted (it_num_end s i j c0.toNat a (i + k) hj hs (by omega) (UInt8.toNat_lt c0) c42 I0 ha (by omega) D1 w) ?_
        exact riP_end (t := ⟨a, a, 1⟩) (k := k) (by unfold Cro.itR; rw [hh]; simp only; rw [if_neg (by simp)]) h1
      | some c =>
        have t1 := in_text h1
        have I1 := idx_call s i k c h1
        by_cases h45 : c = 45
        · subst h45
          cases hm : Cro.nm ((s.data.toList.drop i).drop (k + 1)) with
          | none =>
            have D2 := dig_not_call s (i + k + 1) hs (by omega) (by rw [show i + k + 1 = i + (k + 1) by omega, ← hdd]; exact hm)
            have hh : Cro.itR (Cro.sp j) (s.data.toList.drop i) = none := by unfold Cro.itR Cro.hdR; rw [if_neg h42, hn]; simp only; rw [if_pos h1, hm]
            exact posted (it_range_no s i j c0.toNat a (i + k) hj hs (by omega) (UInt8.toNat_lt c0) c42 I0 ha (by omega) D1 I1 D2 w) (riP_no hh _ _ _ _ _)
          | some y =>
            obtain ⟨b, m⟩ := y
            obtain ⟨m1, m2, m3, m4⟩ := Cro.nm_some hm
            rw [List.length_drop, List.length_drop] at m1
            have hb := Cro.num_le m3
            have D2 := dig_call s (i + k + 1) hs (by omega) b m (by rw [show i + k + 1 = i + (k + 1) by omega, ← hdd]; exact hm)
            have hh : Cro.hdR (Cro.sp j) (s.data.toList.drop i) = some (a, b, true, k + 1 + m) := by unfold Cro.hdR; rw [if_neg h42, hn]; simp only; rw [if_pos h1, hm]
            have ea : i + (k + 1 + m) = i + k + 1 + m := by omega
            cases h2 : (s.data.toList.drop i)[k + 1 + m]? with
            | none =>
              have t2 := out_text h2
              refine posted (it_range_end s i j c0.toNat a (i + k) b (i + k + 1 + m) hj hs (by omega) (UInt8.toNat_lt c0) c42 I0 ha (by omega) D1 I1 hb (by omega) D2 (by omega) w) ?_
              have := riP_end (i := i) (st := true) (f := Cro.sp j) (t := ⟨a, b, 1⟩) (k := k + 1 + m) (by unfold Cro.itR; rw [hh]; simp only; rw [if_neg (by rw [h2]; simp)]) h2
              rw [ea] at this
              exact this
            | some c2 =>
              have t2 := in_text h2
              have I2 := idx_call s i _ c2 h2
              rw [ea] at I2
              by_cases h47 : c2 = 47
              · subst h47
                cases ho : Cro.nm ((s.data.toList.drop i).drop (k + 1 + m + 1)) with
                | none =>
                  have D3 := dig_not_call s (i + k + 1 + m + 1) hs (by omega) (by rw [show i + k + 1 + m + 1 = i + (k + 1 + m + 1) by omega, ← hdd]; exact ho)
                  have hh2 : Cro.itR (Cro.sp j) (s.data.toList.drop i) = none := by unfold Cro.itR; rw [hh]; simp only; rw [if_pos ⟨trivial, h2⟩, ho]
                  exact posted (it_range_step_no s i j c0.toNat a (i + k) b (i + k + 1 + m) hj hs (by omega) (UInt8.toNat_lt c0) c42 I0 ha (by omega) D1 I1 hb (by omega) D2 (by omega) I2 D3 w) (riP_no hh2 _ _ _ _ _)
                | some z =>
                  obtain ⟨n, q⟩ := z
                  obtain ⟨o1, o2, o3, o4⟩ := Cro.nm_some ho
                  rw [List.length_drop, List.length_drop] at o1
                  have hn9 := Cro.num_le o3
                  have D3 := dig_call s (i + k + 1 + m + 1) hs (by omega) n q (by rw [show i + k + 1 + m + 1 = i + (k + 1 + m + 1) by omega, ← hdd]; exact ho)
                  have hR : Cro.itR (Cro.sp j) (s.data.toList.drop i) = some (⟨a, b, n⟩, k + 1 + m + 1 + q) := by unfold Cro.itR; rw [hh]; simp only; rw [if_pos ⟨trivial, h2⟩, ho]
                  have eb : i + (k + 1 + m + 1 + q) = i + k + 1 + m + 1 + q := by omega
                  cases h3 : (s.data.toList.drop i)[k + 1 + m + 1 + q]? with
                  | none =>
                    have t3 := out_text h3
                    refine posted (it_range_step_end s i j c0.toNat a (i + k) b (i + k + 1 + m) n (i + k + 1 + m + 1 + q) hj hs (by omega) (UInt8.toNat_lt c0) c42 I0 ha (by omega) D1 I1 hb (by omega) D2 (by omega) hn9 (by omega) I2 D3 w) ?_
                    have := riP_end (i := i) (st := true) hR h3
                    rw [eb] at this
                    exact this
                  | some c3 =>
                    have t3 := in_text h3
                    have I3 := idx_call s i _ c3 h3
                    rw [eb] at I3
                    refine posted (it_range_step_more s i j c0.toNat a (i + k) b (i + k + 1 + m) n (i + k + 1 + m + 1 + q) c3.toNat hj hs (by omega) (UInt8.toNat_lt c0) c42 I0 ha (by omega) D1 I1 hb (by omega) D2 (by omega) hn9 (by omega) (UInt8.toNat_lt c3) I2 D3 I3 w) ?_
                    have := riP_more (i := i) (st := true) hR h3
                    rw [eb] at this
                    exact this
              · refine posted (it_range_more s i j c0.toNat a (i + k) b (i + k + 1 + m) c2.toNat hj hs (by omega) (UInt8.toNat_lt c0) c42 I0 ha (by omega) D1 I1 hb (by omega) D2 (by omega) (UInt8.toNat_lt c2) (nat_ne h47) I2 w) ?_
                have := riP_more (i := i) (st := true) (f := Cro.sp j) (t := ⟨a, b, 1⟩) (k := k + 1 + m) (by unfold Cro.itR; rw [hh]; simp only; rw [if_neg (by rw [h2]; simp [h47])]) h2
                rw [ea] at this
                exact this
        · have hh : Cro.hdR (Cro.sp j) (s.data.toList.drop i) = some (a, a, false, k) := by unfold Cro.hdR; rw [if_neg h42, hn]; simp only; rw [if_neg (by rw [h1]; simp [h45])]
          refine posted (it_num_more s i j c0.toNat a (i + k) c.toNat hj hs (by omega) (UInt8.toNat_lt c0) c42 I0 ha (by omega) (UInt8.toNat_lt c) (nat_ne h45) D1 I1 w) ?_
          exact riP_more (t := ⟨a, a, 1⟩) (k := k) (by unfold Cro.itR; rw [hh]; simp only; rw [if_neg (by simp)]) h1
end Go.Proofs.YthjfecniipifhaaDoor
