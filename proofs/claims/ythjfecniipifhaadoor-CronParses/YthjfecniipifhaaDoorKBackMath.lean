/- What is printed is read as the same: no program's run in this text. -/
import Derived.Test.YthjfecniipifhaaDoorKListsMath
import Derived.Test.YthjfecniipifhaaDoorKText2
namespace Go.Proofs.YthjfecniipifhaaDoor.Cro

theorem dg_num : ∀ n, n < 60 → num (dg n) = some n := by decide +kernel
theorem dg_dig : ∀ n, n < 60 → (dg n).all dig = true := by decide +kernel
theorem dg_ne (n : Nat) : dg n ≠ [] := by unfold dg; split <;> simp
theorem dig_not {b c : UInt8} (h : dig b = true) (hc : c.toNat < 48) : b ≠ c := by
  intro e
  subst e
  unfold dig at h
  simp at h
  omega
theorem not_dg {c : UInt8} (hc : c.toNat < 48) {n : Nat} (hn : n < 60) : c ∉ dg n := fun h => dig_not (List.all_eq_true.mp (dg_dig n hn) c h) hc rfl
theorem pie_not {c : UInt8} (hc : c.toNat < 48) (h45 : c ≠ 45) {n m : Nat} (hn : n < 60) (hm : m < 60) : c ∉ pie n m := by
  unfold pie
  split
  · intro h
    rcases List.mem_append.mp h with h | h
    · exact not_dg hc hn h
    · rcases List.mem_cons.mp h with h | h
      · exact h45 h
      · exact not_dg hc hm h
  · exact not_dg hc hn
theorem itm_pie (f : Sp) {n m : Nat} (hn : n < 60) (hm : m < 60) (hle : n ≤ m) : itm f (pie n m) = some ⟨n, m, 1⟩ := by
  have h47 : (47 : UInt8) ∉ pie n m := pie_not (by decide) (by decide) hn hm
  unfold itm
  rw [cut_no h47]
  simp only [Bool.false_eq_true, if_false]
  by_cases hlt : n < m
  · have hp : pie n m = dg n ++ 45 :: dg m := by unfold pie; rw [if_pos hlt]
    have hnum : num (dg n ++ 45 :: dg m) = none := by
      unfold num
      rw [if_neg]
      rintro ⟨_, _, h⟩
      rw [List.all_append] at h
      simp [dig] at h
    have hne : ¬ dg n ++ 45 :: dg m = [42] := by
      intro e
      have : (45 : UInt8) ∈ ([42] : List UInt8) := by rw [← e]; simp
      simp at this
    rw [hp, hnum]
    simp only
    unfold bnds
    rw [if_neg hne, cut_yes (not_dg (by decide) hn)]
    simp only
    rw [dg_num n hn, dg_num m hm]
  · obtain rfl : n = m := by omega
    have hp : pie n n = dg n := by unfold pie; rw [if_neg hlt]
    rw [hp, dg_num n hn]
/-- The runs as items. -/
def runsI (x last : Nat) : Nat → Nat → List It
  | 0, _ => []
  | f + 1, n => if n ≤ last then (if x.testBit n = true then ⟨n, rend x 64 n, 1⟩ :: runsI x last f (rend x 64 n + 1) else runsI x last f (n + 1)) else []
theorem itms_runs (f : Sp) {x last : Nat} (hx : x < 2 ^ 60) (hl : last ≤ 59) : ∀ (k n : Nat), itms f (runs x last k n) = some (runsI x last k n)
  | 0, _ => rfl
  | k + 1, n => by
    rw [runs, runsI]
    split
    · rename_i hn
      have h1 := rend_le hx 64 n (by omega)
      have h2 := rend_ge x 64 n
      split
      · rw [itms, itm_pie f (by omega) (by omega) h2, itms_runs f hx hl k]
      · exact itms_runs f hx hl k (n + 1)
    · rfl
theorem full_bit : ∀ j, j < 5 → ∀ i, i < 60 → (sp j).full.testBit i = (decide ((sp j).lo ≤ i) && decide (i ≤ (sp j).last)) := by decide +kernel
theorem bit_in {j x i : Nat} (hj : j < 5) (h : x ||| (sp j).full = (sp j).full) (hb : x.testBit i = true) : (sp j).lo ≤ i ∧ i ≤ (sp j).last := by
  have h60 : (sp j).full < 2 ^ 60 := by
    unfold sp
    split <;> decide
  have hf : (sp j).full.testBit i = true := by
    rw [← h, Nat.testBit_or, hb]
    rfl
  have := testBit_lt h60 hf
  rw [full_bit j hj i this] at hf
  simpa using hf
theorem rend_bits {x : Nat} : ∀ (f n : Nat), x.testBit n = true → ∀ i, n ≤ i → i ≤ rend x f n → x.testBit i = true
  | 0, n, h, i, h1, h2 => by
    rw [rend] at h2
    obtain rfl : i = n := by omega
    exact h
  | f + 1, n, h, i, h1, h2 => by
    rw [rend] at h2
    by_cases e : i = n
    · rw [e]; exact h
    · split at h2
      · rename_i hb
        exact rend_bits f (n + 1) hb i (by omega) h2
      · omega
theorem rend_stop {x : Nat} (hx : x < 2 ^ 60) : ∀ (f n : Nat), 60 ≤ n + f → n ≤ 59 → x.testBit (rend x f n + 1) = false
  | 0, n, h1, h2 => by omega
  | f + 1, n, h1, h2 => by
    rw [rend]
    split
    · rename_i hb
      have := testBit_lt hx hb
      exact rend_stop hx f (n + 1) (by omega) (by omega)
    · rename_i hb
      simpa using hb
theorem bts_one (f : Sp) {b : Nat} (hb : b ≤ f.last) : ∀ (k n x i : Nat), b + 1 ≤ n + k → (bts f b 1 k n x).testBit i = (x.testBit i || (decide (n ≤ i) && decide (i ≤ b)))
  | 0, n, x, i, h => by
    rw [bts]
    have : (decide (n ≤ i) && decide (i ≤ b)) = false := by simp; omega
    rw [this, Bool.or_false]
  | k + 1, n, x, i, h => by
    rw [bts]
    split
    · rename_i hn
      rw [bts_one f hb k (n + 1) _ i (by omega), if_neg (by omega), Nat.testBit_or, Nat.testBit_two_pow]
      by_cases e : n = i
      · subst e
        simp [hn]
      · have h1 : decide (n = i) = false := by simp [e]
        have h2 : decide (n + 1 ≤ i) = decide (n ≤ i) := by simp; omega
        rw [h1, h2, Bool.or_false]
    · have : (decide (n ≤ i) && decide (i ≤ b)) = false := by simp; omega
      rw [this, Bool.or_false]
theorem set_one (f : Sp) {n m : Nat} (hm : m ≤ f.last) (i : Nat) : (f.set ⟨n, m, 1⟩).testBit i = (decide (n ≤ i) && decide (i ≤ m)) := by
  unfold Sp.set
  rw [bts_one f hm _ _ _ _ (by simp)]
  simp
theorem sets_runs {j x : Nat} (hj : j < 5) (hx : x ||| (sp j).full = (sp j).full) (hx60 : x < 2 ^ 60) : ∀ (k n y i : Nat), (sp j).last + 1 ≤ n + k →
    (sets (sp j) y (runsI x (sp j).last k n)).testBit i = (y.testBit i || (decide (n ≤ i) && x.testBit i))
  | 0, n, y, i, h => by
    rw [runsI, sets]
    have : (decide (n ≤ i) && x.testBit i) = false := by
      cases hb : x.testBit i
      · simp
      · have := bit_in hj hx hb
        simp
        omega
    rw [this, Bool.or_false]
  | k + 1, n, y, i, h => by
    have hlast := sp_lo j hj
    rw [runsI]
    split
    · rename_i hn
      split
      · rename_i hb
        have h1 := rend_ge x 64 n
        have h2 := rend_le hx60 64 n (by omega)
        have hall := rend_bits 64 n hb
        have hstop := rend_stop hx60 64 n (by omega) (by omega)
        have hml : rend x 64 n ≤ (sp j).last := (bit_in hj hx (hall _ h1 (Nat.le_refl _))).2
        rw [sets, sets_runs hj hx hx60 k (rend x 64 n + 1) _ i (by omega), Nat.testBit_or, set_one _ hml]
        generalize rend x 64 n = m at *
        by_cases c1 : n ≤ i
        · by_cases c2 : i ≤ m
          · have := hall i c1 c2
            have c3 : ¬ m + 1 ≤ i := by omega
            simp [c1, c2, c3, this]
          · by_cases c3 : m + 1 ≤ i
            · simp [c1, c2, c3]
            · omega
        · have c2 : ¬ m + 1 ≤ i := by omega
          simp [c1, c2]
      · rename_i hb
        rw [sets_runs hj hx hx60 k (n + 1) y i (by omega)]
        by_cases e : i = n
        · subst e
          have : x.testBit i = false := by simpa using hb
          simp [this]
        · have : decide (n + 1 ≤ i) = decide (n ≤ i) := by simp; omega
          rw [this]
    · have : (decide (n ≤ i) && x.testBit i) = false := by
        cases hb : x.testBit i
        · simp
        · have := bit_in hj hx hb
          simp
          omega
      rw [sets, this, Bool.or_false]
theorem runs_holds {j x : Nat} (hj : j < 5) (hx : x ||| (sp j).full = (sp j).full) (hx60 : x < 2 ^ 60) : ∀ (k n : Nat), (sp j).lo ≤ n → (runsI x (sp j).last k n).all (sp j).holdsB = true
  | 0, _, _ => rfl
  | k + 1, n, hlo => by
    have hlast := sp_lo j hj
    have hhi : (sp j).last ≤ (sp j).hi := by
      unfold sp
      split <;> decide
    rw [runsI]
    split
    · rename_i hn
      split
      · rename_i hb
        have h1 := rend_ge x 64 n
        have hall := rend_bits 64 n hb
        have hml : rend x 64 n ≤ (sp j).last := (bit_in hj hx (hall _ h1 (Nat.le_refl _))).2
        rw [List.all_cons, runs_holds hj hx hx60 k _ (by omega), Bool.and_true]
        exact decide_eq_true (show (sp j).lo ≤ n ∧ n ≤ rend x 64 n ∧ rend x 64 n ≤ (sp j).hi ∧ 0 < 1 from ⟨hlo, h1, by omega, by decide⟩)
      · exact runs_holds hj hx hx60 k (n + 1) (by omega)
    · rfl
theorem join_two (x y : List UInt8) (r : List (List UInt8)) (c : UInt8) : Lib.join (x :: y :: r) [c] = x ++ c :: Lib.join (y :: r) [c] := by
  rw [Lib.join_cons, Lib.join_cons]
  simp [Lib.joinTail]
theorem spl_join (c : UInt8) : ∀ (l : List (List UInt8)), l ≠ [] → (∀ x ∈ l, c ∉ x) → spl c (Lib.join l [c]) = l
  | [], h, _ => absurd rfl h
  | [x], _, h => by rw [Lib.join_one, spl_no (h x (by simp))]
  | x :: y :: r, _, h => by rw [join_two, spl_yes (h x (by simp)), spl_join c (y :: r) (by simp) (fun z hz => h z (by simp [List.mem_cons.mp hz]))]
theorem runs_not {c : UInt8} (hc : c.toNat < 48) (h45 : c ≠ 45) {x last : Nat} (hx : x < 2 ^ 60) (hl : last ≤ 59) : ∀ (k n : Nat), ∀ y ∈ runs x last k n, c ∉ y
  | 0, _, y, h => by simp [runs] at h
  | k + 1, n, y, h => by
    rw [runs] at h
    split at h
    · rename_i hn
      have h1 := rend_le hx 64 n (by omega)
      split at h
      · rcases List.mem_cons.mp h with rfl | h
        · exact pie_not hc h45 (by omega) (by omega)
        · exact runs_not hc h45 hx hl k _ y h
      · exact runs_not hc h45 hx hl k _ y h
    · simp at h
theorem runs_some {x last i : Nat} (hb : x.testBit i = true) (hi : i ≤ last) : ∀ (k n : Nat), n ≤ i → last + 1 ≤ n + k → runs x last k n ≠ []
  | 0, n, h1, h2 => by omega
  | k + 1, n, h1, h2 => by
    rw [runs, if_pos (by omega)]
    by_cases hn : x.testBit n = true
    · rw [if_pos hn]
      simp
    · rw [if_neg hn]
      exact runs_some hb hi k (n + 1) (by rcases Nat.lt_or_ge n i with h | h; omega; exact absurd ((show n = i by omega) ▸ hb) hn) (by omega)
/-- A set's text is read as the set. -/
theorem fld_prn {j x : Nat} (hj : j < 5) (h : okS (sp j) x) : fld (sp j) (spl 44 (prn (sp j) x)) = (x, 0) := by
  have hx60 : x < 2 ^ 60 := by
    have hf : (sp j).full < 2 ^ 60 := by
      unfold sp
      split <;> decide
    have : x ≤ x ||| (sp j).full := Nat.left_le_or
    rw [h.2] at this
    omega
  have hl := sp_lo j hj
  obtain ⟨i, hi⟩ := Nat.exists_testBit_of_ne_zero h.1
  have hb := bit_in hj h.2 hi
  have hne := runs_some hi hb.2 64 (sp j).lo hb.1 (by omega)
  unfold prn
  rw [spl_join 44 _ hne (runs_not (by decide) (by decide) hx60 (by omega) 64 _)]
  unfold fld
  rw [itms_runs (sp j) hx60 (by omega)]
  simp only
  rw [if_pos (runs_holds hj h.2 hx60 64 _ (Nat.le_refl _))]
  refine Prod.ext ?_ rfl
  apply Nat.eq_of_testBit_eq
  intro q
  show (sets (sp j) 0 (runsI x (sp j).last 64 (sp j).lo)).testBit q = x.testBit q
  rw [sets_runs hj h.2 hx60 64 _ 0 q (by omega), Nat.zero_testBit, Bool.false_or]
  cases hq : x.testBit q
  · simp
  · have := bit_in hj h.2 hq
    simp [this.1]
/-- A set's text begins with a digit. -/
theorem prn_head {j x : Nat} (hj : j < 5) (h : okS (sp j) x) : ∃ b t, prn (sp j) x = b :: t ∧ dig b = true ∧ ∀ c : UInt8, c.toNat < 44 → c ∉ prn (sp j) x := by
  have hx60 : x < 2 ^ 60 := by
    have hf : (sp j).full < 2 ^ 60 := by
      unfold sp
      split <;> decide
    have : x ≤ x ||| (sp j).full := Nat.left_le_or
    rw [h.2] at this
    omega
  have hl := sp_lo j hj
  obtain ⟨i, hi⟩ := Nat.exists_testBit_of_ne_zero h.1
  have hb := bit_in hj h.2 hi
  have hne := runs_some hi hb.2 64 (sp j).lo hb.1 (by omega)
  have first : ∀ (k n : Nat) (y : List UInt8) (r : List (List UInt8)), runs x (sp j).last k n = y :: r → ∃ b t, y = b :: t ∧ dig b = true := by
    intro k
    induction k with
    | zero => intro n y r e; simp [runs] at e
    | succ k ih =>
      intro n y r e
      rw [runs] at e
      split at e
      · rename_i hn
        split at e
        · injection e with e1 e2
          have hd := dg_dig n (by omega)
          have hd0 := dg_ne n
          cases hg : dg n with
          | nil => exact absurd hg hd0
          | cons b t =>
            rw [hg] at hd
            simp only [List.all_cons, Bool.and_eq_true] at hd
            rw [← e1]
            unfold pie
            split
            · exact ⟨b, t ++ 45 :: dg (rend x 64 n), by rw [hg]; rfl, hd.1⟩
            · exact ⟨b, t, hg, hd.1⟩
        · exact ih (n + 1) y r e
      · cases e
  have none : ∀ (c : UInt8), c.toNat < 44 → ∀ l : List (List UInt8), (∀ y ∈ l, c ∉ y) → c ∉ Lib.join l [44] := by
    intro c hc l
    have c44 : c ≠ 44 := fun e => by rw [e] at hc; revert hc; decide
    induction l with
    | nil => intro _; simp [Lib.join_nil]
    | cons y r ih =>
      intro hl h'
      cases r with
      | nil => rw [Lib.join_one] at h'; exact hl y (by simp) h'
      | cons z r =>
        rw [join_two] at h'
        rcases List.mem_append.mp h' with h' | h'
        · exact hl y (by simp) h'
        · rcases List.mem_cons.mp h' with h' | h'
          · exact c44 h'
          · exact ih (fun q hq => hl q (by simp [List.mem_cons.mp hq])) h'
  unfold prn
  cases hr : runs x (sp j).last 64 (sp j).lo with
  | nil => exact absurd hr hne
  | cons y r =>
    obtain ⟨b, t, rfl, hd⟩ := first 64 _ y r hr
    refine ⟨b, t ++ Lib.joinTail [44] r, by rw [Lib.join_cons]; rfl, hd, fun c hc => ?_⟩
    rw [← hr]
    exact none c hc _ (runs_not (by omega) (fun e => by rw [e] at hc; revert hc; decide) hx60 (by omega) 64 _)

/-- How much of a text a number may take, thrice. -/
def pot (n : Nat) : Nat := 4 * n + 2 * (n - 10)
theorem dg_small {n : Nat} : (dg n).length = if n < 10 then 1 else 2 := by
  unfold dg
  split <;> rfl
theorem pie_pot {n m : Nat} (h : n ≤ m) : 3 * ((pie n m).length + 1) + pot n ≤ pot (m + 2) := by
  have h1 := dg_small (n := n)
  have h2 := dg_small (n := m)
  unfold pie pot
  split
  · rw [List.length_append, List.length_cons, h1, h2]
    split <;> split <;> omega
  · rw [h1]
    split <;> omega
def tl (l : List (List UInt8)) : Nat := (l.map (fun x => x.length + 1)).sum
theorem runs_pot {x last : Nat} (hx : x < 2 ^ 60) (hl : last ≤ 59) (hm : ∀ i, x.testBit i = true → i ≤ last) : ∀ (k n : Nat), n ≤ last + 2 → 3 * tl (runs x last k n) + pot n ≤ pot (last + 2)
  | 0, n, h => by
    simp [runs, tl]
    unfold pot
    omega
  | k + 1, n, h => by
    have base : pot n ≤ pot (last + 2) := by unfold pot; omega
    rw [runs]
    split
    · rename_i hn
      split
      · rename_i hb
        have h1 := rend_ge x 64 n
        have h2 := rend_le hx 64 n (by omega)
        have hml := hm _ (rend_bits 64 n hb _ h1 (Nat.le_refl _))
        have hstop := rend_stop hx 64 n (by omega) (by omega)
        have hp := pie_pot h1
        have e : tl (pie n (rend x 64 n) :: runs x last k (rend x 64 n + 1)) = (pie n (rend x 64 n)).length + 1 + tl (runs x last k (rend x 64 n + 1)) := by simp [tl]
        rw [e]
        have hq : 3 * tl (runs x last k (rend x 64 n + 1)) + pot (rend x 64 n + 2) ≤ pot (last + 2) := by
          cases k with
          | zero => simp [runs, tl]; unfold pot; omega
          | succ k =>
            rw [runs]
            split
            · rw [if_neg (by simp [hstop])]
              exact runs_pot hx hl hm k (rend x 64 n + 2) (by omega)
            · simp [tl]
              unfold pot
              omega
        omega
      · have := runs_pot hx hl hm k (n + 1) (by omega)
        have h2 : pot n ≤ pot (n + 1) := by unfold pot; omega
        omega
    · simp [tl]
      exact base
theorem join_tl (c : UInt8) : ∀ (l : List (List UInt8)), l ≠ [] → (Lib.join l [c]).length + 1 = tl l
  | [], h => absurd rfl h
  | [x], _ => by rw [Lib.join_one]; simp [tl]
  | x :: y :: r, _ => by
    have := join_tl c (y :: r) (by simp)
    rw [join_two, List.length_append, List.length_cons, this]
    simp [tl]
    omega
theorem prn_pot {j x : Nat} (hj : j < 5) (h : okS (sp j) x) : 3 * ((prn (sp j) x).length + 1) + pot (sp j).lo ≤ pot ((sp j).last + 2) := by
  have hx60 : x < 2 ^ 60 := by
    have hf : (sp j).full < 2 ^ 60 := by
      unfold sp
      split <;> decide
    have : x ≤ x ||| (sp j).full := Nat.left_le_or
    rw [h.2] at this
    omega
  have hl := sp_lo j hj
  obtain ⟨i, hi⟩ := Nat.exists_testBit_of_ne_zero h.1
  have hb := bit_in hj h.2 hi
  have hne := runs_some hi hb.2 64 (sp j).lo hb.1 (by omega)
  unfold prn
  rw [join_tl 44 _ hne]
  exact runs_pot hx60 (by omega) (fun i hi => (bit_in hj h.2 hi).2) 64 _ (by omega)
theorem word_pot {c : C} (hr : c.right) {j : Nat} (hj : j < 5) : 3 * ((c.word j).length + 1) + pot (sp j).lo ≤ pot ((sp j).last + 2) := by
  unfold C.word
  split
  · match j, hj with
    | 0, _ => decide
    | 1, _ => decide
    | 2, _ => decide
    | 3, _ => decide
    | 4, _ => decide
  · exact prn_pot hj (right_at hr j hj)
theorem text_short {c : C} (hr : c.right) : c.text.length ≤ 256 := by
  have h0 := word_pot hr (j := 0) (by omega)
  have h1 := word_pot hr (j := 1) (by omega)
  have h2 := word_pot hr (j := 2) (by omega)
  have h3 := word_pot hr (j := 3) (by omega)
  have h4 := word_pot hr (j := 4) (by omega)
  have e := join_tl 32 [c.word 0, c.word 1, c.word 2, c.word 3, c.word 4] (by simp)
  simp [tl] at e
  simp [pot, sp] at h0 h1 h2 h3 h4
  unfold C.text
  omega
theorem word_plain {c : C} (hr : c.right) {j : Nat} (hj : j < 5) : c.word j ≠ [] ∧ ∀ b ∈ c.word j, blk b = false := by
  unfold C.word
  split
  · exact ⟨by simp, fun b hb => by simp at hb; subst hb; decide⟩
  · obtain ⟨b, t, e, _, hno⟩ := prn_head hj (right_at hr j hj)
    refine ⟨by rw [e]; simp, fun q hq => ?_⟩
    cases hb : blk q
    · rfl
    · unfold blk at hb
      simp only [Bool.or_eq_true, beq_iff_eq] at hb
      rcases hb with rfl | rfl
      · exact absurd hq (hno 32 (by decide))
      · exact absurd hq (hno 9 (by decide))
theorem wds_last {A : List UInt8} (hA : ∀ b ∈ A, blk b = false) (hne : A ≠ []) : wds [] A = [A] := by
  rw [wds_skip A.length [] A (Nat.le_refl _) (fun j hj => by
    rw [List.getD_eq_getElem?_getD, List.getElem?_eq_getElem hj]
    exact hA _ (List.getElem_mem hj))]
  simp [wds, hne]
theorem wds_join : ∀ (l : List (List UInt8)), l ≠ [] → (∀ x ∈ l, x ≠ [] ∧ ∀ b ∈ x, blk b = false) → wds [] (Lib.join l [32]) = l
  | [], h, _ => absurd rfl h
  | [x], _, h => by rw [Lib.join_one]; exact wds_last (h x (by simp)).2 (h x (by simp)).1
  | x :: y :: r, _, h => by
    rw [join_two, wds_word (h x (by simp)).2 (h x (by simp)).1, wds_join (y :: r) (by simp) (fun z hz => h z (by simp [List.mem_cons.mp hz]))]
theorem fld_word {c : C} (hr : c.right) {j : Nat} (hj : j < 5) : fld (sp j) (spl 44 (c.word j)) = (c.set j, 0) := by
  unfold C.word
  split
  · rename_i ha
    rw [star j hj]
    have : c.set j = (sp j).full := by
      unfold C.any at ha
      split at ha
      · rename_i e
        subst e
        exact hr.2.1 ha
      · split at ha
        · rename_i e
          subst e
          exact hr.2.2 ha
        · have := beq_iff_eq.mp ha
          omega
    rw [this]
  · exact fld_prn hj (right_at hr j hj)
theorem word_star {c : C} (hr : c.right) {j : Nat} (hj : j < 5) : (c.word j == [42]) = c.any j := by
  unfold C.word
  cases ha : c.any j
  · rw [if_neg (by simp)]
    obtain ⟨b, t, e, hd, _⟩ := prn_head hj (right_at hr j hj)
    have : b ≠ 42 := dig_not hd (by decide)
    rw [e]
    simp [this]
  · simp
/-- What is printed is read as the same. -/
theorem parse_text {c : C} (hr : c.right) : parse c.text = (c, 0, 0) := by
  have hl := text_short hr
  have hw : wds [] c.text = [c.word 0, c.word 1, c.word 2, c.word 3, c.word 4] := wds_join _ (by simp) (fun x hx => by
    simp only [List.mem_cons, List.not_mem_nil, or_false] at hx
    rcases hx with rfl | rfl | rfl | rfl | rfl
    · exact word_plain hr (by omega)
    · exact word_plain hr (by omega)
    · exact word_plain hr (by omega)
    · exact word_plain hr (by omega)
    · exact word_plain hr (by omega))
  have hF : ∀ j, j < 5 → F (wds [] c.text) j = (c.set j, 0) := fun j hj => by
    rw [hw]
    match j, hj with
    | 0, _ => exact fld_word hr (by omega)
    | 1, _ => exact fld_word hr (by omega)
    | 2, _ => exact fld_word hr (by omega)
    | 3, _ => exact fld_word hr (by omega)
    | 4, _ => exact fld_word hr (by omega)
  have s2 : ((wds [] c.text).getD 2 [] == [42]) = c.ad := by rw [hw]; exact word_star hr (j := 2) (by omega)
  have s4 : ((wds [] c.text).getD 4 [] == [42]) = c.aw := by rw [hw]; exact word_star hr (j := 4) (by omega)
  unfold parse
  rw [if_neg (by omega), if_neg (by rw [hw]; simp), scan_ok _ 5 0 (fun j _ hj => by rw [hF j (by omega)])]
  simp only
  rw [hF 0 (by omega), hF 1 (by omega), hF 2 (by omega), hF 3 (by omega), hF 4 (by omega), s2, s4]
  rfl
end Go.Proofs.YthjfecniipifhaaDoor.Cro
