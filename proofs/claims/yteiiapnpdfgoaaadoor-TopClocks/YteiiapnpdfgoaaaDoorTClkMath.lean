/- Once a day: when it is due: no program's run in this text. -/
import Derived.Test.YteiiapnpdfgoaaaDoorTInst
import Derived.Test.YteiiapnpdfgoaaaDoorDNoon
namespace Go.Proofs.YteiiapnpdfgoaaaDoor.Due
theorem bw_mem (P : Nat → Bool) (e : Nat) : ∀ (k s t : Nat), t ∈ bw P e k s → s ≤ t ∧ t < e ∧ P t = true
  | 0, s, t, h => by rw [bw] at h; simp at h
  | k + 1, s, t, h => by
    rw [bw] at h
    split at h
    · rename_i u hu
      obtain ⟨h1, h2, h3, h4⟩ := nxt_some P _ _ _ hu
      rcases List.mem_cons.1 h with rfl | h
      · exact ⟨h1, by omega, h3⟩
      · have := bw_mem P e k (u + 1) t h
        exact ⟨by omega, this.2⟩
    · simp at h
theorem bw_rise (P : Nat → Bool) (e : Nat) : ∀ (k s : Nat), (bw P e k s).Pairwise (· < ·)
  | 0, s => by rw [bw]; exact List.Pairwise.nil
  | k + 1, s => by
    rw [bw]
    split
    · rename_i u hu
      rw [List.pairwise_cons]
      exact ⟨fun t ht => by have := (bw_mem P e k (u + 1) t ht).1; omega, bw_rise P e k (u + 1)⟩
    · exact List.Pairwise.nil
theorem bw_all (P : Nat → Bool) (e : Nat) : ∀ (k s : Nat), (bw P e k s).length < k → ∀ t, s ≤ t → t < e → P t = true → t ∈ bw P e k s
  | 0, s, h, t, _, _, _ => by omega
  | k + 1, s, h, t, h1, h2, h3 => by
    rw [bw] at h ⊢
    split
    · rename_i u hu
      rw [hu] at h
      simp only [List.length_cons] at h
      obtain ⟨k1, k2, k3, k4⟩ := nxt_some P _ _ _ hu
      by_cases e1 : t = u
      · subst e1; simp
      · refine List.mem_cons_of_mem _ (bw_all P e k (u + 1) (by omega) t ?_ h2 h3)
        refine Nat.lt_of_le_of_ne (Nat.le_of_not_lt fun hl => ?_) (fun e2 => e1 e2.symm)
        rw [k4 t h1 hl] at h3
        cases h3
    · rename_i hu
      have := nxt_none P _ _ hu t h1 (by omega)
      rw [h3] at this
      cases this
/-- Rising lists with the same numbers are one. -/
theorem rise_eq : ∀ {l k : List Int}, l.Pairwise (· < ·) → k.Pairwise (· < ·) → (∀ x, x ∈ l ↔ x ∈ k) → l = k
  | [], [], _, _, _ => rfl
  | [], y :: k, _, _, h => by have := (h y).2 (by simp); simp at this
  | x :: l, [], _, _, h => by have := (h x).1 (by simp); simp at this
  | x :: l, y :: k, hl, hk, h => by
    rw [List.pairwise_cons] at hl hk
    have e : x = y := by
      have h1 := (h x).1 (by simp)
      have h2 := (h y).2 (by simp)
      rcases List.mem_cons.1 h1 with e | e
      · exact e
      · rcases List.mem_cons.1 h2 with e2 | e2
        · exact e2.symm
        · have := hk.1 x e; have := hl.1 y e2; omega
    subst e
    rw [rise_eq hl.2 hk.2 fun z => ?_]
    constructor
    · intro hz
      rcases List.mem_cons.1 ((h z).1 (List.mem_cons_of_mem _ hz)) with e | e
      · subst e; have := hl.1 z hz; omega
      · exact e
    · intro hz
      rcases List.mem_cons.1 ((h z).2 (List.mem_cons_of_mem _ hz)) with e | e
      · subst e; have := hk.1 z hz; omega
      · exact e
/-- A rising list within another is no longer. -/
theorem rise_len {l k : List Int} (hl : l.Pairwise (· < ·)) (h : ∀ x ∈ l, x ∈ k) : l.length ≤ k.length := by
  induction l generalizing k with
  | nil => simp
  | cons x l ih =>
    rw [List.pairwise_cons] at hl
    have hx := h x (by simp)
    have := ih (k := k.erase x) hl.2 fun y hy => (List.mem_erase_of_ne (by have := hl.1 y hy; omega)).2 (h y (List.mem_cons_of_mem _ hy))
    rw [List.length_erase_of_mem hx] at this
    have := List.length_pos_of_mem hx
    simp
    omega
/-- At an hour and a minute of each day. -/
def cD (h n : Nat) : Cro.C := ⟨2 ^ n, 2 ^ h, 4294967294, 8190, 127, true, true⟩
theorem cD_right_fin : ∀ h : Fin 24, ∀ n : Fin 60, (cD h.val n.val).right := by decide +kernel
theorem cD_right {h n : Nat} (hh : h < 24) (hn : n < 60) : (cD h n).right := cD_right_fin ⟨h, hh⟩ ⟨n, hn⟩
theorem cD_ok_all : ∀ h, h < 24 → ∀ n, n < 60 → (cD h n).mi < 18446744073709551616 ∧ (cD h n).ho < 18446744073709551616 := by decide +kernel
theorem cD_ok {h n : Nat} (hh : h < 24) (hn : n < 60) : (cD h n).ok := ⟨(cD_ok_all h hh n hn).1, (cD_ok_all h hh n hn).2, (by decide : (4294967294 : Nat) < 18446744073709551616), (by decide : (8190 : Nat) < 18446744073709551616), (by decide : (127 : Nat) < 18446744073709551616)⟩
theorem cD_fit {h n : Nat} (hh : h < 24) (hn : n < 60) (L : Int) (h0 : 0 ≤ L) (h1 : L ≤ 226157759) : Fit (cD h n) L ↔ L % 1440 = h * 60 + n := by
  obtain ⟨y, m, d, hA⟩ := Civ.At.is (n := L / 1440) (by omega) (by omega)
  rw [fit_iff (cD_right hh hn) hA]
  have m1 := hA.m1
  have m2 := hA.m2
  have d1 := hA.d1
  have d2 := hA.d2
  have d3 := Civ.dim_bd y m
  have hw : (Civ.wk (L / 1440)).toNat < 7 := by unfold Civ.wk; omega
  have hd : (cD h n).day m.toNat d.toNat (Civ.wk (L / 1440)).toNat = true := by
    unfold Cro.C.day cD
    simp only
    rw [noon_month _ (by omega) (by omega), noon_day _ (by omega) (by omega), noon_week _ hw]
    rfl
  rw [hd, show (cD h n).mi = 2 ^ n from rfl, show (cD h n).ho = 2 ^ h from rfl, Nat.testBit_two_pow, Nat.testBit_two_pow]
  simp
  omega
theorem fit_rng {c : Cro.C} {L : Int} (h : Fit c L) : 0 ≤ L ∧ L ≤ 226157759 := by
  obtain ⟨y, m, d, hA, _⟩ := h
  have := hA.range
  omega
/-- The instants of one day at that minute, of those between two. -/
def dayL (z : Zon.Z) (hm a b n : Int) : List Int := if 0 ≤ n ∧ n ≤ 157053 then (z.ins (n * 1440 + hm)).filter (fun t => decide (a < t) && decide (t ≤ b)) else []
/-- The days from n0 on, k of them. -/
def daysL (z : Zon.Z) (hm a b n0 : Int) : Nat → List Int
  | 0 => []
  | k + 1 => daysL z hm a b n0 k ++ dayL z hm a b (n0 + k)
theorem dayL_mem {z : Zon.Z} {hm a b n t : Int} (h : t ∈ dayL z hm a b n) : (0 ≤ n ∧ n ≤ 157053) ∧ 0 ≤ t ∧ t ≤ 226157759 ∧ t + z.at t = n * 1440 + hm ∧ a < t ∧ t ≤ b := by
  unfold dayL at h
  split at h
  · rename_i hn
    rw [List.mem_filter] at h
    have h1 := Zon.ins_mem h.1
    have h2 := h.2
    simp only [Bool.and_eq_true, decide_eq_true_eq] at h2
    exact ⟨hn, h1.1, h1.2.1, h1.2.2, h2.1, h2.2⟩
  · simp at h
theorem mem_daysL {z : Zon.Z} {hm a b n0 t : Int} : ∀ {k : Nat}, t ∈ daysL z hm a b n0 k ↔ ∃ j : Nat, j < k ∧ t ∈ dayL z hm a b (n0 + j)
  | 0 => by simp [daysL]
  | k + 1 => by
    rw [daysL, List.mem_append, mem_daysL]
    constructor
    · rintro (⟨j, h1, h2⟩ | h)
      · exact ⟨j, by omega, h2⟩
      · exact ⟨k, by omega, h⟩
    · rintro ⟨j, h1, h2⟩
      by_cases e : j = k
      · subst e; exact .inr h2
      · exact .inl ⟨j, by omega, h2⟩
theorem dayL_len (z : Zon.Z) (hm a b n : Int) : (dayL z hm a b n).length ≤ 2 := by
  unfold dayL
  split
  · exact Nat.le_trans (List.length_filter_le _ _) (Zon.ins_len z _)
  · simp
theorem daysL_len (z : Zon.Z) (hm a b n0 : Int) : ∀ k, (daysL z hm a b n0 k).length ≤ 2 * k
  | 0 => by simp [daysL]
  | k + 1 => by
    rw [daysL, List.length_append]
    have := daysL_len z hm a b n0 k
    have := dayL_len z hm a b (n0 + k)
    omega
theorem ins_pw {z : Zon.Z} (hz : z.ok) (L : Int) : (z.ins L).Pairwise (· < ·) := by
  cases h : z.ins L with
  | nil => exact List.Pairwise.nil
  | cons x l =>
    cases l with
    | nil => simp
    | cons y r =>
      obtain ⟨h1, h2⟩ := Zon.ins_rise hz h
      subst h2
      simp [h1]
theorem dayL_pw {z : Zon.Z} (hz : z.ok) (hm a b n : Int) : (dayL z hm a b n).Pairwise (· < ·) := by
  unfold dayL
  split
  · exact (ins_pw hz _).sublist List.filter_sublist
  · exact List.Pairwise.nil
theorem daysL_pw {z : Zon.Z} (hz : z.ok) (hm a b n0 : Int) : ∀ k, (daysL z hm a b n0 k).Pairwise (· < ·)
  | 0 => by rw [daysL]; exact List.Pairwise.nil
  | k + 1 => by
    rw [daysL, List.pairwise_append]
    refine ⟨daysL_pw hz hm a b n0 k, dayL_pw hz hm a b _, fun x hx y hy => ?_⟩
    obtain ⟨j, hj, hx⟩ := mem_daysL.1 hx
    have h1 := (dayL_mem hx).2.2.2.1
    have h2 := (dayL_mem hy).2.2.2.1
    have h3 := Zon.at_bd hz x
    have h4 := Zon.at_bd hz y
    have h5 := Zon.at_two z x
    have h6 := Zon.at_two z y
    have h7 := hz.2.2.1
    have h8 := hz.2.2.2.1
    omega
/-- What Between answers is what the days have. -/
theorem days_bw {z : Zon.Z} (hz : z.ok) {h n : Nat} (hh : h < 24) (hn : n < 60) (P : Nat → Bool) (hP : IsP (cD h n) z P) (s e : Nat) (he : e ≤ 226157760) (n0 : Int) (k : Nat) (hk : k ≤ 20) (h0 : n0 * 1440 ≤ (s : Int) - 721) (h1 : (e : Int) + 960 ≤ (n0 + k) * 1440) :
    daysL z (h * 60 + n) ((s : Int) - 1) ((e : Int) - 1) n0 k = (bw P e 100 s).map Int.ofNat := by
  have Pm : ∀ t : Nat, P t = true ↔ ∃ j : Int, 0 ≤ j ∧ j ≤ 157053 ∧ (t : Int) + z.at t = j * 1440 + (h * 60 + n) := fun t => by
    rw [hP t]
    constructor
    · intro hf
      obtain ⟨r1, r2⟩ := fit_rng hf
      rw [cD_fit hh hn _ r1 r2] at hf
      exact ⟨((t : Int) + z.at t) / 1440, by omega, by omega, by omega⟩
    · rintro ⟨j, j1, j2, e⟩
      rw [cD_fit hh hn _ (by omega) (by omega)]
      omega
  have M : ∀ x : Int, x ∈ daysL z (h * 60 + n) ((s : Int) - 1) ((e : Int) - 1) n0 k ↔ ∃ t : Nat, x = t ∧ s ≤ t ∧ t < e ∧ P t = true := fun x => by
    rw [mem_daysL]
    constructor
    · rintro ⟨j, hj, hx⟩
      obtain ⟨d1, d2, d3, d4, d5, d6⟩ := dayL_mem hx
      obtain ⟨t, rfl⟩ : ∃ t : Nat, x = t := ⟨x.toNat, by omega⟩
      exact ⟨t, rfl, by omega, by omega, (Pm t).2 ⟨n0 + j, d1.1, d1.2, d4⟩⟩
    · rintro ⟨t, rfl, t1, t2, t3⟩
      obtain ⟨j, j1, j2, e1⟩ := (Pm t).1 t3
      have b1 := Zon.at_bd hz t
      obtain ⟨i, hi⟩ : ∃ i : Nat, j = n0 + i := ⟨(j - n0).toNat, by omega⟩
      refine ⟨i, by omega, ?_⟩
      unfold dayL
      rw [← hi, if_pos ⟨j1, j2⟩, List.mem_filter]
      refine ⟨?_, by simp; omega⟩
      have := Zon.mem_ins (z := z) (t := (t : Int)) (by omega) (by omega)
      rw [e1] at this
      exact this
  have B : ∀ x : Int, x ∈ (bw P e 100 s).map Int.ofNat → x ∈ daysL z (h * 60 + n) ((s : Int) - 1) ((e : Int) - 1) n0 k := fun x hx => by
    obtain ⟨t, ht, rfl⟩ := List.mem_map.1 hx
    obtain ⟨t1, t2, t3⟩ := bw_mem P e 100 s t ht
    exact (M _).2 ⟨t, rfl, t1, t2, t3⟩
  have pw : ((bw P e 100 s).map Int.ofNat).Pairwise (· < ·) := by
    rw [List.pairwise_map]
    exact (bw_rise P e 100 s).imp fun h => by show (_ : Int) < _; simpa using h
  have hl : (bw P e 100 s).length < 100 := by
    have h1 := rise_len pw B
    have h2 := daysL_len z (h * 60 + n) ((s : Int) - 1) ((e : Int) - 1) n0 k
    rw [List.length_map] at h1
    omega
  refine rise_eq (daysL_pw hz _ _ _ _ k) pw fun x => ⟨fun hx => ?_, B x⟩
  obtain ⟨t, rfl, t1, t2, t3⟩ := (M x).1 hx
  exact List.mem_map.2 ⟨t, bw_all P e 100 s hl t t1 t2 t3, rfl⟩
end Go.Proofs.YteiiapnpdfgoaaaDoor.Due
