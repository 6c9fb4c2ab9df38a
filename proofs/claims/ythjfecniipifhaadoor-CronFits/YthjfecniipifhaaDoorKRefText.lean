/- What the document's own 'runs' and 'text' answer: the walks. -/
import Derived.Test.YthjfecniipifhaaDoorKRefRuns
namespace Go.Proofs.YthjfecniipifhaaDoor.Cro
theorem join_snoc (c : UInt8) (p : List UInt8) : ∀ (l : List (List UInt8)), l ≠ [] → Lib.join (l ++ [p]) [c] = Lib.join l [c] ++ c :: p
  | [], h => absurd rfl h
  | [x], _ => by rw [List.singleton_append, join_two, Lib.join_one, Lib.join_one]
  | x :: y :: r, _ => by
    have := join_snoc c p (y :: r) (by simp)
    rw [List.cons_append, List.cons_append, join_two, join_two, ← List.cons_append, this]
    simp
theorem rr_len (x : Nat) : ∀ n, (rr x n).length ≤ n ∧ (∀ y ∈ rr x n, y.length ≤ 5 ∧ y ≠ [])
  | 0 => by simp [rr]
  | n + 1 => by
    obtain ⟨h1, h2⟩ := rr_len x n
    rw [rr]
    split
    · refine ⟨by simp; omega, fun y hy => ?_⟩
      rcases List.mem_append.mp hy with h | h
      · exact h2 y h
      · simp at h
        subst h
        refine ⟨pie_len _ _, ?_⟩
        unfold pie
        have := dg_ne n
        split
        · simp
        · exact this
    · exact ⟨by omega, h2⟩
theorem join_ne (c : UInt8) {l : List (List UInt8)} (h : l ≠ []) (hy : ∀ y ∈ l, y ≠ []) : Lib.join l [c] ≠ [] := by
  cases l with
  | nil => exact absurd rfl h
  | cons x r =>
    rw [Lib.join_cons]
    have := hy x (by simp)
    simp [this]
end Go.Proofs.YthjfecniipifhaaDoor.Cro
namespace Go.Proofs.YthjfecniipifhaaDoor
open Go.RowKit
set_option linter.unusedVariables false

theorem add_to {P : Program} (x y z : List UInt8) (hx : x.length ≤ 100000) (hy : y.length ≤ 100000) (hz : z = x ++ y) (w : World) : (Op.stringOp .add ⟨x.toArray⟩ ⟨y.toArray⟩).run P w = .ok (str z) w := by
  subst hz
  exact run_string_add_lists w x y (by omega) (by omega)
theorem empty_test (J : List UInt8) : ((⟨J.toArray⟩ : ByteArray).toList == []) = (J == []) := by rw [toList_eq]

set_option maxRecDepth 100000 in
set_option maxHeartbeats 1600000 in
theorem rRuns (x : Nat) (hx : x < 2 ^ 60) (w : World) :
    Calls Tryd.prog 47 #[.int .u64 x] w fun e w' => e = .returned (str (Lib.join (Cro.rr x 60) [44])) ∧ w.grownBy w' none := by
  have HA := fun n (hn : n ≤ 61) => rHas x n (by omega) (show n ≤ 64 by omega)
  have HT : Hid (∀ i, x.testBit i = true → i < 60) := fun i h => Cro.testBit_lt hx h
  obtain ⟨V, hV⟩ : ∃ V, V = Lib.join (Cro.rr x 60) [44] := ⟨_, rfl⟩
  rw [← hV]
  have HV : Hid (V = Lib.join (Cro.rr x 60) [44]) := hV
  clear hV
  go_enter Tryd.func47, Tryd.ntmps47
  go_wp2
  go_loopw [3, 4] (fun s i wr => ∃ (n : Nat) (J : List UInt8), i = .int .i64 n ∧ s = str J ∧ n ≤ 60 ∧ w.grownBy wr none ∧ J.length ≤ 1000 ∧ Hid (J = Lib.join (Cro.rr x n) [44])) (fun _ i _ => (60 - (intOf i).toNat))
  case atStart => exact ⟨0, [], rfl, rfl, by omega, grown_refl _ _, by simp, by show _ = _; rfl⟩
  case round =>
    obtain ⟨n, J, rfl, rfl, hn, hg, hJ, HJ⟩ := hrel
    by_cases hlt : n < 60
    · have HAn := HA n (by omega)
      have HS : Hid (Cro.rr x (n + 1) = if Cro.st x n = true then Cro.rr x n ++ [Cro.pie n (Cro.rend x 64 n)] else Cro.rr x n) := rfl
      cases hb : x.testBit n with
      | false =>
        rw [hb] at HAn
        have HJ' : Hid (J = Lib.join (Cro.rr x (n + 1)) [44]) := by
          show _ = _
          rw [HS.out, if_neg (by simp [Cro.st, hb])]
          exact HJ.out
        clear hb HJ HS
        go_wp2_with (go_at_call 34; go_must (refine (HAn _).mono ?_); rintro e w1 ⟨rfl, rfl⟩)
        go_roundw
        case rel => exact ⟨n + 1, J, by go_num, rfl, by omega, hg, hJ, HJ'⟩
        case measure => simp [intOf]; omega
      | true =>
        rw [hb] at HAn
        by_cases hin : 0 < n ∧ x.testBit (n - 1) = true
        · obtain ⟨h0, hp⟩ := hin
          have HJ' : Hid (J = Lib.join (Cro.rr x (n + 1)) [44]) := by
            show _ = _
            rw [HS.out, if_neg (by simp [Cro.st, hb, h0, hp])]
            exact HJ.out
          have HB : ∀ w, Calls Tryd.prog 34 #[.int .u64 x, .int .i64 ((n : Int) - 1)] w fun e w' => e = .returned (.bool true) ∧ w' = w := fun w => by
            have := HA (n - 1) (by omega) w
            rw [hp, show ((n - 1 : Nat) : Int) = (n : Int) - 1 by omega] at this
            exact this
          have z : decide ((0 : Int) < (n : Int)) = true := by simp; omega
          clear hb hp HJ HS
          go_wp2_with (first
            | (go_at_call 34; (with_reducible refine (HAn _).mono ?_); rintro e w1 ⟨rfl, rfl⟩)
            | (go_at_call 34; (with_reducible refine (HB _).mono ?_); rintro e w1 ⟨rfl, rfl⟩))
          go_roundw
          case rel => exact ⟨n + 1, J, by go_num, rfl, by omega, hg, hJ, HJ'⟩
          case measure => simp [intOf]; omega
        · have hs : Cro.st x n = true := by
            unfold Cro.st
            rw [hb]
            cases hh : (decide (0 < n) && x.testBit (n - 1))
            · rfl
            · rw [Bool.and_eq_true, decide_eq_true_iff] at hh
              exact absurd hh hin
          have HR : Hid (Cro.rr x (n + 1) = Cro.rr x n ++ [Cro.pie n (Cro.rend x 64 n)]) := by
            show _ = _
            rw [HS.out, if_pos hs]
          clear hs HS hb
          by_cases h0 : 0 < n
          · have hp : x.testBit (n - 1) = false := by
              cases hp : x.testBit (n - 1)
              · rfl
              · exact absurd ⟨h0, hp⟩ hin
            have HB : ∀ w, Calls Tryd.prog 34 #[.int .u64 x, .int .i64 ((n : Int) - 1)] w fun e w' => e = .returned (.bool false) ∧ w' = w := fun w => by
              have := HA (n - 1) (by omega) w
              rw [hp, show ((n - 1 : Nat) : Int) = (n : Int) - 1 by omega] at this
              exact this
            have z : decide ((0 : Int) < (n : Int)) = true := by simp; omega
            clear hp hin
            go_wp2_with (first
              | (go_at_call 34; (with_reducible refine (HAn _).mono ?_); rintro e w1 ⟨rfl, rfl⟩)
              | (go_at_call 34; (with_reducible refine (HB _).mono ?_); rintro e w1 ⟨rfl, rfl⟩))
            go_loop [5] (fun i => ∃ m j : Nat, i = .int .i64 m ∧ n ≤ m ∧ m ≤ 59 ∧ 60 ≤ m + j ∧ Hid (Cro.rend x j m = Cro.rend x 64 n)) (fun i => (61 - (intOf i).toNat))
            case atStart => exact ⟨n, 64, rfl, by omega, by omega, by omega, by show _ = _; rfl⟩
            case round =>
              obtain ⟨m, j, rfl, hnm, hm, hj, HE⟩ := hrel
              obtain ⟨j, rfl⟩ : ∃ j', j = j' + 1 := ⟨j - 1, by omega⟩
              have HAm : ∀ w, Calls Tryd.prog 34 #[.int .u64 x, .int .i64 ((m : Int) + 1)] w fun e w' => e = .returned (.bool (x.testBit (m + 1))) ∧ w' = w := HA (m + 1) (by omega)
              cases hb1 : x.testBit (m + 1) with
              | true =>
                rw [hb1] at HAm
                have := HT.out _ hb1
                have HE' : Hid (Cro.rend x j (m + 1) = Cro.rend x 64 n) := by
                  have := HE.out
                  rw [Cro.rend, if_pos hb1] at this
                  exact this
                clear HE hb1
                go_wp2_with (go_at_call 34; go_must (refine (HAm _).mono ?_); rintro e w2 ⟨rfl, rfl⟩)
                go_round
                case rel => exact ⟨m + 1, j, by go_num, by omega, by omega, by omega, HE'⟩
                case measure => simp [intOf]; omega
              | false =>
                rw [hb1] at HAm
                have hE := HE.out
                rw [Cro.rend, if_neg (by simp [hb1])] at hE
                have hR := HR.out
                rw [← hE] at hR
                have N1 := rNum n (by omega)
                have N2 := rNum m (by omega)
                have d1 := Cro.dg_len n
                have d2 := Cro.dg_len m
                have HP : Hid (Cro.pie n m = if n < m then Cro.dg n ++ 45 :: Cro.dg m else Cro.dg n) := rfl
                clear HE hb1 hE HR
                generalize Cro.dg n = dn at *
                generalize Cro.dg m = dm at *
                by_cases hfirst : Cro.rr x n = []
                · have hJ0 : J = [] := by rw [HJ.out, hfirst]; rfl
                  subst hJ0
                  rw [hfirst, List.nil_append] at hR
                  by_cases hlm : n < m
                  · have HJ' : Hid (dn ++ [45] ++ dm = Lib.join (Cro.rr x (n + 1)) [44]) := by
                      show _ = _
                      rw [hR, HP.out, if_pos hlm, Lib.join_one]
                      simp
                    obtain ⟨J1, hJ1⟩ : ∃ J1, J1 = dn ++ [45] := ⟨_, rfl⟩
                    obtain ⟨J2, hJ2⟩ : ∃ J2, J2 = J1 ++ dm := ⟨_, rfl⟩
                    have A0 : ∀ w, (Op.stringOp .add ⟨#[]⟩ ⟨dn.toArray⟩).run Tryd.prog w = .ok (str dn) w := fun w => add_to [] dn dn (by simp) (by omega) (by simp) w
                    have A1 : ∀ w, (Op.stringOp .add ⟨dn.toArray⟩ ⟨#[45]⟩).run Tryd.prog w = .ok (str J1) w := fun w => add_to dn [45] J1 (by omega) (by simp) hJ1 w
                    have A2 : ∀ w, (Op.stringOp .add ⟨J1.toArray⟩ ⟨dm.toArray⟩).run Tryd.prog w = .ok (str J2) w := fun w => add_to J1 dm J2 (by rw [hJ1]; simp; omega) (by omega) hJ2 w
                    have HJ2 : Hid (J2 = Lib.join (Cro.rr x (n + 1)) [44] ∧ J2.length ≤ 1000) := ⟨by rw [hJ2, hJ1]; exact HJ'.out, by rw [hJ2, hJ1]; simp; omega⟩
                    clear hJ1 hJ2 HJ' HJ hR hfirst
                    go_wp2_with (first
                      | (go_at_call 34; go_must (refine (HAm _).mono ?_); rintro e w2 ⟨rfl, rfl⟩)
                      | (go_at_call 59; (with_reducible refine (N1 _).mono ?_); rintro e w3 ⟨rfl, hg3⟩)
                      | (go_at_call 59; (with_reducible refine (N2 _).mono ?_); rintro e w4 ⟨rfl, hg4⟩))
                    go_roundw
                    case rel => exact ⟨n + 1, J2, by go_num, rfl, by omega, grown_more hg (grown_more hg3 hg4 (by simp)) (by simp), HJ2.out.2, HJ2.out.1⟩
                    case measure => simp [intOf]; omega
                  · have HJ' : Hid (dn = Lib.join (Cro.rr x (n + 1)) [44]) := by
                      show _ = _
                      rw [hR, HP.out, if_neg hlm, Lib.join_one]
                    have A0 : ∀ w, (Op.stringOp .add ⟨#[]⟩ ⟨dn.toArray⟩).run Tryd.prog w = .ok (str dn) w := fun w => add_to [] dn dn (by simp) (by omega) (by simp) w
                    have z5 : decide ((n : Int) < (m : Int)) = false := by simp; omega
                    clear HJ hR hfirst
                    go_wp2_with (first
                      | (go_at_call 34; go_must (refine (HAm _).mono ?_); rintro e w2 ⟨rfl, rfl⟩)
                      | (go_at_call 59; (with_reducible refine (N1 _).mono ?_); rintro e w3 ⟨rfl, hg3⟩))
                    go_roundw
                    case rel => exact ⟨n + 1, dn, by go_num, rfl, by omega, grown_more hg hg3 (by simp), by omega, HJ'⟩
                    case measure => simp [intOf]; omega
                · have hJne : J ≠ [] := by rw [HJ.out]; exact Cro.join_ne 44 hfirst (fun y hy => ((Cro.rr_len x n).2 y hy).2)
                  have zJ : ((⟨J.toArray⟩ : ByteArray).toList == []) = false := by rw [empty_test]; simpa using hJne
                  have zJ2 : (J == []) = false := by simpa using hJne
                  have zJ3 : J.isEmpty = false := by simpa using hJne
                  have hJl : J.length ≤ 360 := by
                    rw [HJ.out]
                    have h1 := (Cro.rr_len x n).1
                    have := Cro.join_len (Cro.rr x n) 44 (fun y hy => ((Cro.rr_len x n).2 y hy).1)
                    omega
                  have hJs := Cro.join_snoc 44 (Cro.pie n m) (Cro.rr x n) hfirst
                  rw [← hR, ← HJ.out] at hJs
                  have HJs : Hid (Lib.join (Cro.rr x (n + 1)) [44] = J ++ 44 :: Cro.pie n m) := hJs
                  obtain ⟨J1, hJ1⟩ : ∃ J1, J1 = J ++ [44] := ⟨_, rfl⟩
                  obtain ⟨J2, hJ2⟩ : ∃ J2, J2 = J1 ++ dn := ⟨_, rfl⟩
                  have A1 : ∀ w, (Op.stringOp .add ⟨J.toArray⟩ ⟨#[44]⟩).run Tryd.prog w = .ok (str J1) w := fun w => add_to J [44] J1 (by omega) (by simp) hJ1 w
                  have A2 : ∀ w, (Op.stringOp .add ⟨J1.toArray⟩ ⟨dn.toArray⟩).run Tryd.prog w = .ok (str J2) w := fun w => add_to J1 dn J2 (by rw [hJ1]; simp; omega) (by omega) hJ2 w
                  by_cases hlm : n < m
                  · obtain ⟨J3, hJ3⟩ : ∃ J3, J3 = J2 ++ [45] := ⟨_, rfl⟩
                    obtain ⟨J4, hJ4⟩ : ∃ J4, J4 = J3 ++ dm := ⟨_, rfl⟩
                    have A3 : ∀ w, (Op.stringOp .add ⟨J2.toArray⟩ ⟨#[45]⟩).run Tryd.prog w = .ok (str J3) w := fun w => add_to J2 [45] J3 (by rw [hJ2, hJ1]; simp; omega) (by simp) hJ3 w
                    have A4 : ∀ w, (Op.stringOp .add ⟨J3.toArray⟩ ⟨dm.toArray⟩).run Tryd.prog w = .ok (str J4) w := fun w => add_to J3 dm J4 (by rw [hJ3, hJ2, hJ1]; simp; omega) (by omega) hJ4 w
                    have HJ4 : Hid (J4 = Lib.join (Cro.rr x (n + 1)) [44] ∧ J4.length ≤ 1000) := ⟨by rw [hJ4, hJ3, hJ2, hJ1, HJs.out, HP.out, if_pos hlm]; simp, by rw [hJ4, hJ3, hJ2, hJ1]; simp; omega⟩
                    clear hJ1 hJ2 hJ3 hJ4 HJ hR hfirst hJs HJs hJne hJl
                    go_wp2_with (first
                      | (go_at_call 34; go_must (refine (HAm _).mono ?_); rintro e w2 ⟨rfl, rfl⟩)
                      | (go_at_call 59; (with_reducible refine (N1 _).mono ?_); rintro e w3 ⟨rfl, hg3⟩)
                      | (go_at_call 59; (with_reducible refine (N2 _).mono ?_); rintro e w4 ⟨rfl, hg4⟩))
                    go_roundw
                    case rel => exact ⟨n + 1, J4, by go_num, rfl, by omega, grown_more hg (grown_more hg3 hg4 (by simp)) (by simp), HJ4.out.2, HJ4.out.1⟩
                    case measure => simp [intOf]; omega
                  · have HJ2 : Hid (J2 = Lib.join (Cro.rr x (n + 1)) [44] ∧ J2.length ≤ 1000) := ⟨by rw [hJ2, hJ1, HJs.out, HP.out, if_neg hlm]; simp, by rw [hJ2, hJ1]; simp; omega⟩
                    have z5 : decide ((n : Int) < (m : Int)) = false := by simp; omega
                    clear hJ1 hJ2 HJ hR hfirst hJs HJs hJne hJl
                    go_wp2_with (first
                      | (go_at_call 34; go_must (refine (HAm _).mono ?_); rintro e w2 ⟨rfl, rfl⟩)
                      | (go_at_call 59; (with_reducible refine (N1 _).mono ?_); rintro e w3 ⟨rfl, hg3⟩))
                    go_roundw
                    case rel => exact ⟨n + 1, J2, by go_num, rfl, by omega, grown_more hg hg3 (by simp), HJ2.out.2, HJ2.out.1⟩
                    case measure => simp [intOf]; omega
          · have z : decide ((0 : Int) < (n : Int)) = false := by simp; omega
            clear hin
            go_wp2_with (go_at_call 34; go_must (refine (HAn _).mono ?_); rintro e w1 ⟨rfl, rfl⟩)
            go_loop [5] (fun i => ∃ m j : Nat, i = .int .i64 m ∧ n ≤ m ∧ m ≤ 59 ∧ 60 ≤ m + j ∧ Hid (Cro.rend x j m = Cro.rend x 64 n)) (fun i => (61 - (intOf i).toNat))
            case atStart => exact ⟨n, 64, rfl, by omega, by omega, by omega, by show _ = _; rfl⟩
            case round =>
              obtain ⟨m, j, rfl, hnm, hm, hj, HE⟩ := hrel
              obtain ⟨j, rfl⟩ : ∃ j', j = j' + 1 := ⟨j - 1, by omega⟩
              have HAm : ∀ w, Calls Tryd.prog 34 #[.int .u64 x, .int .i64 ((m : Int) + 1)] w fun e w' => e = .returned (.bool (x.testBit (m + 1))) ∧ w' = w := HA (m + 1) (by omega)
              cases hb1 : x.testBit (m + 1) with
              | true =>
                rw [hb1] at HAm
                have := HT.out _ hb1
                have HE' : Hid (Cro.rend x j (m + 1) = Cro.rend x 64 n) := by
                  have := HE.out
                  rw [Cro.rend, if_pos hb1] at this
                  exact this
                clear HE hb1
                go_wp2_with (go_at_call 34; go_must (refine (HAm _).mono ?_); rintro e w2 ⟨rfl, rfl⟩)
                go_round
                case rel => exact ⟨m + 1, j, by go_num, by omega, by omega, by omega, HE'⟩
                case measure => simp [intOf]; omega
              | false =>
                rw [hb1] at HAm
                have hE := HE.out
                rw [Cro.rend, if_neg (by simp [hb1])] at hE
                have hR := HR.out
                rw [← hE] at hR
                have N1 := rNum n (by omega)
                have N2 := rNum m (by omega)
                have d1 := Cro.dg_len n
                have d2 := Cro.dg_len m
                have HP : Hid (Cro.pie n m = if n < m then Cro.dg n ++ 45 :: Cro.dg m else Cro.dg n) := rfl
                clear HE hb1 hE HR
                generalize Cro.dg n = dn at *
                generalize Cro.dg m = dm at *
                by_cases hfirst : Cro.rr x n = []
                · have hJ0 : J = [] := by rw [HJ.out, hfirst]; rfl
                  subst hJ0
                  rw [hfirst, List.nil_append] at hR
                  by_cases hlm : n < m
                  · have HJ' : Hid (dn ++ [45] ++ dm = Lib.join (Cro.rr x (n + 1)) [44]) := by
                      show _ = _
                      rw [hR, HP.out, if_pos hlm, Lib.join_one]
                      simp
                    obtain ⟨J1, hJ1⟩ : ∃ J1, J1 = dn ++ [45] := ⟨_, rfl⟩
                    obtain ⟨J2, hJ2⟩ : ∃ J2, J2 = J1 ++ dm := ⟨_, rfl⟩
                    have A0 : ∀ w, (Op.stringOp .add ⟨#[]⟩ ⟨dn.toArray⟩).run Tryd.prog w = .ok (str dn) w := fun w => add_to [] dn dn (by simp) (by omega) (by simp) w
                    have A1 : ∀ w, (Op.stringOp .add ⟨dn.toArray⟩ ⟨#[45]⟩).run Tryd.prog w = .ok (str J1) w := fun w => add_to dn [45] J1 (by omega) (by simp) hJ1 w
                    have A2 : ∀ w, (Op.stringOp .add ⟨J1.toArray⟩ ⟨dm.toArray⟩).run Tryd.prog w = .ok (str J2) w := fun w => add_to J1 dm J2 (by rw [hJ1]; simp; omega) (by omega) hJ2 w
                    have HJ2 : Hid (J2 = Lib.join (Cro.rr x (n + 1)) [44] ∧ J2.length ≤ 1000) := ⟨by rw [hJ2, hJ1]; exact HJ'.out, by rw [hJ2, hJ1]; simp; omega⟩
                    clear hJ1 hJ2 HJ' HJ hR hfirst
                    go_wp2_with (first
                      | (go_at_call 34; go_must (refine (HAm _).mono ?_); rintro e w2 ⟨rfl, rfl⟩)
                      | (go_at_call 59; (with_reducible refine (N1 _).mono ?_); rintro e w3 ⟨rfl, hg3⟩)
                      | (go_at_call 59; (with_reducible refine (N2 _).mono ?_); rintro e w4 ⟨rfl, hg4⟩))
                    go_roundw
                    case rel => exact ⟨n + 1, J2, by go_num, rfl, by omega, grown_more hg (grown_more hg3 hg4 (by simp)) (by simp), HJ2.out.2, HJ2.out.1⟩
                    case measure => simp [intOf]; omega
                  · have HJ' : Hid (dn = Lib.join (Cro.rr x (n + 1)) [44]) := by
                      show _ = _
                      rw [hR, HP.out, if_neg hlm, Lib.join_one]
                    have A0 : ∀ w, (Op.stringOp .add ⟨#[]⟩ ⟨dn.toArray⟩).run Tryd.prog w = .ok (str dn) w := fun w => add_to [] dn dn (by simp) (by omega) (by simp) w
                    have z5 : decide ((n : Int) < (m : Int)) = false := by simp; omega
                    clear HJ hR hfirst
                    go_wp2_with (first
                      | (go_at_call 34; go_must (refine (HAm _).mono ?_); rintro e w2 ⟨rfl, rfl⟩)
                      | (go_at_call 59; (with_reducible refine (N1 _).mono ?_); rintro e w3 ⟨rfl, hg3⟩))
                    go_roundw
                    case rel => exact ⟨n + 1, dn, by go_num, rfl, by omega, grown_more hg hg3 (by simp), by omega, HJ'⟩
                    case measure => simp [intOf]; omega
                · have hJne : J ≠ [] := by rw [HJ.out]; exact Cro.join_ne 44 hfirst (fun y hy => ((Cro.rr_len x n).2 y hy).2)
                  have zJ : ((⟨J.toArray⟩ : ByteArray).toList == []) = false := by rw [empty_test]; simpa using hJne
                  have zJ2 : (J == []) = false := by simpa using hJne
                  have zJ3 : J.isEmpty = false := by simpa using hJne
                  have hJl : J.length ≤ 360 := by
                    rw [HJ.out]
                    have h1 := (Cro.rr_len x n).1
                    have := Cro.join_len (Cro.rr x n) 44 (fun y hy => ((Cro.rr_len x n).2 y hy).1)
                    omega
                  have hJs := Cro.join_snoc 44 (Cro.pie n m) (Cro.rr x n) hfirst
                  rw [← hR, ← HJ.out] at hJs
                  have HJs : Hid (Lib.join (Cro.rr x (n + 1)) [44] = J ++ 44 :: Cro.pie n m) := hJs
                  obtain ⟨J1, hJ1⟩ : ∃ J1, J1 = J ++ [44] := ⟨_, rfl⟩
                  obtain ⟨J2, hJ2⟩ : ∃ J2, J2 = J1 ++ dn := ⟨_, rfl⟩
                  have A1 : ∀ w, (Op.stringOp .add ⟨J.toArray⟩ ⟨#[44]⟩).run Tryd.prog w = .ok (str J1) w := fun w => add_to J [44] J1 (by omega) (by simp) hJ1 w
                  have A2 : ∀ w, (Op.stringOp .add ⟨J1.toArray⟩ ⟨dn.toArray⟩).run Tryd.prog w = .ok (str J2) w := fun w => add_to J1 dn J2 (by rw [hJ1]; simp; omega) (by omega) hJ2 w
                  by_cases hlm : n < m
                  · obtain ⟨J3, hJ3⟩ : ∃ J3, J3 = J2 ++ [45] := ⟨_, rfl⟩
                    obtain ⟨J4, hJ4⟩ : ∃ J4, J4 = J3 ++ dm := ⟨_, rfl⟩
                    have A3 : ∀ w, (Op.stringOp .add ⟨J2.toArray⟩ ⟨#[45]⟩).run Tryd.prog w = .ok (str J3) w := fun w => add_to J2 [45] J3 (by rw [hJ2, hJ1]; simp; omega) (by simp) hJ3 w
                    have A4 : ∀ w, (Op.stringOp .add ⟨J3.toArray⟩ ⟨dm.toArray⟩).run Tryd.prog w = .ok (str J4) w := fun w => add_to J3 dm J4 (by rw [hJ3, hJ2, hJ1]; simp; omega) (by omega) hJ4 w
                    have HJ4 : Hid (J4 = Lib.join (Cro.rr x (n + 1)) [44] ∧ J4.length ≤ 1000) := ⟨by rw [hJ4, hJ3, hJ2, hJ1, HJs.out, HP.out, if_pos hlm]; simp, by rw [hJ4, hJ3, hJ2, hJ1]; simp; omega⟩
                    clear hJ1 hJ2 hJ3 hJ4 HJ hR hfirst hJs HJs hJne hJl
                    go_wp2_with (first
                      | (go_at_call 34; go_must (refine (HAm _).mono ?_); rintro e w2 ⟨rfl, rfl⟩)
                      | (go_at_call 59; (with_reducible refine (N1 _).mono ?_); rintro e w3 ⟨rfl, hg3⟩)
                      | (go_at_call 59; (with_reducible refine (N2 _).mono ?_); rintro e w4 ⟨rfl, hg4⟩))
                    go_roundw
                    case rel => exact ⟨n + 1, J4, by go_num, rfl, by omega, grown_more hg (grown_more hg3 hg4 (by simp)) (by simp), HJ4.out.2, HJ4.out.1⟩
                    case measure => simp [intOf]; omega
                  · have HJ2 : Hid (J2 = Lib.join (Cro.rr x (n + 1)) [44] ∧ J2.length ≤ 1000) := ⟨by rw [hJ2, hJ1, HJs.out, HP.out, if_neg hlm]; simp, by rw [hJ2, hJ1]; simp; omega⟩
                    have z5 : decide ((n : Int) < (m : Int)) = false := by simp; omega
                    clear hJ1 hJ2 HJ hR hfirst hJs HJs hJne hJl
                    go_wp2_with (first
                      | (go_at_call 34; go_must (refine (HAm _).mono ?_); rintro e w2 ⟨rfl, rfl⟩)
                      | (go_at_call 59; (with_reducible refine (N1 _).mono ?_); rintro e w3 ⟨rfl, hg3⟩))
                    go_roundw
                    case rel => exact ⟨n + 1, J2, by go_num, rfl, by omega, grown_more hg hg3 (by simp), HJ2.out.2, HJ2.out.1⟩
                    case measure => simp [intOf]; omega
    · obtain rfl : n = 60 := by omega
      have hV : J = V := by rw [HJ.out, HV.out]
      subst hV
      clear HJ HV
      go_wp2
      go_ret
      exact ⟨rfl, hg⟩
theorem prn_rr {j x : Nat} (hj : j < 5) (h : x ||| (Cro.sp j).full = (Cro.sp j).full) (hx : x < 2 ^ 60) : Lib.join (Cro.rr x 60) [44] = Cro.prn (Cro.sp j) x := by
  unfold Cro.prn
  rw [Cro.rr_all hx, Cro.runs_same hj h hx]
set_option maxRecDepth 100000 in
theorem rText_star (x : Nat) (w : World) : Calls Tryd.prog 27 #[.int .u64 x, .bool true] w fun e w' => e = .returned (str [42]) ∧ w.grownBy w' none := by
  go_enter Tryd.func27, Tryd.ntmps27
  go_wp2_with (go_at_call 47; fail)
  go_ret
  exact ⟨rfl, grown_refl _ _⟩
set_option maxRecDepth 100000 in
theorem rText_runs (j x : Nat) (hj : j < 5) (h : x ||| (Cro.sp j).full = (Cro.sp j).full) (hx : x < 2 ^ 60) (w : World) : Calls Tryd.prog 27 #[.int .u64 x, .bool false] w fun e w' => e = .returned (str (Cro.prn (Cro.sp j) x)) ∧ w.grownBy w' none := by
  have R := rRuns x hx
  rw [prn_rr hj h hx] at R
  generalize Cro.prn (Cro.sp j) x = T at R ⊢
  go_enter Tryd.func27, Tryd.ntmps27
  go_wp2_with (go_at_call 47; go_must (refine (R _).mono ?_); rintro e w1 ⟨rfl, hg⟩)
  go_ret
  exact ⟨rfl, hg⟩
end Go.Proofs.YthjfecniipifhaaDoor
