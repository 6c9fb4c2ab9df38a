/- The statement that 'Between' tells what 'Next' tells again and again, and that it may be parted anywhere: its walk. -/
import Derived.Test.YtegekjgjabckgaaGreatDoorDWalksM
import Derived.Deep.CutBlock
import Derived.Deep.CutRange
namespace Go.Proofs.YtegekjgjabckgaaGreatDoor
open Go.RowKit
set_option linter.unusedVariables false

theorem ownI_empty (w : World) (n : Nat) (hn : n = w.heap.size) : OwnI (w.alloc (.cells #[] 2)) n (.slice (some ⟨n, 0, none⟩) 0 0) [] := by
  subst hn
  exact World.ownsRow_made w #[] 0 (Nat.le_refl _) (by unfold maxLen; omega) (by simp)
theorem OwnI.past {w w' : World} {base : Nat} {v : Value} {l : List Int} {row : Option Nat} (h : OwnI w base v l) (g : w.grownBy w' row) (hne : ∀ k, v.ownBlock = some k → row ≠ some k) : OwnI w' base v l := by
  refine World.ownsRow.kept h g ?_
  cases hv : v.ownBlock with
  | none => exact .inl rfl
  | some k => exact .inr fun e => hne k hv e.symm
theorem ints_at (l : List Nat) (j : Nat) {t : Nat} (h : l[j]? = some t) : (ints l)[j]? = some (t : Int) := by
  unfold ints
  rw [List.getElem?_map, h]
  rfl

set_option maxRecDepth 100000 in
set_option maxHeartbeats 1600000 in
theorem walks_bad (c : Cro.C) (z : Zon.Z) (a m b e : Int) (h1 : e ≠ 0) (B1 : ∀ w, Gd w → Calls Tryz.prog 14 #[crv c, zon z, .int .i64 a, .int .i64 b, .int .i64 50] w fun r w' => r = .returned (.tuple #[.slice none 0 0, .int .i64 e]) ∧ w.grownBy w' none) (w : World) (hG : Gd w) :
    Calls Tryz.prog 6 #[crv c, zon z, .int .i64 a, .int .i64 m, .int .i64 b] w fun r w' => r = .returned (.bool true) ∧ w.grownBy w' none := by
  have hnot : ∀ (x : Bool) (w : World), (Op.unary .not (.bool x)).run Tryz.prog w = .ok (.bool (!x)) w := fun _ _ => rfl
  have AW := awake_any
  have K2 := fun o1 o2 => grown_alloc (World.grownBy_alloc w o1 none) o2
  have q1 : (e != 0) = true := by simpa using h1
  go_enter Tryz.func6, Tryz.ntmps6
  go_wp2_with (first
    | (go_at_call 9; go_must (refine (AW _ (hG.kept (K2 _ _))).mono ?_); rintro e w1 ⟨rfl, H1⟩; have G1 := (hG.kept (K2 _ _)).kept H1; have pc0 := cell_kept2 H1 0 _ rfl; have pc1 := cell_kept2 H1 1 _ rfl; have pc2 := cell_kept2 H1 2 _ rfl; have pc3 := cell_kept2 H1 3 _ rfl; have pc4 := cell_kept2 H1 4 _ rfl; have pc5 := cell_kept2 H1 5 _ rfl; have pc6 := cell_kept2 H1 6 _ rfl; have pz0 := cell_kept H1 0 _ rfl; have pz1 := cell_kept H1 1 _ rfl; have pz2 := cell_kept H1 2 _ rfl; have pz3 := cell_kept H1 3 _ rfl; have pz4 := cell_kept H1 4 _ rfl; have pz5 := cell_kept H1 5 _ rfl; have pz6 := cell_kept H1 6 _ rfl; have pz7 := cell_kept H1 7 _ rfl; have pz8 := cell_kept H1 8 _ rfl; have pz9 := cell_kept H1 9 _ rfl; simp only [World.size_alloc] at pz0 pz1 pz2 pz3 pz4 pz5 pz6 pz7 pz8 pz9)
    | (go_at_call 14; go_must (refine (B1 _ G1).mono ?_); rintro e w2 ⟨rfl, hg2⟩))
  go_ret
  exact ⟨rfl, grown_more (K2 _ _) (grown_more H1 hg2 (by simp)) (by simp)⟩

set_option maxRecDepth 100000 in
set_option maxHeartbeats 12800000 in
theorem walks_ok (c : Cro.C) (z : Zon.Z) (s e : Nat) (m : Int) (hs : s ≤ 226157760) (he : e ≤ 226157760) (l : List Nat) (hl50 : l.length ≤ 50)
    (B1 : ∀ w, Gd w → Calls Tryz.prog 14 #[crv c, zon z, .int .i64 ((s : Int) - 1), .int .i64 ((e : Int) - 1), .int .i64 50] w fun r w' => ∃ v, r = .returned (.tuple #[v, .int .i64 0]) ∧ OwnI w' w.heap.size v (ints l) ∧ w.grownBy w' none)
    (N1 : ∀ (j t : Nat), l[j]? = some t → t < e ∧ ∀ w, Gd w → Calls Tryz.prog 10 #[crv c, zon z, .int .i64 ((Due.frm s l j : Int) - 1)] w fun r w' => r = .returned (.tuple #[.int .i64 t, .int .i64 0]) ∧ w.grownBy w' none)
    (N2 : Due.frm s l l.length ≤ 226157760 → l.length < 50 → ∃ t f : Int, (f = 60 ∨ (f = 0 ∧ (e : Int) - 1 < t)) ∧ ∀ w, Gd w → Calls Tryz.prog 10 #[crv c, zon z, .int .i64 ((Due.frm s l l.length : Int) - 1)] w fun r w' => r = .returned (.tuple #[.int .i64 t, .int .i64 f]) ∧ w.grownBy w' none)
    (M1 : ∀ k : Nat, m = (k : Int) - 1 → s ≤ k → k ≤ e → ∃ la lb : List Nat, la.length ≤ 50 ∧ lb.length ≤ 50 ∧ l <+: la ++ lb ∧ (∀ w, Gd w → Calls Tryz.prog 14 #[crv c, zon z, .int .i64 ((s : Int) - 1), .int .i64 m, .int .i64 50] w fun r w' => ∃ v, r = .returned (.tuple #[v, .int .i64 0]) ∧ OwnI w' w.heap.size v (ints la) ∧ w.grownBy w' none) ∧ (∀ w, Gd w → Calls Tryz.prog 14 #[crv c, zon z, .int .i64 m, .int .i64 ((e : Int) - 1), .int .i64 50] w fun r w' => ∃ v, r = .returned (.tuple #[v, .int .i64 0]) ∧ OwnI w' w.heap.size v (ints lb) ∧ w.grownBy w' none))
    (w : World) (hG : Gd w) :
    Calls Tryz.prog 6 #[crv c, zon z, .int .i64 ((s : Int) - 1), .int .i64 m, .int .i64 ((e : Int) - 1)] w fun r w' => r = .returned (.bool true) ∧ w.grownBy w' none := by
  have hnot : ∀ (x : Bool) (w : World), (Op.unary .not (.bool x)).run Tryz.prog w = .ok (.bool (!x)) w := fun _ _ => rfl
  have AW := awake_any
  have K2 := fun o1 o2 => grown_alloc (World.grownBy_alloc w o1 none) o2
  have HN1 : Hid _ := N1
  have HN2 : Hid _ := N2
  have HM1 : Hid _ := M1
  have hil : (ints l).length = l.length := by simp
  clear N1 N2 M1
  go_enter Tryz.func6, Tryz.ntmps6
  go_upto_block 0 with (first
    | (go_at_call 9; go_must (refine (AW _ (hG.kept (K2 _ _))).mono ?_); rintro e w1 ⟨rfl, H1⟩; have G1 := (hG.kept (K2 _ _)).kept H1; have pc0 := cell_kept2 H1 0 _ rfl; have pc1 := cell_kept2 H1 1 _ rfl; have pc2 := cell_kept2 H1 2 _ rfl; have pc3 := cell_kept2 H1 3 _ rfl; have pc4 := cell_kept2 H1 4 _ rfl; have pc5 := cell_kept2 H1 5 _ rfl; have pc6 := cell_kept2 H1 6 _ rfl; have pz0 := cell_kept H1 0 _ rfl; have pz1 := cell_kept H1 1 _ rfl; have pz2 := cell_kept H1 2 _ rfl; have pz3 := cell_kept H1 3 _ rfl; have pz4 := cell_kept H1 4 _ rfl; have pz5 := cell_kept H1 5 _ rfl; have pz6 := cell_kept H1 6 _ rfl; have pz7 := cell_kept H1 7 _ rfl; have pz8 := cell_kept H1 8 _ rfl; have pz9 := cell_kept H1 9 _ rfl; simp only [World.size_alloc] at pz0 pz1 pz2 pz3 pz4 pz5 pz6 pz7 pz8 pz9)
    | (go_at_call 14; go_must (refine (B1 _ G1).mono ?_); rintro e w2 ⟨v2, rfl, O2, hg2⟩; have H2 := grown_more H1 hg2 (by simp); have G2 := G1.kept hg2; obtain ⟨ad2, cp2, rfl⟩ := O2.len; rw [hil]))
  have KW : w.grownBy w2 none := grown_more (K2 _ _) H2 (by simp)
  have HX : Hid _ := H2
  have GW : Hid (Gd w2) := G2
  have HO2 : Hid (OwnI w2 w1.heap.size (.slice ad2 l.length cp2) (ints l)) := by rw [← hil]; exact O2
  clear pc0 pc1 pc2 pc3 pc4 pc5 pc6 pz0 pz1 pz2 pz3 pz4 pz5 pz6 pz7 pz8 pz9
  clear hg2 O2 H2 G2 AW K2 B1 H1 G1
  go_cut [13, 14, 15, 16] from 41 to 69 (fun a i _ _ wx => a = .int .i64 ((Due.frm s l l.length : Int) - 1) ∧ Due.frm s l l.length ≤ 226157760 ∧ w2.grownBy wx none)
  case first =>
    go_wp2_with fail
    go_loopw [13, 14] (fun a i wr => ∃ j : Nat, j ≤ l.length ∧ i = .int .i64 j ∧ a = .int .i64 ((Due.frm s l j : Int) - 1) ∧ Due.frm s l j ≤ 226157760 ∧ w2.grownBy wr none) (fun _ i _ => (300 - intOf i).toNat)
    case atStart => exact ⟨0, by omega, rfl, rfl, hs, grown_refl _ _⟩
    case round =>
      obtain ⟨j, hj, rfl, rfl, hfr, hGr⟩ := hrel
      have GR := GW.out.kept hGr
      have HK := grown_more HX.out hGr (by simp)
      by_cases hlt : j < l.length
      · obtain ⟨t, htj⟩ : ∃ t, l[j]? = some t := ⟨l[j], List.getElem?_eq_getElem hlt⟩
        obtain ⟨hte, NX⟩ := HN1.out j t htj
        obtain ⟨g, hix, cx⟩ := OwnI.idx (HO2.out.kept hGr (by simp)) (ints_at l j htj)
        have hfs : Hid (Due.frm s l (j + 1) = t + 1) := by
          show Due.frm s l (j + 1) = t + 1
          rw [Due.frm, List.getD_eq_getElem?_getD, htj]
          rfl
        have d1 : ((t : Int) != (t : Int)) = false := by simp
        have d2 : decide ((t : Int) > (e : Int) - 1) = false := decide_eq_false (by omega)
        have d3 : decide ((e : Int) - 1 < (t : Int)) = false := decide_eq_false (by omega)
        have d4 : decide ((e : Int) ≤ (t : Int)) = false := decide_eq_false (by omega)
        clear htj
        generalize Due.frm s l j = fj at *
        have xc0 := cell_kept2 HK 0 _ rfl
        have xc1 := cell_kept2 HK 1 _ rfl
        have xc2 := cell_kept2 HK 2 _ rfl
        have xc3 := cell_kept2 HK 3 _ rfl
        have xc4 := cell_kept2 HK 4 _ rfl
        have xc5 := cell_kept2 HK 5 _ rfl
        have xc6 := cell_kept2 HK 6 _ rfl
        have xz0 := cell_kept HK 0 _ rfl
        have xz1 := cell_kept HK 1 _ rfl
        have xz2 := cell_kept HK 2 _ rfl
        have xz3 := cell_kept HK 3 _ rfl
        have xz4 := cell_kept HK 4 _ rfl
        have xz5 := cell_kept HK 5 _ rfl
        have xz6 := cell_kept HK 6 _ rfl
        have xz7 := cell_kept HK 7 _ rfl
        have xz8 := cell_kept HK 8 _ rfl
        have xz9 := cell_kept HK 9 _ rfl
        simp only [World.size_alloc] at xz0 xz1 xz2 xz3 xz4 xz5 xz6 xz7 xz8 xz9
        go_wp2_with (go_at_call 10; go_must (refine (NX _ GR).mono ?_); rintro e w3 ⟨rfl, hg3⟩; have cx3 := hg3.cell cx (by simp))
        go_roundw
        case rel => exact ⟨j + 1, by omega, by go_num, by rw [hfs.out]; exact val_int (by omega), by rw [hfs.out]; omega, grown_more hGr hg3 (by simp)⟩
        case measure => simp [intOf]; omega
      · have hd : decide ((j : Int) < l.length) = false := decide_eq_false (by omega)
        have ej : j = l.length := by omega
        subst ej
        go_wp2_with fail
        go_meet
        exact ⟨rfl, hfr, hGr⟩
  case rest =>
    obtain ⟨rfl, hfr, hGr⟩ := hcut
    have GR := GW.out.kept hGr
    have HK := grown_more HX.out hGr (by simp)
    have NX := HN2.out hfr
    generalize Due.frm s l l.length = fa at *
    go_upto_region 14 with fail
    go_cut [77] from 70 to 77 (fun s wx => s = .bool (decide (l.length < 50) && decide (fa < e)) ∧ wc = wx)
    case first =>
      by_cases h1 : l.length < 50
      · by_cases h2 : fa < e
        · have g1 : decide ((fa : Int) - 1 < (e : Int) - 1) = true := decide_eq_true (by omega)
          have g2 : (decide (l.length < 50) && decide (fa < e)) = true := by rw [decide_eq_true h1, decide_eq_true h2]; rfl
          go_wp2_with fail
          go_meet
          exact ⟨by rw [g2], rfl⟩
        · have g1 : decide ((fa : Int) - 1 < (e : Int) - 1) = false := decide_eq_false (by omega)
          have g2 : (decide (l.length < 50) && decide (fa < e)) = false := by rw [decide_eq_true h1, decide_eq_false h2]; rfl
          go_wp2_with fail
          go_meet
          exact ⟨by rw [g2], rfl⟩
      · have g1 : decide ((l.length : Int) < 50) = false := decide_eq_false (by omega)
        have g2 : (decide (l.length < 50) && decide (fa < e)) = false := by rw [decide_eq_false h1]; rfl
        go_wp2_with fail
        go_meet
        exact ⟨by rw [g2], rfl⟩
    case rest =>
      obtain ⟨rfl, rfl⟩ := hcut
      generalize hB : (decide (l.length < 50) && decide (fa < e)) = B
      go_upto_if 77 with fail
      go_cut [17, 18] from 78 to 91 (fun _ _ wx => w2.grownBy wx none)
      case first =>
        cases B with
        | false =>
          go_wp2_with fail
          go_meet
          exact hGr
        | true =>
          obtain ⟨hb1, hb2⟩ : l.length < 50 ∧ fa < e := by simpa using hB
          obtain ⟨t, f, hft, NY⟩ := NX hb1
          clear hB
          have xc0 := cell_kept2 HK 0 _ rfl
          have xc1 := cell_kept2 HK 1 _ rfl
          have xc2 := cell_kept2 HK 2 _ rfl
          have xc3 := cell_kept2 HK 3 _ rfl
          have xc4 := cell_kept2 HK 4 _ rfl
          have xc5 := cell_kept2 HK 5 _ rfl
          have xc6 := cell_kept2 HK 6 _ rfl
          have xz0 := cell_kept HK 0 _ rfl
          have xz1 := cell_kept HK 1 _ rfl
          have xz2 := cell_kept HK 2 _ rfl
          have xz3 := cell_kept HK 3 _ rfl
          have xz4 := cell_kept HK 4 _ rfl
          have xz5 := cell_kept HK 5 _ rfl
          have xz6 := cell_kept HK 6 _ rfl
          have xz7 := cell_kept HK 7 _ rfl
          have xz8 := cell_kept HK 8 _ rfl
          have xz9 := cell_kept HK 9 _ rfl
          simp only [World.size_alloc] at xz0 xz1 xz2 xz3 xz4 xz5 xz6 xz7 xz8 xz9
          rcases hft with rfl | ⟨rfl, hte⟩
          · go_wp2_with (go_at_call 10; go_must (refine (NY _ GR).mono ?_); rintro e w3 ⟨rfl, hg3⟩)
            go_meet
            exact grown_more hGr hg3 (by simp)
          · have d1 : decide (t ≤ (e : Int) - 1) = false := decide_eq_false (by omega)
            go_wp2_with (go_at_call 10; go_must (refine (NY _ GR).mono ?_); rintro e w3 ⟨rfl, hg3⟩)
            go_meet
            exact grown_more hGr hg3 (by simp)
      case rest =>
        clear hB NX HK GR hGr
        have hGr : w2.grownBy wc none := hcut
        have GR := GW.out.kept hGr
        have HK := grown_more HX.out hGr (by simp)
        have KC := grown_more KW hGr (by simp)
        clear hcut
        by_cases h1 : m < (s : Int) - 1
        · have g1 : decide (m < (s : Int) - 1) = true := decide_eq_true h1
          go_wp2_with fail
          go_ret
          exact ⟨rfl, KC⟩
        · have g1 : decide (m < (s : Int) - 1) = false := decide_eq_false h1
          by_cases h2 : (e : Int) - 1 < m
          · have g2 : decide ((e : Int) - 1 < m) = true := decide_eq_true h2
            have g3 : decide (m > (e : Int) - 1) = true := decide_eq_true h2
            go_wp2_with fail
            go_ret
            exact ⟨rfl, KC⟩
          · have g2 : decide ((e : Int) - 1 < m) = false := decide_eq_false h2
            have g3 : decide (m > (e : Int) - 1) = false := decide_eq_false h2
            obtain ⟨la, lb, hla, hlb, hpre, BA, BB⟩ := HM1.out (m + 1).toNat (by omega) (by omega) (by omega)
            have hlenA : (ints la).length = la.length := by simp
            have hlenB : (ints lb).length = lb.length := by simp
            have HE : Hid (∃ r, ints la ++ ints lb = ints l ++ r) := by
              obtain ⟨r, hr⟩ := hpre
              refine ⟨ints r, ?_⟩
              unfold ints
              rw [← List.map_append, ← List.map_append, hr]
            have hN7 : (ints la ++ ints lb).length = la.length + lb.length := by simp
            have hNle : l.length ≤ la.length + lb.length := by
              obtain ⟨r, hr⟩ := HE.out
              rw [← hN7, hr, List.length_append, hil]
              omega
            have dN : decide ((la.length : Int) + (lb.length : Int) < l.length) = false := decide_eq_false (by omega)
            have dM : ¬ (la.length : Int) + (lb.length : Int) < l.length := by omega
            clear hpre HM1 HN1 HN2 h1 h2 hs he hfr
            generalize (s : Int) - 1 = A at *
            generalize (e : Int) - 1 = E at *
            have tokA : True := trivial
            have xc0 := cell_kept2 HK 0 _ rfl
            have xc1 := cell_kept2 HK 1 _ rfl
            have xc2 := cell_kept2 HK 2 _ rfl
            have xc3 := cell_kept2 HK 3 _ rfl
            have xc4 := cell_kept2 HK 4 _ rfl
            have xc5 := cell_kept2 HK 5 _ rfl
            have xc6 := cell_kept2 HK 6 _ rfl
            have xz0 := cell_kept HK 0 _ rfl
            have xz1 := cell_kept HK 1 _ rfl
            have xz2 := cell_kept HK 2 _ rfl
            have xz3 := cell_kept HK 3 _ rfl
            have xz4 := cell_kept HK 4 _ rfl
            have xz5 := cell_kept HK 5 _ rfl
            have xz6 := cell_kept HK 6 _ rfl
            have xz7 := cell_kept HK 7 _ rfl
            have xz8 := cell_kept HK 8 _ rfl
            have xz9 := cell_kept HK 9 _ rfl
            simp only [World.size_alloc] at xz0 xz1 xz2 xz3 xz4 xz5 xz6 xz7 xz8 xz9
            go_wp2_with (first
              | (go_at_call 14; have _t := tokA; go_must (refine (BA _ GR).mono ?_); rintro e w4 ⟨v4, rfl, O4, hg4⟩; obtain ⟨ad4, cp4, rfl⟩ := O4.len; rw [hlenA] at O4; have H4 := grown_more HK hg4 (by simp); have G4 := GR.kept hg4; have yc0 := cell_kept2 H4 0 _ rfl; have yc1 := cell_kept2 H4 1 _ rfl; have yc2 := cell_kept2 H4 2 _ rfl; have yc3 := cell_kept2 H4 3 _ rfl; have yc4 := cell_kept2 H4 4 _ rfl; have yc5 := cell_kept2 H4 5 _ rfl; have yc6 := cell_kept2 H4 6 _ rfl; have yz0 := cell_kept H4 0 _ rfl; have yz1 := cell_kept H4 1 _ rfl; have yz2 := cell_kept H4 2 _ rfl; have yz3 := cell_kept H4 3 _ rfl; have yz4 := cell_kept H4 4 _ rfl; have yz5 := cell_kept H4 5 _ rfl; have yz6 := cell_kept H4 6 _ rfl; have yz7 := cell_kept H4 7 _ rfl; have yz8 := cell_kept H4 8 _ rfl; have yz9 := cell_kept H4 9 _ rfl; simp only [World.size_alloc] at yz0 yz1 yz2 yz3 yz4 yz5 yz6 yz7 yz8 yz9; clear xc0 xc1 xc2 xc3 xc4 xc5 xc6 xz0 xz1 xz2 xz3 xz4 xz5 xz6 xz7 xz8 xz9; clear tokA; have tokB : True := trivial)
              | (go_at_call 14; have _t := tokB; go_must (refine (BB _ G4).mono ?_); rintro e w5 ⟨v5, rfl, O5, hg5⟩; obtain ⟨ad5, cp5, rfl⟩ := O5.len; rw [hlenB] at O5; have O45 := O4.kept hg5 (by simp); have O4a : OwnI (w5.alloc (.cells #[] 2)) wc.heap.size (.slice ad4 la.length cp4) (ints la) := O45.kept (World.grownBy_alloc w5 _ none) (by simp); have hz5 := hg5.size; clear yc0 yc1 yc2 yc3 yc4 yc5 yc6 yz0 yz1 yz2 yz3 yz4 yz5 yz6 yz7 yz8 yz9; clear tokB; have tokC : True := trivial)
              | (have _t := tokC; refine wpList_append_i64 rfl (.tmp 116) (.tmp 117) rfl w5.heap.size _ [] rfl (ownI_empty w5 _ rfl) wc.heap.size _ (ints la) rfl O4a (by simp; omega) (by simp) ?_; intro ad6 c6 w6 O6' G6; have O6 : OwnI w6 w5.heap.size (.slice ad6 la.length c6) (ints la) := (by rw [← hlenA]; exact O6'); have O5b : OwnI w6 w4.heap.size (.slice ad5 lb.length cp5) (ints lb) := OwnI.past (O5.kept (World.grownBy_alloc w5 (.cells #[] 2) none) (by simp)) G6 (fun k hk hh => by have hk2 := (World.ownsRow.lt O5 k hk).2; have hh : some w5.heap.size = some k := hh; injection hh with hh; omega); have hz6 := G6.size; clear tokC; have tokD : True := trivial)
              | (have _t := tokD; refine wpList_append_i64 rfl (.tmp 118) (.tmp 119) rfl w5.heap.size _ (ints la) rfl O6 w4.heap.size _ (ints lb) rfl O5b (by simp; omega) (by simp at hz6; omega) ?_; intro ad7 c7 w7 O7 G7; rw [hN7] at O7; clear tokD))
            have KG : w2.grownBy w7 none := by
              refine grown_more (grown_more (grown_alloc (grown_more (grown_more hGr hg4 (by simp)) hg5 (by simp)) _) G6 (fun k hk => .inr ?_)) G7 (fun k hk => .inr ?_)
              · have e1 : w5.heap.size = k := by injection hk
                have := hGr.size; have := hg4.size
                omega
              · have := (World.ownsRow.lt O6 k hk).1
                have := hGr.size; have := hg4.size
                omega
            go_loopw [24] (fun i wr => ∃ j n : Nat, j ≤ l.length ∧ i = .int .i64 j ∧ wr = w7.drewN n) (fun i _ => (300 - intOf i).toNat)
            case atStart => exact ⟨0, 0, by omega, rfl, rfl⟩
            case round =>
              obtain ⟨j, n, hj, rfl, rfl⟩ := hrel
              by_cases hlt : j < l.length
              · obtain ⟨t, htj⟩ : ∃ t, l[j]? = some t := ⟨l[j], List.getElem?_eq_getElem hlt⟩
                obtain ⟨g1, i1, x1⟩ := OwnI.idx (HO2.out.kept KG (by simp)) (ints_at l j htj)
                obtain ⟨g2, i2, x2⟩ := OwnI.idx (j := j) (x := (t : Int)) O7 (by
                  obtain ⟨r, hr⟩ := HE.out
                  rw [hr, List.getElem?_append_left (by rw [hil]; exact hlt)]
                  exact ints_at l j htj)
                have dt : ((t : Int) != (t : Int)) = false := by simp
                clear htj
                go_upto_region 28 with fail
                refine region_still (by kernel_rfl) (by kernel_rfl) ?_
                iterate 9 still_step
                refine wpStill_nil ?_
                go_wp2_with fail
                go_roundw
                case rel => exact ⟨j + 1, n + 1, by omega, by go_num, rfl⟩
                case measure => simp [intOf]; omega
              · have hd : decide ((j : Int) < l.length) = false := decide_eq_false (by omega)
                go_wp2_with fail
                go_ret
                exact ⟨rfl, grown_drewN (grown_more KW KG (by simp)) n⟩
theorem dueWalks.walk (W : World) (hX : Gd W) (v0 : Value) (o0 : ∃ c : Cro.C, v0 = crv c ∧ c.ok) (v1 : Value) (o1 : ∃ z, v1 = zon z) (a : Int) (ha : Lit.wf (.int .i64 a) = true) (m : Int) (hm : Lit.wf (.int .i64 m) = true) (b : Int) (hb : Lit.wf (.int .i64 b) = true) :
    Calls Tryz.prog 6 #[v0, v1, .int .i64 a, .int .i64 m, .int .i64 b] W fun e W' => e = .returned (.bool true) ∧ Below W.heap.size W W' := by
  obtain ⟨c, rfl, hc⟩ := o0
  obtain ⟨z, rfl⟩ := o1
  obtain ⟨P, hP⟩ := Due.has_P c z
  refine Calls.mono (?_ : Calls Tryz.prog 6 #[crv c, zon z, .int .i64 a, .int .i64 m, .int .i64 b] W fun r w' => r = .returned (.bool true) ∧ W.grownBy w' none) fun e W' ⟨h1, h2⟩ => ⟨h1, grown_below h2⟩
  by_cases hr : c.right
  · by_cases hz : z.ok
    · by_cases hab : (-1 ≤ a ∧ a ≤ 226157759) ∧ (-1 ≤ b ∧ b ≤ 226157759)
      · obtain ⟨s, rfl⟩ : ∃ n : Nat, a = (n : Int) - 1 := ⟨(a + 1).toNat, by omega⟩
        obtain ⟨e, rfl⟩ : ∃ n : Nat, b = (n : Int) - 1 := ⟨(b + 1).toNat, by omega⟩
        have key : ∀ (e s : Nat), e ≤ 226157760 → Due.bw P e 50 s = Due.btw P 226157759 e 50 s := fun e s he => Due.bw_btw P (by omega) 50 s
        have BT : ∀ s e : Nat, s ≤ 226157760 → e ≤ 226157760 → ∀ w, Gd w → Calls Tryz.prog 14 #[crv c, zon z, .int .i64 ((s : Int) - 1), .int .i64 ((e : Int) - 1), .int .i64 50] w fun r w' => ∃ v, r = .returned (.tuple #[v, .int .i64 0]) ∧ OwnI w' w.heap.size v (ints (Due.btw P 226157759 e 50 s)) ∧ w.grownBy w' none := fun s e hs he w hG => by
          rw [← key e s he]
          exact bt_ok c hc hr z hz P hP s e 50 hs he (by omega) w hG
        have N := fun a w hG => Next_any c hc z P hP a w hG
        refine walks_ok c z s e m (by omega) (by omega) (Due.btw P 226157759 e 50 s) (Due.btw_len P _ e 50 s) (BT s e (by omega) (by omega)) (fun j t ht => ?_) (fun hf hl => ?_) (fun k hk h1 h2 => ?_) W hX
        · obtain ⟨h1, h2⟩ := Due.btw_at P 226157759 e 50 s j t ht
          refine ⟨h2, fun w hG => ?_⟩
          have := N ((Due.frm s (Due.btw P 226157759 e 50 s) j : Int) - 1) w hG
          have hn := (Due.nx_some h1)
          rw [Due.nxV_at (n := t) hr hz (by omega) (by omega) (by rw [show ((Due.frm s (Due.btw P 226157759 e 50 s) j : Int) - 1 + 1).toNat = Due.frm s (Due.btw P 226157759 e 50 s) j by omega]; exact h1)] at this
          exact this
        · have NN := N ((Due.frm s (Due.btw P 226157759 e 50 s) (Due.btw P 226157759 e 50 s).length : Int) - 1)
          have et : ((Due.frm s (Due.btw P 226157759 e 50 s) (Due.btw P 226157759 e 50 s).length : Int) - 1 + 1).toNat = Due.frm s (Due.btw P 226157759 e 50 s) (Due.btw P 226157759 e 50 s).length := by omega
          have en := Due.btw_end P 226157759 e 50 s hl
          generalize Due.frm s (Due.btw P 226157759 e 50 s) (Due.btw P 226157759 e 50 s).length = fa at *
          cases hx : Due.nx P 226157759 fa with
          | none =>
            rw [Due.nxV_no (P := P) hr hz (a := (fa : Int) - 1) (by omega) (by omega) (by rw [et]; exact hx)] at NN
            exact ⟨0, 60, .inl rfl, NN⟩
          | some t =>
            rw [Due.nxV_at (P := P) hr hz (a := (fa : Int) - 1) (n := t) (by omega) (by omega) (by rw [et]; exact hx)] at NN
            exact ⟨t, 0, .inr ⟨rfl, by have := en t hx; omega⟩, NN⟩
        · subst hk
          exact ⟨_, _, Due.btw_len P _ k 50 s, Due.btw_len P _ e 50 k, Due.btw_split P 226157759 e k h2 50 s h1, BT s k (by omega) (by omega), BT k e (by omega) (by omega)⟩
      · exact walks_bad c z a m b 30 (by decide) (fun w hG => bt_time c hc hr z hz a b 50 (by decide) (by decide) hab w hG.gl) W hX
    · exact walks_bad c z a m b 40 (by decide) (fun w hG => bt_bad c z a b 50 (by decide) (by decide) 40 (by decide) w (fun w' g => begin_zone c hc hr z hz w' (hG.gl.kept g))) W hX
  · exact walks_bad c z a m b 1 (by decide) (fun w hG => bt_bad c z a b 50 (by decide) (by decide) 1 (by decide) w (fun w' g => begin_arg c hc hr z w' (hG.gl.kept g))) W hX
end Go.Proofs.YtegekjgjabckgaaGreatDoor
