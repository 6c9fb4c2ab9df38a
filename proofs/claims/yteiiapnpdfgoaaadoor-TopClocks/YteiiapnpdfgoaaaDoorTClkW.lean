/- Once a day, as clocks show it: the statement's walk. -/
import Derived.Test.YteiiapnpdfgoaaaDoorTClkB
import Derived.Deep.CutBlock
import Derived.Deep.CutRange
namespace Go.Proofs.YteiiapnpdfgoaaaDoor
open Go.RowKit
set_option linter.unusedVariables false

theorem thr_at {t y m d : Int} (hA : Civ.At t y m d) {h n : Nat} (hh : h < 24) (hn : n < 60) : Thr y m d h n ∧ inst y m d h n = t * 1440 + (h * 60 + n) := by
  have e := hA.dys
  refine ⟨⟨hA.d1, by rw [e]; exact hA.d2, by omega, by omega, by omega, by omega⟩, ?_⟩
  have := hA.n
  unfold inst
  omega
theorem filt_take {IL : List Int} {j : Nat} {x : Int} (p : Int → Bool) (hj : IL[j]? = some x) : (IL.take (j + 1)).filter p = (IL.take j).filter p ++ (if p x = true then [x] else []) := by
  rw [List.take_add_one, hj, List.filter_append]
  simp
  split <;> simp [*]
theorem take_len (l : List Int) : l.take l.length = l := by simp
/-- A day's share. -/
theorem day_more {z : Zon.Z} {hm a b n0 : Int} {k : Nat} {t : Int} (ht : n0 + (k : Int) = t) (h0 : 0 ≤ t) (h1 : t ≤ 157053) : Due.daysL z hm a b n0 (k + 1) = Due.daysL z hm a b n0 k ++ (z.ins (t * 1440 + hm)).filter (fun t => decide (a < t) && decide (t ≤ b)) := by
  rw [Due.daysL, ht]
  unfold Due.dayL
  rw [if_pos ⟨h0, h1⟩]
theorem day_none {z : Zon.Z} {hm a b n0 : Int} {k : Nat} {t : Int} (ht : n0 + (k : Int) = t) (h0 : ¬ (0 ≤ t ∧ t ≤ 157053)) : Due.daysL z hm a b n0 (k + 1) = Due.daysL z hm a b n0 k := by
  rw [Due.daysL, ht]
  unfold Due.dayL
  rw [if_neg h0, List.append_nil]
set_option maxRecDepth 100000 in
set_option maxHeartbeats 12800000 in
theorem clocks_ok (z : Zon.Z) (hz : z.ok) (h n : Nat) (hh : h < 24) (hn : n < 60) (fr : Int) (f1 : -1 ≤ fr) (f2 : fr ≤ 226157759) (dd : Nat) (hd : dd ≤ 10) (T : Int) (hTT : fr + (dd : Int) * 1440 = T) (hT2 : T ≤ 226157759) (N Q : Int) (hN : fr.tdiv 1440 = N) (hQ : T.tdiv 1440 = Q) (hN1 : N * 1440 ≤ fr + 1) (hN2 : fr < (N + 1) * 1440) (hQ1 : Q * 1440 ≤ T + 1) (hQ2 : T < (Q + 1) * 1440) (hN0 : 0 ≤ N) (hQ0 : 0 ≤ Q) (w : World) (hG : Gd w) :
    Calls Tryd.prog 4 #[zon z, .int .i64 (h : Int), .int .i64 (n : Int), .int .i64 fr, .int .i64 (dd : Int)] w fun r w' => r = .returned (.bool true) ∧ w.grownBy w' none := by
  have hnot : ∀ (x : Bool) (w : World), (Op.unary .not (.bool x)).run Tryd.prog w = .ok (.bool (!x)) w := fun _ _ => rfl
  have AW : ∀ o, _ := fun o => awake7_any (w.alloc o) (hG.kept (World.grownBy_alloc w o none))
  have MK : ∀ W, _ := fun W => make_ok z hz W
  have DA : ∀ W, Gl W → _ := fun W g => daily_any h n hh hn W g
  obtain ⟨P, hP⟩ := Due.has_P (Due.cD h n) z
  obtain ⟨s, hs⟩ : ∃ s : Nat, (s : Int) - 1 = fr := ⟨(fr + 1).toNat, by omega⟩
  obtain ⟨e, he⟩ : ∃ e : Nat, (e : Int) - 1 = T := ⟨(T + 1).toNat, by omega⟩
  have BT : ∀ W, Gd W → Calls Tryd.prog 11 #[crv (Due.cD h n), zon z, .int .i64 fr, .int .i64 T, .int .i64 100] W fun r w' => ∃ v, r = .returned (.tuple #[v, .int .i64 0]) ∧ OwnI w' W.heap.size v (ints (Due.bw P e 100 s)) ∧ W.grownBy w' none := fun W g => by
    have := bt_ok (Due.cD h n) (Due.cD_ok hh hn) (Due.cD_right hh hn) z hz P hP s e 100 (by omega) (by omega) (by omega) W g
    rw [hs, he] at this
    exact this
  have g1 : decide ((h : Int) < 0) = false := decide_eq_false (by omega)
  have g2 : decide ((23 : Int) < (h : Int)) = false := decide_eq_false (by omega)
  have g3 : decide ((n : Int) < 0) = false := decide_eq_false (by omega)
  have g4 : decide ((59 : Int) < (n : Int)) = false := decide_eq_false (by omega)
  have g5 : decide (fr < -1) = false := decide_eq_false (by omega)
  have g6 : decide ((226157759 : Int) < fr) = false := decide_eq_false (by omega)
  have g7 : decide ((dd : Int) < 0) = false := decide_eq_false (by omega)
  have g8 : decide ((10 : Int) < (dd : Int)) = false := decide_eq_false (by omega)
  have g9 : decide ((226157759 : Int) < T) = false := decide_eq_false (by omega)
  have HT1 : -1 ≤ T := by omega
  have ZC : Hid (∀ W, (w.alloc (.cells #[.int .i64 z.b, .int .i64 z.s, .int .i64 z.on.m, .int .i64 z.on.k, .int .i64 z.on.d, .int .i64 z.on.a, .int .i64 z.off.m, .int .i64 z.off.k, .int .i64 z.off.d, .int .i64 z.off.a] 33)).grownBy W none → W.cell? ⟨w.heap.size, 0, none⟩ = some (.int .i64 z.b) ∧ W.cell? ⟨w.heap.size, 1, none⟩ = some (.int .i64 z.s) ∧ W.cell? ⟨w.heap.size, 2, none⟩ = some (.int .i64 z.on.m) ∧ W.cell? ⟨w.heap.size, 3, none⟩ = some (.int .i64 z.on.k) ∧ W.cell? ⟨w.heap.size, 4, none⟩ = some (.int .i64 z.on.d) ∧ W.cell? ⟨w.heap.size, 5, none⟩ = some (.int .i64 z.on.a) ∧ W.cell? ⟨w.heap.size, 6, none⟩ = some (.int .i64 z.off.m) ∧ W.cell? ⟨w.heap.size, 7, none⟩ = some (.int .i64 z.off.k) ∧ W.cell? ⟨w.heap.size, 8, none⟩ = some (.int .i64 z.off.d) ∧ W.cell? ⟨w.heap.size, 9, none⟩ = some (.int .i64 z.off.a) ) := fun W g => ⟨cell_kept g 0 _ rfl, cell_kept g 1 _ rfl, cell_kept g 2 _ rfl, cell_kept g 3 _ rfl, cell_kept g 4 _ rfl, cell_kept g 5 _ rfl, cell_kept g 6 _ rfl, cell_kept g 7 _ rfl, cell_kept g 8 _ rfl, cell_kept g 9 _ rfl⟩
  go_enter Tryd.func4, Tryd.ntmps4
  go_upto_region 12 with (first
    | (go_at_call 6; (with_reducible refine (AW _).mono ?_); rintro e w1 ⟨rfl, H1⟩; obtain ⟨y0, y1, y2, y3, y4, y5, y6, y7, y8, y9⟩ := ZC.out _ H1)
    | (go_at_call 9; (with_reducible refine (MK _).mono ?_); rintro e w2 ⟨b, rfl, H2, hb1, hb2, hZ2⟩; have L2 := grown_more H1 H2 (by simp); have G2 := hG.kept (grown_more (World.grownBy_alloc w _ none) L2 (by simp)))
    | (go_at_call 10; (with_reducible refine (DA _ G2.gl).mono ?_); rintro e w3 ⟨rfl, H3⟩; have L3 := fun o => grown_alloc (grown_more L2 H3 (by simp)) o; have G3 := fun o => hG.kept (grown_more (World.grownBy_alloc w _ none) (L3 o) (by simp)); obtain ⟨x0, x1, x2, x3, x4, x5, x6, x7, x8, x9⟩ := ZC.out _ (L3 (.cells #[.int .u64 ((Due.cD h n).mi : Int), .int .u64 ((Due.cD h n).ho : Int), .int .u64 ((Due.cD h n).da : Int), .int .u64 ((Due.cD h n).mo : Int), .int .u64 ((Due.cD h n).we : Int), .bool (Due.cD h n).ad, .bool (Due.cD h n).aw] 24)))
    | (go_at_call 11; (with_reducible refine (BT _ (G3 _)).mono ?_); rintro e w4 ⟨lv, rfl, hL4, H4⟩))
  have hZ4 : Zn w4 b z := (hZ2.kept (grown_more (grown_alloc H3 _) H4 (by simp)))
  have h42 := (grown_more (grown_alloc H3 _) H4 (by simp)).size
  have h32 := (grown_alloc H3 (.cells #[.int .u64 ((Due.cD h n).mi : Int), .int .u64 ((Due.cD h n).ho : Int), .int .u64 ((Due.cD h n).da : Int), .int .u64 ((Due.cD h n).mo : Int), .int .u64 ((Due.cD h n).we : Int), .bool (Due.cD h n).ad, .bool (Due.cD h n).aw] 24)).size
  have h21 := H1.size
  simp at h21
  have hb4 : b < w4.heap.size := by omega
  have hwb : w.heap.size ≤ b := by omega
  have GW : w.grownBy w4 none := grown_more (grown_more (World.grownBy_alloc w _ none) (L3 _) (by simp)) H4 (by simp)
  obtain ⟨BL, hbl, hC0⟩ : ∃ BL, b < BL ∧ Ct w4 w4 b z (.slice none 0 0) [] BL lv (ints (Due.bw P e 100 s)) := ⟨_, by omega, ⟨w4.heap.size, Nat.le_refl _, Nat.le_refl _, World.ownsRow_nil _ _ _ _, .inl ⟨rfl, hZ4⟩⟩, hL4, fun k hk => (World.ownsRow.lt hL4 k hk).2, grown_refl _ _⟩
  obtain ⟨LL, hLL⟩ : ∃ LL, LL = ints (Due.bw P e 100 s) := ⟨_, rfl⟩
  rw [← hLL] at hC0
  clear hZ4 h42 h32 h21 hL4 hZ2 H1 H2 H3 H4 L2 L3 G2 G3 BT AW MK DA y0 y1 y2 y3 y4 y5 y6 y7 y8 y9 x0 x1 x2 x3 x4 x5 x6 x7 x8 x9 ZC
  go_wp2_with fail
  clear g1 g2 g3 g4 g5 g6 g7 g8 g9 hnot
  have hQ9 : Q ≤ 157054 := by omega
  obtain ⟨K, hK⟩ : ∃ K : Nat, (K : Int) = Q - N + 3 := ⟨(Q - N + 3).toNat, by omega⟩
  have HB : Hid (LL = Due.daysL z (h * 60 + n) fr T (N - 1) K) := by
    show _ = _
    have := Due.days_bw hz hh hn P hP s e (by omega) (N - 1) K (by omega) (by omega) (by omega)
    rw [hs, he] at this
    rw [hLL, this]
  have HK20 : K ≤ 20 := by omega
  clear hLL hP hs he hTT hN hN1 hN2 hQ1 hQ2 hd
  go_loopw [17, 18] (fun f y wr => ∃ k : Nat, k ≤ K ∧ y = .int .i64 (N - 1 + k) ∧ Ct w4 wr b z f (Due.daysL z (h * 60 + n) fr T (N - 1) k) BL lv LL) (fun _ y _ => (Q + 3 - intOf y).toNat)
  case atStart => exact ⟨0, by omega, by simp, hC0⟩
  case round =>
    obtain ⟨k, hk, rfl, hC⟩ := hrel
    obtain ⟨t, ht⟩ : ∃ t, t = N - 1 + (k : Int) := ⟨_, rfl⟩
    rw [← ht]
    by_cases hlt : k < K
    · have c0 : decide (t ≤ Q + 1) = true := decide_eq_true (by omega)
      have t1 : -1 ≤ t := by omega
      have t2 : t ≤ 157055 := by omega
      have HV : Hid (t + 1 = N - 1 + ((k + 1 : Nat) : Int)) := by show _ = _; omega
      have HM : Hid ((Q + 3 - (t + 1)).toNat < (Q + 3 - t).toNat) := by show _ < _; omega
      clear hK hk
      by_cases hv : 0 ≤ t ∧ t ≤ 157053
      · obtain ⟨v1, v2⟩ := hv
        obtain ⟨y, m, d, hA⟩ := Civ.At.is (n := t) v1 (by omega)
        obtain ⟨hT, hI⟩ := thr_at hA hh hn
        have HD : Hid _ := day_more (z := z) (hm := h * 60 + n) (a := fr) (b := T) ht.symm v1 v2
        have F := fun W => from_at (t := t * 1440) (y := y) (m := m) (d := d) (by rw [show t * 1440 / 1440 = t by omega]; exact hA) W
        rw [show t * 1440 % 1440 / 60 = 0 by omega, show t * 1440 % 60 = 0 by omega] at F
        generalize Civ.wk (t * 1440 / 1440) = wk at F
        have CI := fun (W : World) (f : Value) (l : List Int) (g : Ct w4 W b z f l BL lv LL) => ct_inst hz g hb4 hbl y m d h n wk hT hI
        have HL0 : (Due.daysL z (h * 60 + n) fr T (N - 1) k).length ≤ 1000 := by have := Due.daysL_len z (h * 60 + n) fr T (N - 1) k; omega
        generalize Due.daysL z (h * 60 + n) fr T (N - 1) k = l0 at hC HD HL0
        obtain ⟨l1, HN1⟩ : ∃ l1, Hid (l1 = Due.daysL z (h * 60 + n) fr T (N - 1) (k + 1)) := ⟨_, (rfl : _ = _)⟩
        rw [← HN1.out] at HD
        generalize t * 1440 + (↑h * 60 + ↑n) = L at CI HD
        clear ht hC0 hA hT hI
        go_upto_region 19 with (go_at_call 12; go_must (refine (F _).mono ?_); rintro e w5 ⟨rfl, H5⟩)
        go_wp2_with (go_at_call 13; go_must (refine (CI _ _ _ ((hC.up H5).up (World.grownBy_alloc w5 _ none))).mono ?_); rintro e w6 ⟨a, q, c, S, rfl, hq, hQ6⟩)
        obtain ⟨IL, hIL⟩ : ∃ IL, IL = z.ins L := ⟨_, rfl⟩
        have HL2 : IL.length ≤ 2 := by rw [hIL]; exact Zon.ins_len z L
        have HL0 : Hid (l0.length ≤ 1000) := HL0
        rw [← hIL] at hq hQ6 HD
        clear hIL CI F H5 hC
        go_loopw [17, 22] (fun f i wr => ∃ j : Nat, j ≤ q ∧ i = .int .i64 (j : Int) ∧ ((IL = [] ∧ Ct w4 wr b z f l0 BL lv LL) ∨ ∃ base, Cv w4 wr b z f (l0 ++ (IL.take j).filter (fun t => decide (fr < t) && decide (t ≤ T))) base BL lv LL S (.slice a q c) IL)) (fun _ i _ => (q - intOf i).toNat)
        case atStart =>
          refine ⟨0, by omega, rfl, ?_⟩
          rw [List.take_zero, List.filter_nil, List.append_nil]
          exact hQ6
        case round =>
          clear hQ6
          obtain ⟨j, hj, rfl, hR⟩ := hrel
          by_cases hjq : j < q
          · have hjl : j < IL.length := by rw [← hq.out]; exact hjq
            obtain ⟨base, hV⟩ : ∃ base, Cv w4 wr b z u17 (l0 ++ (IL.take j).filter (fun t => decide (fr < t) && decide (t ≤ T))) base BL lv LL S (.slice a q c) IL := by
              rcases hR with ⟨e, _⟩ | h
              · rw [e] at hjl; simp at hjl
              · exact h
            clear hR
            obtain ⟨x, hx⟩ : ∃ x, IL[j]? = some x := ⟨_, List.getElem?_eq_getElem hjl⟩
            obtain ⟨g, rfl, cx⟩ := hV.at_ hx
            have HF : Hid _ := filt_take (fun t => decide (fr < t) && decide (t ≤ T)) hx
            have HLN : Hid ((l0 ++ (IL.take j).filter (fun t => decide (fr < t) && decide (t ≤ T))).length ≤ 2000) := by
              show _ ≤ _
              have h1 := List.length_filter_le (fun t => decide (fr < t) && decide (t ≤ T)) (IL.take j)
              have h2 := List.length_take_le j IL
              have h3 := HL0.out
              rw [List.length_append]
              omega
            clear hx
            have HIN : Hid (((q : Int) - ((j : Int) + 1)).toNat < ((q : Int) - (j : Int)).toNat) := by show _ < _; omega
            have hq2 : q ≤ 2 := by rw [hq.out]; exact HL2
            by_cases p1 : fr < x
            · have e1 : decide (fr < x) = true := decide_eq_true p1
              by_cases p2 : x ≤ T
              · have e2 : decide (x ≤ T) = true := decide_eq_true p2
                have HG : Hid (l0 ++ (IL.take (j + 1)).filter (fun t => decide (fr < t) && decide (t ≤ T)) = l0 ++ (IL.take j).filter (fun t => decide (fr < t) && decide (t ≤ T)) ++ [x]) := by
                  show _ = _
                  rw [HF.out, List.append_assoc]
                  simp [p1, p2]
                clear HF p1 p2
                generalize l0 ++ (IL.take j).filter (fun t => decide (fr < t) && decide (t ≤ T)) = lj at hV HG HLN
                go_wp2_with (refine wpList_append_loc rfl (.tmp 141) (.tmp 146) rfl base _ lj rfl (hV.fnd.2.2.1.kept (World.grownBy_alloc wr _ none) (by simp)) wr.heap.size x rfl (by rw [World.cell?_alloc_new]; rfl) HLN.out (by have := hV.fnd.2.1; simp; omega) ?_; intro v7 w7 hO7 hg7 hl7)
                go_roundw
                case rel => exact ⟨j + 1, by omega, val_int (by omega), .inr ⟨base, by rw [HG.out]; exact hV.more hb4 hO7 hg7 hl7⟩⟩
                case measure => simp only [intOf]; exact HIN.out
              · have e2 : decide (x ≤ T) = false := decide_eq_false p2
                have HG : Hid (l0 ++ (IL.take (j + 1)).filter (fun t => decide (fr < t) && decide (t ≤ T)) = l0 ++ (IL.take j).filter (fun t => decide (fr < t) && decide (t ≤ T))) := by
                  show _ = _
                  rw [HF.out]
                  simp [p1, p2]
                clear HF p1 p2
                generalize l0 ++ (IL.take j).filter (fun t => decide (fr < t) && decide (t ≤ T)) = lj at hV HG HLN
                go_wp2_with fail
                go_roundw
                case rel => exact ⟨j + 1, by omega, val_int (by omega), .inr ⟨base, by rw [HG.out]; exact hV⟩⟩
                case measure => simp only [intOf]; exact HIN.out
            · have e1 : decide (fr < x) = false := decide_eq_false p1
              have HG : Hid (l0 ++ (IL.take (j + 1)).filter (fun t => decide (fr < t) && decide (t ≤ T)) = l0 ++ (IL.take j).filter (fun t => decide (fr < t) && decide (t ≤ T))) := by
                show _ = _
                rw [HF.out]
                simp [p1]
              clear HF p1
              generalize l0 ++ (IL.take j).filter (fun t => decide (fr < t) && decide (t ≤ T)) = lj at hV HG HLN
              go_wp2_with fail
              go_roundw
              case rel => exact ⟨j + 1, by omega, val_int (by omega), .inr ⟨base, by rw [HG.out]; exact hV⟩⟩
              case measure => simp only [intOf]; exact HIN.out
          · have HE : Hid (Ct w4 wr b z u17 l1 BL lv LL) := by
              show Ct _ _ _ _ _ _ _ _ _
              have hjl : j = IL.length := by have := hq.out; omega
              rw [HD.out]
              rcases hR with ⟨e, h⟩ | ⟨base, h⟩
              · rw [e, List.filter_nil, List.append_nil]; exact h
              · rw [hjl, take_len] at h; exact h.ct
            have hdd : decide ((j : Int) < (q : Int)) = false := decide_eq_false (by omega)
            clear hR
            go_wp2_with fail
            go_roundw
            case rel => exact ⟨k + 1, by omega, by rw [← HV.out], by rw [← HN1.out]; exact HE.out⟩
            case measure => simp only [intOf]; exact HM.out
      · have HD : Hid _ := day_none (z := z) (hm := h * 60 + n) (a := fr) (b := T) ht.symm hv
        have F := fun W => from_bad (t * 1440) (by omega) W
        clear hv ht hC0
        go_wp2_with (go_at_call 12; go_must (refine (F _).mono ?_); rintro e w5 ⟨rfl, H5⟩)
        go_roundw
        case rel => exact ⟨k + 1, by omega, by rw [← HV.out], by rw [HD.out]; exact (hC.up H5).up (World.grownBy_alloc w5 _ none)⟩
        case measure => simp only [intOf]; exact HM.out
    · obtain rfl : k = K := by omega
      have c0 : decide (t ≤ Q + 1) = false := decide_eq_false (by omega)
      have hg9 := hC.g
      have G9 : w.grownBy wr none := grown_more GW hC.g (fun k e => .inr (by injection e with e; omega))
      obtain ⟨base, _, _, hO, _⟩ := hC.fnd
      have hlv := hC.lst
      rw [← HB.out] at hO
      have hpw : LL.Pairwise (· < ·) := by rw [HB.out]; exact Due.daysL_pw hz _ _ _ _ _
      have hln : LL.length ≤ 1000 := by rw [HB.out]; have := Due.daysL_len z (h * 60 + n) fr T (N - 1) k; omega
      have t1 : -1 ≤ t := by omega
      have t2 : t ≤ 157058 := by omega
      obtain ⟨a2, c2, rfl⟩ := hO.len
      have LS : Hid (∀ W, wr.grownBy W none → Calls Tryd.prog 14 #[lv, .slice a2 LL.length c2] W fun e w' => e = .returned (.bool true) ∧ W.grownBy w' none) := fun W g => longs_same (hlv.kept g (by simp)) (hO.kept g (by simp)) hln
      have CU : Hid (∀ j, j + 1 < LL.length → ∃ g x0 x1, a2 = some ⟨g, 0, none⟩ ∧ decide (x1 < x0) = false ∧ ∀ W, wr.grownBy W none → W.cell? ⟨g, j, none⟩ = some (.int .i64 x0) ∧ W.cell? ⟨g, j + 1, none⟩ = some (.int .i64 x1)) := fun j hj => by
        rcases hO.row with ⟨e, _⟩ | ⟨g, cap, e, _, hc⟩
        · rw [e] at hj; simp at hj
        · injection e with e
          refine ⟨g, LL.getD j 0, LL.getD (j + 1) 0, e, ?_, fun W gW => ⟨gW.cell (hc j (by omega)) (by simp), gW.cell (hc (j + 1) hj) (by simp)⟩⟩
          rw [List.getD_eq_getElem?_getD, List.getD_eq_getElem?_getD, List.getElem?_eq_getElem hj, List.getElem?_eq_getElem (by omega : j < LL.length)]
          have := List.pairwise_iff_getElem.1 hpw j (j + 1) (by omega) hj (by omega)
          simp
          omega
      clear hC hO hlv hpw HB hg9 hC0 GW hk hlt ht hK
      generalize LL.length = M at hln LS CU ⊢
      rename World => wz
      go_wp2_with fail
      go_loopw [23] (fun i wq => ∃ j : Nat, j ≤ M ∧ i = .int .i64 ((j : Int) + 1) ∧ Hid (wz.grownBy wq none)) (fun i _ => (M + 5 - intOf i).toNat)
      case atStart => exact ⟨0, by omega, rfl, grown_refl _ _⟩
      case round =>
        obtain ⟨j, hj, rfl, GQ⟩ := hrel
        by_cases hjm : j + 1 < M
        · obtain ⟨g, x0, x1, rfl, ex, hc⟩ := CU.out j hjm
          go_wp2_with fail
          go_loopw [24] (fun i wp => i = .int .i64 ((j : Int) + 1) ∧ Hid (wz.grownBy wp none)) (fun i _ => 0)
          case atStart => exact ⟨rfl, GQ⟩
          case round =>
            obtain ⟨rfl, GP⟩ := hrel
            have y0 := (hc wr GP.out).1
            have y1 := (hc wr GP.out).2
            have d0 := fun q => (hc (wr.drewN q) (grown_drewN GP.out q)).1
            have d1 := fun q => (hc (wr.drewN q) (grown_drewN GP.out q)).2
            have HM2 : Hid (((M : Int) + 5 - ((j : Int) + 1 + 1)).toNat < ((M : Int) + 5 - ((j : Int) + 1)).toNat) := by show _ < _; omega
            go_upto_region 29 with fail
            go_quiet (fail)
            go_wp2_with fail
            go_roundw
            case rel => exact ⟨j + 1, by omega, by go_num, by first | exact grown_drewN GP.out _ | exact grown_drew GP.out⟩
            case measure => simp only [intOf]; exact HM2.out
        · have hdd : decide ((j : Int) + 1 < (M : Int)) = false := decide_eq_false (by omega)
          go_wp2_with (go_at_call 14; go_must (refine (LS.out _ GQ.out).mono ?_); rintro e w9 ⟨rfl, H9⟩)
          go_ret
          exact ⟨rfl, grown_more (grown_more G9 GQ.out (by simp)) H9 (by simp)⟩
end Go.Proofs.YteiiapnpdfgoaaaDoor
