/- Names between two of a span lie in it; where a span begins it is found: the walk of the statement. -/
import Derived.Test.YtkidhnlombhhnaaAAwake
import Derived.Test.YtkidhnlombhhnaaAFindM
import Derived.Test.YtkidhnlombhhnaaAArgs
namespace Go.Proofs.Ytkidhnlombhhnaa
open Go.RowKit Atl
set_option linter.unusedVariables false
set_option maxRecDepth 10000

namespace atlasFinds
set_option maxRecDepth 100000 in
set_option maxHeartbeats 12800000 in
theorem walk (w : World) (v0 : Value) (o0 : ∃ (a : Am) (u : S3), v0 = av a u ∧ Rat w a u ∧ Szm a) (v1 : Value) (o1 : ∃ k : ByteArray, v1 = .string k ∧ k.size ≤ 140737488351232) (v2 : Value) (o2 : ∃ k : ByteArray, v2 = .string k ∧ k.size ≤ 140737488351232) (v3 : Value) (o3 : ∃ k : ByteArray, v3 = .string k ∧ k.size ≤ 140737488351232) :
    Calls Try.prog 7 #[v0, v1, v2, v3] w fun e w' => e = .returned (.bool true) ∧ Below w.heap.size w w' := by
  obtain ⟨a, u, rfl, hr, hz⟩ := o0
  obtain ⟨x, rfl, hx⟩ := o1
  obtain ⟨y, rfl, hy⟩ := o2
  obtain ⟨z, rfl, hzz⟩ := o3
  have AW : Hid (∀ W, _) := fun W => awake_any W
  have FA : Hid (∀ W (k : ByteArray), w.grownBy W none → k.size ≤ 140737488351232 → Calls Try.prog 10 #[av a u, .string k] W fun e w' => e = .returned (.tuple #[sv (findS a k), .bool (findB a k)]) ∧ W.grownBy w' none) := fun W k g h => find_any a u k W (hr.grown g) hz h
  have CK : Hid (∀ W, w.grownBy W none → Calls Try.prog 14 #[av a u] W fun e w' => e = .returned (.bool (chk a)) ∧ W.grownBy w' none) := fun W g => check_any a u W (hr.grown g) hz
  have EQ : ∀ W, _ := fun W => eql_span (findS a x) (findS a z) W
  have NQ : ∀ W, _ := fun W => neq_span (findS a y) (findS a x) W
  have HX : Hid (x.size ≤ 140737488351232) := hx
  have HY : Hid (y.size ≤ 140737488351232) := hy
  have HZ : Hid (z.size ≤ 140737488351232) := hzz
  have RA : Hid (Rat w a u) := hr
  have SZ : Hid (Szm a) := hz
  have MID : Hid (findB a x = true → findB a y = true → findB a z = true → lt y x = false → lt z y = false → seq (findS a x) (findS a z) = true → seq (findS a y) (findS a x) = true) := fun h1 h2 h3 h4 h5 h6 => find_mid h1 h2 h3 h4 h5 h6
  obtain ⟨W0, hW0⟩ : ∃ W0, W0 = w.alloc (.cells (aa a u) 26) := ⟨_, rfl⟩
  have G0 : Hid (w.grownBy W0 none) := by rw [hW0]; exact World.grownBy_alloc _ _ none
  have CA : Hid (∀ W, W0.grownBy W none → W.rangeAt w.heap.size 0 (ac a u)) := fun W g => by rw [hW0] at g; exact (cs_new g).1
  have HW0 : Hid (W0 = _) := hW0
  clear hW0 hr hz hx hy hzz
  go_enter Try.func7, Try.ntmps7
  go_upto_region 1 with fail
  rw [← HW0.out]
  go_upto_region 4 with (first
    | (go_at_call 9; (with_reducible refine (AW.out _).mono ?_); rintro e w1 ⟨rfl, g1⟩)
    | (refine load_a w.heap.size 0 a u rfl (CA.out w1 g1) ?_)
    | (go_at_call 10; (with_reducible refine (FA.out _ x (grown_tr G0.out g1) HX.out).mono ?_); rintro e w2 ⟨rfl, g2⟩))
  have G2 : Hid (W0.grownBy (w2.alloc (.cells (sa (findS a x)) 29)) none) := grown_alloc (grown_tr g1 g2) _
  have X2 : Hid (∀ W, (w2.alloc (.cells (sa (findS a x)) 29)).grownBy W none → W.rangeAt w2.heap.size 0 (sc (findS a x))) := fun W g => (box_s g).1
  clear AW g1 g2
  generalize w2.alloc (.cells (sa (findS a x)) 29) = v2 at *
  generalize w2.heap.size = q2 at *
  go_upto_region 5 with (first
    | (refine load_a w.heap.size 0 a u rfl (CA.out v2 G2.out) ?_)
    | (go_at_call 10; (with_reducible refine (FA.out _ z (grown_tr G0.out G2.out) HZ.out).mono ?_); rintro e w3 ⟨rfl, g3⟩))
  have G3 : Hid (v2.grownBy (w3.alloc (.cells (sa (findS a z)) 29)) none) := grown_alloc g3 _
  have X3 : Hid (∀ W, (w3.alloc (.cells (sa (findS a z)) 29)).grownBy W none → W.rangeAt w3.heap.size 0 (sc (findS a z))) := fun W g => (box_s g).1
  clear g3
  generalize w3.alloc (.cells (sa (findS a z)) 29) = v3 at *
  generalize w3.heap.size = q3 at *
  go_upto_region 6 with (first
    | (refine load_a w.heap.size 0 a u rfl (CA.out v3 (grown_tr G2.out G3.out)) ?_)
    | (go_at_call 10; (with_reducible refine (FA.out _ y (grown_tr G0.out (grown_tr G2.out G3.out)) HY.out).mono ?_); rintro e w4 ⟨rfl, g4⟩))
  have G4 : Hid (v3.grownBy (w4.alloc (.cells (sa (findS a y)) 29)) none) := grown_alloc g4 _
  have X4 : Hid ((w4.alloc (.cells (sa (findS a y)) 29)).rangeAt w4.heap.size 0 (sc (findS a y))) := (box_s (grown_refl _ _)).1
  clear g4
  generalize w4.alloc (.cells (sa (findS a y)) 29) = v4 at *
  generalize w4.heap.size = q4 at *
  have R2 : Hid (v4.rangeAt q2 0 (sc (findS a x))) := X2.out v4 (grown_tr G3.out G4.out)
  have R3 : Hid (v4.rangeAt q3 0 (sc (findS a z))) := X3.out v4 G4.out
  have GW : Hid (W0.grownBy v4 none) := grown_tr G2.out (grown_tr G3.out G4.out)
  clear X2 X3 G2 G3 G4
  have BX : findB a x = false → chk a = false ∨ named x = false := fun h => by unfold findB at h; cases h1 : named x <;> simp_all
  have FO : Hid (chk a = false → findB a x = false ∧ findB a y = false ∧ findB a z = false) := fun h => by unfold findB; rw [h]; simp
  clear BX
  generalize findB a x = bx at *
  generalize findB a y = by_ at *
  generalize findB a z = bz at *
  generalize findS a x = sx at *
  generalize findS a y = sy at *
  generalize findS a z = sz at *
  go_cut [64] from 38 to 64 (fun t64 wx => t64 = .bool false ∧ wx = v4)
  case first =>
    clear CK FA RA SZ FO
    cases bx with
    | false =>
      go_wp2_with (first | (refine load_sg q2 0 sx (by rfl) rfl R2.out ?_) | (refine load_sg q3 0 sz (by rfl) rfl R3.out ?_) | (refine load_sg q4 0 sy (by rfl) rfl X4.out ?_))
      go_meet
      exact ⟨by first | rfl | simp, rfl⟩
    | true =>
      cases bz with
      | false =>
        go_wp2_with (first | (refine load_sg q2 0 sx (by rfl) rfl R2.out ?_) | (refine load_sg q3 0 sz (by rfl) rfl R3.out ?_) | (refine load_sg q4 0 sy (by rfl) rfl X4.out ?_))
        go_meet
        exact ⟨by first | rfl | simp, rfl⟩
      | true =>
        cases by_ with
        | false =>
          go_wp2_with (first | (refine load_sg q2 0 sx (by rfl) rfl R2.out ?_) | (refine load_sg q3 0 sz (by rfl) rfl R3.out ?_) | (refine load_sg q4 0 sy (by rfl) rfl X4.out ?_))
          go_meet
          exact ⟨by first | rfl | simp, rfl⟩
        | true =>
          rcases tri x y with ⟨h1, p1, p2⟩ | ⟨h1, p1⟩ | ⟨h1, p1, p2⟩
          · go_wp2_with (first | (refine load_sg q2 0 sx (by rfl) rfl R2.out ?_) | (refine load_sg q3 0 sz (by rfl) rfl R3.out ?_) | (refine load_sg q4 0 sy (by rfl) rfl X4.out ?_))
            go_meet
            exact ⟨by first | rfl | simp, rfl⟩
          · rcases tri y z with ⟨h2, p3, p4⟩ | ⟨h2, p3⟩ | ⟨h2, p3, p4⟩
            · go_wp2_with (first | (refine load_sg q2 0 sx (by rfl) rfl R2.out ?_) | (refine load_sg q3 0 sz (by rfl) rfl R3.out ?_) | (refine load_sg q4 0 sy (by rfl) rfl X4.out ?_))
              go_meet
              exact ⟨by first | rfl | simp, rfl⟩
            · cases h6 : seq sx sz with
              | false =>
                rw [h6] at EQ
                go_wp2_with (first | (refine load_sg q2 0 sx (by rfl) rfl R2.out ?_) | (refine load_sg q3 0 sz (by rfl) rfl R3.out ?_) | (refine load_sg q4 0 sy (by rfl) rfl X4.out ?_))
                go_meet
                exact ⟨by first | rfl | simp, rfl⟩
              | true =>
                rw [h6] at EQ
                have h7 := MID.out rfl rfl rfl h1 h2 h6
                rw [h7] at NQ
                clear h7 MID
                go_wp2_with (first | (refine load_sg q2 0 sx (by rfl) rfl R2.out ?_) | (refine load_sg q3 0 sz (by rfl) rfl R3.out ?_) | (refine load_sg q4 0 sy (by rfl) rfl X4.out ?_))
                go_meet
                exact ⟨by first | rfl | simp, rfl⟩
            · cases h6 : seq sx sz with
              | false =>
                rw [h6] at EQ
                go_wp2_with (first | (refine load_sg q2 0 sx (by rfl) rfl R2.out ?_) | (refine load_sg q3 0 sz (by rfl) rfl R3.out ?_) | (refine load_sg q4 0 sy (by rfl) rfl X4.out ?_))
                go_meet
                exact ⟨by first | rfl | simp, rfl⟩
              | true =>
                rw [h6] at EQ
                have h7 := MID.out rfl rfl rfl h1 h2 h6
                rw [h7] at NQ
                clear h7 MID
                go_wp2_with (first | (refine load_sg q2 0 sx (by rfl) rfl R2.out ?_) | (refine load_sg q3 0 sz (by rfl) rfl R3.out ?_) | (refine load_sg q4 0 sy (by rfl) rfl X4.out ?_))
                go_meet
                exact ⟨by first | rfl | simp, rfl⟩
          · rcases tri y z with ⟨h2, p3, p4⟩ | ⟨h2, p3⟩ | ⟨h2, p3, p4⟩
            · go_wp2_with (first | (refine load_sg q2 0 sx (by rfl) rfl R2.out ?_) | (refine load_sg q3 0 sz (by rfl) rfl R3.out ?_) | (refine load_sg q4 0 sy (by rfl) rfl X4.out ?_))
              go_meet
              exact ⟨by first | rfl | simp, rfl⟩
            · cases h6 : seq sx sz with
              | false =>
                rw [h6] at EQ
                go_wp2_with (first | (refine load_sg q2 0 sx (by rfl) rfl R2.out ?_) | (refine load_sg q3 0 sz (by rfl) rfl R3.out ?_) | (refine load_sg q4 0 sy (by rfl) rfl X4.out ?_))
                go_meet
                exact ⟨by first | rfl | simp, rfl⟩
              | true =>
                rw [h6] at EQ
                have h7 := MID.out rfl rfl rfl h1 h2 h6
                rw [h7] at NQ
                clear h7 MID
                go_wp2_with (first | (refine load_sg q2 0 sx (by rfl) rfl R2.out ?_) | (refine load_sg q3 0 sz (by rfl) rfl R3.out ?_) | (refine load_sg q4 0 sy (by rfl) rfl X4.out ?_))
                go_meet
                exact ⟨by first | rfl | simp, rfl⟩
            · cases h6 : seq sx sz with
              | false =>
                rw [h6] at EQ
                go_wp2_with (first | (refine load_sg q2 0 sx (by rfl) rfl R2.out ?_) | (refine load_sg q3 0 sz (by rfl) rfl R3.out ?_) | (refine load_sg q4 0 sy (by rfl) rfl X4.out ?_))
                go_meet
                exact ⟨by first | rfl | simp, rfl⟩
              | true =>
                rw [h6] at EQ
                have h7 := MID.out rfl rfl rfl h1 h2 h6
                rw [h7] at NQ
                clear h7 MID
                go_wp2_with (first | (refine load_sg q2 0 sx (by rfl) rfl R2.out ?_) | (refine load_sg q3 0 sz (by rfl) rfl R3.out ?_) | (refine load_sg q4 0 sy (by rfl) rfl X4.out ?_))
                go_meet
                exact ⟨by first | rfl | simp, rfl⟩
  case rest =>
    obtain ⟨rfl, rfl⟩ := hcut
    have CKK := CK.out wc (grown_tr G0.out GW.out)
    cases hc : chk a with
    | false =>
      obtain ⟨f1, f2, _⟩ := FO.out hc
      rw [hc] at CKK
      clear FO MID EQ NQ FA
      go_wp2_with (first
        | (refine load_a w.heap.size 0 a u rfl (CA.out wc GW.out) ?_)
        | (go_at_call 14; (with_reducible refine CKK.mono ?_); rintro e w6 ⟨rfl, g6⟩))
      go_ret
      exact ⟨ret_bool (by simp), grown_below (grown_tr G0.out (grown_tr GW.out g6))⟩
    | true =>
      have RG := chk_is.1 hc
      rw [hc] at CKK
      have FF : Hid (∀ (i : Nat) (v : Sp), a.l[i + 1]? = some v → findB a v.fr = true ∧ findS a v.fr = v) := fun i v h => find_from RG h
      have FS : Hid (∀ v ∈ a.l, v.fr.size ≤ 140737488351232) := fun v hv => (SZ.out.1 v hv).1
      have N1 : 1 ≤ a.l.length := RG.n1
      have N16 : a.l.length ≤ 16 := RG.n16
      clear FO MID EQ NQ RG hc R2 R3 X4
      have NV := fun (s : Sp) (W : World) => neq_span s s W
      obtain ⟨ua, un, uc⟩ := u
      have hn : un = a.l.length := RA.out.2.1
      have RX : Hid (∀ W, W0.grownBy W none → eS.Rx W (.slice ua un uc) a.l) := fun W g => RA.out.1.grown (grown_tr G0.out g)
      obtain ⟨N, hN⟩ : ∃ N, a.l.length = N := ⟨_, rfl⟩
      have NL : Hid (a.l.length = N) := hN
      rw [hN] at hn N1 N16
      subst hn
      try simp only at CKK CA FA RX
      clear hN RA SZ
      go_upto_region 11 with (first
        | (refine load_a w.heap.size 0 a _ rfl (CA.out wc GW.out) ?_)
        | (go_at_call 14; (with_reducible refine CKK.mono ?_); rintro e w6 ⟨rfl, g6⟩))
      have G6 : Hid (W0.grownBy w6 none) := grown_tr GW.out g6
      clear CKK CK g6
      go_loopw [15, 16, 17] (fun i _ _ wr => ∃ j : Nat, 1 ≤ j ∧ j ≤ un ∧ i = .int .i64 (j : Int) ∧ Hid (W0.grownBy wr none)) (fun i _ _ _ => un - (intOf i).toNat)
      case atStart => exact ⟨1, by omega, N1, rfl, G6⟩
      case round =>
        clear G6
        obtain ⟨j, hj1, hj, rfl, G⟩ := hrel
        have a2 := (cells_a (CA.out wr G.out)).2.2.1
        by_cases hlt : j < un
        · obtain ⟨s, hy⟩ : ∃ y, a.l[j]? = some y := ⟨_, List.getElem?_eq_getElem (by rw [NL.out]; exact hlt)⟩
          obtain ⟨i, rfl⟩ : ∃ i, j = i + 1 := ⟨j - 1, by omega⟩
          obtain ⟨fb, fs⟩ := FF.out i s hy
          have HYY : Hid (a.l[i + 1]? = some s) := hy
          have FK : Hid (∀ W, W0.grownBy W none → Calls Try.prog 10 #[av a ⟨ua, un, uc⟩, .string s.fr] W fun e w' => e = .returned (.tuple #[sv s, .bool true]) ∧ W.grownBy w' none) := fun W g => by
            have := FA.out W s.fr (grown_tr G0.out g) (FS.out s (List.mem_of_getElem? hy))
            rwa [fb, fs] at this
          obtain ⟨g, o, ea, r1⟩ := range_at (RX.out wr G.out) hy
          have GB : Hid (W0.grownBy (wr.alloc (.cells #[.string ⟨#[]⟩, .string ⟨#[]⟩, .int .i64 0, .int .i64 0, .int .i64 0] 29)).drew none) := grown_drew (grown_alloc G.out _)
          have SS : Hid (∀ W, W0.grownBy W none → W.rangeAt g (o + (i + 1) * 5) (sc s)) := fun W gr => by
            have k := RX.out W gr
            rw [ea] at k
            exact range_in k hy
          have s0 := (cells_s (SS.out wr G.out)).1
          have t0 := (cells_s (SS.out _ GB.out)).1
          have YS : Hid (∀ {W : World}, ((wr.alloc (.cells #[.string ⟨#[]⟩, .string ⟨#[]⟩, .int .i64 0, .int .i64 0, .int .i64 0] 29)).drew).grownBy W none → Cs W wr.heap.size (sc Atl.zS)) := fun {W} g => cs_new (grown_tr (grown_drew (grown_refl _ _)) g)
          obtain ⟨a0, a1, a2', a3, a4, a5, a6, a7, a8, a9, a10⟩ := cells_a (CA.out wr G.out)
          obtain ⟨b0, b1, b2, b3, b4, b5, b6, b7, b8, b9, b10⟩ := cells_a (CA.out _ GB.out)
          subst ea
          clear hy r1 fb fs FF a2'
          have hlt' : ((i : Int) + 1) < (un : Int) := by omega
          have h0 : 0 ≤ (i : Int) + 1 := by omega
          have hnat : ((i : Int) + 1).toNat = i + 1 := by omega
          go_upto_region 13 with fail
          go_cut [16, 17] from 85 to 95 (fun t16 t17 wx => ∃ q2, t16 = .pointer (some ⟨q2, 0, none⟩) ∧ t17 = .bool true ∧ Hid (W0.grownBy wx none ∧ wx.rangeAt q2 0 (sc s)))
          case first =>
            go_region_with (first | (go_at_call 10; (with_reducible refine (FK.out _ ?_).mono ?_); (first | exact grown_drew G.out | exact GB.out); rintro e w8 ⟨rfl, g8⟩; first | (have gg := grown_tr (grown_drew G.out) g8) | (have gg := grown_tr GB.out g8; have y := YS.out g8; obtain ⟨y0, y1, y2, y3, y4⟩ := cells_s (s := Atl.zS) y.1; have fz := y.2)))
            all_goals
              go_wp2_with fail
              go_meet
              first
                | (refine ⟨w8.heap.size, rfl, rfl, ?_⟩; exact ⟨grown_alloc gg _, (cs_new (C := sa s) (t := 29) (grown_refl _ _)).1⟩)
                | (refine ⟨wr.heap.size, rfl, rfl, ?_⟩; exact ⟨grown_more gg (grown_setCells wr.heap.size (sc s) 0 w8) (fun k e => .inr (by injection e with e; have := G.out.size; omega)), ((YS.out g8).sets (sc s) rfl).1⟩)
          case rest =>
            obtain ⟨q2', rfl, rfl, CF⟩ := hcut
            have NVV := NV s
            rw [seq_self] at NVV
            obtain ⟨z0, z1, z2, z3, z4⟩ := cells_s CF.out.2
            obtain ⟨x0, x1, x2, x3, x4⟩ := cells_s (SS.out _ CF.out.1)
            have c2 := (cells_a (CA.out _ CF.out.1)).2.2.1
            clear a0 a1 a3 a4 a5 a6 a7 a8 a9 a10 b0 b1 b2 b3 b4 b5 b6 b7 b8 b9 b10 s0 t0 YS GB NV a2 FK
            go_wp2_with fail
            go_quiet (fail)
            go_wp2_with fail
            go_roundw
            case rel => exact ⟨i + 1 + 1, by omega, by omega, by go_num, grown_drewN CF.out.1 _⟩
            case measure => simp [intOf]; omega
        · go_wp2_with fail
          go_ret
          exact ⟨rfl, grown_below (grown_tr G0.out G.out)⟩
end atlasFinds

end Go.Proofs.Ytkidhnlombhhnaa
