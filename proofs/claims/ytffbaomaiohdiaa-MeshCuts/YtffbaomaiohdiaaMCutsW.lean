/- While two are cut nothing between them is delivered, nothing of it lost: the statement's walk. -/
import Derived.Test.YtffbaomaiohdiaaMCutsM
import Derived.Deep.CutBlock
import Derived.Deep.CutRange
import Derived.Deep.RegionHeld3
namespace Go.Proofs.Ytffbaomaiohdiaa
open Go.RowKit Msh
set_option linter.unusedVariables false

theorem bt_yes {pk : Pk} {x1 x2 pa pb : Int} (hB : bt x1 x2 pk = ((x1 == pa && x2 == pb) || (x1 == pb && x2 == pa))) (h : (pa = x1 ∧ pb = x2) ∨ (pa = x2 ∧ pb = x1)) : bt x1 x2 pk = true := by
  rw [hB]
  rcases h with ⟨rfl, rfl⟩ | ⟨rfl, rfl⟩ <;> simp
theorem bt_no {pk : Pk} {x1 x2 pa pb : Int} (hB : bt x1 x2 pk = ((x1 == pa && x2 == pb) || (x1 == pb && x2 == pa))) (h : ¬ ((pa = x1 ∧ pb = x2) ∨ (pa = x2 ∧ pb = x1))) : bt x1 x2 pk = false := by
  rw [hB, Bool.eq_false_iff]
  intro hc
  simp at hc
  omega
theorem bt_not {pk : Pk} {x1 x2 : Int} (h : bt x1 x2 pk = false) : ¬ ((pk.fm = x1 ∧ pk.tt = x2) ∨ (pk.fm = x2 ∧ pk.tt = x1)) := by
  unfold bt same at h
  rw [Bool.eq_false_iff] at h
  intro hc
  apply h
  simp
  omega
namespace meshCuts
set_option maxRecDepth 100000 in
set_option maxHeartbeats 12800000 in
theorem walk (w : World) (v0 : Value) (o0 : ∃ os, Sc w v0 os) (x1 : Int) (wx1 : (Lit.int .i64 x1).wf = true) (x2 : Int) (wx2 : (Lit.int .i64 x2).wf = true) : Calls Try.prog 5 #[v0, .int .i64 x1, .int .i64 x2] w fun e w' => e = .returned (.bool true) ∧ Below w.heap.size w w' := by
  have I1 := i64_of wx1
  have I2 := i64_of wx2
  clear wx1 wx2
  obtain ⟨os, hS, hL, hE⟩ := o0
  have hnot : ∀ (x : Bool) (w : World), (Op.unary .not (.bool x)).run Try.prog w = .ok (.bool (!x)) w := fun _ _ => rfl
  have AW := awake_any
  obtain ⟨ad, cp, hv⟩ := hS.form
  subst hv
  obtain ⟨n, hn⟩ : ∃ n, os.length = n := ⟨_, rfl⟩
  rw [hn] at hS hL
  have HS : Hid (eD.Rx w (.slice ad n cp) os) := hS
  have HE : Hid (∀ o ∈ os, o.body.size ≤ 140737488351232 ∧ I64 o.a ∧ I64 o.b ∧ I64 o.kd) := hE
  have HN : Hid (os.length = n) := hn
  rw [hn]
  clear hn hS hE
  go_enter Try.func5, Try.ntmps5
  go_upto_block 0 with (first
    | (go_at_call 7; (with_reducible refine (AW _).mono ?_); rintro e w1 ⟨rfl, K1⟩)
    | (go_at_call 8; (with_reducible refine (duo_new (W := w) K1).mono ?_); rintro e w2 ⟨b, rfl, d2⟩))
  clear AW K1
  go_cut [8, 9, 10, 11, 12] from 28 to 97 (fun x8 x9 _ _ _ wx => ∃ (l : List Pk) (nn : Nat), l.length ≤ 400 ∧ x8 = .int .i64 ((l.countP (bt x1 x2) : Nat) : Int) ∧ x9 = .int .i64 ((l.length : Int) - (l.countP (bt x1 x2) : Nat)) ∧ Hid (Duo w wx b ⟨l, nn, []⟩ Alone))
  case first =>
    go_wp2_with fail
    go_loopw [8, 9, 10] (fun x8 x9 i wr => ∃ (j : Nat) (l : List Pk) (nn : Nat), j ≤ n ∧ j ≤ 400 ∧ nn ≤ j ∧ l.length ≤ j ∧ i = .int .i64 j ∧ x8 = .int .i64 ((l.countP (bt x1 x2) : Nat) : Int) ∧ x9 = .int .i64 ((l.length : Int) - (l.countP (bt x1 x2) : Nat)) ∧ Hid (Duo w wr b ⟨l, nn, []⟩ Alone)) (fun _ _ i _ => (500 - intOf i).toNat)
    case atStart => exact ⟨0, [], 0, by omega, by omega, by omega, by simp, rfl, rfl, rfl, d2⟩
    case round =>
      obtain ⟨j, l, nn, hj1, hj2, hnn, hl, rfl, rfl, rfl, D⟩ := hrel
      by_cases hgo : j < n ∧ j < 400
      · obtain ⟨hlt, h4⟩ := hgo
        obtain ⟨p, hp⟩ : ∃ p, os[j]? = some p := ⟨_, List.getElem?_eq_getElem (by rw [HN.out]; exact hlt)⟩
        obtain ⟨g, o, c, hv, hr⟩ := range_do (HS.out.grown D.out.base) hp
        obtain ⟨hbd, hpa, hpb, hpk⟩ := HE.out p (List.mem_of_getElem? hp)
        injection hv with hv1 hv2 hv3
        subst hv1
        obtain ⟨kd, pa, pb, body⟩ := p
        have RW : Hid (∀ W, w.grownBy W none → W.cell? ⟨g, o + j * 4 + 1, none⟩ = some (.int .i64 pa) ∧ W.cell? ⟨g, o + j * 4 + 2, none⟩ = some (.int .i64 pb) ∧ W.cell? ⟨g, o + j * 4 + 3, none⟩ = some (.string body)) := fun W hg => by
          obtain ⟨g', o', c', hv', hr'⟩ := range_do (HS.out.grown hg) hp
          injection hv' with hv1 hv2 hv3
          injection hv1 with hv1
          injection hv1 with hg1 ho1
          subst hg1 ho1
          exact ⟨hr' 1 _ rfl, hr' 2 _ rfl, hr' 3 _ rfl⟩
        simp only at hbd hpa hpb hpk
        obtain ⟨r1, r2, r3⟩ := RW.out wr D.out.base
        have D0 : Duo w wr.drew b ⟨l, nn, []⟩ Alone := D.out.grown kept_alone (grown_drew (grown_refl _ none))
        have SD := duo_send kept_alone D0 (by show nn ≤ _; omega) pa pb body hbd hpa hpb
        clear hp hr hv2 hv3 D
        rcases send_free (s := ⟨l, nn, []⟩) (fm := pa) (tt := pb) (body := body) (by show l.length ≤ 400; omega) with ⟨y0, x0, z0⟩ | ⟨y0, x0, z0⟩
        · rw [y0, x0, z0] at SD
          clear y0 x0 z0
          generalize hPK : (⟨(nn : Int) + 1, pa, pb, body⟩ : Pk) = pk at SD
          have hfm : pk.fm = pa := by rw [← hPK]
          have htt : pk.tt = pb := by rw [← hPK]
          clear hPK
          have CT : (l ++ [pk]).countP (bt x1 x2) = l.countP (bt x1 x2) + (if bt x1 x2 pk = true then 1 else 0) := by
            rw [List.countP_append]
            congr 1
            rw [List.countP_cons]
            simp
          have hcl : l.countP (bt x1 x2) ≤ l.length := List.countP_le_length
          have REL : Hid (∀ (f : Bool) (W : World), bt x1 x2 pk = f → Duo w W b ⟨l ++ [pk], nn + 1, []⟩ Alone → ∀ u8 u9 : Int, u8 = (l.countP (bt x1 x2) : Nat) + (if f = true then 1 else 0) → u9 = (l.length : Int) - (l.countP (bt x1 x2) : Nat) + (if f = true then 0 else 1) →
              ∃ (j' : Nat) (l' : List Pk) (nn' : Nat), j' ≤ n ∧ j' ≤ 400 ∧ nn' ≤ j' ∧ l'.length ≤ j' ∧ Value.int .i64 ((j : Int) + 1) = .int .i64 (j' : Int) ∧ Value.int .i64 u8 = .int .i64 ((l'.countP (bt x1 x2) : Nat) : Int) ∧ Value.int .i64 u9 = .int .i64 ((l'.length : Int) - (l'.countP (bt x1 x2) : Nat)) ∧ Hid (Duo w W b ⟨l', nn', []⟩ Alone)) := fun f W hf d u8 u9 h8 h9 => by
            rw [hf] at CT
            refine ⟨j + 1, l ++ [pk], nn + 1, by omega, by omega, by omega, by simp; omega, by go_num, ?_, ?_, d⟩
            · rw [CT, h8]; congr 1; push_cast; cases f <;> simp
            · rw [CT, h9, List.length_append]; congr 1; push_cast; cases f <;> simp <;> omega
          clear CT
          have BT : bt x1 x2 pk = ((x1 == pa && x2 == pb) || (x1 == pb && x2 == pa)) := by unfold bt same; rw [hfm, htt]
          clear hfm htt
          have HB : Hid (bt x1 x2 pk = ((x1 == pa && x2 == pb) || (x1 == pb && x2 == pa))) := BT
          clear BT
          generalize l.countP (bt x1 x2) = CB at *
          go_upto_region 9 with fail
          go_region_held3 (fun W => W.cell? ⟨g, o + j * 4 + 1, none⟩ = some (.int .i64 pa) ∧ W.cell? ⟨g, o + j * 4 + 2, none⟩ = some (.int .i64 pb) ∧ W.cell? ⟨g, o + j * 4 + 3, none⟩ = some (.string body))
            (first | (exact ⟨r1, r2, r3⟩) | (exact ⟨s1, s2, s3⟩))
            (first | (go_at_call 9; (with_reducible refine SD.mono ?_); rintro e w4 ⟨rfl, D4⟩; obtain ⟨s1, s2, s3⟩ := RW.out w4 D4.base))
          by_cases h1 : pa = x1
          · have e1 : (pa == x1) = true := by simpa using h1
            by_cases h2 : pb = x2
            · have e2 : (pb == x2) = true := by simpa using h2
              have FB : Hid (bt x1 x2 pk = true) := bt_yes HB.out (by omega)
              clear h1 h2
              go_wp2_with fail
              go_roundw
              case rel => exact REL.out true w4 FB.out D4 _ _ (by simp) (by simp)
              case measure => simp [intOf]; omega
            · have e2 : (pb == x2) = false := by simpa using h2
              by_cases h3 : pa = x2
              · have e3 : (pa == x2) = true := by simpa using h3
                by_cases h4 : pb = x1
                · have e4 : (pb == x1) = true := by simpa using h4
                  have FB : Hid (bt x1 x2 pk = true) := bt_yes HB.out (by omega)
                  clear h1 h2 h3 h4
                  go_wp2_with fail
                  go_roundw
                  case rel => exact REL.out true w4 FB.out D4 _ _ (by simp) (by simp)
                  case measure => simp [intOf]; omega
                · have e4 : (pb == x1) = false := by simpa using h4
                  have FB : Hid (bt x1 x2 pk = false) := bt_no HB.out (by omega)
                  clear h1 h2 h3 h4
                  go_wp2_with fail
                  go_roundw
                  case rel => exact REL.out false w4 FB.out D4 _ _ (by simp) (by simp)
                  case measure => simp [intOf]; omega
              · have e3 : (pa == x2) = false := by simpa using h3
                have FB : Hid (bt x1 x2 pk = false) := bt_no HB.out (by omega)
                clear h1 h2 h3
                go_wp2_with fail
                go_roundw
                case rel => exact REL.out false w4 FB.out D4 _ _ (by simp) (by simp)
                case measure => simp [intOf]; omega
          · have e1 : (pa == x1) = false := by simpa using h1
            by_cases h3 : pa = x2
            · have e3 : (pa == x2) = true := by simpa using h3
              by_cases h4 : pb = x1
              · have e4 : (pb == x1) = true := by simpa using h4
                have FB : Hid (bt x1 x2 pk = true) := bt_yes HB.out (by omega)
                clear h1 h3 h4
                go_wp2_with fail
                go_roundw
                case rel => exact REL.out true w4 FB.out D4 _ _ (by simp) (by simp)
                case measure => simp [intOf]; omega
              · have e4 : (pb == x1) = false := by simpa using h4
                have FB : Hid (bt x1 x2 pk = false) := bt_no HB.out (by omega)
                clear h1 h3 h4
                go_wp2_with fail
                go_roundw
                case rel => exact REL.out false w4 FB.out D4 _ _ (by simp) (by simp)
                case measure => simp [intOf]; omega
            · have e3 : (pa == x2) = false := by simpa using h3
              have FB : Hid (bt x1 x2 pk = false) := bt_no HB.out (by omega)
              clear h1 h3
              go_wp2_with fail
              go_roundw
              case rel => exact REL.out false w4 FB.out D4 _ _ (by simp) (by simp)
              case measure => simp [intOf]; omega
        · rw [y0, x0, z0] at SD
          clear y0 x0 z0
          generalize hCB : l.countP (bt x1 x2) = CB at *
          have HCB : Hid (l.countP (bt x1 x2) = CB) := hCB
          clear hCB
          go_upto_region 9 with fail
          go_region_held3 (fun W => W.cell? ⟨g, o + j * 4 + 1, none⟩ = some (.int .i64 pa) ∧ W.cell? ⟨g, o + j * 4 + 2, none⟩ = some (.int .i64 pb) ∧ W.cell? ⟨g, o + j * 4 + 3, none⟩ = some (.string body))
            (first | (exact ⟨r1, r2, r3⟩) | (exact ⟨s1, s2, s3⟩))
            (first | (go_at_call 9; (with_reducible refine SD.mono ?_); rintro e w4 ⟨rfl, D4⟩; obtain ⟨s1, s2, s3⟩ := RW.out w4 D4.base))
          go_wp2_with fail
          go_roundw
          case rel => exact ⟨j + 1, l, nn, by omega, by omega, by omega, by omega, by go_num, by rw [HCB.out], by rw [HCB.out], D4⟩
          case measure => simp [intOf]; omega
      · by_cases hlt : j < n
        · have h4 : ¬ j < 400 := fun c => hgo ⟨hlt, c⟩
          have h4' : decide ((j : Int) < 400) = false := decide_eq_false (by omega)
          go_wp2_with fail
          go_meet
          exact ⟨l, nn, by omega, rfl, rfl, D⟩
        · have h5' : decide ((j : Int) < (n : Int)) = false := decide_eq_false (by omega)
          go_wp2_with fail
          go_meet
          exact ⟨l, nn, by omega, rfl, rfl, D⟩
  case rest =>
    obtain ⟨l, nn, hl4, rfl, rfl, D⟩ := hcut
    clear d2 HS HE HN hL
    have hcl : l.countP (bt x1 x2) ≤ l.length := List.countP_le_length
    obtain ⟨B, hB⟩ : ∃ B, l.countP (bt x1 x2) = B := ⟨_, rfl⟩
    obtain ⟨O, hO⟩ : ∃ O, l.length = B + O := ⟨l.length - B, by omega⟩
    have hxO : (l.length : Int) - (B : Int) = (O : Int) := by omega
    have hO4 : O ≤ 400 := by omega
    have hB4 : B ≤ 400 := by omega
    rw [hB, hxO]
    have CU : Calls _ _ _ _ _ := duo_cut kept_alone D.out x1 x2 I1 I2 (by simp)
    rw [cutL_nil] at CU
    clear hxO
    go_upto_block 2 with (go_at_call 19; (with_reducible refine CU.mono ?_); rintro e w3 ⟨rfl, D3⟩)
    clear CU D
    go_wp2_with fail
    go_loopw [13] (fun i wr => ∃ (j : Nat) (L : List Pk), j ≤ O ∧ i = .int .i64 (j : Int) ∧ Hid (L.countP (bt x1 x2) = B ∧ L.length + j = B + O) ∧ Hid (Duo w wr b ⟨L, nn, [(x1, x2)]⟩ Alone)) (fun i _ => (O - intOf i).toNat)
    case atStart => exact ⟨0, l, by omega, rfl, (⟨hB, by omega⟩ : _ ∧ _), D3⟩
    case round =>
      obtain ⟨j, L, hj, rfl, HL, D⟩ := hrel
      clear D3 hB hO hcl hl4
      by_cases hlt : j < O
      · obtain ⟨i, p, hp, hbp, hNB, hNP, hNS, hc', hl'⟩ := nx_some (l := L) (n := nn) (a := x1) (b := x2) (by have := HL.out; omega)
        have NX := duo_next kept_alone D.out
        rw [hNB, hNP, hNS] at NX
        have hx := bt_not hbp
        have REL : Hid ((L.eraseIdx i).countP (bt x1 x2) = B ∧ (L.eraseIdx i).length + (j + 1) = B + O) := by have := HL.out; constructor <;> omega
        clear hp hbp hNB hNP hNS hc' hl' HL D
        generalize L.eraseIdx i = L' at *
        obtain ⟨pi, pa, pb, body⟩ := p
        simp only at hx
        have FIN : ∀ {W : World}, Duo w W b ⟨L', nn, [(x1, x2)]⟩ Alone → Duo w (W.alloc (.cells #[.int .i64 pi, .int .i64 pa, .int .i64 pb, .string body] 37)) b ⟨L', nn, [(x1, x2)]⟩ Alone := fun d => d.grown kept_alone (World.grownBy_alloc _ _ none)
        by_cases h1 : pa = x1
        · have e1 : (pa == x1) = true := by simpa using h1
          have e2 : (pb == x2) = false := by simp; omega
          by_cases h3 : pa = x2
          · have e3 : (pa == x2) = true := by simpa using h3
            have e4 : (pb == x1) = false := by simp; omega
            clear h1 h3 hx
            go_wp2_with (go_at_call 13; (with_reducible refine NX.mono ?_); rintro e w4 ⟨rfl, D4⟩)
            go_roundw
            case rel => exact ⟨j + 1, L', by omega, by go_num, REL, FIN D4⟩
            case measure => simp [intOf]; omega
          · have e3 : (pa == x2) = false := by simpa using h3
            clear h1 h3 hx
            go_wp2_with (go_at_call 13; (with_reducible refine NX.mono ?_); rintro e w4 ⟨rfl, D4⟩)
            go_roundw
            case rel => exact ⟨j + 1, L', by omega, by go_num, REL, FIN D4⟩
            case measure => simp [intOf]; omega
        · have e1 : (pa == x1) = false := by simpa using h1
          by_cases h3 : pa = x2
          · have e3 : (pa == x2) = true := by simpa using h3
            have e4 : (pb == x1) = false := by simp; omega
            clear h1 h3 hx
            go_wp2_with (go_at_call 13; (with_reducible refine NX.mono ?_); rintro e w4 ⟨rfl, D4⟩)
            go_roundw
            case rel => exact ⟨j + 1, L', by omega, by go_num, REL, FIN D4⟩
            case measure => simp [intOf]; omega
          · have e3 : (pa == x2) = false := by simpa using h3
            clear h1 h3 hx
            go_wp2_with (go_at_call 13; (with_reducible refine NX.mono ?_); rintro e w4 ⟨rfl, D4⟩)
            go_roundw
            case rel => exact ⟨j + 1, L', by omega, by go_num, REL, FIN D4⟩
            case measure => simp [intOf]; omega
      · obtain rfl : j = O := by omega
        have hLB : L.countP (bt x1 x2) = L.length := by have := HL.out; omega
        have hlB : L.length = B := by have := HL.out; omega
        have OKL : Hid (L.Pairwise fun p q => p.id < q.id) := D.out.ok.rise
        have NX := duo_next kept_alone D.out
        rw [(nx_none (n := nn) hLB).1, (nx_none (n := nn) hLB).2] at NX
        have FL : ∀ {W}, Duo w W b ⟨L, nn, [(x1, x2)]⟩ Alone → Calls Try.prog 24 #[.pointer (some ⟨b, 0, none⟩)] W fun e w' => ∃ ad c, e = .returned (.slice ad B c) ∧ Duo w w' b ⟨L, nn, [(x1, x2)]⟩ (RowR (.slice ad B c) L) := fun {W} d => by
          have := duo_flight_row d
          simp only [hlB] at this
          exact this
        generalize nxtP ⟨L, nn, [(x1, x2)]⟩ = q0 at NX
        have HLB : Hid (L.countP (bt x1 x2) = L.length) := hLB
        have HlB : Hid (L.length = B) := hlB
        have GA : ∀ {W : World} (o : Obj), Duo w W b ⟨L, nn, [(x1, x2)]⟩ Alone → Duo w (W.alloc o) b ⟨L, nn, [(x1, x2)]⟩ Alone := fun o d => d.grown kept_alone (World.grownBy_alloc _ _ none)
        have hBB : ((B : Int) != (B : Int)) = false := by simp
        clear hLB hlB HL D
        go_upto_block 4 with (first
          | (go_at_call 13; (with_reducible refine NX.mono ?_); rintro e w4 ⟨rfl, D4⟩)
          | (go_at_call 24; (with_reducible refine (FL (GA _ D4)).mono ?_); rintro e w5 ⟨a5, c5, rfl, D5⟩))
        clear FL NX GA D4
        go_wp2_with fail
        go_loopw [19] (fun i wr => ∃ k : Nat, k ≤ B ∧ i = .int .i64 (k : Int) ∧ Hid (Duo w wr b ⟨L, nn, [(x1, x2)]⟩ (RowR (.slice a5 B c5) L))) (fun i _ => (B - intOf i).toNat)
        case atStart => exact ⟨0, by omega, rfl, D5⟩
        case round =>
          obtain ⟨k, hk, rfl, D⟩ := hrel
          clear D5
          by_cases hlt : k < B
          · obtain ⟨p, hp⟩ : ∃ p, L[k]? = some p := ⟨_, List.getElem?_eq_getElem (by rw [HlB.out]; exact hlt)⟩
            obtain ⟨g5, c5', hv5, hc0, _⟩ := D.out.row.at_ hp
            injection hv5 with e1 e2 e3
            subst e1
            have y0 : wr.cell? ⟨g5, k * 4, none⟩ = some (.int .i64 p.id) := hc0 0 _ rfl
            have DV := duo_deliver (kept_row _ _) D.out p.id
            have hd := dlv_none' (n := nn) OKL.out HLB.out p.id
            unfold dlvP dlvS at DV
            rw [hd, if_neg (by simp), if_neg (by simp)] at DV
            clear hp hc0 e2 e3 hd D
            go_wp2_with (go_at_call 11; (with_reducible refine DV.mono ?_); rintro e w6 ⟨rfl, D6⟩)
            go_roundw
            case rel => exact ⟨k + 1, by omega, by go_num, D6.grown (kept_row _ _) (World.grownBy_alloc _ _ none)⟩
            case measure => simp [intOf]; omega
          · obtain rfl : k = B := by omega
            have JO := duo_join (kept_row _ _) D.out x2 x1 I2 I1
            simp only [join_one] at JO
            clear D
            go_upto_block 6 with (go_at_call 21; (with_reducible refine JO.mono ?_); rintro e w7 ⟨rfl, D7⟩)
            clear JO
            go_wp2_with fail
            go_loopw [22] (fun i wr => ∃ m : Nat, m ≤ k ∧ i = .int .i64 (m : Int) ∧ Hid (Duo w wr b ⟨L.drop m, nn, []⟩ (RowR (.slice a5 k c5) L))) (fun i _ => (k - intOf i).toNat)
            case atStart => exact ⟨0, by omega, rfl, D7⟩
            case round =>
              obtain ⟨m, hm, rfl, D⟩ := hrel
              clear D7
              by_cases hlt2 : m < k
              · have hml : m < L.length := by rw [HlB.out]; exact hlt2
                have hp : L[m]? = some (L[m]'hml) := List.getElem?_eq_getElem hml
                have hdr : L.drop m = L[m]'hml :: L.drop (m + 1) := List.drop_eq_getElem_cons hml
                generalize L[m]'hml = p at *
                obtain ⟨g5, c5', hv5, hc0, _⟩ := D.out.row.at_ hp
                have HRW : Hid (∀ {W}, Duo w W b ⟨L.drop (m + 1), nn, []⟩ (RowR (.slice a5 k c5) L) → W.rangeAt g5 (m * 4) (eP.enc p)) := fun {W} d => by
                  obtain ⟨g6, c6', hv6, hc6, _⟩ := d.row.at_ hp
                  rw [hv5] at hv6
                  injection hv6 with f1 f2 f3
                  injection f1 with f1
                  injection f1 with f1
                  subst f1
                  exact hc6
                injection hv5 with e1 e2 e3
                subst e1
                have NX := duo_next (kept_row _ _) D.out
                rw [hdr] at NX
                rw [(nx_free (p := p) (r := L.drop (m + 1)) (n := nn)).1, (nx_free (p := p) (r := L.drop (m + 1)) (n := nn)).2.1, (nx_free (p := p) (r := L.drop (m + 1)) (n := nn)).2.2] at NX
                have NQ := neq_pk p
                have GA : ∀ {W : World} (o : Obj), Duo w W b ⟨L.drop (m + 1), nn, []⟩ (RowR (.slice (some ⟨g5, 0, none⟩) k c5) L) → Duo w (W.alloc o) b ⟨L.drop (m + 1), nn, []⟩ (RowR (.slice (some ⟨g5, 0, none⟩) k c5) L) := fun o d => d.grown (kept_row _ _) (World.grownBy_alloc _ _ none)
                clear hp hc0 e2 e3 hdr D hml
                obtain ⟨L2, hL2⟩ : ∃ L2, L.drop (m + 1) = L2 := ⟨_, rfl⟩
                have HL2 : Hid (L.drop (m + 1) = L2) := hL2
                rw [hL2] at NX HRW
                simp only [hL2] at GA
                clear hL2
                go_upto_region 36 with (go_at_call 13; (with_reducible refine NX.mono ?_); rintro e w8 ⟨rfl, D8⟩)
                have D9 := GA (.cells #[.int .i64 p.id, .int .i64 p.fm, .int .i64 p.tt, .string p.body] 37) D8
                have R9 := HRW.out D9
                have q9 := range_new w8 p 37 rfl
                generalize w8.heap.size = q8 at *
                generalize w8.alloc (.cells #[.int .i64 p.id, .int .i64 p.fm, .int .i64 p.tt, .string p.body] 37) = w9 at *
                have z0 : w9.cell? ⟨g5, m * 4, none⟩ = some (.int .i64 p.id) := R9 0 _ rfl
                have z1 : w9.cell? ⟨g5, m * 4 + 1, none⟩ = some (.int .i64 p.fm) := R9 1 _ rfl
                have z2 : w9.cell? ⟨g5, m * 4 + 2, none⟩ = some (.int .i64 p.tt) := R9 2 _ rfl
                have z3 : w9.cell? ⟨g5, m * 4 + 3, none⟩ = some (.string p.body) := R9 3 _ rfl
                have k0 : w9.cell? ⟨q8, 0, none⟩ = some (.int .i64 p.id) := q9 0 _ rfl
                have k1 : w9.cell? ⟨q8, 1, none⟩ = some (.int .i64 p.fm) := q9 1 _ rfl
                have k2 : w9.cell? ⟨q8, 2, none⟩ = some (.int .i64 p.tt) := q9 2 _ rfl
                have k3 : w9.cell? ⟨q8, 3, none⟩ = some (.string p.body) := q9 3 _ rfl
                clear NX HRW GA D8 R9 q9
                refine region_still (by kernel_rfl) (by kernel_rfl) ?_
                iterate 10 still_step
                refine wpStill_nil ?_
                go_wp2_with fail
                go_roundw
                case rel => exact ⟨m + 1, by omega, by go_num, (by rw [HL2.out]; exact D9.grown (kept_row _ _) (grown_drew (grown_refl _ none)) : Duo w w9.drew b ⟨L.drop (m + 1), nn, []⟩ (RowR (.slice (some ⟨g5, 0, none⟩) k c5) L))⟩
                case measure => simp [intOf]; omega
              · obtain rfl : m = k := by omega
                have FL := duo_flight (kept_row _ _) D.out
                have hd0 : L.drop m = [] := List.drop_eq_nil_of_le (by rw [HlB.out]; exact Nat.le_refl _)
                simp only [hd0, List.length_nil] at FL
                clear D
                go_wp2_with (go_at_call 24; (with_reducible refine FL.mono ?_); rintro e w9 ⟨a9, c9, rfl, hO9, hg9, D9⟩)
                go_ret
                exact ⟨rfl, grown_below D9.base⟩
end meshCuts
end Go.Proofs.Ytffbaomaiohdiaa
