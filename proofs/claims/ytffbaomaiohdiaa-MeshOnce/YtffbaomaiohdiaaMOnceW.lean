/- Each packet comes once for each time: the statement's walk. -/
import Derived.Test.YtffbaomaiohdiaaMOnceM
import Derived.Deep.CutBlock
import Derived.Deep.CutRange
import Derived.Deep.RegionHeld3
namespace Go.Proofs.Ytffbaomaiohdiaa
open Go.RowKit Msh
set_option linter.unusedVariables false

namespace meshOnce
set_option maxRecDepth 100000 in
set_option maxHeartbeats 12800000 in
theorem walk (w : World) (v0 : Value) (o0 : ∃ os, Sc w v0 os) (v1 : Value) (o1 : ∃ ts, Tw w v1 ts) : Calls Try.prog 4 #[v0, v1] w fun e w' => e = .returned (.bool true) ∧ Below w.heap.size w w' := by
  obtain ⟨os, hS, hL, hE⟩ := o0
  obtain ⟨ts, hT, hTL, hTE⟩ := o1
  have hnot : ∀ (x : Bool) (w : World), (Op.unary .not (.bool x)).run Try.prog w = .ok (.bool (!x)) w := fun _ _ => rfl
  have AW := awake_any
  obtain ⟨ad, cp, hv⟩ := hS.form
  subst hv
  obtain ⟨at_, ct, hv⟩ := hT.form
  subst hv
  obtain ⟨n, hn⟩ : ∃ n, os.length = n := ⟨_, rfl⟩
  rw [hn] at hS hL
  obtain ⟨nt, hnt⟩ : ∃ n, ts.length = n := ⟨_, rfl⟩
  rw [hnt] at hT hTL
  have HS : Hid (eD.Rx w (.slice ad n cp) os) := hS
  have HE : Hid (∀ o ∈ os, o.body.size ≤ 140737488351232 ∧ I64 o.a ∧ I64 o.b ∧ I64 o.kd) := hE
  have HN : Hid (os.length = n) := hn
  have HT : Hid (eK.Rx w (.slice at_ nt ct) ts) := hT
  have HTN : Hid (ts.length = nt) := hnt
  rw [hn, hnt]
  clear hn hS hE hT hnt hTE
  go_enter Try.func4, Try.ntmps4
  go_upto_block 0 with (first
    | (go_at_call 7; (with_reducible refine (AW _).mono ?_); rintro e w1 ⟨rfl, K1⟩)
    | (go_at_call 8; (with_reducible refine (duo_new (W := w) K1).mono ?_); rintro e w2 ⟨b, rfl, d2⟩))
  clear AW K1
  go_cut [6, 7, 8, 9] from 23 to 80 (fun x6 _ _ _ wx => ∃ (l : List Pk) (a6 : Option Addr) (c6 : Nat), x6 = .slice a6 l.length c6 ∧ l.length ≤ 400 ∧ Hid (Num l) ∧ Hid (Duo w wx b ⟨l, l.length, []⟩ (RowR (.slice a6 l.length c6) l)))
  case first =>
    go_wp2_with fail
    go_loopw [6, 7] (fun x6 i wr => ∃ (j : Nat) (l : List Pk) (a6 : Option Addr) (c6 N6 : Nat), j ≤ n ∧ j ≤ 400 ∧ N6 ≤ j ∧ i = .int .i64 j ∧ x6 = .slice a6 N6 c6 ∧ Hid (l.length = N6) ∧ Hid (Num l) ∧ Hid (Duo w wr b ⟨l, l.length, []⟩ (RowR (.slice a6 N6 c6) l))) (fun _ i _ => (500 - intOf i).toNat)
    case atStart => exact ⟨0, [], none, 0, 0, by omega, by omega, by omega, rfl, rfl, rfl, num_nil, d2.withNil⟩
    case round =>
      obtain ⟨j, l, a6, c6, N6, hj1, hj2, hl, rfl, rfl, HL, NU, D⟩ := hrel
      by_cases hgo : j < n ∧ j < 400
      · obtain ⟨hlt, h4⟩ := hgo
        obtain ⟨p, hp⟩ : ∃ p, os[j]? = some p := ⟨_, List.getElem?_eq_getElem (by rw [HN.out]; exact hlt)⟩
        obtain ⟨g, o, c, hv, hr⟩ := range_do (HS.out.grown D.out.base) hp
        obtain ⟨hbd, hpa, hpb, hpk⟩ := HE.out p (List.mem_of_getElem? hp)
        injection hv with hv1 hv2 hv3
        subst hv1
        obtain ⟨kd, pa, pb, body⟩ := p
        have RW : Hid (∀ W, w.grownBy W none → W.cell? ⟨g, o + j * 4 + 1, none⟩ = some (.int .i64 pa) ∧ W.cell? ⟨g, o + j * 4 + 2, none⟩ = some (.int .i64 pb) ∧ W.cell? ⟨g, o + j * 4 + 3, none⟩ = some (.string body)) := fun W hg => by
          obtain ⟨g', o', c', hv', hr'⟩ := range_do (HS.out.grown hg) hp
          injection hv' with hv1 hv2 hv3
          injection hv1 with hv1
          injection hv1 with hg1 ho1
          subst hg1 ho1
          exact ⟨hr' 1 _ rfl, hr' 2 _ rfl, hr' 3 _ rfl⟩
        simp only at hbd hpa hpb hpk
        obtain ⟨r1, r2, r3⟩ := RW.out wr D.out.base
        have D0 : Duo w wr.drew b ⟨l, l.length, []⟩ (RowR (.slice a6 N6 c6) l) := D.out.grown (kept_row _ _) (grown_drew (grown_refl _ none))
        have SD := duo_send (kept_row _ _) D0 (by have := HL.out; show l.length ≤ _; omega) pa pb body hbd hpa hpb
        clear hp hr hv2 hv3 D D0
        rcases send_free (s := ⟨l, l.length, []⟩) (fm := pa) (tt := pb) (body := body) (by have := HL.out; show l.length ≤ 400; omega) with ⟨y0, x0, z0⟩ | ⟨y0, x0, z0⟩
        · rw [y0, x0, z0] at SD
          clear y0 x0 z0
          simp only [HL.out] at SD
          go_upto_region 8 with fail
          go_region_held3 (fun W => W.cell? ⟨g, o + j * 4 + 1, none⟩ = some (.int .i64 pa) ∧ W.cell? ⟨g, o + j * 4 + 2, none⟩ = some (.int .i64 pb) ∧ W.cell? ⟨g, o + j * 4 + 3, none⟩ = some (.string body))
            (first | (exact ⟨r1, r2, r3⟩) | (exact ⟨s1, s2, s3⟩))
            (first | (go_at_call 9; (with_reducible refine SD.mono ?_); rintro e w4 ⟨rfl, D4⟩; obtain ⟨s1, s2, s3⟩ := RW.out w4 D4.base))
          go_upto_region 12 with fail
          clear SD r1 r2 r3
          -- the append
          have D5 : ∀ o, Duo w (w4.drew.alloc o) b ⟨l ++ [⟨(N6 : Int) + 1, pa, pb, body⟩], N6 + 1, []⟩ (RowR (.slice a6 N6 c6) l) := fun o => D4.grown (kept_row _ _) (grown_alloc (grown_drew (grown_refl _ none)) o)
          have OWN1 : Hid (∀ o, eP.Own (w4.drew.alloc o) 0 (.slice a6 N6 c6) l) := fun o => (D5 o).row
          have RX1 : Hid (eP.Rx (w4.drew.alloc (.cells #[.int .i64 ((N6 : Int) + 1), .int .i64 pa, .int .i64 pb, .string body] 37)) (.slice (some ⟨w4.heap.size, 0, none⟩) 1 1) [⟨(N6 : Int) + 1, pa, pb, body⟩]) :=
            Elm.rx_one (E := eP) fun j u hu => by have := range_new w4.drew ⟨(N6 : Int) + 1, pa, pb, body⟩ 37 rfl j u hu; rw [Nat.zero_add] at this; exact this
          have LE : Hid (l.length ≤ 400) := by have := HL.out; show l.length ≤ 400; omega
          have AP : Hid (∀ {o : Obj} {a7 : Option Addr} {n7 c7 : Nat} {w7 : World}, eP.Own w7 0 (.slice a7 n7 c7) (l ++ [⟨(N6 : Int) + 1, pa, pb, body⟩]) → (w4.drew.alloc o).grownBy w7 (Value.slice a6 N6 c6).ownBlock → ((Value.slice a7 n7 c7).ownBlock = (Value.slice a6 N6 c6).ownBlock ∨ (Value.slice a7 n7 c7).ownBlock = some (w4.drew.alloc o).heap.size) → n7 = N6 + 1 ∧ Duo w w7 b ⟨l ++ [⟨(N6 : Int) + 1, pa, pb, body⟩], N6 + 1, []⟩ (RowR (.slice a7 n7 c7) (l ++ [⟨(N6 : Int) + 1, pa, pb, body⟩]))) := fun {o a7 n7 c7 w7} hO hg hl => by
            refine ⟨?_, (D5 o).app hO hg fun k hk => ?_⟩
            · have := hO.len; rw [List.length_append, HL.out] at this; exact this
            · rcases hl with e | e
              · exact .inl (by rw [← e]; exact hk)
              · rw [hk] at e; injection e with e; exact .inr (by omega)
          have G4 := D4.base
          have HLn : Hid ((l ++ [(⟨(N6 : Int) + 1, pa, pb, body⟩ : Pk)]).length = N6 + 1) := by show _ = _; rw [List.length_append, HL.out]; rfl
          have NUn : Hid (Num (l ++ [⟨(N6 : Int) + 1, pa, pb, body⟩])) := num_app NU.out (by rw [HL.out])
          have CV : ∀ {W : World} {R}, Duo w W b ⟨l ++ [⟨(N6 : Int) + 1, pa, pb, body⟩], N6 + 1, []⟩ R → Hid (Duo w W b ⟨l ++ [⟨(N6 : Int) + 1, pa, pb, body⟩], (l ++ [(⟨(N6 : Int) + 1, pa, pb, body⟩ : Pk)]).length, []⟩ R) := fun {W R} d => by
            have e := HLn.out
            rw [e]
            exact d
          go_region_held3 (fun W => W.cell? ⟨g, o + j * 4 + 1, none⟩ = some (.int .i64 pa) ∧ W.cell? ⟨g, o + j * 4 + 2, none⟩ = some (.int .i64 pb) ∧ W.cell? ⟨g, o + j * 4 + 3, none⟩ = some (.string body))
            (first | (exact ⟨s1, s2, s3⟩) | (exact RW.out _ D7.base) | (exact RW.out _ (grown_alloc (grown_drew G4) _)))
            (first | (refine step_of rfl (Elm.wp_append (E := eP) (.tmp 61) (.tmp 79) rfl 0 (.slice a6 N6 c6) l rfl (OWN1.out _) _ [⟨(N6 : Int) + 1, pa, pb, body⟩] rfl RX1.out (by have := LE.out; simp; omega) (by have := LE.out; simp [eP]; omega) (by simp) ?_); intro a7 n7 c7 w7 hO7 hg7 hl7; obtain ⟨hn7, D7⟩ := AP.out hO7 hg7 hl7; subst hn7))
          all_goals
            go_wp2_with fail
            go_roundw
            case rel => exact ⟨j + 1, l ++ [⟨(N6 : Int) + 1, pa, pb, body⟩], a7, c7, N6 + 1, by omega, by omega, by omega, by go_num, rfl, HLn, NUn, CV D7⟩
            case measure => simp [intOf]; omega
        · rw [y0, x0, z0] at SD
          clear y0 x0 z0
          go_upto_region 8 with fail
          go_region_held3 (fun W => W.cell? ⟨g, o + j * 4 + 1, none⟩ = some (.int .i64 pa) ∧ W.cell? ⟨g, o + j * 4 + 2, none⟩ = some (.int .i64 pb) ∧ W.cell? ⟨g, o + j * 4 + 3, none⟩ = some (.string body))
            (first | (exact ⟨r1, r2, r3⟩) | (exact ⟨s1, s2, s3⟩))
            (first | (go_at_call 9; (with_reducible refine SD.mono ?_); rintro e w4 ⟨rfl, D4⟩; obtain ⟨s1, s2, s3⟩ := RW.out w4 D4.base))
          go_wp2_with fail
          go_roundw
          case rel => exact ⟨j + 1, l, a6, c6, N6, by omega, by omega, by omega, by go_num, rfl, HL, NU, D4⟩
          case measure => simp [intOf]; omega
      · have FI : ∃ (l' : List Pk) (a6' : Option Addr) (c6' : Nat), Value.slice a6 N6 c6 = .slice a6' l'.length c6' ∧ l'.length ≤ 400 ∧ Hid (Num l') ∧ Hid (Duo w wr b ⟨l', l'.length, []⟩ (RowR (.slice a6' l'.length c6') l')) := by
          have := HL.out
          subst this
          exact ⟨l, a6, c6, rfl, by omega, NU, D⟩
        have FI : Hid (∃ (l' : List Pk) (a6' : Option Addr) (c6' : Nat), Value.slice a6 N6 c6 = .slice a6' l'.length c6' ∧ l'.length ≤ 400 ∧ Hid (Num l') ∧ Hid (Duo w wr b ⟨l', l'.length, []⟩ (RowR (.slice a6' l'.length c6') l'))) := FI
        clear D
        by_cases hlt : j < n
        · have h4 : ¬ j < 400 := fun c => hgo ⟨hlt, c⟩
          have h4' : decide ((j : Int) < 400) = false := decide_eq_false (by omega)
          go_wp2_with fail
          go_meet
          exact FI.out
        · have h5' : decide ((j : Int) < (n : Int)) = false := decide_eq_false (by omega)
          go_wp2_with fail
          go_meet
          exact FI.out
  case rest =>
    obtain ⟨l, a6, c6, rfl, hl4, NU, D⟩ := hcut
    clear d2 HS HE HN hL
    obtain ⟨N6, hN6⟩ : ∃ N, l.length = N := ⟨_, rfl⟩
    have HL : Hid (l.length = N6) := hN6
    have D1 : Hid (Duo w wc b ⟨l, l.length, []⟩ (RowR (.slice a6 N6 c6) l)) := by rw [← hN6]; exact D
    rw [hN6] at hl4 ⊢
    clear hN6 D
    go_upto_block 2 with fail
    go_cut [6, 10, 11, 12, 13, 14] from 81 to 131 (fun x6 _ _ _ _ _ wx => ∃ (l : List Pk) (a6 : Option Addr) (c6 N6 : Nat), x6 = .slice a6 N6 c6 ∧ N6 ≤ 500 ∧ Hid (l.length = N6) ∧ Hid (Num l) ∧ Hid (Duo w wx b ⟨l, l.length, []⟩ (RowR (.slice a6 N6 c6) l)))
    case first =>
      go_wp2_with fail
      go_loopw [6, 10] (fun x6 i wr => ∃ (j : Nat) (l : List Pk) (a6 : Option Addr) (c6 N6 : Nat), j ≤ nt ∧ j ≤ 100 ∧ N6 ≤ 400 + j ∧ i = .int .i64 j ∧ x6 = .slice a6 N6 c6 ∧ Hid (l.length = N6) ∧ Hid (Num l) ∧ Hid (Duo w wr b ⟨l, l.length, []⟩ (RowR (.slice a6 N6 c6) l))) (fun _ i _ => (500 - intOf i).toNat)
      case atStart => exact ⟨0, l, a6, c6, N6, by omega, by omega, by omega, rfl, rfl, HL, NU, D1⟩
      case round =>
        clear D1 HL NU hl4
        clear a6 c6 N6 l
        obtain ⟨j, l, a6, c6, N6, hj1, hj2, hl, rfl, rfl, HL, NU, D⟩ := hrel
        by_cases hgo : j < nt ∧ j < 100
        · obtain ⟨hlt, h4⟩ := hgo
          obtain ⟨t, ht⟩ : ∃ t, ts[j]? = some t := ⟨_, List.getElem?_eq_getElem (by rw [HTN.out]; exact hlt)⟩
          obtain ⟨gt, ot, ctt, hv, hr⟩ := (HT.out.grown D.out.base).at_ ht
          injection hv with hv1 hv2 hv3
          subst hv1
          have RT : Hid (∀ W, w.grownBy W none → W.cell? ⟨gt, ot + j, none⟩ = some (.int .i64 t)) := fun W hg => by
            obtain ⟨g', o', c', hv', hr'⟩ := (HT.out.grown hg).at_ ht
            injection hv' with hv1 hv2 hv3
            injection hv1 with hv1
            injection hv1 with hg1 ho1
            subst hg1 ho1
            have := hr' 0 _ rfl
            have e1 : eK.size = 1 := rfl
            rw [e1, Nat.mul_one, Nat.add_zero] at this
            exact this
          have r0 := RT.out wr D.out.base
          have DB := duo_double (kept_row _ _) D.out (by have := HL.out; show l.length ≤ _; omega) t
          have hrise : l.Pairwise fun p q => p.id < q.id := D.out.ok.rise
          clear ht hr hv2 hv3
          by_cases hth : ∃ (k : Nat) (p : Pk), l[k]? = some p ∧ p.id = t
          · obtain ⟨k0, p, hp, hid⟩ := hth
            obtain ⟨y0, z0, u0⟩ := dbl_yes (l := l) (cs := []) hrise (by have := HL.out; omega) hp hid
            rw [y0, z0, u0] at DB
            clear y0 z0 u0 hrise D
            simp only [HL.out] at DB
            have hk0 : k0 < N6 := by have := (List.getElem?_eq_some_iff.1 hp).1; rw [HL.out] at this; exact this
            have HP : Hid (l[k0]? = some p) := hp
            have HT0 : Hid (t = (k0 : Int) + 1) := by rw [← hid]; exact NU.out k0 p hp
            clear hp hid
            go_upto_block 4 with (go_at_call 17; (with_reducible refine DB.mono ?_); rintro e w5 ⟨rfl, D5⟩)
            clear DB
            go_cut [6, 13, 14] from 100 to 125 (fun x6 _ _ wx => ∃ (a7 : Option Addr) (c7 : Nat), x6 = .slice a7 (N6 + 1) c7 ∧ Hid (Duo w wx b ⟨l ++ [⟨(N6 : Int) + 1, p.fm, p.tt, p.body⟩], N6 + 1, []⟩ (RowR (.slice a7 (N6 + 1) c7) (l ++ [⟨(N6 : Int) + 1, p.fm, p.tt, p.body⟩]))))
            case first =>
              go_wp2_with fail
              go_loopw [6, 13] (fun x6 i wr => ∃ k : Nat, k ≤ k0 ∧ x6 = .slice a6 N6 c6 ∧ i = .int .i64 (k : Int) ∧ Hid (Duo w wr b ⟨l ++ [⟨(N6 : Int) + 1, p.fm, p.tt, p.body⟩], N6 + 1, []⟩ (RowR (.slice a6 N6 c6) l))) (fun _ i _ => (600 - intOf i).toNat)
              case atStart => exact ⟨0, by omega, rfl, rfl, D5⟩
              case round =>
                clear D5
                obtain ⟨k, hk, rfl, rfl, D6⟩ := hrel
                have hkN : k < N6 := by omega
                obtain ⟨pk, hpk⟩ : ∃ p, l[k]? = some p := ⟨_, List.getElem?_eq_getElem (by rw [HL.out]; exact hkN)⟩
                have hidk := NU.out k pk hpk
                obtain ⟨g6, c6', hv6, hc6, _⟩ := D6.out.row.at_ hpk
                injection hv6 with e1 e2 e3
                subst e1
                have y0 : wr.cell? ⟨g6, k * 4, none⟩ = some (.int .i64 ((k : Int) + 1)) := by rw [← hidk]; exact hc6 0 _ rfl
                have yt := RT.out wr D6.out.base
                by_cases hkk : k < k0
                · have eb : ((k : Int) + 1 == t) = false := by have := HT0.out; simp; omega
                  clear hpk hc6 e2 e3 hidk
                  go_upto_region 20 with fail
                  refine region_still (by kernel_rfl) (by kernel_rfl) ?_
                  iterate 10 still_step
                  refine wpStill_nil ?_
                  go_wp2_with fail
                  go_roundw
                  case rel => exact ⟨k + 1, by omega, rfl, by go_num, D6.out.grown (kept_row _ _) (grown_drew (grown_refl wr none))⟩
                  case measure => simp [intOf]; omega
                · obtain rfl : k = k0 := by omega
                  have eb : ((k : Int) + 1 == t) = true := by have := HT0.out; simp; omega
                  rw [HP.out] at hpk
                  injection hpk with hpk
                  subst hpk
                  have y1 : wr.cell? ⟨g6, k * 4 + 1, none⟩ = some (.int .i64 p.fm) := hc6 1 _ rfl
                  have y2 : wr.cell? ⟨g6, k * 4 + 2, none⟩ = some (.int .i64 p.tt) := hc6 2 _ rfl
                  have y3 : wr.cell? ⟨g6, k * 4 + 3, none⟩ = some (.string p.body) := hc6 3 _ rfl
                  clear hc6 e2 e3 hidk
                  go_upto_region 20 with fail
                  refine region_still (by kernel_rfl) (by kernel_rfl) ?_
                  iterate 10 still_step
                  refine wpStill_nil ?_
                  have GQ : ∀ o1 o2, wr.grownBy ((wr.drew.alloc o1).alloc o2) none := fun o1 o2 => grown_alloc (grown_alloc (grown_drew (grown_refl wr none)) o1) o2
                  have DQ : ∀ o1 o2, Duo w ((wr.drew.alloc o1).alloc o2) b ⟨l ++ [⟨(N6 : Int) + 1, p.fm, p.tt, p.body⟩], N6 + 1, []⟩ (RowR (.slice (some ⟨g6, 0, none⟩) N6 c6) l) := fun o1 o2 => D6.out.grown (kept_row _ _) (GQ o1 o2)
                  have OWN1 : Hid (∀ o1 o2, eP.Own ((wr.drew.alloc o1).alloc o2) 0 (.slice (some ⟨g6, 0, none⟩) N6 c6) l) := fun o1 o2 => (DQ o1 o2).row
                  have RX1 : Hid (∀ o1, eP.Rx ((wr.drew.alloc o1).alloc (.cells #[.int .i64 ((N6 : Int) + 1), .int .i64 p.fm, .int .i64 p.tt, .string p.body] 37)) (.slice (some ⟨wr.heap.size + 1, 0, none⟩) 1 1) [⟨(N6 : Int) + 1, p.fm, p.tt, p.body⟩]) := fun o1 =>
                    Elm.rx_one (E := eP) fun j u hu => by have := range_new (wr.drew.alloc o1) ⟨(N6 : Int) + 1, p.fm, p.tt, p.body⟩ 37 (q := wr.heap.size + 1) (by show _ = (wr.alloc o1).heap.size; simp) j u hu; rw [Nat.zero_add] at this; exact this
                  have LE : Hid (l.length ≤ 500) := by have := HL.out; show l.length ≤ 500; omega
                  have AP : Hid (∀ {o1 o2 : Obj} {a7 : Option Addr} {n7 c7 : Nat} {w7 : World}, eP.Own w7 0 (.slice a7 n7 c7) (l ++ [⟨(N6 : Int) + 1, p.fm, p.tt, p.body⟩]) → ((wr.drew.alloc o1).alloc o2).grownBy w7 (Value.slice (some ⟨g6, 0, none⟩) N6 c6).ownBlock → ((Value.slice a7 n7 c7).ownBlock = (Value.slice (some ⟨g6, 0, none⟩) N6 c6).ownBlock ∨ (Value.slice a7 n7 c7).ownBlock = some ((wr.drew.alloc o1).alloc o2).heap.size) → n7 = N6 + 1 ∧ Duo w w7 b ⟨l ++ [⟨(N6 : Int) + 1, p.fm, p.tt, p.body⟩], N6 + 1, []⟩ (RowR (.slice a7 n7 c7) (l ++ [⟨(N6 : Int) + 1, p.fm, p.tt, p.body⟩]))) := fun {o1 o2 a7 n7 c7 w7} hO hg hl => by
                    refine ⟨?_, (DQ o1 o2).app hO hg fun k hk => ?_⟩
                    · have := hO.len; rw [List.length_append, HL.out] at this; exact this
                    · rcases hl with e | e
                      · exact .inl (by rw [← e]; exact hk)
                      · rw [hk] at e; injection e with e; exact .inr (by omega)
                  clear GQ DQ
                  go_wp2_with (refine Elm.wpList_append (E := eP) rfl (.tmp 122) (.tmp 124) rfl 0 (.slice (some ⟨g6, 0, none⟩) N6 c6) l rfl (OWN1.out _ _) _ [⟨(N6 : Int) + 1, p.fm, p.tt, p.body⟩] rfl (RX1.out _) (by have := LE.out; simp; omega) (by have := LE.out; simp [eP]; omega) (Nat.zero_le _) ?_; intro a7 n7 c7 w7 hO7 hg7 hl7; obtain ⟨hn7, D7⟩ := AP.out hO7 hg7 hl7; subst hn7)
                  go_meet
                  exact ⟨a7, c7, rfl, D7⟩
            case rest =>
              obtain ⟨a7, c7, rfl, D7⟩ := hcut
              clear D5
              have HLn : Hid ((l ++ [(⟨(N6 : Int) + 1, p.fm, p.tt, p.body⟩ : Pk)]).length = N6 + 1) := by show _ = _; rw [List.length_append, HL.out]; rfl
              have NUn : Hid (Num (l ++ [⟨(N6 : Int) + 1, p.fm, p.tt, p.body⟩])) := num_app NU.out (by rw [HL.out])
              have CV : ∀ {W : World} {R}, Duo w W b ⟨l ++ [⟨(N6 : Int) + 1, p.fm, p.tt, p.body⟩], N6 + 1, []⟩ R → Hid (Duo w W b ⟨l ++ [⟨(N6 : Int) + 1, p.fm, p.tt, p.body⟩], (l ++ [(⟨(N6 : Int) + 1, p.fm, p.tt, p.body⟩ : Pk)]).length, []⟩ R) := fun {W R} d => by
                have e := HLn.out
                rw [e]
                exact d
              go_wp2_with fail
              go_roundw
              case rel => exact ⟨j + 1, l ++ [⟨(N6 : Int) + 1, p.fm, p.tt, p.body⟩], a7, c7, N6 + 1, by omega, by omega, by omega, by go_num, rfl, HLn, NUn, CV D7.out⟩
              case measure => simp [intOf]; omega
          · have hno : there l t = false := by
              unfold there
              rw [List.any_eq_false]
              intro p hp hc
              obtain ⟨k, hk⟩ := List.getElem?_of_mem hp
              exact hth ⟨k, p, hk, by simpa using hc⟩
            have HNO : Hid (∀ (k : Nat) (p : Pk), l[k]? = some p → p.id ≠ t) := fun k p hp hc => hth ⟨k, p, hp, hc⟩
            obtain ⟨y0, z0, u0⟩ := dbl_no (s := ⟨l, l.length, []⟩) hno
            rw [y0, z0, u0] at DB
            clear y0 z0 u0 hrise D hno hth
            go_upto_block 4 with (go_at_call 17; (with_reducible refine DB.mono ?_); rintro e w5 ⟨rfl, D5⟩)
            clear DB
            go_cut [6, 13, 14] from 100 to 125 (fun x6 _ _ wx => ∃ q, x6 = .slice a6 N6 c6 ∧ wx = w5.drewN q)
            case first =>
              go_wp2_with fail
              go_loopw [6, 13] (fun x6 i wr => ∃ k q : Nat, k ≤ N6 ∧ x6 = .slice a6 N6 c6 ∧ i = .int .i64 (k : Int) ∧ wr = w5.drewN q) (fun _ i _ => (600 - intOf i).toNat)
              case atStart => exact ⟨0, 0, by omega, rfl, rfl, rfl⟩
              case round =>
                obtain ⟨k, q, hk, rfl, rfl, rfl⟩ := hrel
                by_cases hkN : k < N6
                · obtain ⟨pk, hpk⟩ : ∃ p, l[k]? = some p := ⟨_, List.getElem?_eq_getElem (by rw [HL.out]; exact hkN)⟩
                  have hne := HNO.out k pk hpk
                  obtain ⟨g6, c6', hv6, hc6, _⟩ := D5.row.at_ hpk
                  injection hv6 with e1 e2 e3
                  subst e1
                  have y0 : w5.cell? ⟨g6, k * 4, none⟩ = some (.int .i64 pk.id) := hc6 0 _ rfl
                  have yt := RT.out w5 D5.base
                  have eb : (pk.id == t) = false := by simpa using hne
                  clear hpk hc6 e2 e3 hne
                  go_upto_region 20 with fail
                  refine region_still (by kernel_rfl) (by kernel_rfl) ?_
                  iterate 10 still_step
                  refine wpStill_nil ?_
                  go_wp2_with fail
                  go_roundw
                  case rel => exact ⟨k + 1, q + 1, by omega, rfl, by go_num, by simp⟩
                  case measure => simp [intOf]; omega
                · go_wp2_with fail
                  go_meet
                  exact ⟨q, rfl, rfl⟩
            case rest =>
              obtain ⟨q, rfl, rfl⟩ := hcut
              go_wp2_with fail
              go_roundw
              case rel => exact ⟨j + 1, l, a6, c6, N6, by omega, by omega, by omega, by go_num, rfl, HL, NU, D5.grown (kept_row _ _) (grown_drewN (grown_refl w5 none) q)⟩
              case measure => simp [intOf]; omega
        · by_cases hlt : j < nt
          · have h4 : ¬ j < 100 := fun c => hgo ⟨hlt, c⟩
            have h4' : decide ((j : Int) < 100) = false := decide_eq_false (by omega)
            go_wp2_with fail
            go_meet
            exact ⟨l, a6, c6, N6, rfl, by omega, HL, NU, D⟩
          · have h5' : decide ((j : Int) < (nt : Int)) = false := decide_eq_false (by omega)
            go_wp2_with fail
            go_meet
            exact ⟨l, a6, c6, N6, rfl, by omega, HL, NU, D⟩
    case rest =>
      clear D1 HL NU hl4 HT HTN hTL
      clear a6 c6 N6 l
      obtain ⟨l, a6, c6, N6, rfl, hl5, HL, NU, D⟩ := hcut
      go_upto_block 6 with fail
      go_wp2_with fail
      go_loopw [15] (fun i wr => ∃ m : Nat, m ≤ N6 ∧ i = .int .i64 (m : Int) ∧ Hid (Duo w wr b ⟨l.drop m, l.length, []⟩ (RowR (.slice a6 N6 c6) l))) (fun i _ => (N6 - intOf i).toNat)
      case atStart => exact ⟨0, by omega, rfl, D⟩
      case round =>
        clear D
        obtain ⟨m, hm, rfl, D⟩ := hrel
        by_cases hlt2 : m < N6
        · have hml : m < l.length := by rw [HL.out]; exact hlt2
          have hp : l[m]? = some (l[m]'hml) := List.getElem?_eq_getElem hml
          have hdr : l.drop m = l[m]'hml :: l.drop (m + 1) := List.drop_eq_getElem_cons hml
          have hid := NU.out m _ hp
          generalize l[m]'hml = p at *
          obtain ⟨pi, pa, pb, body⟩ := p
          simp only at hid
          subst hid
          obtain ⟨g5, c5', hv5, hc0, _⟩ := D.out.row.at_ hp
          obtain ⟨L2, hL2⟩ : ∃ L2, l.drop (m + 1) = L2 := ⟨_, rfl⟩
          have HL2 : Hid (l.drop (m + 1) = L2) := hL2
          have HRW : Hid (∀ {W}, Duo w W b ⟨L2, l.length, []⟩ (RowR (.slice a6 N6 c6) l) → W.rangeAt g5 (m * 4) (eP.enc ⟨(m : Int) + 1, pa, pb, body⟩)) := fun {W} d => by
            obtain ⟨g6, c6', hv6, hc6, _⟩ := d.row.at_ hp
            rw [hv5] at hv6
            injection hv6 with f1 f2 f3
            injection f1 with f1
            injection f1 with f1
            subst f1
            exact hc6
          injection hv5 with e1 e2 e3
          subst e1
          have NX := duo_next (kept_row _ _) D.out
          rw [hdr, hL2] at NX
          rw [(nx_free (p := ⟨(m : Int) + 1, pa, pb, body⟩) (r := L2) (n := l.length)).1, (nx_free (p := ⟨(m : Int) + 1, pa, pb, body⟩) (r := L2) (n := l.length)).2.1, (nx_free (p := ⟨(m : Int) + 1, pa, pb, body⟩) (r := L2) (n := l.length)).2.2] at NX
          have NQ := neq_pk ⟨(m : Int) + 1, pa, pb, body⟩
          have GA : ∀ {W : World} (o : Obj), Duo w W b ⟨L2, l.length, []⟩ (RowR (.slice (some ⟨g5, 0, none⟩) N6 c6) l) → Duo w (W.alloc o) b ⟨L2, l.length, []⟩ (RowR (.slice (some ⟨g5, 0, none⟩) N6 c6) l) := fun o d => d.grown (kept_row _ _) (World.grownBy_alloc _ _ none)
          have hbb : (((m : Int) + 1) != ((m : Int) + 1)) = false := by simp
          clear hp hc0 e2 e3 hdr D hml hL2
          go_upto_region 30 with (go_at_call 13; (with_reducible refine NX.mono ?_); rintro e w8 ⟨rfl, D8⟩)
          have D9 := GA (.cells #[.int .i64 ((m : Int) + 1), .int .i64 pa, .int .i64 pb, .string body] 37) D8
          have R9 := HRW.out D9
          have q9 := range_new w8 ⟨(m : Int) + 1, pa, pb, body⟩ 37 rfl
          generalize w8.heap.size = q8 at *
          generalize w8.alloc (.cells #[.int .i64 ((m : Int) + 1), .int .i64 pa, .int .i64 pb, .string body] 37) = w9 at *
          have z0 : w9.cell? ⟨g5, m * 4, none⟩ = some (.int .i64 ((m : Int) + 1)) := R9 0 _ rfl
          have z1 : w9.cell? ⟨g5, m * 4 + 1, none⟩ = some (.int .i64 pa) := R9 1 _ rfl
          have z2 : w9.cell? ⟨g5, m * 4 + 2, none⟩ = some (.int .i64 pb) := R9 2 _ rfl
          have z3 : w9.cell? ⟨g5, m * 4 + 3, none⟩ = some (.string body) := R9 3 _ rfl
          have k0 : w9.cell? ⟨q8, 0, none⟩ = some (.int .i64 ((m : Int) + 1)) := q9 0 _ rfl
          have k1 : w9.cell? ⟨q8, 1, none⟩ = some (.int .i64 pa) := q9 1 _ rfl
          have k2 : w9.cell? ⟨q8, 2, none⟩ = some (.int .i64 pb) := q9 2 _ rfl
          have k3 : w9.cell? ⟨q8, 3, none⟩ = some (.string body) := q9 3 _ rfl
          have hwr : IntKind.i64.wrap ((m : Int) + 1) = (m : Int) + 1 := by rw [IntKind.wrap_i64]; omega
          clear NX HRW GA D8 R9 q9
          refine region_still (by kernel_rfl) (by kernel_rfl) ?_
          iterate 17 still_step
          refine wpStill_nil ?_
          go_wp2_with fail
          go_roundw
          case rel => exact ⟨m + 1, by omega, by go_num, (by rw [HL2.out]; exact D9.grown (kept_row _ _) (grown_drew (grown_refl _ none)) : Duo w w9.drew b ⟨l.drop (m + 1), l.length, []⟩ (RowR (.slice (some ⟨g5, 0, none⟩) N6 c6) l))⟩
          case measure => simp [intOf]; omega
        · obtain rfl : m = N6 := by omega
          have hd0 : l.drop m = [] := List.drop_eq_nil_of_le (by rw [HL.out]; exact Nat.le_refl _)
          have NX := duo_next (kept_row _ _) D.out
          rw [hd0] at NX
          rw [(nx_empty (n := l.length) (cs := [])).1, (nx_empty (n := l.length) (cs := [])).2] at NX
          generalize nxtP ⟨[], l.length, []⟩ = q0 at NX
          have FL : ∀ {W}, Duo w W b ⟨[], l.length, []⟩ (RowR (.slice a6 m c6) l) → Calls Try.prog 24 #[.pointer (some ⟨b, 0, none⟩)] W fun e w' => ∃ ad c, e = .returned (.slice ad 0 c) ∧ Below w.heap.size w w' := fun {W} d => (duo_flight (kept_row _ _) d).mono fun e w' ⟨ad, c, he, _, _, d'⟩ => ⟨ad, c, he, grown_below d'.base⟩
          have GA : ∀ {W : World} (o : Obj), Duo w W b ⟨[], l.length, []⟩ (RowR (.slice a6 m c6) l) → Duo w (W.alloc o) b ⟨[], l.length, []⟩ (RowR (.slice a6 m c6) l) := fun o d => d.grown (kept_row _ _) (World.grownBy_alloc _ _ none)
          clear D hd0
          go_wp2_with (first
            | (go_at_call 13; (with_reducible refine NX.mono ?_); rintro e w8 ⟨rfl, D8⟩)
            | (go_at_call 24; (with_reducible refine (FL (GA _ D8)).mono ?_); rintro e w9 ⟨a9, c9, rfl, hB⟩))
          go_ret
          exact ⟨rfl, hB⟩
end meshOnce
end Go.Proofs.Ytffbaomaiohdiaa
