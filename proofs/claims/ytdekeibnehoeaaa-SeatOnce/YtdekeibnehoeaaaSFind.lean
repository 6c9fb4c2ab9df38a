/- find: a session's place. -/
import Derived.Test.YtdekeibnehoeaaaSCheck
import Derived.Deep.LoopGhost
namespace Go.Proofs.Ytdekeibnehoeaaa
open Go.RowKit Sea
set_option linter.unusedVariables false
set_option maxRecDepth 10000

def cmpV (x y : Int) : Int := if x < y then -1 else if y < x then 1 else 0
set_option maxRecDepth 100000 in
theorem nan_any (x : Int) (w : World) : Calls Try.prog 31 #[.int .i64 x] w fun e w' => e = .returned (.bool false) ∧ w' = w := by
  go_enter Try.func31, Try.ntmps31
  go_wp2
  go_ret
  exact ⟨by simp, rfl⟩
set_option maxRecDepth 100000 in
theorem cmp_any (x y : Int) (w : World) : Calls Try.prog 28 #[.int .i64 x, .int .i64 y] w fun e w' => e = .returned (.int .i64 (cmpV x y)) ∧ w' = w := by
  have NA := nan_any
  unfold cmpV
  by_cases h1 : x < y
  · rw [if_pos h1]
    go_enter Try.func28, Try.ntmps28
    go_wp2_with (go_at_call 31; (with_reducible refine (NA _ _).mono ?_); rintro e w2 ⟨rfl, rfl⟩)
    all_goals (go_ret; exact ⟨rfl, rfl⟩)
  · rw [if_neg h1]
    by_cases h2 : y < x
    · rw [if_pos h2]
      go_enter Try.func28, Try.ntmps28
      go_wp2_with (go_at_call 31; (with_reducible refine (NA _ _).mono ?_); rintro e w2 ⟨rfl, rfl⟩)
      all_goals (go_ret; exact ⟨rfl, rfl⟩)
    · rw [if_neg h2]
      go_enter Try.func28, Try.ntmps28
      go_wp2_with (go_at_call 31; (with_reducible refine (NA _ _).mono ?_); rintro e w2 ⟨rfl, rfl⟩)
      all_goals (go_ret; exact ⟨rfl, rfl⟩)
set_option maxRecDepth 100000 in
theorem fc_any (p : Sn × S3) (id : Int) (w : World) : Calls Try.prog 27 #[sv p.1 p.2, .int .i64 id] w fun e w' => e = .returned (.int .i64 (cmpV p.1.cl id)) ∧ w.grownBy w' none := by
  have CM := cmp_any p.1.cl id
  go_enter Try.func27, Try.ntmps27
  go_wp2_with (go_at_call 28; (with_reducible refine (CM _).mono ?_); rintro e w2 ⟨rfl, rfl⟩)
  go_ret
  exact ⟨rfl, World.grownBy_alloc w _ none⟩
set_option maxRecDepth 100000 in
set_option maxHeartbeats 1600000 in
theorem bsf_any (v : Value) (l : List (Sn × S3)) (id : Int) (w : World) (hX : eS.Rx w v l) (hr : l.Pairwise fun p q => p.1.cl < q.1.cl) (hl : l.length ≤ 4096) :
    Calls Try.prog 26 #[v, .int .i64 id, .func (.func 27) #[] #[]] w fun e w' => e = .returned (.tuple #[.int .i64 (pos (fun x : Sn × S3 => x.1.cl) l id : Nat), .bool (there (fun x : Sn × S3 => x.1.cl) l id)]) ∧ w.grownBy w' none := by
  have FC := fun p => fc_any p id
  have HX : Aside (∀ W, w.grownBy W none → eS.Rx W v l) := fun W g => hX.grown g
  have G0 : Aside (w.grownBy w none) := grown_refl _ _
  obtain ⟨ad, cp, hv⟩ := hX.form
  clear hX
  subst hv
  generalize hcnt : pos (fun x : Sn × S3 => x.1.cl) l id = cnt
  have CN : Aside (pos (fun x : Sn × S3 => x.1.cl) l id = cnt) := hcnt
  generalize hfin : there (fun x : Sn × S3 => x.1.cl) l id = fin
  have FIN : Aside (there (fun x : Sn × S3 => x.1.cl) l id = fin) := hfin
  have RI : Aside (l.Pairwise fun p q => p.1.cl < q.1.cl) := hr
  clear hcnt hfin hr
  generalize hn : l.length = n at *
  have LN : Aside (l.length = n) := hn
  clear hn
  go_enter Try.func26, Try.ntmps26
  go_wp2
  go_loopg [9, 10] n (fun kx s9 s10 wr => ∃ lo hi : Nat, s9 = .int .i64 lo ∧ s10 = .int .i64 hi ∧ lo ≤ hi ∧ hi ≤ n ∧ hi - lo ≤ kx ∧ Aside (w.grownBy wr none) ∧ Aside (lo ≤ cnt ∧ cnt ≤ hi))
  case atStart => exact ⟨0, n, rfl, rfl, Nat.zero_le _, Nat.le_refl _, by omega, G0, (⟨Nat.zero_le _, by rw [← CN.out, ← LN.out]; exact pos_le (f := fun x : Sn × S3 => x.1.cl) _ _⟩ : (0:Nat) ≤ cnt ∧ cnt ≤ n)⟩
  case round =>
    clear G0
    obtain ⟨lo, hi, rfl, rfl, hlh, hin, hg, G1, I⟩ := hrel
    by_cases hlt : lo < hi
    · have hm2 : (lo + hi) / 2 < n := by omega
      obtain ⟨p, hp⟩ : ∃ p, l[(lo + hi) / 2]? = some p := ⟨_, List.getElem?_eq_getElem (by rw [LN.out]; exact hm2)⟩
      have hP : Aside (l[(lo + hi) / 2]? = some p) := hp
      obtain ⟨g, o, c, hv, hc⟩ := range_s (HX.out wr G1.out) hp
      injection hv with hv1 hv2 hv3
      subst hv1
      have RG : Aside (wr.rangeAt g (o + (lo + hi) / 2 * 5) (sc p)) := hc
      have PB0 := (pos_before (f := fun x : Sn × S3 => x.1.cl) RI.out (c := id) hp)
      rw [CN.out] at PB0
      have PB : Aside _ := PB0
      clear hp hc hm2 hv2 hv3 PB0
      by_cases hyx : p.1.cl < id
      · have hcm : cmpV p.1.cl id = -1 := by unfold cmpV; rw [if_pos hyx]
        have HY : Aside (p.1.cl < id) := hyx
        clear hyx
        go_wp2_with (first | (refine load_s g (o + (lo + hi) / 2 * 5) p.1 p.2 rfl RG.out ?_) | (go_at_call 27; (with_reducible refine (FC p _).mono ?_); rintro e w2 ⟨rfl, hg2⟩; rw [hcm]))
        go_roundg (hi - ((lo + hi) / 2 + 1))
        case measure => omega
        case rel =>
          have I2 : Aside ((lo + hi) / 2 + 1 ≤ cnt ∧ cnt ≤ hi) := (⟨by have := PB.out.1 HY.out; omega, I.out.2⟩ : _ ∧ _)
          exact ⟨(lo + hi) / 2 + 1, hi, by rw [show ((lo : Int) + (hi : Int)) / 2 + 1 = (((lo + hi) / 2 + 1 : Nat) : Int) by omega], rfl, by omega, hin, Nat.le_refl _, grown_tr G1.out hg2, I2⟩
      · have hcm : 0 ≤ cmpV p.1.cl id := by unfold cmpV; rw [if_neg hyx]; split <;> omega
        have HY : Aside (¬ p.1.cl < id) := hyx
        clear hyx
        go_wp2_with (first | (refine load_s g (o + (lo + hi) / 2 * 5) p.1 p.2 rfl RG.out ?_) | (go_at_call 27; (with_reducible refine (FC p _).mono ?_); rintro e w2 ⟨rfl, hg2⟩))
        go_roundg ((lo + hi) / 2 - lo)
        case measure => omega
        case rel =>
          have I2 : Aside (lo ≤ cnt ∧ cnt ≤ (lo + hi) / 2) := (⟨I.out.1, Nat.le_of_not_lt fun h => by have h1 := PB.out.2 h; have h2 := HY.out; omega⟩ : _ ∧ _)
          exact ⟨lo, (lo + hi) / 2, rfl, by rw [show ((lo : Int) + (hi : Int)) / 2 = (((lo + hi) / 2 : Nat) : Int) by omega], by omega, by omega, Nat.le_refl _, grown_tr G1.out hg2, I2⟩
    · obtain rfl : hi = lo := by omega
      obtain rfl : cnt = hi := by have := I.out; omega
      by_cases hn : cnt < n
      · obtain ⟨p, hp⟩ : ∃ p, l[cnt]? = some p := ⟨_, List.getElem?_eq_getElem (by rw [LN.out]; exact hn)⟩
        have hF : fin = decide (cmpV p.1.cl id = 0) := by
          have h1 := (pos_before (f := fun x : Sn × S3 => x.1.cl) RI.out (c := id) hp)
          rw [CN.out] at h1
          have h2 : ¬ p.1.cl < id := fun h => by have := h1.1 h; omega
          rw [← FIN.out]
          cases ht : there (fun x : Sn × S3 => x.1.cl) l id with
          | true =>
            obtain ⟨q, hq, e⟩ := there_at (f := fun x : Sn × S3 => x.1.cl) RI.out ht
            rw [CN.out, hp] at hq
            injection hq with hq
            subst hq
            have : cmpV p.1.cl id = 0 := by unfold cmpV; rw [if_neg h2, if_neg (by omega)]
            rw [this]
            rfl
          | false =>
            have h3 := there_no (f := fun x : Sn × S3 => x.1.cl) ht p (List.mem_of_getElem? hp)
            have : cmpV p.1.cl id = 1 := by unfold cmpV; rw [if_neg h2, if_pos (by omega)]
            rw [this]
            rfl
        obtain ⟨g, o, c, hv, hc⟩ := range_s (HX.out wr G1.out) hp
        injection hv with hv1 hv2 hv3
        subst hv1
        have x0 := hc 0 _ rfl
        have x1 := hc 1 _ rfl
        have x2 := hc 2 _ rfl
        have x3 := hc 3 _ rfl
        have x4 := hc 4 _ rfl
        simp only [Nat.add_zero] at x0
        have HF : Aside _ := hF
        clear hp hc hv2 hv3 hF
        by_cases hyx : cmpV p.1.cl id = 0
        · go_wp2_with (go_at_call 27; (with_reducible refine (FC p _).mono ?_); rintro e w2 ⟨rfl, hg2⟩)
          go_ret2
          exact ⟨by rw [HF.out, hyx]; rfl, grown_tr G1.out hg2⟩
        · go_wp2_with (go_at_call 27; (with_reducible refine (FC p _).mono ?_); rintro e w2 ⟨rfl, hg2⟩)
          go_ret2
          exact ⟨by rw [HF.out, show decide (cmpV p.1.cl id = 0) = (cmpV p.1.cl id == 0) from rfl]; rfl, grown_tr G1.out hg2⟩
      · have hF : fin = false := by
          rw [← FIN.out]
          cases ht : there (fun x : Sn × S3 => x.1.cl) l id with
          | false => rfl
          | true =>
            obtain ⟨q, hq, e⟩ := there_at (f := fun x : Sn × S3 => x.1.cl) RI.out ht
            rw [CN.out] at hq
            have := (List.getElem?_eq_some_iff.1 hq).1
            rw [LN.out] at this
            omega
        have HF : Aside _ := hF
        clear hF
        go_wp2
        go_ret2
        exact ⟨by rw [HF.out]; rfl, G1.out⟩
set_option maxRecDepth 100000 in
theorem find_any (v : Value) (l : List (Sn × S3)) (id : Int) (w : World) (hX : eS.Rx w v l) (hr : l.Pairwise fun p q => p.1.cl < q.1.cl) (hl : l.length ≤ 4096) :
    Calls Try.prog 19 #[v, .int .i64 id] w fun e w' => e = .returned (.tuple #[.int .i64 (pos (fun x : Sn × S3 => x.1.cl) l id : Nat), .bool (there (fun x : Sn × S3 => x.1.cl) l id)]) ∧ w.grownBy w' none := by
  have BS := bsf_any v l id w hX hr hl
  obtain ⟨ad, cp, hv⟩ := hX.form
  subst hv
  clear hX hr
  generalize pos (fun x : Sn × S3 => x.1.cl) l id = P at *
  generalize there (fun x : Sn × S3 => x.1.cl) l id = T at *
  generalize l.length = N at *
  go_enter Try.func19, Try.ntmps19
  go_wp2_with (go_at_call 26; (with_reducible refine BS.mono ?_); rintro e w2 ⟨rfl, hg2⟩)
  go_ret2
  exact ⟨rfl, hg2⟩
end Go.Proofs.Ytdekeibnehoeaaa
