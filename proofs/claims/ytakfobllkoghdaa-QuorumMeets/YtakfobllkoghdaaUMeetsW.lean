/- Sets that win meet: the statement's walk. -/
import Derived.Test.YtakfobllkoghdaaUArgs
namespace Go.Proofs.Ytakfobllkoghdaa
open Go.RowKit Quo
set_option linter.unusedVariables false

set_option maxRecDepth 100000 in
set_option maxHeartbeats 1600000 in
theorem shared_any (v0 v1 v2 : Value) (c a b : List Int) (w : World) (hc : eK.Rx w v0 c) (hcl : c.length ≤ 9223372036854775807) (ha : eK.Rx w v1 a) (hal : a.length ≤ 9223372036854775807) (hb : eK.Rx w v2 b) (hbl : b.length ≤ 9223372036854775807) :
    Calls Try.prog 20 #[v0, v1, v2] w fun e w' => e = .returned (.bool (meet c a b)) ∧ w' = w := by
  have HA := fun x => rhas_any v1 a x w ha hal
  have HB := fun x => rhas_any v2 b x w hb hbl
  obtain ⟨ad, cp, hv⟩ := hc.form
  subst hv
  obtain ⟨aa, ca, hv⟩ := ha.form
  subst hv
  obtain ⟨ab, cb, hv⟩ := hb.form
  subst hv
  obtain ⟨N, hN⟩ : ∃ N, c.length = N := ⟨_, rfl⟩
  have NL : Hid (c.length = N) := hN
  generalize a.length = na at *
  generalize b.length = nb at *
  rw [hN] at hc hcl ⊢
  have H : Hid (eK.Rx w (.slice ad N cp) c) := hc
  clear hc ha hb hN
  generalize hB : meet c a b = B
  have MB : Hid (meet c a b = B) := hB
  clear hB
  have tokA : True := trivial
  go_enter Try.func20, Try.ntmps20
  go_wp2_with fail
  go_loopw [7] (fun i wr => ∃ j : Nat, j ≤ N ∧ i = .int .i64 (j : Int) ∧ Hid (meet (c.take j) a b = false) ∧ wr = w) (fun i _ => N - (intOf i).toNat)
  case atStart => exact ⟨0, by omega, rfl, (rfl : meet (c.take 0) a b = false), rfl⟩
  case round =>
    obtain ⟨j, hj, rfl, I, rfl⟩ := hrel
    by_cases hlt : j < N
    · obtain ⟨y, hy⟩ : ∃ y, c[j]? = some y := ⟨_, List.getElem?_eq_getElem (by rw [NL.out]; exact hlt)⟩
      obtain ⟨g, o, rfl, y0⟩ := at_k H.out hy
      have HA1 := HA y
      have HB1 := HB y
      have MT := meet_take (a := a) (b := b) hy
      rw [I.out, Bool.false_or] at MT
      have YM : Hid (has a y = true → has b y = true → meet c a b = true) := fun h1 h2 => List.any_eq_true.2 ⟨y, List.mem_of_getElem? hy, by rw [h1, h2]; rfl⟩
      cases h1 : has a y <;> cases h2 : has b y
      case true.true =>
        have E : Hid (true = B) := by rw [← MB.out]; exact (YM.out h1 h2).symm
        rw [h1] at HA1
        rw [h2] at HB1
        clear HA HB MT hy YM I
        go_wp2_with (first
          | (have _t := tokA; go_at_call 22; (with_reducible refine HA1.mono ?_); rintro e w1 ⟨rfl, rfl⟩; clear tokA)
          | (go_at_call 22; (with_reducible refine HB1.mono ?_); rintro e w1 ⟨rfl, rfl⟩))
        go_ret
        exact ⟨by rw [← E.out]; rfl, rfl⟩
      all_goals
        rw [h1, h2] at MT
        have I2 : Hid (meet (c.take (j + 1)) a b = false) := MT
        rw [h1] at HA1
        rw [h2] at HB1
        clear HA HB MT hy YM I
        go_wp2_with (first
          | (have _t := tokA; go_at_call 22; (with_reducible refine HA1.mono ?_); rintro e w1 ⟨rfl, rfl⟩; clear tokA)
          | (go_at_call 22; (with_reducible refine HB1.mono ?_); rintro e w1 ⟨rfl, rfl⟩))
        go_roundw
        case rel => exact ⟨j + 1, by omega, by go_num, I2, trivial⟩
        case measure => simp [intOf]; omega
    · have E : Hid (false = B) := by
        have := I.out
        rw [List.take_of_length_le (by rw [NL.out]; omega)] at this
        rw [← MB.out]
        exact this.symm
      clear HA HB I
      go_wp2_with fail
      go_ret
      exact ⟨by rw [← E.out]; rfl, rfl⟩
namespace quorumMeets
set_option maxRecDepth 100000 in
set_option maxHeartbeats 6400000 in
theorem walk (w : World) (v0 : Value) (o0 : ∃ l, Tk w v0 l) (v1 : Value) (o1 : ∃ l, Tk w v1 l) (v2 : Value) (o2 : ∃ l, Tk w v2 l) (x3 : Int) (wx3 : (Lit.int .i64 x3).wf = true) (x4 : Int) (wx4 : (Lit.int .i64 x4).wf = true) :
    Calls Try.prog 5 #[v0, v1, v2, .int .i64 x3, .int .i64 x4] w fun e w' => e = .returned (.bool true) ∧ Below w.heap.size w w' := by
  obtain ⟨c, hc, hcl, _⟩ := o0
  obtain ⟨a, ha, hal, _⟩ := o1
  obtain ⟨b, hb, hbl, _⟩ := o2
  have AW := awake_any w
  have W1 : ∀ W, w.grownBy W none → _ := fun W g => wins_any v0 v1 c a W (hc.grown g) hcl (ha.grown g) hal
  have W2 : ∀ W, w.grownBy W none → _ := fun W g => wins_any v0 v2 c b W (hc.grown g) hcl (hb.grown g) hbl
  have SH : ∀ W, w.grownBy W none → _ := fun W g => shared_any v0 v1 v2 c a b W (hc.grown g) hcl (ha.grown g) hal (hb.grown g) hbl
  obtain ⟨E, hE⟩ : ∃ E, nxE c x3 x4 = E := ⟨_, rfl⟩
  obtain ⟨L, hL⟩ : ∃ L, nxL c x3 x4 = L := ⟨_, rfl⟩
  have LL : L.length ≤ 9223372036854775807 := by
    rw [← hL]
    unfold nxL nxB
    split
    · rename_i h
      simp only [Bool.and_eq_true] at h
      have := ((chk_iff _).1 h.2).2.1
      omega
    · simp
  have N1 : ∀ W, w.grownBy W none → _ := fun W g => next_is (w := W) (hc.grown g) hcl hE hL
  have W3 : Hid (∀ W V, w.grownBy W none → eK.Rx W V L → Calls Try.prog 12 #[V, v2] W fun e w' => e = .returned (.bool (wins L b)) ∧ w' = W) := fun W V g hV => wins_any V v2 L b W hV LL (hb.grown g) hbl
  have M1 : Hid (wins c a = true → wins c b = true → meet c a b = true) := meet_one
  have M2 : Hid ((x3 = 0 ∨ x4 = 0) → E = 0 → wins c a = true → wins L b = true → meet c a b = true) := fun h0 h1 h2 h3 => by
    have hn : nxB c x3 x4 = true := by
      cases h : nxB c x3 x4 with
      | true => rfl
      | false => rw [← hE] at h1; unfold nxE at h1; rw [h] at h1; cases h1
    have hl : L = out c x3 x4 := by rw [← hL]; unfold nxL; rw [hn]; rfl
    rw [hl] at h3
    exact meet_next h0 hn h2 h3
  have E01 : E = 0 ∨ E = 1 := by rw [← hE]; unfold nxE; split <;> simp
  obtain ⟨aa, ca, hv⟩ := hc.form
  subst hv
  obtain ⟨ab, cb, hv⟩ := ha.form
  subst hv
  obtain ⟨aq, cq, hv⟩ := hb.form
  subst hv
  generalize c.length = n0 at *
  generalize a.length = n1 at *
  generalize b.length = n2 at *
  clear hc ha hb hE hL wx3 wx4 LL
  generalize hB3 : wins L b = B3 at *
  generalize hB1 : wins c a = B1 at *
  generalize hB2 : wins c b = B2 at *
  generalize hM : meet c a b = MM at *
  clear hB3 hB1 hB2 hM
  have tokA : True := trivial
  obtain ⟨z3, h3⟩ : ∃ z, (x3 != 0) = z := ⟨_, rfl⟩
  obtain ⟨z4, h4⟩ : ∃ z, (x4 != 0) = z := ⟨_, rfl⟩
  have MZ : Hid ((z3 = false ∨ z4 = false) → E = 0 → B1 = true → B3 = true → MM = true) := fun h => M2.out (h.imp (fun e => by rw [e] at h3; simpa using h3) (fun e => by rw [e] at h4; simpa using h4))
  clear M2
  cases B1 <;> cases B2 <;> cases MM
  case true.true.false => cases M1.out rfl rfl
  all_goals
    clear M1
    cases z3 <;> cases z4
    all_goals
      rcases E01 with rfl | rfl
      all_goals
        cases B3
        all_goals first
          | (exfalso; refine Bool.noConfusion (MZ.out ?_ rfl rfl rfl); first | exact Or.inl rfl | exact Or.inr rfl)
          | (clear MZ
             go_enter Try.func5, Try.ntmps5
             go_wp2_with (first
               | (go_at_call 9; (with_reducible refine AW.mono ?_); rintro e w1 ⟨rfl, hg1⟩)
               | (go_at_call 12; (with_reducible refine (W1 _ hg1).mono ?_); rintro e w2 ⟨rfl, rfl⟩)
               | (go_at_call 12; (with_reducible refine (W2 _ hg1).mono ?_); rintro e w2 ⟨rfl, rfl⟩)
               | (go_at_call 12; (with_reducible refine (W3.out _ _ hg1 X2).mono ?_); rintro e w2 ⟨rfl, rfl⟩)
               | (go_at_call 20; (with_reducible refine (SH _ hg1).mono ?_); rintro e w2 ⟨rfl, rfl⟩)
               | (go_at_call 15; (with_reducible refine (N1 _ hg1).mono ?_); rintro e w3 ⟨a3, n3, c3, rfl, hn3, hO3, hg3⟩; have X2 := hO3.rx; have hg1 := grown_tr hg1 hg3))
             go_ret
             exact ⟨rfl, grown_below hg1⟩)
end quorumMeets
end Go.Proofs.Ytakfobllkoghdaa
