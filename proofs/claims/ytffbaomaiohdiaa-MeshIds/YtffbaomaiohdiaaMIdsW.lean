/- Ids rise by one: the statement's walk. -/
import Derived.Test.YtffbaomaiohdiaaMArgs
import Derived.Deep.CutBlock
import Derived.Deep.CutRange
namespace Go.Proofs.Ytffbaomaiohdiaa
open Go.RowKit Msh
set_option linter.unusedVariables false

theorem send_n (s : Ms) (fm tt : Int) (body : ByteArray) : (sendE s body = 0 ∧ sendI s body = (s.n : Int) + 1 ∧ (sendS s fm tt body).n = s.n + 1) ∨ (sendE s body ≠ 0 ∧ sendI s body = 0 ∧ (sendS s fm tt body).n = s.n) := by
  unfold sendE sendI sendS entE entI entS
  split
  · exact .inr ⟨by omega, rfl, rfl⟩
  · split
    · exact .inr ⟨by omega, rfl, rfl⟩
    · exact .inl ⟨rfl, rfl, rfl⟩
theorem dbl_n (s : Ms) (id : Int) : (dblE s id = 0 ∧ dblI s id = (s.n : Int) + 1 ∧ (dblS s id).n = s.n + 1) ∨ (dblE s id ≠ 0 ∧ dblI s id = 0 ∧ (dblS s id).n = s.n) := by
  unfold dblE dblI dblS
  split
  · unfold entE entI entS
    split
    · exact .inr ⟨by omega, rfl, rfl⟩
    · exact .inl ⟨rfl, rfl, rfl⟩
  · exact .inr ⟨by omega, rfl, rfl⟩
theorem drop_n (s : Ms) (id : Int) : (dropS s id).n = s.n := by unfold dropS outS; split <;> rfl
theorem nxt_n (s : Ms) : (nxtS s).n = s.n := by unfold nxtS outS; split <;> rfl
namespace meshIds
set_option maxRecDepth 100000 in
set_option maxHeartbeats 6400000 in
theorem walk (w : World) (v0 : Value) (o0 : ∃ os, Sc w v0 os) : Calls Try.prog 6 #[v0] w fun e w' => e = .returned (.bool true) ∧ Below w.heap.size w w' := by
  obtain ⟨os, hS, hL, hE⟩ := o0
  have hnot : ∀ (x : Bool) (w : World), (Op.unary .not (.bool x)).run Try.prog w = .ok (.bool (!x)) w := fun _ _ => rfl
  have AW := awake_any
  obtain ⟨ad, cp, hv⟩ := hS.form
  subst hv
  obtain ⟨n, hn⟩ : ∃ n, os.length = n := ⟨_, rfl⟩
  rw [hn] at hS hL
  have HS : Hid (eD.Rx w (.slice ad n cp) os) := hS
  have HE : Hid (∀ o ∈ os, o.body.size ≤ 140737488351232 ∧ I64 o.a ∧ I64 o.b ∧ I64 o.kd) := hE
  have HN : Hid (os.length = n) := hn
  rw [hn]
  clear hn hS hE
  go_enter Try.func6, Try.ntmps6
  go_wp2_with (first
    | (go_at_call 7; (with_reducible refine (AW _).mono ?_); rintro e w1 ⟨rfl, K1⟩; have tok1 : True := trivial)
    | (go_at_call 8; have _t := tok1; (with_reducible refine (duo_new (W := w) K1).mono ?_); rintro e w2 ⟨b, rfl, d2⟩; clear tok1 _t)
    | (go_at_call 8; (with_reducible refine (duo_beside d2).mono ?_); rintro e w3 ⟨b2, rfl, d3⟩))
  clear AW K1 d2
  go_loopw [5, 6] (fun x i wr => ∃ (j : Nat) (s : Ms), j ≤ n ∧ j ≤ 400 ∧ s.n ≤ j ∧ i = .int .i64 j ∧ x = .int .i64 (s.n : Int) ∧ Hid (Duo w wr b s (fun w G => Me w b2 ⟨[], 0, []⟩ G))) (fun _ i _ => (500 - intOf i).toNat)
  case atStart => exact ⟨0, ⟨[], 0, []⟩, by omega, by omega, by simp, rfl, rfl, d3⟩
  case round =>
    obtain ⟨j, s, hj1, hj2, hsn, rfl, rfl, D⟩ := hrel
    have KM := kept_me b2 ⟨[], 0, []⟩
    by_cases hgo : j < n ∧ j < 400
    · obtain ⟨hlt, h4⟩ := hgo
      obtain ⟨p, hp⟩ : ∃ p, os[j]? = some p := ⟨_, List.getElem?_eq_getElem (by rw [HN.out]; exact hlt)⟩
      obtain ⟨g, o, c, hv, hr⟩ := range_do (HS.out.grown D.out.base) hp
      obtain ⟨hbd, hpa, hpb, hpk⟩ := HE.out p (List.mem_of_getElem? hp)
      injection hv with hv1 hv2 hv3
      subst hv1
      obtain ⟨kd, pa, pb, body⟩ := p
      have RG : Hid (wr.rangeAt g (o + j * 4) (eD.enc ⟨kd, pa, pb, body⟩)) := hr
      clear hp hr hv2 hv3
      simp only at hbd hpa hpb hpk
      have D0 : Duo w (wr.alloc (.cells #[.int .i64 kd, .int .i64 pa, .int .i64 pb, .string body] 32)) b s (fun w G => Me w b2 ⟨[], 0, []⟩ G) := D.out.grown KM (World.grownBy_alloc _ _ none)
      have hs1 : s.n ≤ 1000000 := by omega
      go_upto_block 2 with (refine load_do g (o + j * 4) ⟨kd, pa, pb, body⟩ rfl RG.out ?_)
      go_cut [5, 8, 9, 10, 11] from 34 to 104 (fun x5 _ _ _ _ wx => ∃ s' : Ms, x5 = .int .i64 (s'.n : Int) ∧ s'.n ≤ j + 1 ∧ Hid (Duo w wx b s' (fun w G => Me w b2 ⟨[], 0, []⟩ G)))
      case first =>
        clear D
        by_cases hk : kd = 0 ∨ kd = 5 ∨ kd = 6
        · have SD : ∀ {W}, Duo w W b s (fun w G => Me w b2 ⟨[], 0, []⟩ G) → _ := fun {W} d => duo_send KM d hs1 pa pb body hbd hpa hpb
          rcases send_n s pa pb body with ⟨y0, x0, z0⟩ | ⟨y0, x0, z0⟩
          · rw [y0, x0] at SD
            generalize sendS s pa pb body = s4 at *
            clear y0 x0
            have hb1 : (((s.n : Int) + 1) != ((s.n : Int) + 1)) = false := by simp
            rcases hk with rfl | rfl | rfl
            all_goals
              go_wp2_with (go_at_call 9; (with_reducible refine (SD D0).mono ?_); rintro e w4 ⟨rfl, D4⟩)
              go_meet
              exact ⟨s4, by rw [z0]; go_num, by omega, D4⟩
          · rw [x0] at SD
            generalize sendS s pa pb body = s4 at *
            generalize sendE s body = Y at *
            have hy1 : (Y == 0) = false := by simpa using y0
            have hy2 : (Y != 0) = true := by simpa using y0
            clear x0
            rcases hk with rfl | rfl | rfl
            all_goals
              go_wp2_with (go_at_call 9; (with_reducible refine (SD D0).mono ?_); rintro e w4 ⟨rfl, D4⟩)
              go_meet
              exact ⟨s4, by rw [z0], by omega, D4⟩
        · have k0 : (kd == 0) = false := by simp; omega
          have k5 : (kd == 5) = false := by simp; omega
          have k6 : (kd == 6) = false := by simp; omega
          by_cases hk2 : kd = 1 ∨ kd = 2
          · have NX : ∀ {W}, Duo w W b s (fun w G => Me w b2 ⟨[], 0, []⟩ G) → _ := fun {W} d => duo_next KM d
            have z0 := nxt_n s
            generalize nxtS s = s4 at *
            clear hk
            rcases hk2 with rfl | rfl
            all_goals
              go_wp2_with (go_at_call 13; (with_reducible refine (NX D0).mono ?_); rintro e w4 ⟨rfl, D4⟩)
              go_meet
              exact ⟨s4, by rw [z0], by omega, D4⟩
          · have k1 : (kd == 1) = false := by simp; omega
            have k2 : (kd == 2) = false := by simp; omega
            by_cases hk3 : kd = 3
            · have DR : ∀ {W}, Duo w W b s (fun w G => Me w b2 ⟨[], 0, []⟩ G) → _ := fun {W} d => duo_drop KM d pa
              have z0 := drop_n s pa
              generalize dropS s pa = s4 at *
              clear hk hk2
              subst hk3
              go_wp2_with (go_at_call 15; (with_reducible refine (DR D0).mono ?_); rintro e w4 ⟨rfl, D4⟩)
              go_meet
              exact ⟨s4, by rw [z0], by omega, D4⟩
            · have k3 : (kd == 3) = false := by simp; omega
              have DB : ∀ {W}, Duo w W b s (fun w G => Me w b2 ⟨[], 0, []⟩ G) → _ := fun {W} d => duo_double KM d hs1 pa
              clear hk hk2 hk3
              rcases dbl_n s pa with ⟨y0, x0, z0⟩ | ⟨y0, x0, z0⟩
              · rw [y0, x0] at DB
                generalize dblS s pa = s4 at *
                clear y0 x0
                have hb1 : (((s.n : Int) + 1) != ((s.n : Int) + 1)) = false := by simp
                go_wp2_with (go_at_call 17; (with_reducible refine (DB D0).mono ?_); rintro e w4 ⟨rfl, D4⟩)
                go_meet
                exact ⟨s4, by rw [z0]; go_num, by omega, D4⟩
              · rw [x0] at DB
                generalize dblS s pa = s4 at *
                generalize dblE s pa = Y at *
                have hy1 : (Y == 0) = false := by simpa using y0
                have hy2 : (Y != 0) = true := by simpa using y0
                clear x0
                go_wp2_with (go_at_call 17; (with_reducible refine (DB D0).mono ?_); rintro e w4 ⟨rfl, D4⟩)
                go_meet
                exact ⟨s4, by rw [z0], by omega, D4⟩
      case rest =>
        obtain ⟨s5, rfl, hn5, D5⟩ := hcut
        clear D D0
        have FL := fun {W} (d : Duo w W b s5 (fun w G => Me w b2 ⟨[], 0, []⟩ G)) => duo_flight KM d
        have OK5 : Hid (Ok s5) := D5.out.ok
        have hl5 := D5.out.ok.len
        obtain ⟨N, hN⟩ : ∃ N, s5.l.length = N := ⟨_, rfl⟩
        have NL : Hid (s5.l.length = N) := hN
        rw [hN] at FL hl5
        clear hN
        go_wp2_with (go_at_call 24; (with_reducible refine (FL D5.out).mono ?_); rintro e w5 ⟨a5, c5, rfl, hO5, hg5, D6⟩)
        have HO5 : Hid (eP.Own w5 wc.heap.size (.slice a5 N c5) s5.l) := hO5
        have HD6 : Hid (Duo w w5 b s5 (fun w G => Me w b2 ⟨[], 0, []⟩ G)) := D6
        clear hO5 D6 FL D5 hg5
        go_loopw [13] (fun x wr => ∃ (k q : Nat), 1 ≤ k ∧ k ≤ 513 ∧ x = .int .i64 (k : Int) ∧ wr = w5.drewN q) (fun x _ => (600 - intOf x).toNat)
        case atStart => exact ⟨1, 0, by omega, by omega, rfl, rfl⟩
        case round =>
          obtain ⟨k, q, hk1, hk2, rfl, rfl⟩ := hrel
          by_cases hkn : k < N
          · obtain ⟨m, rfl⟩ : ∃ m, k = m + 1 := ⟨k - 1, by omega⟩
            obtain ⟨p0, hp0⟩ : ∃ p, s5.l[m]? = some p := ⟨_, List.getElem?_eq_getElem (by rw [NL.out]; omega)⟩
            obtain ⟨p1, hp1⟩ : ∃ p, s5.l[m + 1]? = some p := ⟨_, List.getElem?_eq_getElem (by rw [NL.out]; omega)⟩
            obtain ⟨g5, c5', hv5, hc0, _⟩ := HO5.out.at_ hp0
            obtain ⟨g6, c6', hv6, hc1, _⟩ := HO5.out.at_ hp1
            injection hv5 with e1 e2 e3
            injection hv6 with f1 f2 f3
            subst e1
            have f1' : g5 = g6 := by injection f1 with f1; injection f1
            subst f1'
            have y0 : w5.cell? ⟨g5, m * 4, none⟩ = some (.int .i64 p0.id) := hc0 0 _ rfl
            have y1 : w5.cell? ⟨g5, (m + 1) * 4, none⟩ = some (.int .i64 p1.id) := hc1 0 _ rfl
            have i1 : ∀ W, (Instr.indexAt 27 (.slice (some ⟨g5, 0, none⟩) N c5) (.int .i64 ((m : Int) + 1))).run Try.prog W = .ok (.pointer (some ⟨g5, (m + 1) * 4, none⟩)) W := fun W => by
              have := Elm.run_at (E := eP) (W := W) (g := g5) (o := 0) (n := N) (c := c5) (i := m + 1) hkn (by omega)
              rw [Nat.zero_add] at this
              exact this
            have i0 : ∀ W, (Instr.indexAt 27 (.slice (some ⟨g5, 0, none⟩) N c5) (.int .i64 (m : Int))).run Try.prog W = .ok (.pointer (some ⟨g5, m * 4, none⟩)) W := fun W => by
              have := Elm.run_at (E := eP) (W := W) (g := g5) (o := 0) (n := N) (c := c5) (i := m) (by omega) (by omega)
              rw [Nat.zero_add] at this
              exact this
            have hlt01 : p0.id < p1.id := by
              have hr := List.pairwise_iff_getElem.1 OK5.out.rise m (m + 1) (by rw [NL.out]; omega) (by rw [NL.out]; omega) (by omega)
              rw [(List.getElem?_eq_some_iff.1 hp0).2, (List.getElem?_eq_some_iff.1 hp1).2] at hr
              exact hr
            have hle1 : p1.id ≤ (s5.n : Int) := (OK5.out.low p1 (List.mem_of_getElem? hp1)).2
            have b1 : decide (p0.id ≥ p1.id) = false := decide_eq_false (by omega)
            have b2' : decide (p1.id ≤ p0.id) = false := decide_eq_false (by omega)
            have b3 : decide (p1.id > (s5.n : Int)) = false := decide_eq_false (by omega)
            have b4 : decide ((s5.n : Int) < p1.id) = false := decide_eq_false (by omega)
            have hm1 : IntKind.i64.wrap ((m : Int) + 1 - 1) = (m : Int) := by rw [Int.add_sub_cancel, IntKind.wrap_i64]; omega
            have hwm : IntKind.i64.wrap (m : Int) = (m : Int) := by rw [IntKind.wrap_i64]; omega
            have hm2 : (m : Int) + 1 - 1 = (m : Int) := by omega
            clear hp0 hp1 hc0 hc1 e2 e3 f2 f3 hlt01 hle1
            go_upto_region 33 with fail
            refine region_still (by kernel_rfl) (by kernel_rfl) ?_
            iterate 21 still_step
            refine wpStill_nil ?_
            go_wp2_with fail
            go_roundw
            case rel => exact ⟨m + 1 + 1, q + 1, by omega, by omega, by go_num, by simp⟩
            case measure => simp [intOf]; omega
          · go_wp2_with fail
            go_roundw
            case rel => exact ⟨j + 1, s5, by omega, by omega, by omega, by go_num, rfl, HD6.out.grown KM (grown_drewN (grown_refl w5 none) q)⟩
            case measure => simp [intOf]; omega
    · have FL : Calls Try.prog 24 #[.pointer (some ⟨b2, 0, none⟩)] wr fun e w' => ∃ ad c, e = .returned (.slice ad 0 c) ∧ Below w.heap.size w w' := by
        obtain ⟨F, G, hM, hR, hd, hF, hG, hW⟩ := D.out
        refine (flight_any b2 ⟨[], 0, []⟩ G wr hR).mono ?_
        rintro e w' ⟨ad, c, rfl, _, hg⟩
        exact ⟨ad, c, rfl, grown_below (grown_tr hW hg)⟩
      clear D
      by_cases hlt : j < n
      · have h4 : ¬ j < 400 := fun c => hgo ⟨hlt, c⟩
        have h4' : decide ((j : Int) < 400) = false := decide_eq_false (by omega)
        go_wp2_with (go_at_call 24; (with_reducible refine FL.mono ?_); rintro e w5 ⟨a5, c5, rfl, hB⟩)
        go_ret
        exact ⟨rfl, hB⟩
      · have h5' : decide ((j : Int) < (n : Int)) = false := decide_eq_false (by omega)
        go_wp2_with (go_at_call 24; (with_reducible refine FL.mono ?_); rintro e w5 ⟨a5, c5, rfl, hB⟩)
        go_ret
        exact ⟨rfl, hB⟩
end meshIds
end Go.Proofs.Ytffbaomaiohdiaa
