/- Every script of sendings, deliveries, losses, doublings and cuts: the statement's walk. -/
import Derived.Test.YtffbaomaiohdiaaMTri
import Derived.Deep.CutBlock
import Derived.Deep.CutRange
namespace Go.Proofs.Ytffbaomaiohdiaa
open Go.RowKit Msh
set_option linter.unusedVariables false

/-- What both meshes are like behind an act. -/
def Bnd (s : Ms) (j : Nat) : Prop := s.n ≤ j ∧ s.cs.length ≤ j
namespace meshScripts
set_option maxRecDepth 100000 in
set_option maxHeartbeats 12800000 in
theorem walk (w : World) (v0 : Value) (o0 : ∃ os, Sc w v0 os) : Calls Try.prog 3 #[v0] w fun e w' => e = .returned (.bool true) ∧ Below w.heap.size w w' := by
  obtain ⟨os, hS, hL, hE⟩ := o0
  have hnot : ∀ (x : Bool) (w : World), (Op.unary .not (.bool x)).run Try.prog w = .ok (.bool (!x)) w := fun _ _ => rfl
  have AW := awake_any
  obtain ⟨ad, cp, hv⟩ := hS.form
  subst hv
  obtain ⟨n, hn⟩ : ∃ n, os.length = n := ⟨_, rfl⟩
  rw [hn] at hS hL
  have HS : Hid (eD.Rx w (.slice ad n cp) os) := hS
  have HE : Hid (∀ o ∈ os, o.body.size ≤ 140737488351232 ∧ I64 o.a ∧ I64 o.b ∧ I64 o.kd) := hE
  have HN : Hid (os.length = n) := hn
  rw [hn]
  clear hn hS hE
  go_enter Try.func3, Try.ntmps3
  go_wp2_with (first
    | (go_at_call 7; (with_reducible refine (AW _).mono ?_); rintro e w1 ⟨rfl, K1⟩)
    | (go_at_call 8; (with_reducible refine (duo_new (W := w) K1).mono ?_); rintro e w2 ⟨b, rfl, d2⟩))
  clear AW K1
  have T0 := tri_new d2
  clear d2
  generalize w2.heap.size = q at *
  go_loopw [5] (fun i wr => ∃ (j : Nat) (s : Ms), j ≤ n ∧ j ≤ 1200 ∧ i = .int .i64 j ∧ Hid (Bnd s j) ∧ Hid (Tri w wr b s q s [])) (fun i _ => (1300 - intOf i).toNat)
  case atStart => exact ⟨0, ⟨[], 0, []⟩, by omega, by omega, rfl, (⟨by simp, by simp⟩ : Bnd _ _), T0⟩
  case round =>
    clear T0
    obtain ⟨j, s, hj1, hj2, rfl, BN, D⟩ := hrel
    by_cases hgo : j < n ∧ j < 1200
    · obtain ⟨hlt, h4⟩ := hgo
      obtain ⟨p, hp⟩ : ∃ p, os[j]? = some p := ⟨_, List.getElem?_eq_getElem (by rw [HN.out]; exact hlt)⟩
      obtain ⟨g, o, c, hv, hr⟩ := range_do (HS.out.grown D.out.base) hp
      obtain ⟨hbd, hpa, hpb, hpk⟩ := HE.out p (List.mem_of_getElem? hp)
      injection hv with hv1 hv2 hv3
      subst hv1
      obtain ⟨kd, pa, pb, body⟩ := p
      have RG : Hid (wr.rangeAt g (o + j * 4) (eD.enc ⟨kd, pa, pb, body⟩)) := hr
      clear hp hr hv2 hv3
      simp only at hbd hpa hpb hpk
      have D0 := D.out.box #[.int .i64 kd, .int .i64 pa, .int .i64 pb, .string body] 32
      simp only at D0
      have hsn : s.n ≤ 1000000 := by have := BN.out.1; omega
      have hcl : s.cs.length ≤ 1000000 := by have := BN.out.2; omega
      have hok := D.out.ok
      go_upto_block 2 with (refine load_do g (o + j * 4) ⟨kd, pa, pb, body⟩ rfl RG.out ?_)
      obtain ⟨B, hB⟩ : ∃ B, wr.heap.size = B := ⟨_, rfl⟩
      rw [hB] at D0 ⊢
      generalize hw0 : wr.alloc (.cells #[.int .i64 kd, .int .i64 pa, .int .i64 pb, .string body] 32) = w0 at *
      clear hw0 hB RG D
      go_cut [7, 8, 9, 10, 11, 12, 13, 14, 15, 16, 17, 18, 19, 20, 21, 22] from 44 to 180 (fun _ _ _ _ _ _ _ _ _ _ _ _ _ _ _ _ wx => ∃ s' : Ms, Hid (Bnd s' (j + 1)) ∧ Hid (Tri w wx b s' q s' []))
      case first =>
        have BM : ∀ {W : World} {s1 s2 : Ms} {r : List (Nat × List Value)}, Tri w W b s1 q s2 ((B, [.int .i64 kd, .int .i64 pa, .int .i64 pb, .string body]) :: r) → W.cell? ⟨B, 0, none⟩ = some (.int .i64 kd) ∧ W.cell? ⟨B, 1, none⟩ = some (.int .i64 pa) ∧ W.cell? ⟨B, 2, none⟩ = some (.int .i64 pb) ∧ W.cell? ⟨B, 3, none⟩ = some (.string body) := fun d => ⟨d.rd List.mem_cons_self rfl, d.rd List.mem_cons_self rfl, d.rd List.mem_cons_self rfl, d.rd List.mem_cons_self rfl⟩
        have BM2 : ∀ {W : World} {s1 s2 : Ms} {x : Nat × List Value} {r : List (Nat × List Value)}, Tri w W b s1 q s2 (x :: (B, [.int .i64 kd, .int .i64 pa, .int .i64 pb, .string body]) :: r) → W.cell? ⟨B, 0, none⟩ = some (.int .i64 kd) ∧ W.cell? ⟨B, 1, none⟩ = some (.int .i64 pa) ∧ W.cell? ⟨B, 2, none⟩ = some (.int .i64 pb) ∧ W.cell? ⟨B, 3, none⟩ = some (.string body) := fun d => ⟨d.rd (List.mem_cons_of_mem _ List.mem_cons_self) rfl, d.rd (List.mem_cons_of_mem _ List.mem_cons_self) rfl, d.rd (List.mem_cons_of_mem _ List.mem_cons_self) rfl, d.rd (List.mem_cons_of_mem _ List.mem_cons_self) rfl⟩
        obtain ⟨x0, x1, x2, x3⟩ := BM D0
        by_cases hk0 : kd = 0
        · subst hk0
          have A1 : ∀ {W r}, Tri w W b s q s r → _ := fun {W r} d => d.call (s' := sendS s pa pb body) fun F h => send_any b s F pa pb body W h hsn hbd hpa hpb
          have A2 : ∀ {W r}, Tri w W b (sendS s pa pb body) q s r → _ := fun {W r} d => d.rcall (t' := sendS s pa pb body) fun F h => rsend_any q s F pa pb body W h hsn hbd
          have BNn : Hid (Bnd (sendS s pa pb body) (j + 1)) := by
            have h1 := n_send s pa pb body
            have h2 := BN.out
            exact ⟨by have := h2.1; omega, by rw [h1.2]; have := h2.2; omega⟩
          generalize sendS s pa pb body = s4 at *
          generalize sendI s body = X at *
          generalize sendE s body = Y at *
          have e1 : (X != X) = false := by simp
          have e2 : (Y != Y) = false := by simp
          go_wp2_with (first
            | (go_at_call 9; (with_reducible refine (A1 D0).mono ?_); rintro e w4 ⟨rfl, D4⟩; obtain ⟨y0, y1, y2, y3⟩ := BM D4)
            | (go_at_call 10; (with_reducible refine (A2 D4).mono ?_); rintro e w5 ⟨rfl, D5⟩))
          go_meet
          exact ⟨s4, BNn, D5.less⟩
        · have k0 : (kd == 0) = false := by simpa using hk0
          have NQ := neq_pk
          have BX : ∀ {W : World} {s1 s2 : Ms} {Q : Nat} {p : Pk} {r : List (Nat × List Value)}, Tri w W b s1 q s2 ((Q, [.int .i64 p.id, .int .i64 p.fm, .int .i64 p.tt, .string p.body]) :: r) → W.cell? ⟨Q, 0, none⟩ = some (.int .i64 p.id) ∧ W.cell? ⟨Q, 1, none⟩ = some (.int .i64 p.fm) ∧ W.cell? ⟨Q, 2, none⟩ = some (.int .i64 p.tt) ∧ W.cell? ⟨Q, 3, none⟩ = some (.string p.body) := fun d => ⟨d.rd List.mem_cons_self rfl, d.rd List.mem_cons_self rfl, d.rd List.mem_cons_self rfl, d.rd List.mem_cons_self rfl⟩
          by_cases hk1 : kd = 1
          · subst hk1
            have A1 : ∀ {W r}, Tri w W b s q s r → _ := fun {W r} d => d.call (s' := dlvS s pa) fun F h => deliver_any b s F pa W h
            have A2 : ∀ {W r}, Tri w W b (dlvS s pa) q s r → _ := fun {W r} d => d.rcall (t' := dlvS s pa) fun F h => rdeliver_any q s F pa W h hcl
            have BNn : Hid (Bnd (dlvS s pa) (j + 1)) := by
              have h1 := n_dlv s pa
              have h2 := BN.out
              exact ⟨by rw [h1.1]; have := h2.1; omega, by rw [h1.2]; have := h2.2; omega⟩
            generalize dlvS s pa = s4 at *
            generalize dlvP s pa = pk at *
            generalize dlv s pa = bb at *
            have e1 : (bb != bb) = false := by simp
            have NQp := NQ pk
            go_wp2_with (first
              | (go_at_call 11; (with_reducible refine (A1 D0).mono ?_); rintro e w4 ⟨rfl, D4⟩; have D4b := D4.box #[.int .i64 pk.id, .int .i64 pk.fm, .int .i64 pk.tt, .string pk.body] 37; obtain ⟨y0, y1, y2, y3⟩ := BM2 D4b)
              | (go_at_call 12; (with_reducible refine (A2 D4b).mono ?_); rintro e w5 ⟨rfl, D5⟩; have D5b := D5.grown (World.grownBy_alloc w5 (.cells #[.int .i64 pk.id, .int .i64 pk.fm, .int .i64 pk.tt, .string pk.body] 37) none); obtain ⟨z0, z1, z2, z3⟩ := BX D5b))
            go_meet
            exact ⟨s4, BNn, D5b.less⟩
          · have k1 : (kd == 1) = false := by simpa using hk1
            by_cases hk2 : kd = 2
            · subst hk2
              have A1 : ∀ {W r}, Tri w W b s q s r → _ := fun {W r} d => d.call (s' := nxtS s) fun F h => next_any b s F W h
              have A2 : ∀ {W r}, Tri w W b (nxtS s) q s r → _ := fun {W r} d => d.rcall (t' := nxtS s) fun F h => rnext_any q s F W h hcl
              have BNn : Hid (Bnd (nxtS s) (j + 1)) := by
                have h1 := n_nxt s
                have h2 := BN.out
                exact ⟨by rw [h1.1]; have := h2.1; omega, by rw [h1.2]; have := h2.2; omega⟩
              generalize nxtS s = s4 at *
              generalize nxtP s = pk at *
              generalize nxtB s = bb at *
              have e1 : (bb != bb) = false := by simp
              have NQp := NQ pk
              go_wp2_with (first
                | (go_at_call 13; (with_reducible refine (A1 D0).mono ?_); rintro e w4 ⟨rfl, D4⟩; have D4b := D4.box #[.int .i64 pk.id, .int .i64 pk.fm, .int .i64 pk.tt, .string pk.body] 37; obtain ⟨y0, y1, y2, y3⟩ := BM2 D4b)
                | (go_at_call 14; (with_reducible refine (A2 D4b).mono ?_); rintro e w5 ⟨rfl, D5⟩; have D5b := D5.grown (World.grownBy_alloc w5 (.cells #[.int .i64 pk.id, .int .i64 pk.fm, .int .i64 pk.tt, .string pk.body] 37) none); obtain ⟨z0, z1, z2, z3⟩ := BX D5b))
              go_meet
              exact ⟨s4, BNn, D5b.less⟩
            · have k2 : (kd == 2) = false := by simpa using hk2
              by_cases hk3 : kd = 3
              · subst hk3
                have D0d : Tri w w0.drew b s q s [(B, [.int .i64 3, .int .i64 pa, .int .i64 pb, .string body])] := D0.grown (grown_drew (grown_refl _ none))
                have A1 : ∀ {W r}, Tri w W b s q s r → _ := fun {W r} d => d.call (s' := dropS s pa) fun F h => drop_any b s F pa W h
                have A2 : ∀ {W r}, Tri w W b (dropS s pa) q s r → _ := fun {W r} d => d.rcall (t' := dropS s pa) fun F h => rdrop_any q s F pa W h
                have BNn : Hid (Bnd (dropS s pa) (j + 1)) := by
                  have h1 := n_drop s pa
                  have h2 := BN.out
                  exact ⟨by rw [h1.1]; have := h2.1; omega, by rw [h1.2]; have := h2.2; omega⟩
                generalize dropS s pa = s4 at *
                generalize there s.l pa = bb at *
                have e1 : (bb != bb) = false := by simp
                go_upto_region 28 with fail
                go_region_held3 (fun W => W.cell? ⟨B, 1, none⟩ = some (.int .i64 pa))
                  (first | (exact x1) | (exact (BM D5).2.1) | (exact (BM D4).2.1))
                  (first
                    | (go_at_call 15; (with_reducible refine (A1 D0d).mono ?_); rintro e w4 ⟨rfl, D4⟩)
                    | (go_at_call 16; (with_reducible refine (A2 D4).mono ?_); rintro e w5 ⟨rfl, D5⟩))
                all_goals
                  go_wp2_with fail
                  go_meet
                  exact ⟨s4, BNn, D5.less⟩
              · have k3 : (kd == 3) = false := by simpa using hk3
                by_cases hk4 : kd = 4
                · subst hk4
                  have A1 : ∀ {W r}, Tri w W b s q s r → _ := fun {W r} d => d.call (s' := dblS s pa) fun F h => double_any b s F pa W h hsn
                  have A2 : ∀ {W r}, Tri w W b (dblS s pa) q s r → _ := fun {W r} d => d.rcall (t' := dblS s pa) fun F h => rdouble_any q s F pa W h hsn
                  have BNn : Hid (Bnd (dblS s pa) (j + 1)) := by
                    have h1 := n_dbl s pa
                    have h2 := BN.out
                    exact ⟨by have := h1.1; have := h2.1; omega, by rw [h1.2]; have := h2.2; omega⟩
                  generalize dblS s pa = s4 at *
                  generalize dblI s pa = X at *
                  generalize dblE s pa = Y at *
                  have e1 : (X != X) = false := by simp
                  have e2 : (Y != Y) = false := by simp
                  go_wp2_with (first
                    | (go_at_call 17; (with_reducible refine (A1 D0).mono ?_); rintro e w4 ⟨rfl, D4⟩; obtain ⟨y0, y1, y2, y3⟩ := BM D4)
                    | (go_at_call 18; (with_reducible refine (A2 D4).mono ?_); rintro e w5 ⟨rfl, D5⟩))
                  go_meet
                  exact ⟨s4, BNn, D5.less⟩
                · have k4 : (kd == 4) = false := by simpa using hk4
                  by_cases hk5 : kd = 5
                  · subst hk5
                    have A1 : ∀ {W r}, Tri w W b s q s r → _ := fun {W r} d => d.call (s' := ⟨s.l, s.n, cutL s.cs pa pb⟩) fun F h => (cut_any b s F pa pb W h hpa hpb hcl).mono fun e w' ⟨he, h1, h2⟩ => ⟨he, F, h1, fun k hk => .inl hk, h2⟩
                    have A2 : ∀ {W r}, Tri w W b ⟨s.l, s.n, cutL s.cs pa pb⟩ q s r → _ := fun {W r} d => d.rcall (t' := ⟨s.l, s.n, cutL s.cs pa pb⟩) fun F h => rcut_any q s F pa pb W h hcl
                    have BNn : Hid (Bnd ⟨s.l, s.n, cutL s.cs pa pb⟩ (j + 1)) := by
                      have h1 := cut_len s.cs pa pb
                      have h2 := BN.out
                      exact ⟨by have := h2.1; show s.n ≤ _; omega, by have := h2.2; show (cutL s.cs pa pb).length ≤ _; omega⟩
                    generalize (⟨s.l, s.n, cutL s.cs pa pb⟩ : Ms) = s4 at *
                    go_wp2_with (first
                      | (go_at_call 19; (with_reducible refine (A1 D0).mono ?_); rintro e w4 ⟨rfl, D4⟩; obtain ⟨y0, y1, y2, y3⟩ := BM D4)
                      | (go_at_call 20; (with_reducible refine (A2 D4).mono ?_); rintro e w5 ⟨rfl, D5⟩))
                    go_meet
                    exact ⟨s4, BNn, D5.less⟩
                  · have k5 : (kd == 5) = false := by simpa using hk5
                    clear hk0 hk1 hk2 hk3 hk4 hk5
                    have A1 : ∀ {W r}, Tri w W b s q s r → _ := fun {W r} d => d.call (s' := ⟨s.l, s.n, joinL s.cs pa pb⟩) fun F h => (join_any b s F pa pb W h hpa hpb).mono fun e w' ⟨he, h1, h2⟩ => ⟨he, F, h1, fun k hk => .inl hk, h2⟩
                    have A2 : ∀ {W r}, Tri w W b ⟨s.l, s.n, joinL s.cs pa pb⟩ q s r → _ := fun {W r} d => d.rcall (t' := ⟨s.l, s.n, joinL s.cs pa pb⟩) fun F h => rjoin_any q s F pa pb W h hcl
                    have BNn : Hid (Bnd ⟨s.l, s.n, joinL s.cs pa pb⟩ (j + 1)) := by
                      have h1 := join_len s.cs pa pb
                      have h2 := BN.out
                      exact ⟨by have := h2.1; show s.n ≤ _; omega, by have := h2.2; show (joinL s.cs pa pb).length ≤ _; omega⟩
                    generalize (⟨s.l, s.n, joinL s.cs pa pb⟩ : Ms) = s4 at *
                    go_wp2_with (first
                      | (go_at_call 21; (with_reducible refine (A1 D0).mono ?_); rintro e w4 ⟨rfl, D4⟩; obtain ⟨y0, y1, y2, y3⟩ := BM D4)
                      | (go_at_call 22; (with_reducible refine (A2 D4).mono ?_); rintro e w5 ⟨rfl, D5⟩))
                    go_meet
                    exact ⟨s4, BNn, D5.less⟩
      case rest =>
        obtain ⟨s5, BN5, D5⟩ := hcut
        clear D0 hok
        have hl5 := D5.out.ok.len
        obtain ⟨vl, cq0, RV⟩ := D5.out.refl_row
        have FL : Calls _ _ _ _ _ := (D5.out.grown (grown_drew (grown_refl wc none))).flight
        have PK : ∀ {W va vb}, eP.Own W 0 va s5.l → eP.Own W 0 vb s5.l → _ := fun {W va vb} h1 h2 => packets_any va vb s5.l W h1 h2 hl5
        have GD : Hid (∀ W, wc.grownBy W none → Tri w W b s5 q s5 []) := fun W g => D5.out.grown g
        have HRV : Hid (∀ w', wc.grownBy w' none → w'.cell? ⟨q, 0, none⟩ = some vl ∧ eP.Own w' 0 vl s5.l) := RV
        clear RV D5
        generalize s5.l.length = N5 at *
        have cq0d : wc.drew.cell? ⟨q, 0, none⟩ = some vl := cq0
        go_upto_region 38 with fail
        have h16e : (j : Int).tmod 16 = ((j % 16 : Nat) : Int) := by rw [Int.tmod_eq_emod_of_nonneg (by omega)]; omega
        by_cases h16 : ((j : Int).tmod 16 == 0) = true
        · clear h16e
          go_region_held3 (fun W => W.cell? ⟨q, 0, none⟩ = some vl)
            (first | (exact cq0d) | (exact (HRV.out _ hg7).1) | (exact (HRV.out _ hg6).1))
            (first
              | (go_at_call 24; (with_reducible refine FL.mono ?_); rintro e w6 ⟨a6, c6, rfl, hO6, hg6'⟩; have hg6 : wc.grownBy w6 none := grown_tr (grown_drew (grown_refl _ none)) hg6'; have hV6 := (HRV.out _ hg6).2)
              | (go_at_call 23; (with_reducible refine (PK hO6 hV6).mono ?_); rintro e w7 ⟨rfl, hg7'⟩; have hg7 : wc.grownBy w7 none := grown_tr hg6 hg7'))
          all_goals
            go_wp2_with fail
            go_roundw
            case rel => exact ⟨j + 1, s5, by omega, by omega, by go_num, BN5, GD.out _ hg7⟩
            case measure => simp [intOf]; omega
        · have h16' : ((j : Int).tmod 16 == 0) = false := by simpa using h16
          clear h16 h16e FL PK
          have RMj : ∀ W : World, (binOp .rem 3 (.int .i64 (j : Int)) (.int .i64 16)).run Try.prog W = .ok (.int .i64 ((j : Int).tmod 16)) W := fun W => by go_simp
          generalize (j : Int).tmod 16 = tm at *
          have EQt : ∀ W : World, (binOp .eql 3 (.int .i64 tm) (.int .i64 0)).run Try.prog W = .ok (.bool false) W := fun W => by
            have := h16'
            go_simp
          refine wp_region_phase 13 1 (fun i => 181 + i) (fun k => match k with
            | 0 => .int .i64 (j : Int)
            | 1 => .int .i64 tm
            | 2 => .bool false
            | 3 => .bool false
            | 12 => .bool false
            | _ => undef) (fun W => W = wc.drew) (by kernel_rfl) rfl (by omega) (fun i hi => Nat.lt_of_lt_of_le (Nat.add_lt_add_left hi 181) (Nat.le_of_ble_eq_true rfl)) rfl (fun i j _ _ h => Nat.add_left_cancel h) (by kernel_rfl) (back_of (by kernel_rfl)) ?_ ?_
          · intro k o ho a w1 hw hout hin K hK
            match k with
            | 0 =>
              have ho' := Option.some.inj ho
              subst ho'
              have xo : a.eval (.tmp 5) = .int .i64 (j : Int) := ev_of (hout 5 (by intro i hi; show 181 + i ≠ 5; omega))
              refine wpOp_on rfl (wanted_none rfl) (wp_move rfl ?_)
              rw [xo]
              exact hK _ rfl
            | 1 =>
              have ho' := Option.some.inj ho
              subst ho'
              have hw1 := hw (by omega)
              subst hw1
              have t0 : a.tmps[181]? = some (.int .i64 (j : Int)) := hin ⟨0, .data⟩ (by simp) rfl
              have x0 : a.eval (.tmp 181) = .int .i64 (j : Int) := ev_of t0
              refine wpOp_on rfl (wanted_none rfl) (wp_bin (v := .int .i64 tm) rfl ?_ ?_ (hK _ rfl))
              · rw [x0]; go_simp
              · rw [x0]; exact RMj _
            | 2 =>
              have ho' := Option.some.inj ho
              subst ho'
              have t1 : a.tmps[182]? = some (.int .i64 tm) := hin ⟨1, .data⟩ (by simp) rfl
              have x1 : a.eval (.tmp 182) = .int .i64 tm := ev_of t1
              refine wpOp_on rfl (wanted_none rfl) (wp_bin (v := .bool false) rfl ?_ ?_ (hK _ rfl))
              · rw [x1]; go_simp
              · rw [x1]; exact EQt _
            | 3 =>
              have ho' := Option.some.inj ho
              subst ho'
              have t2 : a.tmps[183]? = some (.bool false) := hin ⟨2, .data⟩ (by simp) rfl
              have x2 : a.eval (.tmp 183) = .bool false := ev_of t2
              refine wpOp_on rfl (wanted_none rfl) (wp_move rfl ?_)
              rw [x2]
              exact hK _ rfl
            | 4 =>
              have ho' := Option.some.inj ho
              subst ho'
              have t3 : a.tmps[184]? = some (.bool false) := hin ⟨3, .guard⟩ (by simp) rfl
              exact wpOp_off rfl (wanted_off rfl (yielded_of (d := 184) rfl t3)) (hK _ rfl)
            | 5 =>
              have ho' := Option.some.inj ho
              subst ho'
              have t3 : a.tmps[184]? = some (.bool false) := hin ⟨3, .guard⟩ (by simp) rfl
              exact wpOp_off rfl (wanted_off rfl (yielded_of (d := 184) rfl t3)) (hK _ rfl)
            | 6 =>
              have ho' := Option.some.inj ho
              subst ho'
              have t3 : a.tmps[184]? = some (.bool false) := hin ⟨3, .guard⟩ (by simp) rfl
              exact wpOp_off rfl (wanted_off rfl (yielded_of (d := 184) rfl t3)) (hK _ rfl)
            | 7 =>
              have ho' := Option.some.inj ho
              subst ho'
              have t3 : a.tmps[184]? = some (.bool false) := hin ⟨3, .guard⟩ (by simp) rfl
              exact wpOp_off rfl (wanted_off rfl (yielded_of (d := 184) rfl t3)) (hK _ rfl)
            | 8 =>
              have ho' := Option.some.inj ho
              subst ho'
              have t3 : a.tmps[184]? = some (.bool false) := hin ⟨3, .guard⟩ (by simp) rfl
              exact wpOp_off rfl (wanted_off rfl (yielded_of (d := 184) rfl t3)) (hK _ rfl)
            | 9 =>
              have ho' := Option.some.inj ho
              subst ho'
              have t3 : a.tmps[184]? = some (.bool false) := hin ⟨3, .guard⟩ (by simp) rfl
              exact wpOp_off rfl (wanted_off rfl (yielded_of (d := 184) rfl t3)) (hK _ rfl)
            | 10 =>
              have ho' := Option.some.inj ho
              subst ho'
              have t3 : a.tmps[184]? = some (.bool false) := hin ⟨3, .guard⟩ (by simp) rfl
              exact wpOp_off rfl (wanted_off rfl (yielded_of (d := 184) rfl t3)) (hK _ rfl)
            | 11 =>
              have ho' := Option.some.inj ho
              subst ho'
              have t3 : a.tmps[184]? = some (.bool false) := hin ⟨3, .guard⟩ (by simp) rfl
              exact wpOp_off rfl (wanted_off rfl (yielded_of (d := 184) rfl t3)) (hK _ rfl)
            | 12 =>
              have ho' := Option.some.inj ho
              subst ho'
              have t3 : a.tmps[184]? = some (.bool false) := hin ⟨3, .data⟩ (by simp) rfl
              have x3 : a.eval (.tmp 184) = .bool false := ev_of t3
              refine wpOp_on rfl (wanted_none rfl) (wp_pick false rfl x3 ?_)
              rw [if_neg (by decide)]
              exact hK _ rfl
            | k + 13 => exact absurd (Array.getElem?_eq_some_iff.1 ho).1 (by simp)
          · intro a w1 hdf hsz hC hout hin
            subst hC
            have ha := act_eq (m := 181) (n := 13) [.int .i64 (j : Int), .int .i64 tm, .bool false, .bool false, undef, undef, undef, undef, undef, undef, undef, undef, .bool false] rfl (Nat.le_of_ble_eq_true rfl) hdf hsz (fun k hk => hout k (by intro i hi; show 181 + i ≠ k; omega)) (fun i hi => by match i, hi with | 0, _ => exact hin 0 (by omega) | 1, _ => exact hin 1 (by omega) | 2, _ => exact hin 2 (by omega) | 3, _ => exact hin 3 (by omega) | 4, _ => exact hin 4 (by omega) | 5, _ => exact hin 5 (by omega) | 6, _ => exact hin 6 (by omega) | 7, _ => exact hin 7 (by omega) | 8, _ => exact hin 8 (by omega) | 9, _ => exact hin 9 (by omega) | 10, _ => exact hin 10 (by omega) | 11, _ => exact hin 11 (by omega) | 12, _ => exact hin 12 (by omega) | n + 13, h => omega)
            clear hout hin hsz hdf
            subst ha
            simp only [setMany]
            go_simp
            go_wp2_with fail
            go_roundw
            case rel => exact ⟨j + 1, s5, by omega, by omega, by go_num, BN5, GD.out _ (grown_drew (grown_refl _ none))⟩
            case measure => simp [intOf]; omega
    · have hl5 := D.out.ok.len
      obtain ⟨vl, cq0, RV⟩ := D.out.refl_row
      have FL : Calls _ _ _ _ _ := (D.out.grown (grown_drew (grown_refl wr none))).flight
      have PK : ∀ {W va vb}, eP.Own W 0 va s.l → eP.Own W 0 vb s.l → _ := fun {W va vb} h1 h2 => packets_any va vb s.l W h1 h2 hl5
      have HRV : Hid (∀ w', wr.grownBy w' none → w'.cell? ⟨q, 0, none⟩ = some vl ∧ eP.Own w' 0 vl s.l) := RV
      have GB : Hid (w.grownBy wr none) := D.out.base
      clear RV D
      generalize s.l.length = N5 at *
      have cq0d : wr.drew.cell? ⟨q, 0, none⟩ = some vl := cq0
      by_cases hlt : j < n
      · have h4 : ¬ j < 1200 := fun c => hgo ⟨hlt, c⟩
        have h4' : decide ((j : Int) < 1200) = false := decide_eq_false (by omega)
        go_upto_region 40 with fail
        go_region_held3 (fun W => W.cell? ⟨q, 0, none⟩ = some vl)
          (first | (exact cq0d) | (exact (HRV.out _ hg7).1) | (exact (HRV.out _ hg6).1))
          (first
            | (go_at_call 24; (with_reducible refine FL.mono ?_); rintro e w6 ⟨a6, c6, rfl, hO6, hg6'⟩; have hg6 : wr.grownBy w6 none := grown_tr (grown_drew (grown_refl _ none)) hg6'; have hV6 := (HRV.out _ hg6).2)
            | (go_at_call 23; (with_reducible refine (PK hO6 hV6).mono ?_); rintro e w7 ⟨rfl, hg7'⟩; have hg7 : wr.grownBy w7 none := grown_tr hg6 hg7'))
        all_goals
          go_wp2_with fail
          go_ret
          exact ⟨rfl, grown_below (grown_tr GB.out hg7)⟩
      · have h5' : decide ((j : Int) < (n : Int)) = false := decide_eq_false (by omega)
        go_upto_region 40 with fail
        go_region_held3 (fun W => W.cell? ⟨q, 0, none⟩ = some vl)
          (first | (exact cq0d) | (exact (HRV.out _ hg7).1) | (exact (HRV.out _ hg6).1))
          (first
            | (go_at_call 24; (with_reducible refine FL.mono ?_); rintro e w6 ⟨a6, c6, rfl, hO6, hg6'⟩; have hg6 : wr.grownBy w6 none := grown_tr (grown_drew (grown_refl _ none)) hg6'; have hV6 := (HRV.out _ hg6).2)
            | (go_at_call 23; (with_reducible refine (PK hO6 hV6).mono ?_); rintro e w7 ⟨rfl, hg7'⟩; have hg7 : wr.grownBy w7 none := grown_tr hg6 hg7'))
        all_goals
          go_wp2_with fail
          go_ret
          exact ⟨rfl, grown_below (grown_tr GB.out hg7)⟩
end meshScripts
end Go.Proofs.Ytffbaomaiohdiaa
