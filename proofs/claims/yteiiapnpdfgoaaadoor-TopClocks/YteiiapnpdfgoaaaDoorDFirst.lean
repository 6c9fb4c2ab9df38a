/- What 'leap' answers, put together; what 'first' answers. -/
import Derived.Test.YteiiapnpdfgoaaaDoorDSea
namespace Go.Proofs.YteiiapnpdfgoaaaDoor
open Go.RowKit
set_option linter.unusedVariables false

/-- What 'Local' makes of a zone that is as E says. -/
abbrev LocQ (b : Nat) (z : Zon.Z) (E Q : World → Prop) : Prop := ∀ (t : Int), 0 ≤ t → t ≤ 226157759 → ∀ (y m d h n k er : Int), (∀ w, Calls Tryd.prog 12 #[.int .i64 (t + z.at t)] w fun e w' => e = .returned (.tuple #[civ y m d h n k, .int .i64 er]) ∧ w.grownBy w' none) → ∀ w, E w →
  Calls Tryd.prog 46 #[.pointer (some ⟨b, 0, none⟩), .int .i64 t] w fun e w' => e = .returned (.tuple #[civ y m d h n k, .int .i64 er]) ∧ w.grownBy w' (some b) ∧ Q w'
abbrev TurnQ (b : Nat) (z : Zon.Z) (Q : World → Prop) : Prop := ∀ (t : Int), 0 ≤ t → t ≤ 226157759 → ∀ w, Q w →
  Calls Tryd.prog 37 #[.pointer (some ⟨b, 0, none⟩), .int .i64 t] w fun e w' => e = .returned (.tuple #[.int .i64 (z.turn t), .int .i64 0]) ∧ w.grownBy w' (some b) ∧ Q w'
abbrev KeepsQ (Q : World → Prop) : Prop := ∀ v v', Q v → v.grownBy v' none → Q v'

theorem leap_any (c : Cro.C) (hc : c.ok) (hr : c.right) (z : Zon.Z) (b : Nat) (E Q : World → Prop) (EK : KeepsQ E) (QK : KeepsQ Q) (LQ : LocQ b z E Q) (t : Int) (t1 : 0 ≤ t) (t2 : t ≤ 226157759) (w : World) (hb : b < w.heap.size) (GK : ∀ v, w.grownBy v (some b) → Gd v) (hE : E w) :
    Calls Tryd.prog 36 #[seav b c (Due.wideH c) (Due.wideD c) (Due.wideM c), .int .i64 t] w fun e w' => ∃ N, e = .returned (.int .i64 N) ∧ ((N = 0 ∧ Due.Fit c (t + z.at t)) ∨ Due.Lp c (t + z.at t) N) ∧ w.grownBy w' (some b) ∧ Q w' := by
  have LB := fun y m d h n k er F o => LQ t t1 t2 y m d h n k er F (w.alloc o) (EK _ _ hE (World.grownBy_alloc w o none))
  generalize t + z.at t = L at *
  by_cases hin : 0 ≤ L ∧ L ≤ 226157759
  · obtain ⟨y, m, d, hA⟩ := Civ.At.is (n := L / 1440) (by omega) (by omega)
    have LO := LB y m d (L % 1440 / 60) (L % 60) (Civ.wk (L / 1440)) 0 (fun w => from_at hA w)
    have d1 := hA.d1
    have d2 := hA.d2
    have d3 := Civ.dim_bd y m
    have F1 := Fits_any c hc y m d (L % 1440 / 60) (L % 60) (Civ.wk (L / 1440))
    have F2 := Fits_any _ (Due.wideH_ok hc) y m d (L % 1440 / 60) (L % 60) (Civ.wk (L / 1440))
    have F3 := Fits_any _ (Due.wideD_ok hc) y m d (L % 1440 / 60) (L % 60) (Civ.wk (L / 1440))
    have F4 := Fits_any _ (Due.wideM_ok hc) y m d (L % 1440 / 60) (L % 60) (Civ.wk (L / 1440))
    rw [Due.fits_at hr hA] at F1
    rw [Due.fits_H hr hA] at F2
    rw [Due.fits_D hr hA] at F3
    rw [Due.fits_M hr hA] at F4
    have HF := Due.fit_iff hr hA
    cases e1 : (c.mi.testBit (L % 60).toNat && c.ho.testBit (L % 1440 / 60).toNat && c.day m.toNat d.toNat (Civ.wk (L / 1440)).toNat) with
    | true =>
      rw [e1] at F1
      exact (leap_yes _ _ _ _ b Q QK t _ _ _ _ _ _ (by omega) (by omega) (by omega) (by omega) d1 (by omega) w hb GK LO F1).mono fun e w' ⟨he, hg, hz'⟩ => ⟨_, he, .inl ⟨rfl, HF.mpr e1⟩, hg, hz'⟩
    | false =>
      rw [e1] at F1
      cases e4 : c.mo.testBit m.toNat with
      | false =>
        rw [e4] at F4
        exact (leap_month _ _ _ _ b Q QK t _ _ _ _ _ _ (by omega) (by omega) (by omega) (by omega) d1 (by omega) w hb GK LO F1 F4).mono fun e w' ⟨he, hg, hz'⟩ => ⟨_, he, .inr (Due.lp_month hA e4), hg, hz'⟩
      | true =>
        rw [e4] at F4
        cases e3 : c.day m.toNat d.toNat (Civ.wk (L / 1440)).toNat with
        | false =>
          rw [e3] at F3
          exact (leap_day _ _ _ _ b Q QK t _ _ _ _ _ _ (by omega) (by omega) (by omega) (by omega) d1 (by omega) w hb GK LO F1 F4 F3).mono fun e w' ⟨he, hg, hz'⟩ => ⟨_, he, .inr (Due.lp_day hA e3), hg, hz'⟩
        | true =>
          rw [e3] at F3 F2 e1
          have T1 : ((L % 1440 / 60).toNat : Int) = L % 1440 / 60 := Int.toNat_of_nonneg (by omega)
          have T2 : ((L % 60).toNat : Int) = L % 60 := Int.toNat_of_nonneg (by omega)
          cases e2 : c.ho.testBit (L % 1440 / 60).toNat with
          | false =>
            rw [e2] at F2
            have g := Due.gp_le c.ho (L % 1440 / 60).toNat 24
            have GA := fun w hT => gap_any c.ho (L % 1440 / 60).toNat 24 hc.ho (by omega) (by omega) (by omega) w hT
            rw [T1] at GA
            exact (leap_hour _ _ _ _ b Q QK t _ _ _ _ _ _ (by omega) (by omega) (by omega) (by omega) d1 (by omega) w hb GK LO F1 F4 F3 F2 _ (by omega) GA).mono fun e w' ⟨he, hg, hz'⟩ => ⟨_, he, .inr (Due.lp_hour hc e2), hg, hz'⟩
          | true =>
            rw [e2] at F2 e1
            have g := Due.gp_le c.mi (L % 60).toNat 60
            have GA := fun w hT => gap_any c.mi (L % 60).toNat 60 hc.mi (by omega) (by omega) (by omega) w hT
            rw [T2] at GA
            exact (leap_min _ _ _ _ b Q QK t _ _ _ _ _ _ (by omega) (by omega) (by omega) (by omega) d1 (by omega) w hb GK LO F1 F4 F3 F2 _ (by omega) GA).mono fun e w' ⟨he, hg, hz'⟩ => ⟨_, he, .inr (Due.lp_min hc (by simpa using e1)), hg, hz'⟩
  · have LO := LB 0 0 0 0 0 0 30 (fun w => from_bad L (by omega) w)
    exact (leap_out _ _ _ _ b Q QK t _ _ _ _ _ _ _ (by decide) w hb LO).mono fun e w' ⟨he, hg, hz'⟩ => ⟨_, he, .inr (Due.lp_out (by omega)), hg, hz'⟩

/-- What 'first' answers. -/
def fstV : Option Nat → Value
  | some u => .tuple #[.int .i64 (u : Nat), .bool true]
  | none => .tuple #[.int .i64 0, .bool false]

/-- The world of a search: the package-level variables are old, the zone is new. -/
structure Sea (w0 w : World) (b : Nat) : Prop where
  gd : Gd w0
  grown : w0.grownBy w none
  new : w0.heap.size ≤ b
  lt : b < w.heap.size
theorem Sea.on {w0 w w' : World} {b : Nat} (h : Sea w0 w b) (g : w.grownBy w' (some b)) : Sea w0 w' b :=
  ⟨h.gd, grown_more h.grown g (fun q e => .inr (by injection e with e; rw [← e]; exact h.new)), h.new, by have := g.size; have := h.lt; omega⟩
theorem Sea.kept {w0 w w' : World} {b : Nat} (h : Sea w0 w b) (g : w.grownBy w' none) : Sea w0 w' b :=
  ⟨h.gd, grown_more h.grown g (by simp), h.new, by have := g.size; have := h.lt; omega⟩
theorem Sea.gk {w0 w : World} {b : Nat} (h : Sea w0 w b) : ∀ v, w.grownBy v (some b) → Gd v := fun v g => h.gd.kept (h.on g).grown

theorem nxt_skip {P : Nat → Bool} : ∀ (j k n : Nat), (∀ u, n ≤ u → u < n + j → P u = false) → j ≤ k → Due.nxt P k n = Due.nxt P (k - j) (n + j)
  | 0, k, n, _, _ => by simp
  | j + 1, 0, n, _, h => by omega
  | j + 1, k + 1, n, hn, h => by
    rw [Due.nxt, if_neg (by rw [hn n (by omega) (by omega)]; decide), nxt_skip j k (n + 1) (fun u h1 h2 => hn u (by omega) (by omega)) (by omega)]
    congr 1
    · omega
    · omega

set_option maxRecDepth 100000 in
set_option maxHeartbeats 3200000 in
theorem first_gen (c : Cro.C) (hc : c.ok) (hr : c.right) (z : Zon.Z) (hz : z.ok) (P : Nat → Bool) (hP : Due.IsP c z P) (b : Nat) (E Q : World → Prop) (EK : KeepsQ E) (QK : KeepsQ Q) (QE : ∀ v, Q v → E v) (LQ : LocQ b z E Q) (TQ : TurnQ b z Q) (w0 w : World) (hS : Sea w0 w b) (hE : E w) (t e : Nat) (ht : t ≤ 226157760) (he : e ≤ 226157760) :
    Calls Tryd.prog 22 #[seav b c (Due.wideH c) (Due.wideD c) (Due.wideM c), .int .i64 t, .int .i64 ((e : Int) - 1)] w fun r w' => r = .returned (fstV (Due.nxt P (e - t) t)) ∧ w.grownBy w' (some b) ∧ ((e ≤ t ∧ E w') ∨ Q w') := by
  have hlt := hS.lt
  have LE : Hid (∀ t : Nat, t ≤ 226157759 → ∀ w, Sea w0 w b → E w → Calls Tryd.prog 36 #[seav b c (Due.wideH c) (Due.wideD c) (Due.wideM c), .int .i64 t] w fun e w' => ∃ N, e = .returned (.int .i64 N) ∧ ((N = 0 ∧ Due.Fit c (t + z.at t)) ∨ Due.Lp c (t + z.at t) N) ∧ w.grownBy w' (some b) ∧ Q w') :=
    fun t ht w h hE => leap_any c hc hr z b E Q EK QK LQ t (by omega) (by omega) w h.lt h.gk hE
  have TU : Hid (∀ t : Nat, t ≤ 226157759 → ∀ w, Q w → Calls Tryd.prog 37 #[.pointer (some ⟨b, 0, none⟩), .int .i64 t] w fun e w' => e = .returned (.tuple #[.int .i64 (z.turn t), .int .i64 0]) ∧ w.grownBy w' (some b) ∧ Q w') :=
    fun t ht w h => TQ t (by omega) (by omega) w h
  have HP : Hid (∀ (t : Nat) (N : Int), Due.Lp c (t + z.at t) N → ∀ u : Nat, t ≤ u → (u : Int) < t + N → (u : Int) < z.turn t → P u = false) := fun t N h u h1 h2 h3 => Due.lp_P hP hz h h1 h2 h3
  have HY : Hid (∀ t : Nat, Due.Fit c (t + z.at t) → P t = true) := fun t h => (hP t).mpr h
  have HT : Hid (∀ t : Nat, t ≤ 226157759 → (t : Int) < z.turn t ∧ z.turn t ≤ 226157760) := fun t ht => ⟨Zon.turn_gt hz (by omega), Zon.turn_le hz t⟩
  have S0 := fun o => hS.kept (World.grownBy_alloc w o none)
  have E0 := fun o => EK _ _ hE (World.grownBy_alloc w o none)
  have N0 := Se.new w b c (Due.wideH c) (Due.wideD c) (Due.wideM c) 63
  generalize Due.wideH c = c2 at *
  generalize Due.wideD c = c3 at *
  generalize Due.wideM c = c4 at *
  have KW : Hid (w.grownBy (w.alloc (.cells #[.pointer (some ⟨b, 0, none⟩), .int .u64 c.mi, .int .u64 c.ho, .int .u64 c.da, .int .u64 c.mo, .int .u64 c.we, .bool c.ad, .bool c.aw, .int .u64 c2.mi, .int .u64 c2.ho, .int .u64 c2.da, .int .u64 c2.mo, .int .u64 c2.we, .bool c2.ad, .bool c2.aw, .int .u64 c3.mi, .int .u64 c3.ho, .int .u64 c3.da, .int .u64 c3.mo, .int .u64 c3.we, .bool c3.ad, .bool c3.aw, .int .u64 c4.mi, .int .u64 c4.ho, .int .u64 c4.da, .int .u64 c4.mo, .int .u64 c4.we, .bool c4.ad, .bool c4.aw] 63)) (some b)) := World.grownBy_alloc w _ (some b)
  clear hS hE hz hP hr hc LQ TQ
  go_enter Tryd.func22, Tryd.ntmps22
  go_wp2
  have SX := S0 (.cells #[.pointer (some ⟨b, 0, none⟩), .int .u64 c.mi, .int .u64 c.ho, .int .u64 c.da, .int .u64 c.mo, .int .u64 c.we, .bool c.ad, .bool c.aw, .int .u64 c2.mi, .int .u64 c2.ho, .int .u64 c2.da, .int .u64 c2.mo, .int .u64 c2.we, .bool c2.ad, .bool c2.aw, .int .u64 c3.mi, .int .u64 c3.ho, .int .u64 c3.da, .int .u64 c3.mo, .int .u64 c3.we, .bool c3.ad, .bool c3.aw, .int .u64 c4.mi, .int .u64 c4.ho, .int .u64 c4.da, .int .u64 c4.mo, .int .u64 c4.we, .bool c4.ad, .bool c4.aw] 63)
  go_loopw [1] (fun i wr => ∃ j : Nat, t ≤ j ∧ j ≤ 226157760 ∧ i = .int .i64 j ∧ Hid (Due.nxt P (e - t) t = Due.nxt P (e - j) j) ∧ Sea w0 wr b ∧ ((j = t ∧ E wr) ∨ Q wr) ∧ Se wr w.heap.size b c c2 c3 c4 ∧ w.grownBy wr (some b)) (fun i _ => (226157761 - intOf i).toNat)
  case atStart => exact ⟨t, by omega, by omega, rfl, rfl, SX, .inl ⟨rfl, E0 _⟩, N0, KW.out⟩
  case round =>
    clear SX N0 KW S0 E0
    obtain ⟨j, hj1, hj2, rfl, HN, hS, hEQ, hSe, hG⟩ := hrel
    by_cases hlt2 : j < e
    · have L := LE.out j (by omega) wr hS (by rcases hEQ with h | h; exact h.2; exact QE _ h)
      have TT := TU.out j (by omega)
      have HPj := HP.out j
      have HYj := HY.out j
      obtain ⟨ht1, ht2⟩ := HT.out j (by omega)
      clear LE TU HP HY HT hEQ
      have HS' : Hid (Se wr w.heap.size b c c2 c3 c4) := hSe
      have hld := hSe.range
      clear hSe
      by_cases hF : Due.Fit c (j + z.at j)
      · have L0 : Calls Tryd.prog 36 #[seav b c c2 c3 c4, .int .i64 j] wr fun e w' => e = .returned (.int .i64 0) ∧ wr.grownBy w' (some b) ∧ Q w' := L.mono fun e w' ⟨N, he, hN, hg, hz⟩ => by
          rcases hN with ⟨rfl, _⟩ | hN
          · exact ⟨he, hg, hz⟩
          · exact absurd hF (hN.2.2 _ (Int.le_refl _) (by have := hN.1; omega))
        have HV : Hid (Due.nxt P (e - j) j = some j) := Due.nxt_is (Nat.le_refl _) (by omega) (HYj hF) (fun u h1 h2 => by omega)
        clear L HPj HYj hF TT
        go_wp2_with (first
          | (refine wpList_load_mid rfl 63 _ rfl w.heap.size 0 rfl _ _ hld Tryd.underlying63 rfl (by kernel_rfl) ?_)
          | (go_at_call 36; go_must (refine L0.mono ?_); rintro e w1 ⟨rfl, hg1, hz1⟩))
        go_ret2
        exact ⟨by rw [HN.out, HV.out]; rfl, grown_more hG hg1 (fun _ e => .inl e), .inr hz1⟩
      · have L0 : Calls Tryd.prog 36 #[seav b c c2 c3 c4, .int .i64 j] wr fun e w' => ∃ N : Int, e = .returned (.int .i64 N) ∧ Due.Lp c (j + z.at j) N ∧ wr.grownBy w' (some b) ∧ Q w' := L.mono fun e w' ⟨N, he, hN, hg, hz⟩ => by
          rcases hN with ⟨_, h⟩ | hN
          · exact absurd h hF
          · exact ⟨N, he, hN, hg, hz⟩
        clear L HYj hF
        generalize z.turn j = T at *
        go_wp2_with (first
          | (refine wpList_load_mid rfl 63 _ rfl w.heap.size 0 rfl _ _ hld Tryd.underlying63 rfl (by kernel_rfl) ?_)
          | (go_at_call 36; go_must (refine L0.mono ?_); rintro e w1 ⟨N, rfl, hN, hg1, hz1⟩; have S1 := hS.on hg1; have Se1 := HS'.out.kept hg1 (by simp; omega); have z1 := Se1.z; have hN1 := hN.1; have hN2 := hN.2.1; have n0 : (N == 0) = false := (by simp; omega))
          | (go_at_call 37; go_must (refine (TT _ hz1).mono ?_); rintro e w2 ⟨rfl, hg2, hz2⟩))
        have hmin : ∃ q : Nat, (q : Int) = min ((j : Int) + N) T ∧ j < q ∧ q ≤ 226157760 := ⟨(min ((j : Int) + N) T).toNat, by omega, by omega, by omega⟩
        obtain ⟨q, hq1, hq2, hq3⟩ := hmin
        go_roundw
        case rel =>
          refine ⟨q, by omega, hq3, val_int (by omega), ?_, S1.on hg2, .inr hz2, Se1.kept hg2 (by simp; omega), grown_more (grown_more hG hg1 (fun _ e => .inl e)) hg2 (fun _ e => .inl e)⟩
          show _ = _
          rw [HN.out]
          by_cases hqe : q ≤ e
          · rw [nxt_skip (q - j) (e - j) j (fun u h1 h2 => HPj N hN u h1 (by omega) (by omega)) (by omega)]
            congr 1
            · omega
            · omega
          · rw [Due.nxt_no (fun u h1 h2 => HPj N hN u h1 (by omega) (by omega)), Due.nxt_no (fun u h1 h2 => by omega)]
        case measure => simp [intOf]; omega
    · go_wp2
      go_ret2
      refine ⟨by rw [HN.out, Due.nxt_no (fun u h1 h2 => by omega)]; rfl, hG, ?_⟩
      rcases hEQ with ⟨h1, h2⟩ | h
      · exact .inl ⟨by omega, h2⟩
      · exact .inr h

/-- Of a zone, asked or not. -/
theorem first_any (c : Cro.C) (hc : c.ok) (hr : c.right) (z : Zon.Z) (hz : z.ok) (P : Nat → Bool) (hP : Due.IsP c z P) (b : Nat) (w0 w : World) (hS : Sea w0 w b) (hE : Zn w b z) (t e : Nat) (ht : t ≤ 226157760) (he : e ≤ 226157760) :
    Calls Tryd.prog 22 #[seav b c (Due.wideH c) (Due.wideD c) (Due.wideM c), .int .i64 t, .int .i64 ((e : Int) - 1)] w fun r w' => r = .returned (fstV (Due.nxt P (e - t) t)) ∧ w.grownBy w' (some b) ∧ ((e ≤ t ∧ Zn w' b z) ∨ ∃ s, Rdy w' b z s) :=
  first_gen c hc hr z hz P hP b (fun v => Zn v b z) (fun v => ∃ s, Rdy v b z s) (fun v v' h g => h.kept g) (fun v v' ⟨s, h⟩ g => ⟨s, h.kept g⟩) (fun v ⟨s, h⟩ => h.zn)
    (fun t t1 t2 y m d h n k er F w hw => local_zn b z hz t t1 t2 y m d h n k er F w hw) (fun t t1 t2 w hw => turn_zn b z hz t t1 t2 w hw) w0 w hS hE t e ht he
/-- Of a zone that was asked. -/
theorem first_rdy (c : Cro.C) (hc : c.ok) (hr : c.right) (z : Zon.Z) (hz : z.ok) (P : Nat → Bool) (hP : Due.IsP c z P) (b : Nat) (s : Value) (w0 w : World) (hS : Sea w0 w b) (hE : Rdy w b z s) (t e : Nat) (ht : t ≤ 226157760) (he : e ≤ 226157760) :
    Calls Tryd.prog 22 #[seav b c (Due.wideH c) (Due.wideD c) (Due.wideM c), .int .i64 t, .int .i64 ((e : Int) - 1)] w fun r w' => r = .returned (fstV (Due.nxt P (e - t) t)) ∧ w.grownBy w' (some b) ∧ Rdy w' b z s :=
  (first_gen c hc hr z hz P hP b (fun v => Rdy v b z s) (fun v => Rdy v b z s) (fun v v' h g => h.kept g) (fun v v' h g => h.kept g) (fun v h => h)
    (fun t t1 t2 y m d h n k er F w hw => local_rdy b z hz t t1 t2 y m d h n k er F w s hw) (fun t t1 t2 w hw => turn_rdy b z hz t t1 t2 w s hw) w0 w hS hE t e ht he).mono fun r w' ⟨h1, h2, h3⟩ => ⟨h1, h2, by rcases h3 with h | h; exact h.2; exact h⟩
end Go.Proofs.YteiiapnpdfgoaaaDoor
