/- What the search, 'past', 'Offset', 'Turn' and 'Local' answer. -/
import Derived.Test.YteiiapnpdfgoaaaDoorZAsk
namespace Go.Proofs.YteiiapnpdfgoaaaDoor
open Go.RowKit
set_option linter.unusedVariables false

theorem cmpNaN_any (x : Int) (w : World) :
    Calls Tryd.prog 69 #[.int .i64 x] w fun e w' => e = .returned (.bool false) ∧ w' = w := by
  go_enter Tryd.func69, Tryd.ntmps69
  go_wp2
  go_ret
  exact ⟨ret_bool (by simp), rfl⟩
theorem slicesNaN_any (x : Int) (w : World) :
    Calls Tryd.prog 61 #[.int .i64 x] w fun e w' => e = .returned (.bool false) ∧ w' = w := by
  go_enter Tryd.func61, Tryd.ntmps61
  go_wp2
  go_ret
  exact ⟨ret_bool (by simp), rfl⟩
set_option maxRecDepth 100000 in
theorem less_any (x y : Int) (w : World) :
    Calls Tryd.prog 60 #[.int .i64 x, .int .i64 y] w fun e w' => e = .returned (.bool (decide (x < y))) ∧ w' = w := by
  have H := cmpNaN_any x
  go_enter Tryd.func60, Tryd.ntmps60
  go_wp2_with (go_at_call 69; go_must (refine (H _).mono ?_); rintro e w1 ⟨rfl, rfl⟩)
  go_ret
  exact ⟨rfl, rfl⟩

set_option maxRecDepth 100000 in
theorem search_none (x : Int) (w : World) :
    Calls Tryd.prog 50 #[.slice none 0 0, .int .i64 x] w fun e w' => e = .returned (.tuple #[.int .i64 0, .bool false]) ∧ w' = w := by
  go_enter Tryd.func50, Tryd.ntmps50
  go_wp2
  go_loop [7, 8] (fun i j => i = .int .i64 0 ∧ j = .int .i64 0) (fun _ _ => 0)
  case atStart => exact ⟨rfl, rfl⟩
  case round =>
    obtain ⟨rfl, rfl⟩ := hrel
    go_wp2
    go_ret2
    exact ⟨rfl, rfl⟩

set_option maxRecDepth 100000 in
set_option maxHeartbeats 800000 in
theorem search_two (z : Zon.Z) (h2 : z.two) (x : Int) (q : Nat) (w : World) (hc : ∀ i, i < 860 → w.cell? ⟨q, i, none⟩ = some (.int .i64 (Zon.T z i))) :
    Calls Tryd.prog 50 #[.slice (some ⟨q, 0, none⟩) 860 860, .int .i64 x] w fun e w' =>
      ∃ (p : Nat) (f : Value), e = .returned (.tuple #[.int .i64 p, f]) ∧ w' = w ∧ p ≤ 860 ∧ (∀ i, i < p → Zon.T z i < x) ∧ ∀ i, p ≤ i → i < 860 → x ≤ Zon.T z i := by
  go_enter Tryd.func50, Tryd.ntmps50
  go_wp2
  go_loop [7, 8] (fun a b => ∃ i j : Nat, i ≤ j ∧ j ≤ 860 ∧ a = .int .i64 i ∧ b = .int .i64 j ∧ (∀ k, k < i → Zon.T z k < x) ∧ ∀ k, j ≤ k → k < 860 → x ≤ Zon.T z k) (fun a b => (intOf b - intOf a).toNat)
  case atStart => exact ⟨0, 860, by omega, by omega, rfl, rfl, fun k hk => by omega, fun k h1 h2 => by omega⟩
  case round =>
    obtain ⟨i, j, hij, hj, rfl, rfl, hlo, hhi⟩ := hrel
    have HLO : Hid (∀ k, k < i → Zon.T z k < x) := hlo
    have HHI : Hid (∀ k, j ≤ k → k < 860 → x ≤ Zon.T z k) := hhi
    clear hlo hhi
    by_cases hlt : i < j
    · have cm := hc ((i + j) / 2) (by omega)
      obtain ⟨v, hv⟩ : ∃ v, v = Zon.T z ((i + j) / 2) := ⟨_, rfl⟩
      rw [← hv] at cm
      have HV : Hid (v = Zon.T z ((i + j) / 2)) := hv
      have L := less_any v x
      clear hc hv
      by_cases hx : v < x
      · go_wp2_with (go_at_call 60; go_must (refine (L _).mono ?_); rintro e w1 ⟨rfl, rfl⟩)
        go_round
        case rel =>
          go_light
          refine ⟨(i + j) / 2 + 1, j, by omega, hj, val_int (by omega), rfl, fun k hk => ?_, HHI.out⟩
          have := Zon.T_mono h2 (show k ≤ (i + j) / 2 by omega)
          have := HV.out
          omega
        case measure => simp [intOf]; omega
      · have hx' : decide (v < x) = false := decide_eq_false hx
        go_wp2_with (go_at_call 60; go_must (refine (L _).mono ?_); rintro e w1 ⟨rfl, rfl⟩)
        go_round
        case rel =>
          go_light
          refine ⟨i, (i + j) / 2, by omega, by omega, rfl, val_int (by omega), HLO.out, fun k hk h8 => ?_⟩
          have := Zon.T_mono h2 hk
          have := HV.out
          omega
        case measure => simp [intOf]; omega
    · obtain rfl : i = j := by omega
      have N1 := slicesNaN_any
      by_cases hi : i < 860
      · have cm := hc i hi
        obtain ⟨v, hv⟩ : ∃ v, v = Zon.T z i := ⟨_, rfl⟩
        rw [← hv] at cm
        clear hc hv
        by_cases hx : v = x
        · have hx' : (v == x) = true := by simpa using hx
          subst hx
          go_wp2_with (go_at_call 61; go_must (refine (N1 _ _).mono ?_); rintro e w1 ⟨rfl, rfl⟩)
          go_ret2
          first | exact ⟨i, _, rfl, rfl, hj, HLO.out, HHI.out⟩ | exact ⟨i, ⟨_, rfl⟩, rfl, hj, HLO.out, HHI.out⟩
        · have hx' : (v == x) = false := by simpa using hx
          go_wp2_with (go_at_call 61; go_must (refine (N1 _ _).mono ?_); rintro e w1 ⟨rfl, rfl⟩)
          go_ret2
          first | exact ⟨i, _, rfl, rfl, hj, HLO.out, HHI.out⟩ | exact ⟨i, ⟨_, rfl⟩, rfl, hj, HLO.out, HHI.out⟩
      · have hi' : decide ((i : Int) < 860) = false := decide_eq_false (by omega)
        clear hc
        go_wp2_with (go_at_call 61; go_must (refine (N1 _ _).mono ?_); rintro e w1 ⟨rfl, rfl⟩)
        go_ret2
        first | exact ⟨i, _, rfl, rfl, hj, HLO.out, HHI.out⟩ | exact ⟨i, ⟨_, rfl⟩, rfl, hj, HLO.out, HHI.out⟩

/-- The search for the turns up to t. -/
theorem search_any (z : Zon.Z) (hz : z.ok) (t : Int) (b : Nat) (s : Value) (w : World) (h : Turns w s z b) :
    Calls Tryd.prog 50 #[s, .int .i64 (t + 1)] w fun e w' => ∃ f : Value, e = .returned (.tuple #[.int .i64 (z.past t : Nat), f]) ∧ w' = w := by
  rcases h with ⟨hs, rfl⟩ | ⟨hs, q, _, rfl, hc⟩
  · have hn : z.n = 0 := by unfold Zon.Z.n; rw [if_pos hs]
    have hp : z.past t = 0 := by have := (Zon.Past.is hz t).le; omega
    rw [hp]
    exact (search_none (t + 1) w).mono fun e w' ⟨he, hw⟩ => ⟨_, he, hw⟩
  · have hn : z.n = 860 := by unfold Zon.Z.n; rw [if_neg hs]
    have h2 := Zon.two_of hz (i := 0) (by omega)
    refine (search_two z h2 (t + 1) q w hc).mono fun e w' ⟨p, f, he, hw, hp, hlo, hhi⟩ => ⟨f, ?_, hw⟩
    have hP : Zon.Past z t p := ⟨by omega, fun i hi => by have := hlo i hi; omega, fun i hi hn' => by have := hhi i hi (by omega); omega⟩
    rw [(Zon.Past.is hz t).one hP]
    exact he

theorem past_nil (t : Int) (w : World) :
    Calls Tryd.prog 40 #[.pointer none, .int .i64 t] w fun e w' => e = .returned (.tuple #[.int .i64 0, .int .i64 40]) ∧ w' = w := by
  go_enter Tryd.func40, Tryd.ntmps40
  go_wp2
  go_ret2
  exact ⟨rfl, rfl⟩
set_option maxRecDepth 100000 in
theorem past_bad (b : Nat) (t : Int) (h : t < 0 ∨ 226157759 < t) (w : World) :
    Calls Tryd.prog 40 #[.pointer (some ⟨b, 0, none⟩), .int .i64 t] w fun e w' => e = .returned (.tuple #[.int .i64 0, .int .i64 30]) ∧ w' = w := by
  by_cases h1 : t < 0
  · clear h
    go_enter Tryd.func40, Tryd.ntmps40
    go_wp2
    go_ret2
    exact ⟨rfl, rfl⟩
  · have h2 : 226157759 < t := by omega
    have g1 : decide (t < 0) = false := decide_eq_false h1
    clear h
    go_enter Tryd.func40, Tryd.ntmps40
    go_wp2
    go_ret2
    exact ⟨rfl, rfl⟩
set_option maxRecDepth 100000 in
theorem past_by (b : Nat) (z : Zon.Z) (hz : z.ok) (t : Int) (t1 : 0 ≤ t) (t2 : t ≤ 226157759) (w : World) (X : Value → World → Prop)
    (A : Calls Tryd.prog 49 #[.pointer (some ⟨b, 0, none⟩)] w fun e w' => ∃ s, e = .returned s ∧ Rdy w' b z s ∧ X s w') :
    Calls Tryd.prog 40 #[.pointer (some ⟨b, 0, none⟩), .int .i64 t] w fun e w' => e = .returned (.tuple #[.int .i64 (z.past t : Nat), .int .i64 0]) ∧ ∃ s, Rdy w' b z s ∧ X s w' := by
  have B := fun s w => search_any z hz t b s w
  obtain ⟨p, hp⟩ : ∃ p, p = z.past t := ⟨_, rfl⟩
  rw [← hp] at B ⊢
  clear hp
  go_enter Tryd.func40, Tryd.ntmps40
  go_wp2_with (first
    | (go_at_call 49; go_must (refine A.mono ?_); rintro e w1 ⟨s, rfl, hR, hg⟩)
    | (go_at_call 50; go_must (refine (B _ _ hR.told).mono ?_); rintro e w2 ⟨f, rfl, rfl⟩))
  go_ret2
  exact ⟨rfl, s, hR, hg⟩
theorem past_any (b : Nat) (z : Zon.Z) (hz : z.ok) (t : Int) (t1 : 0 ≤ t) (t2 : t ≤ 226157759) (w : World) (h : Zn w b z) :
    Calls Tryd.prog 40 #[.pointer (some ⟨b, 0, none⟩), .int .i64 t] w fun e w' => e = .returned (.tuple #[.int .i64 (z.past t : Nat), .int .i64 0]) ∧ ∃ s, Rdy w' b z s ∧ w.grownBy w' (some b) :=
  past_by b z hz t t1 t2 w (fun _ w' => w.grownBy w' (some b)) (ask_any b z hz w h)
theorem past_again (b : Nat) (z : Zon.Z) (hz : z.ok) (t : Int) (t1 : 0 ≤ t) (t2 : t ≤ 226157759) (w : World) (s0 : Value) (h : Rdy w b z s0) :
    Calls Tryd.prog 40 #[.pointer (some ⟨b, 0, none⟩), .int .i64 t] w fun e w' => e = .returned (.tuple #[.int .i64 (z.past t : Nat), .int .i64 0]) ∧ ∃ s, Rdy w' b z s ∧ (s = s0 ∧ w' = w) :=
  past_by b z hz t t1 t2 w (fun s w' => s = s0 ∧ w' = w) ((ask_again b z s0 w h).mono fun e w' ⟨he, hw⟩ => ⟨s0, he, by rw [hw]; exact h, rfl, hw⟩)

set_option maxRecDepth 100000 in
theorem saves_any (b : Nat) (z : Zon.Z) (p : Nat) (hp : p ≤ 860) (w : World) (h : Zr w b z) :
    Calls Tryd.prog 41 #[.pointer (some ⟨b, 0, none⟩), .int .i64 p] w fun e w' => e = .returned (.bool (z.sv p)) ∧ w.grownBy w' none := by
  have c2 := h.c2
  have c6 := h.c6
  obtain ⟨r, hr⟩ : ∃ r, r = z.sv p := ⟨_, rfl⟩
  have HR : Hid (r = z.sv p) := hr
  rw [← hr]
  clear h hr
  by_cases hm : z.on.m < z.off.m
  · have hm' : decide (z.on.m < z.off.m) = true := decide_eq_true hm
    have e : Hid (r = ((p : Int) % 2 == 1)) := by
      show r = _
      rw [HR.out]
      unfold Zon.Z.sv
      rw [if_pos hm]
      by_cases h : p % 2 = 1
      · simp [h]; omega
      · simp [h]; omega
    go_enter Tryd.func41, Tryd.ntmps41
    go_wp2
    go_quiet (fail)
    go_wp2
    go_ret
    exact ⟨ret_bool e.out.symm, grown_drewN (grown_refl w none) _⟩
  · have hm' : decide (z.on.m < z.off.m) = false := decide_eq_false hm
    have e : Hid (r = ((p : Int) % 2 == 0)) := by
      show r = _
      rw [HR.out]
      unfold Zon.Z.sv
      rw [if_neg hm]
      by_cases h : p % 2 = 0
      · simp [h]; omega
      · simp [h]; omega
    go_enter Tryd.func41, Tryd.ntmps41
    go_wp2
    go_quiet (fail)
    go_wp2
    go_ret
    exact ⟨ret_bool e.out.symm, grown_drewN (grown_refl w none) _⟩

theorem Rdy.drewN {w : World} {b : Nat} {z : Zon.Z} {s : Value} (h : Rdy w b z s) (n : Nat) : Rdy (w.drewN n) b z s :=
  h.kept (grown_drewN (grown_refl w none) n)

theorem offset_nil (t : Int) (w : World) :
    Calls Tryd.prog 29 #[.pointer none, .int .i64 t] w fun e w' => e = .returned (.tuple #[.int .i64 0, .int .i64 40]) ∧ w' = w := by
  have H := past_nil t
  go_enter Tryd.func29, Tryd.ntmps29
  go_wp2_with (go_at_call 40; go_must (refine (H _).mono ?_); rintro e w1 ⟨rfl, rfl⟩)
  go_ret2
  exact ⟨rfl, rfl⟩
theorem offset_bad (b : Nat) (t : Int) (h : t < 0 ∨ 226157759 < t) (w : World) :
    Calls Tryd.prog 29 #[.pointer (some ⟨b, 0, none⟩), .int .i64 t] w fun e w' => e = .returned (.tuple #[.int .i64 0, .int .i64 30]) ∧ w' = w := by
  have H := past_bad b t h
  clear h
  go_enter Tryd.func29, Tryd.ntmps29
  go_wp2_with (go_at_call 40; go_must (refine (H _).mono ?_); rintro e w1 ⟨rfl, rfl⟩)
  go_ret2
  exact ⟨rfl, rfl⟩
set_option maxRecDepth 100000 in
set_option maxHeartbeats 400000 in
theorem offset_by (b : Nat) (z : Zon.Z) (hz : z.ok) (t : Int) (t1 : 0 ≤ t) (t2 : t ≤ 226157759) (w : World) (X : Value → World → Prop)
    (A : Calls Tryd.prog 40 #[.pointer (some ⟨b, 0, none⟩), .int .i64 t] w fun e w' => e = .returned (.tuple #[.int .i64 (z.past t : Nat), .int .i64 0]) ∧ ∃ s, Rdy w' b z s ∧ X s w') :
    Calls Tryd.prog 29 #[.pointer (some ⟨b, 0, none⟩), .int .i64 t] w fun e w' => e = .returned (.tuple #[.int .i64 (z.at t), .int .i64 0]) ∧ ∃ s, Rdy w' b z s ∧ ∃ w1, X s w1 ∧ w1.grownBy w' none := by
  have hp : z.past t ≤ 860 := Nat.le_trans (Zon.Past.is hz t).le (Zon.n_le z)
  have B := fun w (h : Zr w b z) => saves_any b z (z.past t) hp w h
  have hb1 := hz.1
  have hb2 := hz.2.1
  have hs1 := hz.2.2.1
  have hs2 := hz.2.2.2.1
  obtain ⟨r, hr⟩ : ∃ r, r = z.at t := ⟨_, rfl⟩
  have HR : Hid (r = if z.sv (z.past t) then z.b + z.s else z.b) := hr
  rw [← hr]
  obtain ⟨p, hp'⟩ : ∃ p, p = z.past t := ⟨_, rfl⟩
  rw [← hp'] at A B HR
  obtain ⟨v, hv⟩ : ∃ v, v = z.sv p := ⟨_, rfl⟩
  simp only [← hv] at B HR
  clear hr hp hp' hv t1 t2 hz
  cases v
  · go_enter Tryd.func29, Tryd.ntmps29
    go_wp2_with (first
      | (go_at_call 40; go_must (refine A.mono ?_); rintro e w1 ⟨rfl, s, hR, hg⟩)
      | (go_at_call 41; go_must (refine (B _ hR.toZr).mono ?_); rintro e w2 ⟨rfl, hg2⟩; have hR2 := hR.kept hg2; have c0 := hR2.c0))
    go_ret2
    exact ⟨congrArg (fun x => Ending.returned (.tuple #[.int .i64 x, .int .i64 0])) (by rw [HR.out]; rfl), s, hR2, w1, hg, hg2⟩
  · go_enter Tryd.func29, Tryd.ntmps29
    go_wp2_with (first
      | (go_at_call 40; go_must (refine A.mono ?_); rintro e w1 ⟨rfl, s, hR, hg⟩)
      | (go_at_call 41; go_must (refine (B _ hR.toZr).mono ?_); rintro e w2 ⟨rfl, hg2⟩; have hR2 := hR.kept hg2; have c0 := hR2.c0; have c1 := hR2.c1))
    go_quiet (fail)
    go_wp2
    go_ret2
    exact ⟨congrArg (fun x => Ending.returned (.tuple #[.int .i64 x, .int .i64 0])) (by rw [HR.out]; rfl), s, hR2.drewN _, w1, hg, grown_drewN hg2 _⟩

theorem offset_any (b : Nat) (z : Zon.Z) (hz : z.ok) (t : Int) (t1 : 0 ≤ t) (t2 : t ≤ 226157759) (w : World) (h : Zn w b z) :
    Calls Tryd.prog 29 #[.pointer (some ⟨b, 0, none⟩), .int .i64 t] w fun e w' => e = .returned (.tuple #[.int .i64 (z.at t), .int .i64 0]) ∧ ∃ s, Rdy w' b z s ∧ w.grownBy w' (some b) :=
  (offset_by b z hz t t1 t2 w _ (past_any b z hz t t1 t2 w h)).mono fun e w' ⟨he, s, hR, w1, hg, hg2⟩ => ⟨he, s, hR, grown_more hg hg2 (by simp)⟩
theorem offset_again (b : Nat) (z : Zon.Z) (hz : z.ok) (t : Int) (t1 : 0 ≤ t) (t2 : t ≤ 226157759) (w : World) (s0 : Value) (h : Rdy w b z s0) :
    Calls Tryd.prog 29 #[.pointer (some ⟨b, 0, none⟩), .int .i64 t] w fun e w' => e = .returned (.tuple #[.int .i64 (z.at t), .int .i64 0]) ∧ Rdy w' b z s0 ∧ w.grownBy w' none :=
  (offset_by b z hz t t1 t2 w _ (past_again b z hz t t1 t2 w s0 h)).mono fun e w' ⟨he, s, hR, w1, hg, hg2⟩ => by
    obtain ⟨rfl, rfl⟩ := hg
    exact ⟨he, hR, hg2⟩

theorem turn_bad (b : Nat) (t : Int) (h : t < 0 ∨ 226157759 < t) (w : World) :
    Calls Tryd.prog 37 #[.pointer (some ⟨b, 0, none⟩), .int .i64 t] w fun e w' => e = .returned (.tuple #[.int .i64 0, .int .i64 30]) ∧ w' = w := by
  have H := past_bad b t h
  clear h
  go_enter Tryd.func37, Tryd.ntmps37
  go_wp2_with (go_at_call 40; go_must (refine (H _).mono ?_); rintro e w1 ⟨rfl, rfl⟩)
  go_ret2
  exact ⟨rfl, rfl⟩
set_option maxRecDepth 100000 in
set_option maxHeartbeats 400000 in
theorem turn_any (b : Nat) (z : Zon.Z) (hz : z.ok) (t : Int) (t1 : 0 ≤ t) (t2 : t ≤ 226157759) (w : World) (h : Zn w b z) :
    Calls Tryd.prog 37 #[.pointer (some ⟨b, 0, none⟩), .int .i64 t] w fun e w' => e = .returned (.tuple #[.int .i64 (z.turn t), .int .i64 0]) ∧ ∃ s, Rdy w' b z s ∧ w.grownBy w' (some b) := by
  have A := past_any b z hz t t1 t2 w h
  have hp : z.past t ≤ z.n := (Zon.Past.is hz t).le
  obtain ⟨r, hr⟩ : ∃ r, r = z.turn t := ⟨_, rfl⟩
  have HR : Hid (r = if z.past t = z.n then 226157760 else Zon.T z (z.past t)) := hr
  rw [← hr]
  obtain ⟨p, hp'⟩ : ∃ p, p = z.past t := ⟨_, rfl⟩
  rw [← hp'] at A HR hp
  clear hr hp' h t1 t2 hz
  have B := fun s w (h : Rdy w b z s) => ask_again b z s w h
  by_cases hs : z.s = 0
  · have hn : z.n = 0 := by unfold Zon.Z.n; rw [if_pos hs]
    obtain rfl : p = 0 := by omega
    have HE : Hid (r = 226157760) := by show r = _; rw [HR.out, if_pos hn.symm]
    have HN : ∀ w s, Rdy w b z s → s = .slice none 0 0 := fun w s h => by
      rcases h.told with ⟨_, e⟩ | ⟨k, _⟩
      · exact e
      · exact absurd hs k
    clear hn hp hs
    go_enter Tryd.func37, Tryd.ntmps37
    go_wp2_with (first
      | (go_at_call 40; go_must (refine A.mono ?_); rintro e w1 ⟨rfl, s, hR, hg⟩; obtain rfl := HN _ _ hR)
      | (go_at_call 49; go_must (refine (B _ _ hR).mono ?_); rintro e w2 ⟨rfl, rfl⟩))
    go_ret2
    exact ⟨congrArg (fun x => Ending.returned (.tuple #[.int .i64 x, .int .i64 0])) HE.out.symm, _, hR, hg⟩
  · have hn : z.n = 860 := by unfold Zon.Z.n; rw [if_neg hs]
    have HN : ∀ w s, Rdy w b z s → ∃ q, s = .slice (some ⟨q, 0, none⟩) 860 860 ∧ ∀ i, i < 860 → w.cell? ⟨q, i, none⟩ = some (.int .i64 (Zon.T z i)) := fun w s h => by
      rcases h.told with ⟨k, _⟩ | ⟨_, q, _, e, c⟩
      · exact absurd k hs
      · exact ⟨q, e, c⟩
    rw [hn] at hp
    by_cases hlast : p = 860
    · subst hlast
      have HE : Hid (r = 226157760) := by show r = _; rw [HR.out, if_pos hn.symm]
      clear hn hp hs
      go_enter Tryd.func37, Tryd.ntmps37
      go_wp2_with (first
        | (go_at_call 40; go_must (refine A.mono ?_); rintro e w1 ⟨rfl, s, hR, hg⟩; obtain ⟨q, rfl, _⟩ := HN _ _ hR)
        | (go_at_call 49; go_must (refine (B _ _ hR).mono ?_); rintro e w2 ⟨rfl, rfl⟩))
      go_ret2
      exact ⟨congrArg (fun x => Ending.returned (.tuple #[.int .i64 x, .int .i64 0])) HE.out.symm, _, hR, hg⟩
    · have HE : Hid (r = Zon.T z p) := by show r = _; rw [HR.out, if_neg (by omega)]
      have hp2 : p < 860 := by omega
      have hp3 : ((p : Int) == 860) = false := by simp; omega
      clear hn hp hs HR hlast
      go_enter Tryd.func37, Tryd.ntmps37
      go_wp2_with (first
        | (go_at_call 40; go_must (refine A.mono ?_); rintro e w1 ⟨rfl, s, hR, hg⟩; obtain ⟨q, rfl, hc⟩ := HN _ _ hR; have cp := hc p hp2; clear hc)
        | (go_at_call 49; go_must (refine (B _ _ hR).mono ?_); rintro e w2 ⟨rfl, rfl⟩))
      go_ret2
      exact ⟨congrArg (fun x => Ending.returned (.tuple #[.int .i64 x, .int .i64 0])) HE.out.symm, _, hR, hg⟩

set_option maxRecDepth 100000 in
theorem local_bad (b : Nat) (t : Int) (h : t < 0 ∨ 226157759 < t) (w : World) :
    Calls Tryd.prog 46 #[.pointer (some ⟨b, 0, none⟩), .int .i64 t] w fun e w' => e = .returned (.tuple #[civ 0 0 0 0 0 0, .int .i64 30]) ∧ w.grownBy w' none := by
  have hdone : ∀ o, w.grownBy (w.alloc o) none := fun o => World.grownBy_alloc w o none
  have H := offset_bad b t h
  clear h
  go_enter Tryd.func46, Tryd.ntmps46
  go_wp2_with (go_at_call 29; go_must (refine (H _).mono ?_); rintro e w1 ⟨rfl, rfl⟩)
  go_returns
  exact ⟨rfl, hdone _⟩

theorem cell_kept_b {w w1 : World} {C : Array Value} {t : TypeId} {b : Nat} (hg : (w.alloc (.cells C t)).grownBy w1 (some b)) (hb : b < w.heap.size) (i : Nat) (v : Value) (h : C[i]? = some v) : w1.cell? ⟨w.heap.size, i, none⟩ = some v :=
  hg.cell (by rw [World.cell?_alloc_new]; exact h) (by simp; omega)
theorem frozen_kept_b {w w1 : World} {C : Array Value} {t : TypeId} {b : Nat} (hg : (w.alloc (.cells C t)).grownBy w1 (some b)) (hb : b < w.heap.size) (i : Nat) : w1.frozen? ⟨w.heap.size, i, none⟩ = false := by
  rw [World.frozen?_of_block (w := w.alloc (.cells C t)) (hg.block w.heap.size (by simp) (by simp; omega))]
  simp
/-- A minute's six cells lie in the block b. -/
structure C6 (w : World) (b : Nat) (y m d h n k : Int) : Prop where
  c0 : w.cell? ⟨b, 0, none⟩ = some (.int .i64 y)
  c1 : w.cell? ⟨b, 1, none⟩ = some (.int .i64 m)
  c2 : w.cell? ⟨b, 2, none⟩ = some (.int .i64 d)
  c3 : w.cell? ⟨b, 3, none⟩ = some (.int .i64 h)
  c4 : w.cell? ⟨b, 4, none⟩ = some (.int .i64 n)
  c5 : w.cell? ⟨b, 5, none⟩ = some (.int .i64 k)
/-- A block's six cells, stored over. -/
def set6 (w : World) (b : Nat) (y m d h n k : Int) : World :=
  (((((w.setCell ⟨b, 0, none⟩ (.int .i64 y)).setCell ⟨b, 1, none⟩ (.int .i64 m)).setCell ⟨b, 2, none⟩ (.int .i64 d)).setCell ⟨b, 3, none⟩ (.int .i64 h)).setCell ⟨b, 4, none⟩ (.int .i64 n)).setCell ⟨b, 5, none⟩ (.int .i64 k)
theorem set6_cells {w : World} {b : Nat} {u0 u1 u2 u3 u4 u5 : Value} (q0 : w.cell? ⟨b, 0, none⟩ = some u0) (q1 : w.cell? ⟨b, 1, none⟩ = some u1) (q2 : w.cell? ⟨b, 2, none⟩ = some u2) (q3 : w.cell? ⟨b, 3, none⟩ = some u3) (q4 : w.cell? ⟨b, 4, none⟩ = some u4) (q5 : w.cell? ⟨b, 5, none⟩ = some u5) (y m d h n k : Int) :
    C6 (set6 w b y m d h n k) b y m d h n k := by
  unfold set6
  have o : ∀ {w : World} {i j : Nat} {u : Value} {x : Option Value}, i ≠ j → w.cell? ⟨b, i, none⟩ = x → (w.setCell ⟨b, j, none⟩ u).cell? ⟨b, i, none⟩ = x := fun h k => other_cell (other_off h) k
  refine ⟨?_, ?_, ?_, ?_, ?_, ?_⟩
  · exact o (by omega) (o (by omega) (o (by omega) (o (by omega) (o (by omega) (World.cell?_setCell_same _ _ _ q0)))))
  · exact o (by omega) (o (by omega) (o (by omega) (o (by omega) (World.cell?_setCell_same _ _ _ (o (by omega) q1)))))
  · exact o (by omega) (o (by omega) (o (by omega) (World.cell?_setCell_same _ _ _ (o (by omega) (o (by omega) q2)))))
  · exact o (by omega) (o (by omega) (World.cell?_setCell_same _ _ _ (o (by omega) (o (by omega) (o (by omega) q3)))))
  · exact o (by omega) (World.cell?_setCell_same _ _ _ (o (by omega) (o (by omega) (o (by omega) (o (by omega) q4)))))
  · exact World.cell?_setCell_same _ _ _ (o (by omega) (o (by omega) (o (by omega) (o (by omega) (o (by omega) q5)))))
theorem set6_grown {w w1 : World} {b : Nat} {r : Option Nat} (g : w.grownBy w1 r) (hb : w.heap.size ≤ b) (y m d h n k : Int) : w.grownBy (set6 w1 b y m d h n k) r :=
  grown_set_new (grown_set_new (grown_set_new (grown_set_new (grown_set_new (grown_set_new g _ hb _) _ hb _) _ hb _) _ hb _) _ hb _) _ hb _
theorem set6_row (w : World) (b : Nat) (y m d h n k : Int) : w.grownBy (set6 w b y m d h n k) (some b) := by
  have g : ∀ {w1 : World} (i : Nat) (v : Value), w.grownBy w1 (some b) → w.grownBy (w1.setCell ⟨b, i, none⟩ v) (some b) := fun i v h => grown_more h (grown_set _ ⟨b, i, none⟩ v) (by simp)
  exact g 5 _ (g 4 _ (g 3 _ (g 2 _ (g 1 _ (g 0 _ (grown_refl w _))))))
theorem Rdy.row {w w' : World} {b c : Nat} {z : Zon.Z} {s : Value} (h : Rdy w b z s) (g : w.grownBy w' (some c)) (hc : c ≠ b) (hn : w.cell? ⟨c, 859, none⟩ = none) : Rdy w' b z s := by
  have hb := World.block_lt_of_cell? w _ h.c1
  have hne : some b ≠ some c := by simp; omega
  refine ⟨⟨g.cell h.c0 hne, g.cell h.c1 hne, g.cell h.c2 hne, g.cell h.c3 hne, g.cell h.c4 hne, g.cell h.c5 hne, g.cell h.c6 hne, g.cell h.c7 hne, g.cell h.c8 hne, g.cell h.c9 hne, fun i => ?_⟩, g.cell h.done hne, g.cell h.turns hne, ?_⟩
  · exact (frozen_grown g (a := ⟨b, i, none⟩) hb hne).trans (h.free i)
  · rcases h.told with k | ⟨hs, q, hqb, he, hcs⟩
    · exact .inl k
    · exact .inr ⟨hs, q, hqb, he, fun i hi => g.cell (hcs i hi) (fun e => by injection e with e; simp only at e; subst e; rw [hcs 859 (by omega)] at hn; cases hn)⟩

set_option maxRecDepth 100000 in
set_option maxHeartbeats 800000 in
/-- 'Local', by what 'From' tells of the sum. -/
theorem local_by (b : Nat) (z : Zon.Z) (hz : z.ok) (t : Int) (t1 : 0 ≤ t) (t2 : t ≤ 226157759) (y m d h n k er : Int)
    (F : ∀ w, Calls Tryd.prog 12 #[.int .i64 (t + z.at t)] w fun e w' => e = .returned (.tuple #[civ y m d h n k, .int .i64 er]) ∧ w.grownBy w' none) (w : World) (hw : Zn w b z) :
    Calls Tryd.prog 46 #[.pointer (some ⟨b, 0, none⟩), .int .i64 t] w fun e w' => e = .returned (.tuple #[civ y m d h n k, .int .i64 er]) ∧ ∃ s, Rdy w' b z s ∧ w.grownBy w' (some b) := by
  have A := fun o => offset_any b z hz t t1 t2 (w.alloc o) (hw.kept (World.grownBy_alloc w o none))
  have hb := Zon.at_bd hz t
  have hlt := World.block_lt_of_cell? w _ hw.c0
  simp only at hlt
  obtain ⟨o, ho⟩ : ∃ o, o = z.at t := ⟨_, rfl⟩
  rw [← ho] at F hb
  simp only [← ho] at A
  obtain ⟨hb1, hb2⟩ := hb
  clear ho hw hz
  go_enter Tryd.func46, Tryd.ntmps46
  go_wp2_with (first
    | (go_at_call 29; go_must (refine (A _).mono ?_); rintro e w1 ⟨rfl, s, hR, hg⟩)
    | (go_at_call 12; go_must (refine (F _).mono ?_); rintro e w2 ⟨rfl, hg2⟩; have hR2 := hR.kept hg2; have q0 := hg2.cell (cell_kept_b hg hlt 0 _ rfl) (by simp); have q1 := hg2.cell (cell_kept_b hg hlt 1 _ rfl) (by simp); have q2 := hg2.cell (cell_kept_b hg hlt 2 _ rfl) (by simp); have q3 := hg2.cell (cell_kept_b hg hlt 3 _ rfl) (by simp); have q4 := hg2.cell (cell_kept_b hg hlt 4 _ rfl) (by simp); have q5 := hg2.cell (cell_kept_b hg hlt 5 _ rfl) (by simp); have f0 := frozen_none hg2 (cell_kept_b hg hlt 0 _ rfl) (frozen_kept_b hg hlt 0); have f1 := frozen_none hg2 (cell_kept_b hg hlt 1 _ rfl) (frozen_kept_b hg hlt 1); have f2 := frozen_none hg2 (cell_kept_b hg hlt 2 _ rfl) (frozen_kept_b hg hlt 2); have f3 := frozen_none hg2 (cell_kept_b hg hlt 3 _ rfl) (frozen_kept_b hg hlt 3); have f4 := frozen_none hg2 (cell_kept_b hg hlt 4 _ rfl) (frozen_kept_b hg hlt 4); have f5 := frozen_none hg2 (cell_kept_b hg hlt 5 _ rfl) (frozen_kept_b hg hlt 5)))
  have hs1 := hg.size
  have hs2 := hg2.size
  simp at hs1
  have hn : w2.cell? ⟨w.heap.size, 859, none⟩ = none := by
    rw [cell_grown hg2 (a := ⟨w.heap.size, 859, none⟩) (by simp; omega) (by simp), cell_grown hg (a := ⟨w.heap.size, 859, none⟩) (by simp) (by simp; omega), World.cell?_alloc_new]
    rfl
  have hC := set6_cells q0 q1 q2 q3 q4 q5 y m d h n k
  have hR3 := hR2.row (set6_row w2 w.heap.size y m d h n k) (by omega) hn
  have g0 : w.grownBy w2 (some b) := grown_more (grown_more (grown_more (grown_refl w (some b)) (World.grownBy_alloc w _ none) (by simp)) hg (by simp)) hg2 (by simp)
  have g3 := set6_grown g0 (Nat.le_refl w.heap.size) y m d h n k
  unfold set6 at hC hR3 g3
  generalize ((((((w2.setCell ⟨w.heap.size, 0, none⟩ (.int .i64 y)).setCell ⟨w.heap.size, 1, none⟩ (.int .i64 m)).setCell ⟨w.heap.size, 2, none⟩ (.int .i64 d)).setCell ⟨w.heap.size, 3, none⟩ (.int .i64 h)).setCell ⟨w.heap.size, 4, none⟩ (.int .i64 n)).setCell ⟨w.heap.size, 5, none⟩ (.int .i64 k)) = W at hC hR3 g3 ⊢
  have r0 := hC.c0
  have r1 := hC.c1
  have r2 := hC.c2
  have r3 := hC.c3
  have r4 := hC.c4
  have r5 := hC.c5
  refine bodyPost_ret (v := .tuple #[civ y m d h n k, .int .i64 er]) (by simp [results, Tryd.results46, go_sem, r0, r1, r2, r3, r4, r5]) rfl ?_
  exact ⟨rfl, s, hR3, g3⟩
end Go.Proofs.YteiiapnpdfgoaaaDoor
