/- What the document's own 'field' answers. -/
import Derived.Test.YthjfecniipifhaaDoorKRefItems
import Derived.Deep.QuietTactic
import Derived.BigQuiet
namespace Go.Proofs.YthjfecniipifhaaDoor
open Go.RowKit
set_option linter.unusedVariables false
/-- What 'field' hands back: the error, and the set where there is none. -/
def fdP (y : Nat × Int) (e : Ending) : Prop := ∃ x : Nat, e = .returned (.tuple #[.int .u64 x, .int .i64 y.2]) ∧ (y.2 = 0 → x = y.1)
/-- The items so far: all right and their set, or one isn't. -/
def Sofar (f : Cro.Sp) (r : List Cro.It) (x : Nat) (E : Int) : Prop := (E = 0 ∧ r.all f.holdsB = true ∧ x = Cro.sets f 0 r) ∨ (E = 51 ∧ r.all f.holdsB = false)
theorem fd_end {f : Cro.Sp} {L : List (List UInt8)} {r : List Cro.It} {x : Nat} {E : Int} (h : Cro.itms f L = some r) (hS : Sofar f r x E) : fdP (Cro.fld f L) (.returned (.tuple #[.int .u64 x, .int .i64 E])) := by
  unfold Cro.fld
  rw [h]
  rcases hS with ⟨rfl, h1, rfl⟩ | ⟨rfl, h1⟩
  · simp only
    rw [if_pos h1]
    exact ⟨_, rfl, fun _ => rfl⟩
  · simp only
    rw [if_neg (by simp [h1])]
    exact ⟨_, rfl, fun h => by cases h⟩
theorem sofar_bad {f : Cro.Sp} {r : List Cro.It} {t : Cro.It} {x : Nat} (h : f.holdsB t = false) : Sofar f (r ++ [t]) x 51 := .inr ⟨rfl, by simp [h]⟩
theorem sofar_good {f : Cro.Sp} {r : List Cro.It} {t : Cro.It} {x : Nat} {E : Int} (hS : Sofar f r x E) (h : f.holdsB t = true) : Sofar f (r ++ [t]) (x ||| f.set t) E := by
  rcases hS with ⟨rfl, h1, rfl⟩ | ⟨rfl, h1⟩
  · exact .inl ⟨rfl, by simp [h1, h], (sets_snoc f t r 0).symm⟩
  · exact .inr ⟨rfl, by simp [h1]⟩
theorem bts_step (f : Cro.Sp) (b s n v : Nat) (hs : 0 < s) (hn : n ≤ b) : Cro.bts f b s (b + 1) n v = Cro.bts f b s (b + 1) (n + s) (v ||| 2 ^ (if f.last < n then f.lo else n)) := by
  rw [Cro.bts, if_pos hn, Cro.bts_fuel f b s hs b (b + 1) (n + s) _ (by omega) (by omega)]

set_option maxRecDepth 100000 in
set_option maxHeartbeats 3200000 in
theorem rField (s : ByteArray) (j : Nat) (hj : j < 5) (hs : s.size ≤ 256) (w : World) :
    Calls Tryd.prog 22 #[.string s, .int .i64 j] w fun e w' => fdP (Cro.fld (Cro.sp j) (Cro.spl 44 s.data.toList)) e ∧ w.grownBy w' none := by
  have LE := rLeast j hj
  have MO := rMost j hj
  have RI := fun k hk => rItem s k j hj hs hk
  have hbd := sp_bd j
  have HSF : Hid _ := sp_facts j hj
  have hl : s.data.toList.length = s.size := by simp
  obtain ⟨L, hL⟩ : ∃ L, L = Cro.spl 44 s.data.toList := ⟨_, rfl⟩
  have HL0 : Hid (L = Cro.spl 44 (s.data.toList.drop 0)) := by show _ = _; rw [List.drop_zero]; exact hL
  rw [← hL]
  clear hL
  have HLen : Hid (s.data.toList.length = s.size) := hl
  clear hl
  go_enter Tryd.func22, Tryd.ntmps22
  go_wp2
  go_loopw [6, 7, 8] (fun vb ve vi wr => ∃ (k x : Nat) (E : Int), k ≤ s.size ∧ vi = .int .i64 k ∧ vb = .int .u64 x ∧ ve = .int .i64 E ∧ x < 18446744073709551616 ∧ w.grownBy wr none ∧ Hid (∃ D r, L = D ++ Cro.spl 44 (s.data.toList.drop k) ∧ Cro.itms (Cro.sp j) D = some r ∧ Sofar (Cro.sp j) r x E)) (fun _ _ vi _ => (s.size + 1 - (intOf vi).toNat))
  case atStart => exact ⟨0, 0, 0, by omega, rfl, rfl, rfl, by omega, grown_refl _ _, ⟨[], [], HL0.out, rfl, .inl ⟨rfl, rfl, rfl⟩⟩⟩
  case round =>
    obtain ⟨k, x, E, hk, rfl, rfl, rfl, hx, hG, HI⟩ := hrel
    have IT := RI k hk
    obtain ⟨p, rr, e1, e2, e3⟩ := Cro.spl_cut 44 (s.data.toList.drop k)
    have hrr : rr = [] ∨ ∃ r', rr = 44 :: r' := by
      rcases e3 with ⟨h, _⟩ | ⟨r', h, _⟩
      · exact .inl h
      · exact .inr ⟨r', h⟩
    have hio : Cro.itO (Cro.sp j) (s.data.toList.drop k) = (Cro.itm (Cro.sp j) p).map (fun t => (t, p.length)) := by rw [e1]; exact Cro.item_is _ e2 hrr
    rw [hio] at IT
    clear hio RI
    obtain ⟨D, r, i1, i2, i3⟩ := HI.out
    cases hi : Cro.itm (Cro.sp j) p with
    | none =>
      rw [hi] at IT
      have HV : Hid (fdP (Cro.fld (Cro.sp j) L) (.returned (.tuple #[.int .u64 0, .int .i64 50]))) := by
        have : p ∈ L := by
          rw [i1]
          rcases e3 with ⟨_, h⟩ | ⟨r', _, h⟩ <;> rw [h] <;> simp
        obtain ⟨m, hm⟩ := List.getElem?_of_mem this
        have hn := itms_none hm hi
        unfold Cro.fld
        rw [hn]
        exact ⟨0, rfl, fun h => by cases h⟩
      clear i1 i2 i3 e1 e2 e3 hrr hi HI
      go_wp2_with (go_at_call 40; (with_reducible refine (IT _).mono ?_); rintro e w1 ⟨⟨ia, ib, is, ix, st, rfl⟩, hg1⟩)
      go_ret2
      exact ⟨HV.out, grown_alloc (grown_more hG hg1 (by simp)) _⟩
    | some t =>
      rw [hi] at IT
      obtain ⟨q, hq⟩ : ∃ q, q = k + p.length := ⟨_, rfl⟩
      have IT' : ∀ w, Calls Tryd.prog 40 #[.string s, .int .i64 k, .int .i64 j] w fun e w' => (∃ st, e = .returned (riv t.a t.b t.s (q : Int) true st)) ∧ w.grownBy w' none := by rw [hq]; exact IT
      clear IT
      have IT := IT'
      clear IT'
      have hlen : s.size - k = p.length + rr.length := by
        have := congrArg List.length e1
        rw [List.length_drop, HLen.out, List.length_append] at this
        exact this
      have HS2 : Hid (Cro.itms (Cro.sp j) (D ++ [p]) = some (r ++ [t])) := itms_snoc i2 hi
      have hts := itm_s hi
      -- the end, or on
      have HE : Hid ((q = s.size ∧ L = D ++ [p]) ∨ (q < s.size ∧ L = (D ++ [p]) ++ Cro.spl 44 (s.data.toList.drop (q + 1)))) := by
        rcases e3 with ⟨h, h'⟩ | ⟨r', h, h'⟩
        · left
          subst h
          simp at hlen
          exact ⟨by omega, by rw [i1, h']⟩
        · right
          subst h
          simp at hlen
          have hd : s.data.toList.drop (q + 1) = r' := by
            rw [show q + 1 = k + (p.length + 1) by omega, ← List.drop_drop, e1]
            simp
          exact ⟨by omega, by rw [i1, h', hd]; simp⟩
      have HSO : Hid (Sofar (Cro.sp j) r x E) := i3
      have hqs : q ≤ s.size := by omega
      have hqk : k ≤ q := by omega
      clear i1 i2 i3 e1 e2 e3 hrr hi HI hq hlen
      have HH : Hid ((Cro.sp j).holdsB t = decide ((Cro.sp j).lo ≤ t.a ∧ t.a ≤ t.b ∧ t.b ≤ (Cro.sp j).hi ∧ 0 < t.s)) := rfl
      by_cases c1 : t.a < (Cro.sp j).lo
      · have z1 : decide ((t.a : Int) < ((Cro.sp j).lo : Int)) = true := decide_eq_true (by omega)
        have nz1 : decide ((t.a) < ((Cro.sp j).lo)) = true := decide_eq_true (by omega)
        have hb : (Cro.sp j).holdsB t = false := by rw [HH.out]; exact decide_eq_false (by omega)
        have HSB : Hid (Sofar (Cro.sp j) (r ++ [t]) x 51) := sofar_bad hb
        clear hb HH HSO HSF c1
        rcases HE.out with ⟨hend, hL⟩ | ⟨hend, hL⟩
        · have y0 : ((q : Int) == (s.size : Int)) = true := by simp; omega
          have HV : Hid (fdP (Cro.fld (Cro.sp j) L) (.returned (.tuple #[.int .u64 x, .int .i64 51]))) := by show fdP _ _; rw [hL]; exact fd_end HS2.out HSB.out
          clear hend hL HE HS2
          go_wp2_with ((go_at_call 40; (with_reducible refine (IT _).mono ?_); rintro e w1 ⟨⟨st, rfl⟩, hg1⟩))
          go_quiet (first | (go_at_call 41; with_reducible refine Calls.quiet_of_same (LE _)) | (go_at_call 42; with_reducible refine Calls.quiet_of_same (MO _)))
          go_wp2
          go_ret2
          exact ⟨HV.out, grown_drewN (grown_alloc (grown_more hG hg1 (by simp)) _) _⟩
        · have y0 : ((q : Int) == (s.size : Int)) = false := by simp; omega
          have HI' : Hid (∃ D r, L = D ++ Cro.spl 44 (s.data.toList.drop (q + 1)) ∧ Cro.itms (Cro.sp j) D = some r ∧ Sofar (Cro.sp j) r x 51) := ⟨_, _, hL, HS2.out, HSB.out⟩
          clear hL HE HS2
          go_wp2_with ((go_at_call 40; (with_reducible refine (IT _).mono ?_); rintro e w1 ⟨⟨st, rfl⟩, hg1⟩))
          go_quiet (first | (go_at_call 41; with_reducible refine Calls.quiet_of_same (LE _)) | (go_at_call 42; with_reducible refine Calls.quiet_of_same (MO _)))
          go_wp2
          go_roundw
          case rel => exact ⟨q + 1, x, 51, by omega, by go_num, rfl, rfl, hx, grown_drewN (grown_alloc (grown_more hG hg1 (by simp)) _) _, HI'⟩
          case measure => simp [intOf]; omega
      · have z1 : decide ((t.a : Int) < ((Cro.sp j).lo : Int)) = false := decide_eq_false (by omega)
        have nz1 : decide ((t.a) < ((Cro.sp j).lo)) = false := decide_eq_false (by omega)
        by_cases c2 : (Cro.sp j).hi < t.b
        · have z2 : decide (((Cro.sp j).hi : Int) < (t.b : Int)) = true := decide_eq_true (by omega)
          have nz2 : decide (((Cro.sp j).hi) < (t.b)) = true := decide_eq_true (by omega)
          have hb : (Cro.sp j).holdsB t = false := by rw [HH.out]; exact decide_eq_false (by omega)
          have HSB : Hid (Sofar (Cro.sp j) (r ++ [t]) x 51) := sofar_bad hb
          clear hb HH HSO HSF c2
          rcases HE.out with ⟨hend, hL⟩ | ⟨hend, hL⟩
          · have y0 : ((q : Int) == (s.size : Int)) = true := by simp; omega
            have HV : Hid (fdP (Cro.fld (Cro.sp j) L) (.returned (.tuple #[.int .u64 x, .int .i64 51]))) := by show fdP _ _; rw [hL]; exact fd_end HS2.out HSB.out
            clear hend hL HE HS2
            go_wp2_with ((go_at_call 40; (with_reducible refine (IT _).mono ?_); rintro e w1 ⟨⟨st, rfl⟩, hg1⟩))
            go_quiet (first | (go_at_call 41; with_reducible refine Calls.quiet_of_same (LE _)) | (go_at_call 42; with_reducible refine Calls.quiet_of_same (MO _)))
            go_wp2
            go_ret2
            exact ⟨HV.out, grown_drewN (grown_alloc (grown_more hG hg1 (by simp)) _) _⟩
          · have y0 : ((q : Int) == (s.size : Int)) = false := by simp; omega
            have HI' : Hid (∃ D r, L = D ++ Cro.spl 44 (s.data.toList.drop (q + 1)) ∧ Cro.itms (Cro.sp j) D = some r ∧ Sofar (Cro.sp j) r x 51) := ⟨_, _, hL, HS2.out, HSB.out⟩
            clear hL HE HS2
            go_wp2_with ((go_at_call 40; (with_reducible refine (IT _).mono ?_); rintro e w1 ⟨⟨st, rfl⟩, hg1⟩))
            go_quiet (first | (go_at_call 41; with_reducible refine Calls.quiet_of_same (LE _)) | (go_at_call 42; with_reducible refine Calls.quiet_of_same (MO _)))
            go_wp2
            go_roundw
            case rel => exact ⟨q + 1, x, 51, by omega, by go_num, rfl, rfl, hx, grown_drewN (grown_alloc (grown_more hG hg1 (by simp)) _) _, HI'⟩
            case measure => simp [intOf]; omega
        · have z2 : decide (((Cro.sp j).hi : Int) < (t.b : Int)) = false := decide_eq_false (by omega)
          have nz2 : decide (((Cro.sp j).hi) < (t.b)) = false := decide_eq_false (by omega)
          by_cases c3 : t.b < t.a
          · have z3 : decide ((t.b : Int) < (t.a : Int)) = true := decide_eq_true (by omega)
            have nz3 : decide ((t.b) < (t.a)) = true := decide_eq_true (by omega)
            have hb : (Cro.sp j).holdsB t = false := by rw [HH.out]; exact decide_eq_false (by omega)
            have HSB : Hid (Sofar (Cro.sp j) (r ++ [t]) x 51) := sofar_bad hb
            clear hb HH HSO HSF c3
            rcases HE.out with ⟨hend, hL⟩ | ⟨hend, hL⟩
            · have y0 : ((q : Int) == (s.size : Int)) = true := by simp; omega
              have HV : Hid (fdP (Cro.fld (Cro.sp j) L) (.returned (.tuple #[.int .u64 x, .int .i64 51]))) := by show fdP _ _; rw [hL]; exact fd_end HS2.out HSB.out
              clear hend hL HE HS2
              go_wp2_with ((go_at_call 40; (with_reducible refine (IT _).mono ?_); rintro e w1 ⟨⟨st, rfl⟩, hg1⟩))
              go_quiet (first | (go_at_call 41; with_reducible refine Calls.quiet_of_same (LE _)) | (go_at_call 42; with_reducible refine Calls.quiet_of_same (MO _)))
              go_wp2
              go_ret2
              exact ⟨HV.out, grown_drewN (grown_alloc (grown_more hG hg1 (by simp)) _) _⟩
            · have y0 : ((q : Int) == (s.size : Int)) = false := by simp; omega
              have HI' : Hid (∃ D r, L = D ++ Cro.spl 44 (s.data.toList.drop (q + 1)) ∧ Cro.itms (Cro.sp j) D = some r ∧ Sofar (Cro.sp j) r x 51) := ⟨_, _, hL, HS2.out, HSB.out⟩
              clear hL HE HS2
              go_wp2_with ((go_at_call 40; (with_reducible refine (IT _).mono ?_); rintro e w1 ⟨⟨st, rfl⟩, hg1⟩))
              go_quiet (first | (go_at_call 41; with_reducible refine Calls.quiet_of_same (LE _)) | (go_at_call 42; with_reducible refine Calls.quiet_of_same (MO _)))
              go_wp2
              go_roundw
              case rel => exact ⟨q + 1, x, 51, by omega, by go_num, rfl, rfl, hx, grown_drewN (grown_alloc (grown_more hG hg1 (by simp)) _) _, HI'⟩
              case measure => simp [intOf]; omega
          · have z3 : decide ((t.b : Int) < (t.a : Int)) = false := decide_eq_false (by omega)
            have nz3 : decide ((t.b) < (t.a)) = false := decide_eq_false (by omega)
            by_cases c4 : t.s = 0
            · have z4 : ((t.s : Int) == 0) = true := by simp; omega
              have hb : (Cro.sp j).holdsB t = false := by rw [HH.out]; exact decide_eq_false (by omega)
              have HSB : Hid (Sofar (Cro.sp j) (r ++ [t]) x 51) := sofar_bad hb
              clear hb HH HSO HSF c4
              rcases HE.out with ⟨hend, hL⟩ | ⟨hend, hL⟩
              · have y0 : ((q : Int) == (s.size : Int)) = true := by simp; omega
                have HV : Hid (fdP (Cro.fld (Cro.sp j) L) (.returned (.tuple #[.int .u64 x, .int .i64 51]))) := by show fdP _ _; rw [hL]; exact fd_end HS2.out HSB.out
                clear hend hL HE HS2
                go_wp2_with ((go_at_call 40; (with_reducible refine (IT _).mono ?_); rintro e w1 ⟨⟨st, rfl⟩, hg1⟩))
                go_quiet (first | (go_at_call 41; with_reducible refine Calls.quiet_of_same (LE _)) | (go_at_call 42; with_reducible refine Calls.quiet_of_same (MO _)))
                go_wp2
                go_ret2
                exact ⟨HV.out, grown_drewN (grown_alloc (grown_more hG hg1 (by simp)) _) _⟩
              · have y0 : ((q : Int) == (s.size : Int)) = false := by simp; omega
                have HI' : Hid (∃ D r, L = D ++ Cro.spl 44 (s.data.toList.drop (q + 1)) ∧ Cro.itms (Cro.sp j) D = some r ∧ Sofar (Cro.sp j) r x 51) := ⟨_, _, hL, HS2.out, HSB.out⟩
                clear hL HE HS2
                go_wp2_with ((go_at_call 40; (with_reducible refine (IT _).mono ?_); rintro e w1 ⟨⟨st, rfl⟩, hg1⟩))
                go_quiet (first | (go_at_call 41; with_reducible refine Calls.quiet_of_same (LE _)) | (go_at_call 42; with_reducible refine Calls.quiet_of_same (MO _)))
                go_wp2
                go_roundw
                case rel => exact ⟨q + 1, x, 51, by omega, by go_num, rfl, rfl, hx, grown_drewN (grown_alloc (grown_more hG hg1 (by simp)) _) _, HI'⟩
                case measure => simp [intOf]; omega
            · have z4 : ((t.s : Int) == 0) = false := by simp; omega
              have hb : (Cro.sp j).holdsB t = true := by rw [HH.out]; exact decide_eq_true (by omega)
              have HSB : Hid (Sofar (Cro.sp j) (r ++ [t]) (x ||| (Cro.sp j).set t) E) := sofar_good HSO.out hb
              have HB0 : Hid (Cro.bts (Cro.sp j) t.b t.s (t.b + 1) t.a x = (x ||| (Cro.sp j).set t)) := Cro.bts_or (Cro.sp j) t.b t.s (t.b + 1) t.a x
              clear hb HH HSO
              go_wp2_with ((go_at_call 40; (with_reducible refine (IT _).mono ?_); rintro e w1 ⟨⟨st, rfl⟩, hg1⟩))
              go_quiet (first | (go_at_call 41; with_reducible refine Calls.quiet_of_same (LE _)) | (go_at_call 42; with_reducible refine Calls.quiet_of_same (MO _)))
              generalize hW : World.drewN (w1.alloc _) nq = W
              have f0 : W.cell? ⟨w1.heap.size, 0, none⟩ = some (.int .i64 t.a) := by subst hW; go_simp
              have f1 : W.cell? ⟨w1.heap.size, 1, none⟩ = some (.int .i64 t.b) := by subst hW; go_simp
              have f2 : W.cell? ⟨w1.heap.size, 2, none⟩ = some (.int .i64 t.s) := by subst hW; go_simp
              have f3 : W.cell? ⟨w1.heap.size, 3, none⟩ = some (.int .i64 q) := by subst hW; go_simp
              have GW : w.grownBy W none := by subst hW; exact grown_drewN (grown_alloc (grown_more hG hg1 (by simp)) _) _
              clear hW hg1 hG z1 nz1 z2 nz2 z3 nz3 z4
              go_wp2
              go_loop [6, 10] (fun vb vi => ∃ n v : Nat, vi = .int .i64 n ∧ vb = .int .u64 v ∧ t.a ≤ n ∧ n ≤ t.b + t.s ∧ v < 18446744073709551616 ∧ Hid (Cro.bts (Cro.sp j) t.b t.s (t.b + 1) n v = (x ||| (Cro.sp j).set t))) (fun _ vi => (t.b + 1 - (intOf vi).toNat))
              case atStart => exact ⟨t.a, x, rfl, rfl, by omega, by omega, hx, HB0.out⟩
              case round =>
                obtain ⟨n, v, rfl, rfl, h1, h2, h3, HB⟩ := hrel
                by_cases hle : n ≤ t.b
                · have hst := bts_step (Cro.sp j) t.b t.s n v (by omega) hle
                  rw [HB.out] at hst
                  obtain ⟨g0, g1, g2⟩ := HSF.out
                  have hlo : j = 4 → (Cro.sp j).lo = 0 := by rintro rfl; rfl
                  by_cases j4 : j = 4
                  · have y1 : ((j : Int) == 4) = true := by simp; omega
                    by_cases n7 : n = 7
                    · have y2 : ((n : Int) == 7) = true := by simp; omega
                      rw [if_pos (by omega), hlo j4] at hst
                      have HB' : Hid (Cro.bts (Cro.sp j) t.b t.s (t.b + 1) (n + t.s) (v ||| 1) = (x ||| (Cro.sp j).set t)) := hst.symm
                      have hO : Hid (bits BinOp.or IntKind.u64 (v : Int) 1 = ((v ||| 1 : Nat) : Int)) := u64_or v 1 h3 (by omega)
                      have HLT : Hid (v ||| 1 < 18446744073709551616) := Nat.or_lt_two_pow (n := 64) h3 (by omega)
                      clear hst hlo g0 g1 g2 HB j4 n7
                      go_wp2
                      go_round
                      case rel => exact ⟨n + t.s, v ||| 1, by go_num, by rw [hO.out], by omega, by omega, HLT.out, HB'⟩
                      case measure => simp [intOf]; omega
                    · have y2 : ((n : Int) == 7) = false := by simp; omega
                      rw [if_neg (by omega)] at hst
                      have HB' : Hid (Cro.bts (Cro.sp j) t.b t.s (t.b + 1) (n + t.s) (v ||| 2 ^ n) = (x ||| (Cro.sp j).set t)) := hst.symm
                      have hO : Hid (bits BinOp.or IntKind.u64 (v : Int) (IntKind.u64.wrap (2 ^ n)) = ((v ||| 2 ^ n : Nat) : Int)) := or_bit v n h3 (by omega)
                      have HLT : Hid (v ||| 2 ^ n < 18446744073709551616) := Nat.or_lt_two_pow (n := 64) h3 (Nat.pow_lt_pow_right (by omega) (by omega))
                      clear hst hlo g0 g1 g2 HB j4
                      go_wp2
                      go_round
                      case rel => exact ⟨n + t.s, v ||| 2 ^ n, by go_num, by rw [hO.out], by omega, by omega, HLT.out, HB'⟩
                      case measure => simp [intOf]; omega
                  · have y1 : ((j : Int) == 4) = false := by simp; omega
                    rw [if_neg (by omega)] at hst
                    have HB' : Hid (Cro.bts (Cro.sp j) t.b t.s (t.b + 1) (n + t.s) (v ||| 2 ^ n) = (x ||| (Cro.sp j).set t)) := hst.symm
                    have hO : Hid (bits BinOp.or IntKind.u64 (v : Int) (IntKind.u64.wrap (2 ^ n)) = ((v ||| 2 ^ n : Nat) : Int)) := or_bit v n h3 (by omega)
                    have HLT : Hid (v ||| 2 ^ n < 18446744073709551616) := Nat.or_lt_two_pow (n := 64) h3 (Nat.pow_lt_pow_right (by omega) (by omega))
                    clear hst hlo g0 g1 g2 HB 
                    go_wp2
                    go_round
                    case rel => exact ⟨n + t.s, v ||| 2 ^ n, by go_num, by rw [hO.out], by omega, by omega, HLT.out, HB'⟩
                    case measure => simp [intOf]; omega
                · have hv : v = (x ||| (Cro.sp j).set t) := by rw [← HB.out, Cro.bts_end _ _ _ _ _ _ (by omega)]
                  rw [← hv] at HSB
                  clear hv HB HB0 HSF
                  rcases HE.out with ⟨hend, hL⟩ | ⟨hend, hL⟩
                  · have y0 : ((q : Int) == (s.size : Int)) = true := by simp; omega
                    have HV : Hid (fdP (Cro.fld (Cro.sp j) L) (.returned (.tuple #[.int .u64 v, .int .i64 E]))) := by show fdP _ _; rw [hL]; exact fd_end HS2.out HSB.out
                    clear hend hL HE HS2
                    go_wp2
                    go_ret2
                    exact ⟨HV.out, GW⟩
                  · have y0 : ((q : Int) == (s.size : Int)) = false := by simp; omega
                    have HI' : Hid (∃ D r, L = D ++ Cro.spl 44 (s.data.toList.drop (q + 1)) ∧ Cro.itms (Cro.sp j) D = some r ∧ Sofar (Cro.sp j) r v E) := ⟨_, _, hL, HS2.out, HSB.out⟩
                    clear hL HE HS2
                    go_wp2
                    go_roundw
                    case rel => exact ⟨q + 1, v, E, by omega, by go_num, rfl, rfl, h3, GW, HI'⟩
                    case measure => simp [intOf]; omega
end Go.Proofs.YthjfecniipifhaaDoor
