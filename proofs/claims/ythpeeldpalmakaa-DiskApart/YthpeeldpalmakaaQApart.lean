/- Lists that were handed in or answered, and disks, have nothing in common: the statement's walk. -/
import Derived.Test.YthpeeldpalmakaaQSet
namespace Go.Proofs.Ythpeeldpalmakaa
open Go.RowKit Dsk
set_option linter.unusedVariables false

theorem mem_lookup : ∀ {L : Ds} {x : List UInt8} {f : Fl}, L.lookup x = some f → (x, f) ∈ L
  | [], _, _, h => by simp at h
  | (a, g) :: L, x, f, h => by
    by_cases e : x = a
    · subst e
      simp [List.lookup] at h
      subst h
      simp
    · have e' : (x == a) = false := by simpa using e
      simp only [List.lookup, e'] at h
      exact List.mem_cons_of_mem _ (mem_lookup h)
theorem rd_len {s : St} (h : Ok s) (x : List UInt8) : (rdB s.l x).length ≤ 1048576 := by
  unfold rdB
  cases hlk : s.l.lookup x with
  | none => simp
  | some f => exact Nat.le_trans (mem_tot (mem_lookup hlk)) h.tot
/-- What one turn of the statement meets: the cells of one of the script in a new block. -/
structure Box (w : World) (q : Nat) (kd : Int) (nm : ByteArray) (v : Value) (keep torn : Int) : Prop where
  c0 : w.cell? ⟨q, 0, none⟩ = some (.int .i64 kd)
  c1 : w.cell? ⟨q, 1, none⟩ = some (.string nm)
  c2 : w.cell? ⟨q, 2, none⟩ = some v
  c3 : w.cell? ⟨q, 3, none⟩ = some (.int .i64 keep)
  c4 : w.cell? ⟨q, 4, none⟩ = some (.int .i64 torn)
theorem Box.kept {F : Nat → Prop} {w w' : World} {q : Nat} {kd : Int} {nm : ByteArray} {v : Value} {keep torn : Int} (h : Box w q kd nm v keep torn) (g : Chg F w w') (hq : ¬ F q) : Box w' q kd nm v keep torn :=
  ⟨g.cell h.c0 hq, g.cell h.c1 hq, g.cell h.c2 hq, g.cell h.c3 hq, g.cell h.c4 hq⟩
theorem Box.but {w w' : World} {q : Nat} {kd : Int} {nm : ByteArray} {v : Value} {keep torn : Int} {row : Option Nat} (h : Box w q kd nm v keep torn) (g : w.grownBy w' row) (hq : some q ≠ row) : Box w' q kd nm v keep torn :=
  ⟨g.cell h.c0 hq, g.cell h.c1 hq, g.cell h.c2 hq, g.cell h.c3 hq, g.cell h.c4 hq⟩
theorem box_new (w : World) (kd : Int) (nm : ByteArray) (v : Value) (keep torn : Int) (q : Nat) (hq : q = w.heap.size) : Box (w.alloc (.cells #[.int .i64 kd, .string nm, v, .int .i64 keep, .int .i64 torn] 33)) q kd nm v keep torn :=
  ⟨new_at w hq rfl, new_at w hq rfl, new_at w hq rfl, new_at w hq rfl, new_at w hq rfl⟩
/-- Behind the two calls: what is left of a turn's beginning. -/
def Turned (W : World) (S : Nat → Prop) (B q : Nat) (o : Dd) (mine : Value) (b1 b2 : Nat) (s : St) (w : World) : Prop :=
  Du W S w b1 b2 s s ∧ Box w q o.kd o.nm o.v o.keep o.torn ∧ ¬ S q ∧ q < B ∧ eB.Own w B mine o.b ∧ (∀ k, mine.ownBlock = some k → ¬ S k) ∧ W.heap.size ≤ q
set_option maxRecDepth 100000 in
set_option maxHeartbeats 25600000 in
theorem apart_ok (a0 : Option Addr) (cp0 : Nat) (os : List Dd) (w : World) (hS : Sc w (.slice a0 os.length cp0) os) :
    Calls Try.prog 5 #[.slice a0 os.length cp0] w fun e w' => e = .returned (.bool true) ∧ Below w.heap.size w w' := by
  have AW := awake_any
  have NO := new_ok
  obtain ⟨_, hlen, hat⟩ := hS.at_
  have HS : Hid (∀ (i : Nat) (o : Dd), os[i]? = some o → ∃ g q, (∀ W', (Instr.indexAt 22 (.slice a0 os.length cp0) (.int .i64 (i : Int))).run Try.prog W' = .ok (.pointer (some ⟨g, q, none⟩)) W') ∧ DoAt w g q o) := hat
  clear hat hS
  go_enter Try.func5, Try.ntmps5
  go_upto_block 0 with (first
    | (go_at_call 8; (with_reducible refine (AW _).mono ?_); rintro e w1 ⟨rfl, K1⟩)
    | (go_at_call 9; (with_reducible refine (NO w1).mono ?_); rintro e w2 ⟨b1, F1, rfl, h2, f2, H2⟩)
    | (go_at_call 9; (with_reducible refine (NO w2).mono ?_); rintro e w3 ⟨b2, F2, rfl, h3, f3, H3⟩))
  obtain ⟨S0, D0⟩ := Du.start K1 h2 f2 H2 h3 f3 H3
  clear h2 f2 H2 h3 f3 H3 NO AW K1
  go_cut [5, 6, 7, 8, 9, 10, 11, 12, 13, 14, 15, 16] from 21 to 108 (fun i _ _ _ _ _ _ _ _ _ _ _ wx => ∃ s S, s.m ≤ 200 ∧ Du w S wx b1 b2 s s)
  case first =>
    go_wp2_with fail
    go_loopw [5] (fun i wr => ∃ (j : Nat) (s : St) (S : Nat → Prop), j ≤ os.length ∧ j ≤ 200 ∧ i = .int .i64 j ∧ s.m ≤ j ∧ Du w S wr b1 b2 s s) (fun i _ => (500 - intOf i).toNat)
    case atStart => exact ⟨0, newS, S0, by omega, by omega, rfl, by simp [newS], D0⟩
    case round =>
      obtain ⟨j, s, S, hj1, hj2, rfl, hm, hD⟩ := hrel
      clear D0
      by_cases hgo : j < os.length ∧ j < 200
      · obtain ⟨hlt, h4⟩ := hgo
        obtain ⟨o, hoj⟩ : ∃ o, os[j]? = some o := ⟨_, List.getElem?_eq_getElem hlt⟩
        obtain ⟨g, q, hix, hA⟩ := HS.out j o hoj
        obtain ⟨va, vc, hv⟩ := hA.rx.form
        obtain ⟨kd, nm, v, bb, kp, tn⟩ := o
        simp only at hv
        subst hv
        have hA' := hA.low hD.below
        have x0 := hA'.c0
        have x1 := hA'.c1
        have x2 := hA'.c2
        have x3 := hA'.c3
        have x4 := hA'.c4
        simp only at x0 x1 x2 x3 x4
        have HAT : Hid (DoAt w g q ⟨kd, nm, .slice va bb.length vc, bb, kp, tn⟩) := hA
        have HD : Hid (Du w S wr b1 b2 s s) := hD
        have X2 : ∀ o1 o2, eB.Rx ((wr.alloc o1).alloc o2) (Value.slice va bb.length vc) bb := fun o1 o2 => (hA'.rx.grown (World.grownBy_alloc wr o1 none)).grown (World.grownBy_alloc _ o2 none)
        have M2 : ∀ o1, eB.Own ((wr.alloc o1).alloc (.cells #[] 5)) (wr.heap.size + 1) (.slice (some ⟨wr.heap.size + 1, 0, none⟩) 0 0) [] := fun o1 => Elm.made (E := eB) (wr.alloc o1) #[] 0 _ (by simp) (by unfold maxLen; omega) rfl
        have hbl : bb.length ≤ 140737488351232 := hA.hb
        have BX : Hid (∀ o2 w2, ((wr.alloc (.cells #[.int .i64 kd, .string nm, (Value.slice va bb.length vc), .int .i64 kp, .int .i64 tn] 33)).alloc o2).grownBy w2 (some (wr.heap.size + 1)) → Box w2 wr.heap.size kd nm (Value.slice va bb.length vc) kp tn ∧ wr.grownBy w2 none) := fun o2 w2 gr => by
          have b1 := (box_new wr kd nm (Value.slice va bb.length vc) kp tn _ rfl).but (World.grownBy_alloc _ o2 none) (by simp)
          refine ⟨b1.but gr (fun e => by injection e with e; omega), grown_more (grown_alloc (World.grownBy_alloc wr _ none) o2) gr (fun k hk => .inr (by injection hk with hk; omega))⟩
        clear hoj hA hA' hD
        go_upto_region 12 with (at_builtin; refine Elm.wpList_append (E := eB) rfl (.tmp 35) (.tmp 37) rfl (wr.heap.size + 1) (.slice (some ⟨wr.heap.size + 1, 0, none⟩) 0 0) [] rfl (M2 _) (Value.slice va bb.length vc) bb rfl (X2 _ _) (by simp; omega) (by show (([] : List UInt8).length + bb.length) * 1 ≤ _; simp; omega) (by simp) ?_; intro a7 n7 c7 w2 O2 G2 l2; have y0 := (BX.out _ _ G2).1.c0; have y1 := (BX.out _ _ G2).1.c1; have y2 := (BX.out _ _ G2).1.c2; have y3 := (BX.out _ _ G2).1.c3; have y4 := (BX.out _ _ G2).1.c4)
        obtain ⟨w3, hw3⟩ : ∃ w3, w3 = w2.alloc (Obj.cells #[.int .i64 kd, .string nm, .slice a7 n7 c7, .int .i64 kp, .int .i64 tn] 33) := ⟨_, rfl⟩
        have g23 : w2.grownBy w3 none := by rw [hw3]; exact World.grownBy_alloc w2 _ none
        have BP : Box w3 w2.heap.size kd nm (.slice a7 n7 c7) kp tn := by rw [hw3]; exact box_new w2 _ _ _ _ _ _ rfl
        obtain ⟨BO2, gr2⟩ := BX.out _ _ G2
        have BO : Box w3 wr.heap.size kd nm (.slice va bb.length vc) kp tn := BO2.but g23 (by simp)
        have gr3 : wr.grownBy w3 none := grown_more gr2 g23 (by simp)
        have O3 : eB.Own w3 (wr.heap.size + 1) (.slice a7 n7 c7) bb := by have := O2.grown g23; simpa using this
        have z3 : w2.heap.size < w3.heap.size := World.block_lt_of_cell? w3 _ BP.c0
        have zq : wr.heap.size < w3.heap.size := World.block_lt_of_cell? w3 _ BO.c0
        have D3 := HD.out.grown gr3
        have Slt : ∀ k, S k → k < wr.heap.size := HD.out.lt
        rw [← hw3]
        obtain ⟨Q6, hQ6⟩ : ∃ Q, Q = wr.heap.size := ⟨_, rfl⟩
        obtain ⟨QP, hQP⟩ : ∃ Q, Q = w2.heap.size := ⟨_, rfl⟩
        have hWQ : w.heap.size ≤ Q6 := by rw [hQ6]; exact HD.out.below.size
        rw [← hQ6] at O3 BO Slt zq ⊢
        rw [← hQP] at BP z3 ⊢
        obtain ⟨s', hs'⟩ : ∃ s', s' = stepS s ⟨kd, nm, .slice va bb.length vc, bb, kp, tn⟩ := ⟨_, rfl⟩
        obtain ⟨e', he'⟩ : ∃ e', e' = stepE s ⟨kd, nm, .slice va bb.length vc, bb, kp, tn⟩ := ⟨_, rfl⟩
        have HMs : Hid (s'.m ≤ s.m + 1) := by rw [hs']; exact step_m s _
        have D1 : ∀ v, w3.grownBy v none → Calls Try.prog 14 #[.pointer (some ⟨b1, 0, none⟩), .agg #[.int .i64 kd, .string nm, .slice a7 n7 c7, .int .i64 kp, .int .i64 tn]] v fun e w' => e = .returned (.int .i64 e') ∧ DuOut w S b1 b2 s' s w3 w' := fun v gv => by
          have h1 := du_does_own (D3.grown gv) (by omega) (o := ⟨kd, nm, .slice a7 n7 c7, bb, kp, tn⟩) (O3.grown gv).rx HAT.out.hb HAT.out.hn HAT.out.hk (fun _ k hk c => by have h5 := (O3.lt k hk).1; have h6 := Slt k c; omega)
          refine h1.mono ?_
          rintro e w' ⟨he, S', a, f, C⟩
          refine ⟨by rw [he, he']; rfl, S', ?_, fun k hk => (f k hk).imp id (fun e => by have := gv.size; omega), (Chg.of (F := S) gv (by simp)).trans C fun k hk => .inl hk⟩
          rw [hs']
          exact a
        have D2 : ∀ {S' v}, Du w S' v b1 b2 s' s → Calls Try.prog 14 #[.pointer (some ⟨b2, 0, none⟩), .agg #[.int .i64 kd, .string nm, .slice va bb.length vc, .int .i64 kp, .int .i64 tn]] v fun e w' => e = .returned (.int .i64 e') ∧ DuOut w S' b2 b1 s' s' v w' := fun {S' v} h => by
          have := du_does h.symm (by omega) HAT.out
          rw [← hs', ← he'] at this
          exact this
        have p0 := BP.c0
        have p1 := BP.c1
        have p2 := BP.c2
        have p3 := BP.c3
        have p4 := BP.c4
        have q0 := BO.c0
        have q1 := BO.c1
        have q2 := BO.c2
        have q3 := BO.c3
        have q4 := BO.c4
        have nS6 : ¬ S Q6 := fun c => by have := Slt Q6 c; omega
        have CB4 : Hid (∀ w4, Chg S w3 w4 → Box w4 Q6 kd nm (.slice va bb.length vc) kp tn ∧ Box w4 QP kd nm (.slice a7 n7 c7) kp tn) := fun w4 C => ⟨BO.kept C nS6, BP.kept C fun c => by have h6 := Slt QP c; have h7 := gr2.size; omega⟩
        have FIN : Hid (∀ w4 S4 w5 S5, Chg S w3 w4 → (∀ k, S4 k → S k ∨ w3.heap.size ≤ k) → Du w S5 w5 b2 b1 s' s' → (∀ k, S5 k → S4 k ∨ w4.heap.size ≤ k) → Chg S4 w4 w5 → Turned w S5 (Q6 + 1) Q6 ⟨kd, nm, .slice va bb.length vc, bb, kp, tn⟩ (.slice a7 n7 c7) b1 b2 s' w5) := fun w4 S4 w5 S5 C4 f4 d5 f5 C5 => by
          have m3 : ∀ k, (Value.slice a7 n7 c7).ownBlock = some k → ¬ S k := fun k hk c => by have h5 := (O3.lt k hk).1; have h6 := Slt k c; omega
          have m4 := apart_next O3 m3 f4
          have O4 := O3.kept C4 m3
          have z4 := C4.size
          have n4 : ¬ S4 Q6 := fun c => by rcases f4 Q6 c with e | e; exact nS6 e; omega
          have n5 : ¬ S5 Q6 := fun c => by rcases f5 Q6 c with e | e; exact n4 e; omega
          exact ⟨d5.symm, (BO.kept C4 nS6).kept C5 n4, n5, by omega, O4.kept C5 m4, apart_next O4 m4 f5, hWQ⟩
        clear hw3 hs' he' g23 BP BO2 BO gr2 gr3 O3 O2 G2 l2 y0 y1 y2 y3 y4 X2 M2 BX D3 hQ6 hQP x0 x1 x2 x3 x4 hix Slt HD
        go_cut [48] from 42 to 48 (fun t48 wx => t48 = .bool false ∧ ∃ S', Turned w S' (Q6 + 1) Q6 ⟨kd, nm, .slice va bb.length vc, bb, kp, tn⟩ (.slice a7 n7 c7) b1 b2 s' wx)
        case first =>
          go_region_with (first
            | (go_at_call_of 14 (Value.pointer (some ⟨b1, 0, none⟩)); (with_reducible refine (D1 _ ?_).mono ?_); (first | exact grown_drewN (grown_refl _ none) _ | exact grown_drew (grown_refl _ none)); rintro e w4 ⟨rfl, S4, D4, f4, C4⟩; obtain ⟨BB, BB2⟩ := CB4.out w4 C4; have r0 := BB.c0; have r1 := BB.c1; have r2 := BB.c2; have r3 := BB.c3; have r4 := BB.c4)
            | (go_at_call_of 14 (Value.pointer (some ⟨b2, 0, none⟩)); (with_reducible refine (D2 D4).mono ?_); rintro e w5 ⟨rfl, S5, D5, f5, C5⟩))
          all_goals (try go_wp2_with fail)
          all_goals
            go_meet
            exact ⟨rfl, S5, FIN.out w4 S4 w5 S5 C4 f4 D5 f5 C5⟩
        case rest =>
          obtain ⟨rfl, S5, hT⟩ := hcut
          obtain ⟨d5, bx, nq, hqB, O5, m5, hWq⟩ := hT
          have hn7 := O5.len
          subst hn7
          have HN : Hid (nm.size ≤ 140737488351232) := HAT.out.hn
          have blk7 : ∀ k, (Value.slice a7 bb.length c7).ownBlock = some k → Q6 + 1 ≤ k := fun k hk => (O5.lt k hk).1
          clear D1 D2 p0 p1 p2 p3 p4 q0 q1 q2 q3 q4 nS6 CB4 FIN HAT z3 zq
          go_wp2_with fail
          go_loopw [9] (fun i wl => ∃ (k : Nat) (l' : List UInt8), k ≤ bb.length ∧ i = .int .i64 k ∧ l'.length = bb.length ∧ eB.Own wl (Q6 + 1) (.slice a7 bb.length c7) l' ∧ Chg (fun k => (Value.slice a7 bb.length c7).ownBlock = some k) wc wl) (fun i _ => bb.length - (intOf i).toNat)
          case atStart => exact ⟨0, bb, by omega, rfl, rfl, O5, Chg.refl _ _⟩
          case round =>
            obtain ⟨k, l', hk, rfl, hl', hO, hC⟩ := hrel
            by_cases hkl : k < bb.length
            · obtain ⟨g7, u0, ix7, cl7, fr7, ow7, O7⟩ := hO.set rfl (by omega) (i := k) (by omega) 33 _ rfl
              have ix7' : ∀ W, (Instr.indexAt 31 (.slice a7 bb.length c7) (.int .i64 (k : Int))).run Try.prog W = .ok (.pointer (some ⟨g7, k, none⟩)) W := ix7
              have HO7 : Hid (eB.Own (wr.setCell ⟨g7, k, none⟩ (.int .u8 33)) (Q6 + 1) (.slice a7 bb.length c7) (l'.set k 33)) := O7
              have HC7 : Hid (Chg (fun k => (Value.slice a7 bb.length c7).ownBlock = some k) wc (wr.setCell ⟨g7, k, none⟩ (.int .u8 33))) := hC.grown (grown_set _ _ _) fun j hj => .inl (by injection hj with hj; rw [← hj]; exact ow7)
              have HL7 : Hid ((l'.set k 33).length = bb.length) := by show _ = _; rw [List.length_set]; exact hl'
              clear ix7 O7 hO hC ow7 d5 bx nq O5 m5 hl'
              go_wp2_with fail
              go_roundw
              case rel => exact ⟨k + 1, _, by omega, by go_num, HL7.out, HO7.out, HC7.out⟩
              case measure => simp [intOf]; omega
            · have d6 : Du w S5 wr b1 b2 s' s' := d5.kept hC (fun k hk c => m5 k c hk) (fun k hk => by have := blk7 k hk; omega)
              have bx6 := bx.kept hC (fun c => by have := blk7 _ c; omega)
              have n6 := bx6.c1
              have RD1 : ∀ {v}, Du w S5 v b1 b2 s' s' → Calls Try.prog 15 #[.pointer (some ⟨b1, 0, none⟩), .string nm] v fun e w' => ∃ ad n c, e = .returned (.tuple #[.slice ad n c, .int .i64 (hasE s'.l nm.data.toList)]) ∧ eB.Own w' v.heap.size (.slice ad n c) (rdB s'.l nm.data.toList) ∧ v.grownBy w' none := fun h => du_read_s h nm HN.out
              have RD2 : ∀ {v}, Du w S5 v b1 b2 s' s' → Calls Try.prog 15 #[.pointer (some ⟨b2, 0, none⟩), .string nm] v fun e w' => ∃ ad n c, e = .returned (.tuple #[.slice ad n c, .int .i64 (hasE s'.l nm.data.toList)]) ∧ eB.Own w' v.heap.size (.slice ad n c) (rdB s'.l nm.data.toList) ∧ v.grownBy w' none := fun h => du_read_s h.symm nm HN.out
              have hR0 : (rdB s'.l nm.data.toList).length ≤ 1048576 := rd_len d6.ok _
              clear hO hC d5 O5 m5 bx hl'
              generalize rdB s'.l nm.data.toList = R0 at RD1 RD2 hR0
              generalize hasE s'.l nm.data.toList = E0 at RD1 RD2
              go_wp2_with (go_at_call 15; (with_reducible refine (RD1 d6).mono ?_); rintro e w6 ⟨a10, n10, c10, rfl, O10, G10⟩; have hn10 := O10.len; subst hn10; have d7 := d6.grown G10; have bx7 := bx6.but G10 (by simp))
              obtain ⟨B6, hB6⟩ : ∃ B, B = wr.heap.size := ⟨_, rfl⟩
              rw [← hB6] at O10
              have sB6 : ∀ k, S5 k → k < B6 := fun k hk => by rw [hB6]; exact d6.lt k hk
              have qB6 : Q6 < B6 := by rw [hB6]; exact World.block_lt_of_cell? wr _ n6
              have bB6 : B6 ≤ w6.heap.size := by rw [hB6]; exact G10.size
              have blk10 : ∀ k, (Value.slice a10 R0.length c10).ownBlock = some k → B6 ≤ k := fun k hk => (O10.lt k hk).1
              clear d6 bx6 n6 hB6 G10
              go_loopw [12] (fun i wl => ∃ (k : Nat) (l' : List UInt8), k ≤ R0.length ∧ i = .int .i64 k ∧ l'.length = R0.length ∧ eB.Own wl B6 (.slice a10 R0.length c10) l' ∧ Chg (fun k => (Value.slice a10 R0.length c10).ownBlock = some k) w6 wl) (fun i _ => R0.length - (intOf i).toNat)
              case atStart => exact ⟨0, R0, by omega, rfl, rfl, O10, Chg.refl _ _⟩
              case round =>
                obtain ⟨k2, l2, hk2, rfl, hl2, hO2, hC2⟩ := hrel
                by_cases hkl2 : k2 < R0.length
                · obtain ⟨g8, u8, ix8, cl8, fr8, ow8, O8⟩ := hO2.set rfl (by omega) (i := k2) (by omega) 63 _ rfl
                  have ix8' : ∀ W, (Instr.indexAt 31 (.slice a10 R0.length c10) (.int .i64 (k2 : Int))).run Try.prog W = .ok (.pointer (some ⟨g8, k2, none⟩)) W := ix8
                  have HO8 : Hid (eB.Own (wr.setCell ⟨g8, k2, none⟩ (.int .u8 63)) B6 (.slice a10 R0.length c10) (l2.set k2 63)) := O8
                  have HC8 : Hid (Chg (fun k => (Value.slice a10 R0.length c10).ownBlock = some k) w6 (wr.setCell ⟨g8, k2, none⟩ (.int .u8 63))) := hC2.grown (grown_set _ _ _) fun j hj => .inl (by injection hj with hj; rw [← hj]; exact ow8)
                  have HL8 : Hid ((l2.set k2 63).length = R0.length) := by show _ = _; rw [List.length_set]; exact hl2
                  clear ix8 O8 hO2 hC2 ow8 d7 bx7 O10 hl2 RD1 RD2
                  go_wp2_with fail
                  go_roundw
                  case rel => exact ⟨k2 + 1, _, by omega, by go_num, HL8.out, HO8.out, HC8.out⟩
                  case measure => simp [intOf]; omega
                · have d8 : Du w S5 wr b1 b2 s' s' := d7.kept hC2 (fun k hk c => by have := blk10 k c; have := sB6 k hk; omega) (fun k hk => by have := blk10 k hk; omega)
                  have bx8 := bx7.kept hC2 (fun c => by have := blk10 _ c; omega)
                  have X9 : ∀ ob, ob = Obj.cells #[.int .u8 63] 5 → eB.Rx (wr.alloc ob) (.slice (some ⟨wr.heap.size, 0, none⟩) 1 1) [63] := fun ob hob => Elm.rx_one fun j u hu => by
                    match j, hu with
                    | 0, hu => injection hu with hu; rw [← hu, hob]; exact new_at wr rfl rfl
                  have O9 : ∀ ob, eB.Own (wr.alloc ob) B6 (.slice a10 R0.length c10) l2 := fun ob => hO2.grown (World.grownBy_alloc wr ob none)
                  have zz : ∀ ob, B6 ≤ (wr.alloc ob).heap.size := fun ob => by have h1 := hC2.size; simp; omega
                  have NXT : Hid (∀ ob w9, (wr.alloc ob).grownBy w9 (Value.slice a10 R0.length c10).ownBlock → Du w S5 w9 b1 b2 s' s' ∧ Box w9 Q6 kd nm (.slice va bb.length vc) kp tn) := fun ob w9 g9 => by
                    have C9 : Chg (fun k => (Value.slice a10 R0.length c10).ownBlock = some k) wr w9 := Chg.of (grown_more ((World.grownBy_alloc wr ob none).but _) g9 (fun _ e => .inl e)) (fun _ e => e)
                    exact ⟨d8.kept C9 (fun k hk c => by have := blk10 k c; have := sB6 k hk; omega) (fun k hk => by have := blk10 k hk; omega), bx8.kept C9 (fun c => by have := blk10 _ c; omega)⟩
                  clear hC2 hO2 d7 bx7 O10 bx8 d8
                  go_wp2_with (first
                    | (at_builtin; refine Elm.wpList_append (E := eB) rfl (.tmp 74) (.tmp 75) rfl B6 (.slice a10 R0.length c10) l2 rfl (O9 _) _ [63] rfl (X9 _ rfl) (by simp; omega) (by show (l2.length + 1) * 1 ≤ _; omega) (zz _) ?_; intro a11 n11 c11 w9 O11 G11 _; have hn11 : n11 = R0.length + 1 := (by have := O11.len; simp at this; omega); subst hn11; have d9 := (NXT.out _ _ G11).1; have bx9 := (NXT.out _ _ G11).2; have n9 := bx9.c1)
                    | (go_at_call 15; (with_reducible refine (RD1 d9).mono ?_); rintro e w10 ⟨a12, n12, c12, rfl, O12, G12⟩; have hn12 := O12.len; subst hn12; have d10 := d9.grown G12; have n10 := G12.cell n9 (by simp); clear d9)
                    | (go_at_call 15; (with_reducible refine (RD2 d10).mono ?_); rintro e w11 ⟨a13, n13, c13, rfl, O13, G13⟩; have hn13 := O13.len; subst hn13; have d11 := d10.grown G13; have y12 := run_string (O12.grown G13).rx; have y13 := run_string O13.rx; clear d10))
                  go_roundw
                  case rel => exact ⟨j + 1, s', S5, by omega, by omega, by go_num, by have := HMs.out; omega, d11⟩
                  case measure => simp [intOf]; omega
      · have gg : (¬ j < os.length) ∨ (j < os.length ∧ ¬ j < 200) := by omega
        clear hgo
        rcases gg with g0 | ⟨g0, g1⟩
        all_goals
          go_wp2_with fail
          go_meet
          exact ⟨s, S, by omega, hD⟩
  case rest =>
    obtain ⟨s, S, hm, hD⟩ := hcut
    clear HS D0 hlen
    have hok := hD.ok
    have hkl : (srtS (s.l.map (·.1))).length ≤ 64 := by rw [srtS_len]; simpa using hok.len
    have N1 := du_names hD
    have N2 : ∀ {v}, wc.grownBy v none → Calls Try.prog 20 #[.pointer (some ⟨b2, 0, none⟩)] v fun e w' => ∃ ad n c, e = .returned (.slice ad n c) ∧ eS.Own w' v.heap.size (.slice ad n c) (srtS (s.l.map (·.1))) ∧ v.grownBy w' none := fun h => du_names (hD.grown h).symm
    generalize srtS (s.l.map (·.1)) = L at *
    go_wp2_with (first
      | (go_at_call 20; (with_reducible refine N1.mono ?_); rintro e w6 ⟨a6, n6, c6, rfl, O6, G6⟩; clear N1)
      | (go_at_call 20; (with_reducible refine (N2 G6).mono ?_); rintro e w7 ⟨a7, n7, c7, rfl, O7, G7⟩; have TX := texts_same (.slice a6 n6 c6) (.slice a7 n7 c7) L (by omega) w7 (O6.grown G7).rx O7.rx; clear N2)
      | (go_at_call 19; (with_reducible refine TX.mono ?_); rintro e w8 ⟨rfl, G8⟩))
    go_ret
    exact ⟨rfl, grown_low (grown_low (grown_low hD.below G6) G7) G8⟩
theorem diskApart.walk (W : World) (v1 : Value) (o1 : ∃ os, Sc W v1 os) :
    Calls Try.prog 5 #[v1] W fun e W' => e = .returned (.bool true) ∧ Below W.heap.size W W' := by
  obtain ⟨os, hS⟩ := o1
  obtain ⟨a, c, rfl, h⟩ := id hS
  exact apart_ok a c os W hS
end Go.Proofs.Ythpeeldpalmakaa
