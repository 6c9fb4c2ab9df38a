/- Which nodes are right: the rest, the votes, the numbers, the role. -/
import Derived.Test.YtdpcebaggldaiaaGRight
import Derived.Test.YtdpcebaggldaiaaGPush
namespace Go.Proofs.Ytdpcebaggldaiaa
open Go.RowKit Trl
open Rft (Nd Mg)
set_option linter.unusedVariables false
set_option maxRecDepth 10000

/-- What nodes of all roles have besides. -/
def Rft.restOk (r : Nd) : Bool := Rft.orIn r.conf r.lead && decide (r.b ≤ r.com ∧ r.com ≤ r.last) && decide (0 ≤ r.left ∧ r.left ≤ 100) && decide (10 ≤ r.wait ∧ r.wait ≤ 19)
set_option maxRecDepth 100000 in
set_option maxHeartbeats 1600000 in
theorem rightRest_any (r : Nd) (V : Sv) (w : World) (h : Rdn w r V) (hk : chk r.b r.k r.l = true) : Calls Try.prog 24 #[nv r V] w fun e w' => e = .returned (.bool (Rft.restOk r)) ∧ w.grownBy w' none := by
  have cb := h.cb
  have NI : Hid (∀ W, w.grownBy W none → _) := fun W g => noneOrIn_any _ r.conf r.lead W (h.c.grown g) (by omega)
  have LA : Hid (∀ W, w.grownBy W none → _) := fun W g => last_any r.b r.k _ r.l W (h.e.grown g) hk
  have W1 : Hid (∀ W, _) := fun W => withinN_any r.com r.b r.last W
  have W2 : Hid (∀ W, _) := fun W => withinK_any r.left 0 100 W
  have W3 : Hid (∀ W, _) := fun W => withinK_any r.wait 10 19 W
  have BX : Hid (∀ {W : World}, (w.alloc (.cells #[.int .i64 r.id, .slice V.c.a V.c.n V.c.c, .int .i64 r.term, .int .i64 r.vote, .int .i64 r.role, .int .i64 r.lead, .int .i64 r.b, .int .i64 r.k, .slice V.e.a V.e.n V.e.c, .string r.snap, .int .i64 r.com, .int .i64 r.left, .int .i64 r.wait, .slice V.v.a V.v.n V.v.c, .slice V.n.a V.n.n V.n.c, .slice V.m.a V.m.n V.m.c] 28)).grownBy W none → Cs W w.heap.size (nc r V) ∧ w.grownBy W none) := fun {W} g => box_node g
  have G0 : Hid (∀ o, w.grownBy (w.alloc o) none) := fun o => World.grownBy_alloc w o none
  have hR : Hid (Rft.restOk r = (Rft.orIn r.conf r.lead && decide (r.b ≤ r.com ∧ r.com ≤ r.last) && decide (0 ≤ r.left ∧ r.left ≤ 100) && decide (10 ≤ r.wait ∧ r.wait ≤ 19))) := rfl
  rw [show r.b + (r.l.length : Int) = r.last from rfl] at LA
  generalize Rft.restOk r = R at *
  generalize hA : Rft.orIn r.conf r.lead = A at *
  generalize hB : decide (r.b ≤ r.com ∧ r.com ≤ r.last) = B at *
  generalize hC : decide (0 ≤ r.left ∧ r.left ≤ 100) = C at *
  generalize hD : decide (10 ≤ r.wait ∧ r.wait ≤ 19) = D at *
  generalize r.last = ql at *
  generalize lastT r.k r.l = qt at *
  clear h hA hB hC hD cb hk
  cases A <;> cases B <;> cases C <;> cases D
  all_goals
    go_enter Try.func24, Try.ntmps24
    go_wp2_with (first
      | (go_at_call 43; (with_reducible refine (LA.out _ (G0.out _)).mono ?_); rintro e w2 ⟨rfl, g2⟩; obtain ⟨hc2, G2⟩ := BX.out g2; have d1 := hc2.at_ 1 rfl; have d5 := hc2.at_ 5 rfl; have d6 := hc2.at_ 6 rfl; have d10 := hc2.at_ 10 rfl; have d11 := hc2.at_ 11 rfl; have d12 := hc2.at_ 12 rfl; clear hc2)
      | (go_at_call 42; (with_reducible refine (NI.out _ G2).mono ?_); rintro e w1 ⟨rfl, h1⟩; subst h1)
      | (go_at_call 29; (with_reducible refine (W1.out _).mono ?_); rintro e w1 ⟨rfl, h1⟩; subst h1)
      | (go_at_call 28; (with_reducible refine (W2.out _).mono ?_); rintro e w1 ⟨rfl, h1⟩; subst h1)
      | (go_at_call 28; (with_reducible refine (W3.out _).mono ?_); rintro e w1 ⟨rfl, h1⟩; subst h1))
    go_ret
    exact ⟨by rw [hR.out]; rfl, G2⟩
/-- 'v[:k]', of a row that is read. -/
theorem rx_upto {w : World} {ad : Option Addr} {n c : Nat} {l : List Int} (h : eK.Rx w (.slice ad n c) l) (hn : n = l.length) (hlc : n ≤ c) (hc : c ≤ 9223372036854775807) {k : Nat} (hk : k ≤ l.length) :
    (∀ W, (Instr.slice 22 (.slice ad n c) none (some (.int .i64 (k : Int))) none).run Try.prog W = .ok (.slice ad k c) W) ∧ eK.Rx w (.slice ad k c) (l.take k) := by
  have ht : Try.prog.underlying eK.sl = some (.slice (Try.prog.elem eK.sl)) := by rw [eK.he]; exact eK.hu
  have hlen : (l.take k).length = k := by rw [List.length_take]; omega
  refine ⟨fun W => ?_, ?_⟩
  · have h1 := run_slice_h (P := Try.prog) W eK.sl ad n c ht .i64 (k : Int) (by omega) (by omega)
    rw [eK.he, eK.so W] at h1
    have h2 : (Instr.slice 22 (.slice ad n c) none (some (.int .i64 (k : Int))) none).run Try.prog W = .ok (sliced ad 0 (k : Int).toNat c eK.size) W := h1
    rw [h2, Int.toNat_natCast]
    unfold sliced
    cases ad with
    | none => simp
    | some a =>
      by_cases hc0 : c = 0
      · rw [if_pos hc0]; rfl
      · rw [if_neg hc0, Nat.zero_mul]
        show Result.ok (Value.slice (some (a.add 0)) _ _) W = _
        rw [Nat.sub_zero, Nat.sub_zero]
        congr 3
  · rcases h with ⟨e, h0⟩ | ⟨a, c', e, hs, hcell⟩
    · injection e with e1 e2 e3
      subst e1 h0 e3
      simp at hk
      subst hk
      exact .inl ⟨rfl, rfl⟩
    · injection e with e1 e2 e3
      subst e1 e3
      refine .inr ⟨a, c, by rw [hlen], ?_, fun t x hx => ?_⟩
      · rcases hs with rfl | hs
        · exact .inl (by simp)
        · exact .inr hs
      · rw [Elm.cells_take] at hx
        refine hcell t x ?_
        rw [List.getElem?_take] at hx
        split at hx
        · exact hx
        · cases hx
theorem once_more (c : List Int) : ∀ (s l : List Int) (x : Int), Rft.onceIn c s (l ++ [x]) = (Rft.onceIn c s l && (Quo.has c x && !Quo.has (s ++ l) x))
  | s, [], x => by simp [Rft.onceIn]
  | s, y :: l, x => by
    have := once_more c (s ++ [y]) l x
    rw [List.cons_append, Rft.onceIn, Rft.onceIn, this, List.append_assoc, List.singleton_append, Bool.and_assoc, Bool.and_assoc, Bool.and_assoc]
theorem once_take {c l : List Int} {j : Nat} {x : Int} (h : l[j]? = some x) : Rft.onceIn c [] (l.take (j + 1)) = (Rft.onceIn c [] (l.take j) && (Quo.has c x && !Quo.has (l.take j) x)) := by
  rw [List.take_add_one, h]
  exact once_more c [] (l.take j) x
theorem once_cut {c : List Int} : ∀ {s l m : List Int}, Rft.onceIn c s l = false → Rft.onceIn c s (l ++ m) = false
  | s, [], m, h => by simp [Rft.onceIn] at h
  | s, y :: l, m, h => by
    rw [List.cons_append, Rft.onceIn]
    rw [Rft.onceIn] at h
    cases h1 : (Quo.has c y && !Quo.has s y) with
    | false => rfl
    | true => rw [h1, Bool.true_and] at h; rw [Bool.true_and]; exact once_cut h
theorem once_bad {c l : List Int} (j : Nat) (h : Rft.onceIn c [] (l.take j) = false) : Rft.onceIn c [] l = false := by
  have := once_cut (m := l.drop j) h
  rwa [List.take_append_drop] at this
/-- A candidate's votes. -/
def Rft.votesOk (r : Nd) : Bool := !decide (r.votes.length = 0) && decide (r.votes.head? = some r.id) && Rft.onceIn r.conf [] r.votes && !Quo.wins r.conf r.votes
set_option maxRecDepth 100000 in
set_option maxHeartbeats 1600000 in
theorem rightVotes_any (r : Nd) (V : Sv) (w : World) (h : Rdn w r V) : Calls Try.prog 45 #[nv r V] w fun e w' => e = .returned (.bool (Rft.votesOk r)) ∧ w.grownBy w' none := by
  have cb := h.cb
  have vb := h.vb
  have vl := h.vl
  have CO : Hid (∀ W x, w.grownBy W none → _) := fun W x g => contains_any _ r.conf x W (h.c.grown g) (by omega)
  have WA : Hid (∀ W, w.grownBy W none → _) := fun W g => wins_any _ _ r.conf r.votes W (h.c.grown g) (by omega) (h.v.grown g) (by omega)
  have BX : Hid (∀ {W : World}, (w.alloc (.cells #[.int .i64 r.id, .slice V.c.a V.c.n V.c.c, .int .i64 r.term, .int .i64 r.vote, .int .i64 r.role, .int .i64 r.lead, .int .i64 r.b, .int .i64 r.k, .slice V.e.a V.e.n V.e.c, .string r.snap, .int .i64 r.com, .int .i64 r.left, .int .i64 r.wait, .slice V.v.a V.v.n V.v.c, .slice V.n.a V.n.n V.n.c, .slice V.m.a V.m.n V.m.c] 28)).grownBy W none → Cs W w.heap.size (nc r V) ∧ w.grownBy W none) := fun {W} g => box_node g
  have C0 := (BX.out (grown_refl _ none)).1
  have G0 := World.grownBy_alloc w (.cells #[.int .i64 r.id, .slice V.c.a V.c.n V.c.c, .int .i64 r.term, .int .i64 r.vote, .int .i64 r.role, .int .i64 r.lead, .int .i64 r.b, .int .i64 r.k, .slice V.e.a V.e.n V.e.c, .string r.snap, .int .i64 r.com, .int .i64 r.left, .int .i64 r.wait, .slice V.v.a V.v.n V.v.c, .slice V.n.a V.n.n V.n.c, .slice V.m.a V.m.n V.m.c] 28) none
  have HV : Hid (∀ {W : World}, w.grownBy W none → eK.Rx W (.slice V.v.a V.v.n V.v.c) r.votes) := fun {W} g => h.v.grown g
  have UP : Hid (∀ {W : World} (k : Nat), w.grownBy W none → k ≤ r.votes.length → (∀ W', (Instr.slice 22 (.slice V.v.a V.v.n V.v.c) none (some (.int .i64 (k : Int))) none).run Try.prog W' = .ok (.slice V.v.a k V.v.c) W') ∧ eK.Rx W (.slice V.v.a k V.v.c) (r.votes.take k)) := fun {W} k g hk => rx_upto (HV.out g) vl h.vc.1 h.vc.2 hk
  have CU : Hid (∀ W (k : Nat) x, w.grownBy W none → k ≤ r.votes.length → _) := fun W k x g hk => contains_any _ (r.votes.take k) x W (UP.out k g hk).2 (by rw [List.length_take]; omega)
  obtain ⟨N, hN⟩ : ∃ N, r.votes.length = N := ⟨_, rfl⟩
  have NL : Hid (r.votes.length = N) := hN
  rw [hN] at vl vb UP CU
  have HVL : Hid (V.v.n = N) := vl
  rw [vl] at HV UP WA
  have C0 : Hid (Cs (w.alloc (.cells #[.int .i64 r.id, .slice V.c.a V.c.n V.c.c, .int .i64 r.term, .int .i64 r.vote, .int .i64 r.role, .int .i64 r.lead, .int .i64 r.b, .int .i64 r.k, .slice V.e.a V.e.n V.e.c, .string r.snap, .int .i64 r.com, .int .i64 r.left, .int .i64 r.wait, .slice V.v.a V.v.n V.v.c, .slice V.n.a V.n.n V.n.c, .slice V.m.a V.m.n V.m.c] 28)) w.heap.size (nc r V)) := C0
  have HG0 : Hid (w.grownBy (w.alloc (.cells #[.int .i64 r.id, .slice V.c.a V.c.n V.c.c, .int .i64 r.term, .int .i64 r.vote, .int .i64 r.role, .int .i64 r.lead, .int .i64 r.b, .int .i64 r.k, .slice V.e.a V.e.n V.e.c, .string r.snap, .int .i64 r.com, .int .i64 r.left, .int .i64 r.wait, .slice V.v.a V.v.n V.v.c, .slice V.n.a V.n.n V.n.c, .slice V.m.a V.m.n V.m.c] 28)) none) := G0
  have d13 : (w.alloc (.cells #[.int .i64 r.id, .slice V.c.a V.c.n V.c.c, .int .i64 r.term, .int .i64 r.vote, .int .i64 r.role, .int .i64 r.lead, .int .i64 r.b, .int .i64 r.k, .slice V.e.a V.e.n V.e.c, .string r.snap, .int .i64 r.com, .int .i64 r.left, .int .i64 r.wait, .slice V.v.a V.v.n V.v.c, .slice V.n.a V.n.n V.n.c, .slice V.m.a V.m.n V.m.c] 28)).cell? ⟨w.heap.size, 13, none⟩ = some (.slice V.v.a N V.v.c) := (C0.out.at_ 13 rfl).trans (by rw [HVL.out])
  have d1 : (w.alloc (.cells #[.int .i64 r.id, .slice V.c.a V.c.n V.c.c, .int .i64 r.term, .int .i64 r.vote, .int .i64 r.role, .int .i64 r.lead, .int .i64 r.b, .int .i64 r.k, .slice V.e.a V.e.n V.e.c, .string r.snap, .int .i64 r.com, .int .i64 r.left, .int .i64 r.wait, .slice V.v.a V.v.n V.v.c, .slice V.n.a V.n.n V.n.c, .slice V.m.a V.m.n V.m.c] 28)).cell? ⟨w.heap.size, 1, none⟩ = some (.slice V.c.a V.c.n V.c.c) := C0.out.at_ 1 rfl
  have d0 : (w.alloc (.cells #[.int .i64 r.id, .slice V.c.a V.c.n V.c.c, .int .i64 r.term, .int .i64 r.vote, .int .i64 r.role, .int .i64 r.lead, .int .i64 r.b, .int .i64 r.k, .slice V.e.a V.e.n V.e.c, .string r.snap, .int .i64 r.com, .int .i64 r.left, .int .i64 r.wait, .slice V.v.a V.v.n V.v.c, .slice V.n.a V.n.n V.n.c, .slice V.m.a V.m.n V.m.c] 28)).cell? ⟨w.heap.size, 0, none⟩ = some (.int .i64 r.id) := C0.out.at_ 0 rfl
  have hR : Hid (Rft.votesOk r = (!decide (r.votes.length = 0) && decide (r.votes.head? = some r.id) && Rft.onceIn r.conf [] r.votes && !Quo.wins r.conf r.votes)) := rfl
  generalize Rft.votesOk r = R at *
  clear h hN vl G0 BX cb
  go_enter Try.func45, Try.ntmps45
  go_upto_region 1 with fail
  generalize w.alloc (.cells #[.int .i64 r.id, .slice V.c.a V.c.n V.c.c, .int .i64 r.term, .int .i64 r.vote, .int .i64 r.role, .int .i64 r.lead, .int .i64 r.b, .int .i64 r.k, .slice V.e.a V.e.n V.e.c, .string r.snap, .int .i64 r.com, .int .i64 r.left, .int .i64 r.wait, .slice V.v.a V.v.n V.v.c, .slice V.n.a V.n.n V.n.c, .slice V.m.a V.m.n V.m.c] 28) = w0 at *
  generalize w.heap.size = q0 at *
  by_cases hN0 : N = 0
  · have hR' : Hid (R = false) := hR.out.trans (by rw [NL.out, hN0]; rfl)
    subst hN0
    go_quiet (fail)
    go_wp2_with fail
    go_ret
    exact ⟨by rw [hR'.out]; rfl, grown_drewN HG0.out _⟩
  obtain ⟨y, hy⟩ : ∃ y, r.votes[0]? = some y := ⟨_, List.getElem?_eq_getElem (by rw [NL.out]; omega)⟩
  obtain ⟨g, oo, eq, y0⟩ := at_k (HV.out HG0.out) hy
  have hhd : r.votes.head? = some y := by rw [← hy]; exact List.head?_eq_getElem? 
  have EQ : Hid (V.v.a = some ⟨g, oo, none⟩) := eq
  rw [eq] at d13
  have hN1 : ((N : Int) == 0) = false := by simp; omega
  have hN2 : (0 : Int) < (N : Int) := by omega
  have y0' : ∀ k, (w0.drewN k).cell? ⟨g, oo, none⟩ = some (.int .i64 y) := fun k => y0
  have ix0 : ∀ W, (Instr.indexAt 22 (.slice (some ⟨g, oo, none⟩) N V.v.c) (.int .i64 0)).run Try.prog W = .ok (.pointer (some ⟨g, oo, none⟩)) W := fun W => by
    have := Elm.run_at (E := eK) (W := W) (g := g) (o := oo) (n := N) (c := V.v.c) (i := 0) (by omega) (by omega)
    rw [Nat.zero_mul, Nat.add_zero] at this
    exact this
  by_cases hyid : y = r.id
  · have hy1 : (y != r.id) = false := by simpa using hyid
    have hR' : Hid (R = (Rft.onceIn r.conf [] r.votes && !Quo.wins r.conf r.votes)) := hR.out.trans (by rw [NL.out, decide_eq_false hN0, show decide (r.votes.head? = some r.id) = true from decide_eq_true (by rw [hhd, hyid])]; simp)
    clear hR
    go_quiet (fail)
    have HG1 : Hid (w.grownBy (w0.drewN nq) none) := grown_drewN HG0.out nq
    have e13 : (w0.drewN nq).cell? ⟨q0, 13, none⟩ = some (.slice (some ⟨g, oo, none⟩) N V.v.c) := d13
    have e1 : (w0.drewN nq).cell? ⟨q0, 1, none⟩ = some (.slice V.c.a V.c.n V.c.c) := d1
    generalize w0.drewN nq = w1 at *
    clear d13 d1 d0 y0 y0' hy hhd C0 HG0
    rw [EQ.out] at HV UP CU WA
    have hnot := not_run
    go_wp2_with fail
    go_loopw [3, 4, 21] (fun _ _ i wr => ∃ j : Nat, j ≤ N ∧ i = .int .i64 (j : Int) ∧ Hid (Rft.onceIn r.conf [] (r.votes.take j) = true) ∧ wr = w1) (fun _ _ i _ => N - (intOf i).toNat)
    case atStart => exact ⟨0, by omega, rfl, (rfl : Rft.onceIn r.conf [] (r.votes.take 0) = true), rfl⟩
    case round =>
      obtain ⟨j, hj, rfl, I, rfl⟩ := hrel
      by_cases hlt : j < N
      · obtain ⟨x, hx⟩ : ∃ x, r.votes[j]? = some x := ⟨_, List.getElem?_eq_getElem (by rw [NL.out]; exact hlt)⟩
        obtain ⟨g2, o2, eq2, x0⟩ := at_k (HV.out HG1.out) hx
        injection eq2 with eq2
        injection eq2 with eq2 eq3
        subst eq2 eq3
        have F2 := once_take (c := r.conf) hx
        rw [I.out, Bool.true_and] at F2
        have C1 := CO.out wr x HG1.out
        have C2 := CU.out wr j x HG1.out (by omega)
        have sl := (UP.out j HG1.out (by omega)).1
        generalize Quo.has r.conf x = A at *
        generalize Quo.has (r.votes.take j) x = B at *
        have BD : Hid (Rft.onceIn r.conf [] (r.votes.take (j + 1)) = false → R = false) := fun hb => hR'.out.trans (by rw [once_bad _ hb]; rfl)
        clear hx I
        cases A with
        | false =>
          have RF : Hid (R = false) := BD.out F2
          clear F2
          go_wp2_with (go_at_call 22; (with_reducible refine C1.mono ?_); rintro e w3 ⟨rfl, h3⟩; subst h3)
          go_ret
          exact ⟨by rw [RF.out]; rfl, HG1.out⟩
        | true =>
        cases B with
        | true =>
          have RF : Hid (R = false) := BD.out F2
          clear F2
          go_wp2_with (first
            | (go_at_call 22; (with_reducible refine C1.mono ?_); rintro e w3 ⟨rfl, h3⟩; subst h3)
            | (go_at_call 22; (with_reducible refine C2.mono ?_); rintro e w3 ⟨rfl, h3⟩; subst h3))
          go_ret
          exact ⟨by rw [RF.out]; rfl, HG1.out⟩
        | false =>
          have I2 : Hid (Rft.onceIn r.conf [] (r.votes.take (j + 1)) = true) := F2
          clear F2 BD
          go_wp2_with (first
            | (go_at_call 22; (with_reducible refine C1.mono ?_); rintro e w3 ⟨rfl, h3⟩; subst h3)
            | (go_at_call 22; (with_reducible refine C2.mono ?_); rintro e w3 ⟨rfl, h3⟩; subst h3))
          go_roundw
          case rel => exact ⟨j + 1, by omega, by go_num, I2, trivial⟩
          case measure => simp [intOf]; omega
      · have RF : Hid (R = !Quo.wins r.conf r.votes) := hR'.out.trans (by have := I.out; rw [List.take_of_length_le (by rw [NL.out]; omega)] at this; rw [this]; rfl)
        have W1 := WA.out wr HG1.out
        generalize Quo.wins r.conf r.votes = B at *
        clear I hR'
        go_wp2_with (go_at_call 53; (with_reducible refine W1.mono ?_); rintro e w3 ⟨rfl, h3⟩; subst h3)
        go_ret
        exact ⟨by rw [RF.out]; rfl, HG1.out⟩
  · have hy1 : (y != r.id) = true := by simpa using hyid
    have hR' : Hid (R = false) := hR.out.trans (by rw [show decide (r.votes.head? = some r.id) = false from decide_eq_false (by rw [hhd]; simpa using hyid)]; simp)
    go_quiet (fail)
    go_wp2_with fail
    go_ret
    exact ⟨by rw [hR'.out]; rfl, grown_drewN HG0.out _⟩
theorem nums_take {last : Int} : ∀ {ns ms : List Int} {j : Nat} {n m : Int}, ns[j]? = some n → ms[j]? = some m → Rft.numsOk last (ns.take (j + 1)) (ms.take (j + 1)) = (Rft.numsOk last (ns.take j) (ms.take j) && (decide (0 ≤ m) && decide (m ≤ last) && decide (m < n) && decide (n ≤ last + 1)))
  | [], _, j, n, m, h, _ => by simp at h
  | _ :: _, [], j, n, m, _, h => by simp at h
  | x :: ns, y :: ms, 0, n, m, h, h' => by
    simp at h h'
    subst h h'
    simp [Rft.numsOk]
  | x :: ns, y :: ms, j + 1, n, m, h, h' => by
    have := nums_take (last := last) (ns := ns) (ms := ms) (j := j) (n := n) (m := m) (by simpa using h) (by simpa using h')
    rw [List.take_succ_cons, List.take_succ_cons, List.take_succ_cons, List.take_succ_cons, Rft.numsOk, Rft.numsOk, this]
    simp only [Bool.and_assoc]
theorem nums_cut {last : Int} : ∀ {ns ms : List Int} (j : Nat), Rft.numsOk last (ns.take j) (ms.take j) = false → Rft.numsOk last ns ms = false
  | ns, ms, 0, h => by simp [Rft.numsOk] at h
  | [], ms, j + 1, h => by simp [Rft.numsOk] at h
  | x :: ns, [], j + 1, h => by simp [Rft.numsOk] at h
  | x :: ns, y :: ms, j + 1, h => by
    rw [List.take_succ_cons, List.take_succ_cons, Rft.numsOk] at h
    rw [Rft.numsOk]
    cases h1 : (decide (0 ≤ y) && decide (y ≤ last) && decide (y < x) && decide (x ≤ last + 1)) with
    | false => rfl
    | true => rw [h1, Bool.true_and] at h; rw [Bool.true_and]; exact nums_cut j h
/-- A leader's numbers. -/
def Rft.placesOk (r : Nd) : Bool := decide (r.next.length = r.conf.length) && decide (r.mat.length = r.conf.length) && Rft.numsOk r.last r.next r.mat
set_option maxRecDepth 100000 in
set_option maxHeartbeats 1600000 in
theorem rightPlaces_any (r : Nd) (V : Sv) (w : World) (h : Rdn w r V) (hk : chk r.b r.k r.l = true) : Calls Try.prog 46 #[nv r V] w fun e w' => e = .returned (.bool (Rft.placesOk r)) ∧ w.grownBy w' none := by
  have cb := h.cb
  obtain ⟨p1, p2, p3, p4, p5, p6, p7⟩ := chk_parts hk
  have LA : Hid (∀ W, w.grownBy W none → _) := fun W g => last_any r.b r.k _ r.l W (h.e.grown g) hk
  have BX : Hid (∀ {W : World}, (w.alloc (.cells #[.int .i64 r.id, .slice V.c.a V.c.n V.c.c, .int .i64 r.term, .int .i64 r.vote, .int .i64 r.role, .int .i64 r.lead, .int .i64 r.b, .int .i64 r.k, .slice V.e.a V.e.n V.e.c, .string r.snap, .int .i64 r.com, .int .i64 r.left, .int .i64 r.wait, .slice V.v.a V.v.n V.v.c, .slice V.n.a V.n.n V.n.c, .slice V.m.a V.m.n V.m.c] 28)).grownBy W none → Cs W w.heap.size (nc r V) ∧ w.grownBy W none) := fun {W} g => box_node g
  have HM : Hid (∀ {W : World}, w.grownBy W none → eN.Rx W (.slice V.m.a V.m.n V.m.c) r.mat) := fun {W} g => h.m.grown g
  have HN : Hid (∀ {W : World}, w.grownBy W none → eN.Rx W (.slice V.n.a V.n.n V.n.c) r.next) := fun {W} g => h.n.grown g
  have G0 : Hid (∀ o, w.grownBy (w.alloc o) none) := fun o => World.grownBy_alloc w o none
  have hR : Hid (Rft.placesOk r = (decide (r.next.length = r.conf.length) && decide (r.mat.length = r.conf.length) && Rft.numsOk r.last r.next r.mat)) := rfl
  have nl := h.nl
  have ml := h.ml
  have cl := h.cl
  have nb := h.nb
  have mb := h.mb
  rw [show r.b + (r.l.length : Int) = r.last from rfl] at LA
  have lb : 0 ≤ r.last ∧ r.last ≤ 1099511627776 := by unfold Nd.last; omega
  rw [← nl, ← ml, ← cl] at hR
  generalize Rft.placesOk r = R at *
  have NLn : Hid (V.n.n = r.next.length) := nl
  have NLm : Hid (V.m.n = r.mat.length) := ml
  rw [← nl] at nb
  rw [← ml] at mb
  clear h hk p7 nl ml cl
  generalize lastT r.k r.l = qt at *
  by_cases h1 : V.n.n = V.c.n
  · by_cases h2 : V.m.n = V.c.n
    · have hR' : Hid (R = Rft.numsOk r.last r.next r.mat) := hR.out.trans (by rw [decide_eq_true h1, decide_eq_true h2]; rfl)
      have e1 : ((V.n.n : Int) != (V.c.n : Int)) = false := by simp; omega
      have e2 : ((V.m.n : Int) != (V.c.n : Int)) = false := by simp; omega
      have NN : Hid (V.n.n = V.c.n) := h1
      have MM : Hid (V.m.n = V.c.n) := h2
      clear hR h1 h2
      generalize r.last = ql at *
      go_enter Try.func46, Try.ntmps46
      go_wp2_with (go_at_call 43; (with_reducible refine (LA.out _ (G0.out _)).mono ?_); rintro e w2 ⟨rfl, g2⟩; obtain ⟨hc2, G2⟩ := BX.out g2; have d14 := hc2.at_ 14 rfl; have d15 := hc2.at_ 15 rfl; clear hc2)
      have HG2 : Hid (w.grownBy w2 none) := G2
      clear LA BX G0 g2 G2 e1 e2 d15
      generalize w.heap.size = q0 at *
      go_loopw [5, 6, 32] (fun _ _ i wr => ∃ j : Nat, j ≤ V.m.n ∧ i = .int .i64 (j : Int) ∧ Hid (Rft.numsOk ql (r.next.take j) (r.mat.take j) = true) ∧ wr = w2) (fun _ _ i _ => V.m.n - (intOf i).toNat)
      case atStart => exact ⟨0, by omega, rfl, (by simp [Rft.numsOk] : Rft.numsOk ql (r.next.take 0) (r.mat.take 0) = true), rfl⟩
      case round =>
        obtain ⟨j, hj, rfl, I, rfl⟩ := hrel
        by_cases hlt : j < V.m.n
        · obtain ⟨m, hm⟩ : ∃ m, r.mat[j]? = some m := ⟨_, List.getElem?_eq_getElem (by rw [← NLm.out]; exact hlt)⟩
          obtain ⟨n, hn⟩ : ∃ n, r.next[j]? = some n := ⟨_, List.getElem?_eq_getElem (by rw [← NLn.out, NN.out, ← MM.out]; exact hlt)⟩
          obtain ⟨gm, om, eqm, y1⟩ := at_n (HM.out HG2.out) hm
          obtain ⟨gn, on, eqn, y2⟩ := at_n (HN.out HG2.out) hn
          have jn : (j : Int) < (V.n.n : Int) := by have := NN.out; have := MM.out; omega
          have F2 := nums_take (last := ql) hn hm
          rw [I.out, Bool.true_and] at F2
          rw [eqm]
          rw [eqn] at d14
          clear eqm eqn
          have BD : Hid (Rft.numsOk ql (r.next.take (j + 1)) (r.mat.take (j + 1)) = false → R = false) := fun hb => hR'.out.trans (nums_cut _ hb)
          have W1 := withinN_any m 0 ql wr
          clear hm hn I
          by_cases c1 : 0 ≤ m ∧ m ≤ ql
          · have wr1 : IntKind.i64.wrap (m + 1) = m + 1 := by rw [IntKind.wrap_i64]; omega
            have wr2 : IntKind.i64.wrap (ql + 1) = ql + 1 := by rw [IntKind.wrap_i64]; omega
            rw [decide_eq_true c1] at W1
            have W2 := withinN_any n (m + 1) (ql + 1) wr
            by_cases c2 : m + 1 ≤ n ∧ n ≤ ql + 1
            · rw [decide_eq_true c2] at W2
              have I2 : Hid (Rft.numsOk ql (r.next.take (j + 1)) (r.mat.take (j + 1)) = true) := F2.trans (by rw [decide_eq_true c1.1, decide_eq_true c1.2, decide_eq_true (p := m < n) (by omega), decide_eq_true c2.2]; rfl)
              clear F2 BD c1 c2
              go_wp2_with (first
                | (go_at_call 29; (with_reducible refine W1.mono ?_); rintro e w3 ⟨rfl, h3⟩; subst h3)
                | (go_at_call 29; (with_reducible refine W2.mono ?_); rintro e w3 ⟨rfl, h3⟩; subst h3))
              go_roundw
              case rel => exact ⟨j + 1, by omega, by go_num, I2, trivial⟩
              case measure => simp [intOf]; omega
            · rw [decide_eq_false c2] at W2
              have RF : Hid (R = false) := BD.out (F2.trans (by
                cases h5 : decide (m < n) with
                | false => simp
                | true =>
                  have := of_decide_eq_true h5
                  rw [decide_eq_false (p := n ≤ ql + 1) (by omega)]; simp))
              clear F2 BD c1 c2
              go_wp2_with (first
                | (go_at_call 29; (with_reducible refine W1.mono ?_); rintro e w3 ⟨rfl, h3⟩; subst h3)
                | (go_at_call 29; (with_reducible refine W2.mono ?_); rintro e w3 ⟨rfl, h3⟩; subst h3))
              go_ret
              exact ⟨by rw [RF.out]; rfl, HG2.out⟩
          · rw [decide_eq_false c1] at W1
            have RF : Hid (R = false) := BD.out (F2.trans (by
              cases h5 : decide (0 ≤ m) with
              | false => simp
              | true =>
                have := of_decide_eq_true h5
                rw [decide_eq_false (p := m ≤ ql) (by omega)]; simp))
            clear F2 BD c1
            go_wp2_with (go_at_call 29; (with_reducible refine W1.mono ?_); rintro e w3 ⟨rfl, h3⟩; subst h3)
            go_ret
            exact ⟨by rw [RF.out]; rfl, HG2.out⟩
        · have RF : Hid (R = true) := hR'.out.trans (by have := I.out; rw [List.take_of_length_le (by rw [← NLn.out, NN.out, ← MM.out]; omega), List.take_of_length_le (by rw [← NLm.out]; omega)] at this; exact this)
          clear I hR'
          go_wp2_with fail
          go_ret
          exact ⟨by rw [RF.out]; rfl, HG2.out⟩
    · have hR' : Hid (R = false) := hR.out.trans (by rw [decide_eq_false h2]; simp)
      have e1 : ((V.n.n : Int) != (V.c.n : Int)) = false := by simp; omega
      have e2 : ((V.m.n : Int) != (V.c.n : Int)) = true := by simp; omega
      clear hR LA
      go_enter Try.func46, Try.ntmps46
      go_wp2_with fail
      go_ret
      exact ⟨by rw [hR'.out]; rfl, G0.out _⟩
  · have hR' : Hid (R = false) := hR.out.trans (by rw [decide_eq_false h1]; rfl)
    have e1 : ((V.n.n : Int) != (V.c.n : Int)) = true := by simp; omega
    clear hR LA
    go_enter Try.func46, Try.ntmps46
    go_wp2_with fail
    go_ret
    exact ⟨by rw [hR'.out]; rfl, G0.out _⟩
/-- What belongs to the role. -/
def Rft.roleOk (r : Nd) : Bool := if r.role = 0 then decide (r.votes.length = 0) && (decide (r.next.length = 0) && decide (r.mat.length = 0)) else if r.role = 1 then decide (r.vote = r.id) && Rft.votesOk r && (decide (r.next.length = 0) && decide (r.mat.length = 0)) else if r.role = 2 then decide (r.vote = r.id) && decide (r.lead = r.id) && decide (r.votes.length = 0) && Rft.placesOk r else false
theorem ok_is (r : Nd) : Rft.ok r = (Quo.chk r.conf && Quo.has r.conf r.id && (Rft.keptOk r && Rft.restOk r && Rft.roleOk r)) := by
  unfold Rft.ok Rft.keptOk Rft.restOk Rft.roleOk Rft.cand Rft.leads Rft.votesOk Rft.placesOk Rft.orIn
  simp only [Bool.decide_and]
  generalize Quo.chk r.conf = a1
  generalize Quo.has r.conf r.id = a2
  generalize chk r.b r.k r.l = a3
  generalize (decide (r.vote = 0) || Quo.has r.conf r.vote) = a4
  generalize (decide (r.lead = 0) || Quo.has r.conf r.lead) = a5
  generalize Rft.onceIn r.conf [] r.votes = a6
  generalize Quo.wins r.conf r.votes = a7
  generalize Rft.numsOk r.last r.next r.mat = a8
  generalize decide (0 ≤ r.term) = a9
  generalize decide (r.term ≤ 1099511627776) = a10
  generalize decide (r.lastt ≤ r.term) = a11
  generalize decide (r.snap.size ≤ 60000) = a12
  generalize decide (r.b ≤ r.com) = a13
  generalize decide (r.com ≤ r.last) = a14
  generalize decide (0 ≤ r.left) = a15
  generalize decide (r.left ≤ 100) = a16
  generalize decide (10 ≤ r.wait) = a17
  generalize decide (r.wait ≤ 19) = a18
  generalize decide (r.vote = r.id) = a19
  generalize decide (r.lead = r.id) = a20
  generalize decide (r.votes.length = 0) = a21
  generalize decide (r.votes.head? = some r.id) = a22
  generalize decide (r.next.length = 0) = a23
  generalize decide (r.mat.length = 0) = a24
  generalize decide (r.next.length = r.conf.length) = a25
  generalize decide (r.mat.length = r.conf.length) = a26
  have key : ∀ x y : Bool, (x = true ↔ y = true) → x = y := fun x y h => by cases x <;> cases y <;> simp_all
  apply key
  split
  · simp only [Bool.and_eq_true]
    grind
  · split
    · simp only [Bool.and_eq_true]
      grind
    · split
      · simp only [Bool.and_eq_true]
        grind
      · simp
end Go.Proofs.Ytdpcebaggldaiaa
