/- One voice a term: the statement's walk. -/
import Derived.Test.YtdpcebaggldaiaaGAwake
import Derived.Test.YtdpcebaggldaiaaRArgs2
namespace Go.Proofs.Ytdpcebaggldaiaa
open Go.RowKit Trl
open Rft (Nd Mg)
set_option linter.unusedVariables false
set_option maxRecDepth 10000

theorem Rb.set {w : World} {q : Nat} {cs : List Value} (h : Rb w q cs) (i : Nat) (v : Value) : Rb (w.setCell ⟨q, i, none⟩ v) q (cs.set i v) := by
  refine ⟨fun j x hx => ?_, fun j hj => ?_, by rw [size_set]; exact h.2.2⟩
  · by_cases e : i = j
    · subst e
      have hl : i < cs.length := by obtain ⟨h1, _⟩ := List.getElem?_eq_some_iff.mp hx; simpa using h1
      rw [List.getElem?_set_self hl] at hx
      injection hx with hx
      subst hx
      rw [Nat.zero_add]
      exact set_same (h.at_ i (List.getElem?_eq_getElem hl))
    · rw [List.getElem?_set_ne e] at hx
      rw [Nat.zero_add]
      rw [set_other (by simp)]
      exact h.at_ j hx
  · rw [List.length_set] at hj
    obtain ⟨h1, h2⟩ := h.2.1 j hj
    refine ⟨?_, by simpa using h2⟩
    by_cases e : i = j
    · subst e
      rw [Nat.zero_add, set_same (h.at_ i (List.getElem?_eq_getElem hj))]
      rfl
    · rw [Nat.zero_add] at h1 ⊢
      rw [set_other (by simp)]
      exact h1
/-- The node in the statement's box. -/
def Vs (w wr : World) (r : Nd) : Prop := ∃ V, Rb wr w.heap.size (nc r V) ∧ Rdn wr r V ∧ w.grownBy wr none
/-- What lies in memory while what was answered is looked through. -/
structure Vi (w wr : World) (r r' : Nd) (V V' : Sv) (q : Nat) (s : S3) (X : List (Mg × S3)) : Prop where
  a : Rb wr w.heap.size (nc r V)
  b : Rb wr q (nc r' V')
  d : ∃ base T, w.heap.size < base ∧ Own5 wr base r' V' T
  x : eM.Rx wr (.slice s.a s.n s.c) X
  g : w.grownBy wr none
theorem Vi.grown {w wr w' : World} {r r' : Nd} {V V' : Sv} {q : Nat} {s : S3} {X : List (Mg × S3)} (h : Vi w wr r r' V V' q s X) (g : wr.grownBy w' none) : Vi w w' r r' V V' q s X :=
  ⟨h.a.grown g, h.b.grown g, by obtain ⟨base, T, hb, o⟩ := h.d; exact ⟨base, T, hb, o.grown g⟩, h.x.grown g, grown_tr h.g g⟩
namespace raftVotes
set_option maxRecDepth 100000 in
set_option maxHeartbeats 3200000 in
theorem walk (w : World) (va : Value) (o0 : ∃ (n : Nd) (V : Sv), va = nv n V ∧ Rdn w n V) (vb : Value) (o1 : ∃ (s : S3) (X : List (Mg × S3)), vb = .slice s.a s.n s.c ∧ eM.Rx w (.slice s.a s.n s.c) X ∧ s.n = X.length ∧ X.length ≤ 9223372036854775807 ∧ ∀ x ∈ X, Rdm w x.1 x.2) :
    Calls Try.prog 4 #[va, vb] w fun e w' => e = .returned (.bool true) ∧ Below w.heap.size w w' := by
  obtain ⟨r, V, rfl, hr⟩ := o0
  obtain ⟨s, X, rfl, hX, hn, hN, hms⟩ := o1
  have AW : Hid (∀ W, _) := awake_any
  have CH : Hid (∀ (W : World) (r : Nd) (V : Sv), Rdn W r V → _) := fun W r V h => Check_any r V W h
  have G0 : Hid (w.grownBy (w.alloc (.cells #[.int .i64 r.id, .slice V.c.a V.c.n V.c.c, .int .i64 r.term, .int .i64 r.vote, .int .i64 r.role, .int .i64 r.lead, .int .i64 r.b, .int .i64 r.k, .slice V.e.a V.e.n V.e.c, .string r.snap, .int .i64 r.com, .int .i64 r.left, .int .i64 r.wait, .slice V.v.a V.v.n V.v.c, .slice V.n.a V.n.n V.n.c, .slice V.m.a V.m.n V.m.c] 28)) none) := World.grownBy_alloc w _ none
  have B0 : Hid (∀ {W : World}, (w.alloc (.cells #[.int .i64 r.id, .slice V.c.a V.c.n V.c.c, .int .i64 r.term, .int .i64 r.vote, .int .i64 r.role, .int .i64 r.lead, .int .i64 r.b, .int .i64 r.k, .slice V.e.a V.e.n V.e.c, .string r.snap, .int .i64 r.com, .int .i64 r.left, .int .i64 r.wait, .slice V.v.a V.v.n V.v.c, .slice V.n.a V.n.n V.n.c, .slice V.m.a V.m.n V.m.c] 28)).grownBy W none → Rb W w.heap.size (nc r V)) := fun {W} g => (box_node g).1.rb
  have HR : Hid (∀ {W : World}, w.grownBy W none → Rdn W r V) := fun {W} g => hr.grown g
  have HX : Hid (∀ {W : World}, w.grownBy W none → eM.Rx W (.slice s.a s.n s.c) X ∧ ∀ x ∈ X, Rdm W x.1 x.2) := fun {W} g => ⟨hX.grown g, fun x hx => (hms x hx).grown g⟩
  have HN : Hid (s.n = X.length) := hn
  have hN' : s.n ≤ 9223372036854775807 := by rw [hn]; exact hN
  clear hr hX hms hn hN
  go_enter Try.func4, Try.ntmps4
  go_upto_region 3 with (go_at_call 5; (with_reducible refine (AW.out _).mono ?_); rintro e w1 ⟨rfl, g1⟩)
  have R1 := B0.out g1
  have G1 : Hid (w.grownBy w1 none) := grown_tr G0.out g1
  have C1 := CH.out w1 r V (HR.out G1.out)
  clear g1 AW
  generalize hok : Rft.ok r = OK at *
  cases OK with
  | false =>
    go_wp2_with (first
      | (refine load_row (ty := 28) w.heap.size 0 (nc r V) _ rfl R1.1 Try.underlying28 rfl (by kernel_rfl) ?_)
      | (go_at_call 11; (with_reducible refine C1.mono ?_); rintro e w2 ⟨rfl, g2⟩))
    go_ret
    exact ⟨rfl, grown_below (grown_tr G1.out g2)⟩
  | true =>
    go_wp2_with (first
      | (refine load_row (ty := 28) w.heap.size 0 (nc r V) _ rfl R1.1 Try.underlying28 rfl (by kernel_rfl) ?_)
      | (go_at_call 11; (with_reducible refine C1.mono ?_); rintro e w2 ⟨rfl, g2⟩))
    have S2 : Hid (Vs w w2 r) := ⟨V, R1.grown g2, HR.out (grown_tr G1.out g2), grown_tr G1.out g2⟩
    clear R1 C1 g2 G1 B0 G0 HR hok CH
    go_loopw [5, 6, 7, 8, 9] (fun t5 _ _ _ _ wr => ∃ (j : Nat) (r : Nd), j ≤ s.n ∧ t5 = .int .i64 (j : Int) ∧ Hid (Vs w wr r)) (fun t5 _ _ _ _ _ => s.n - (intOf t5).toNat)
    case atStart => exact ⟨0, r, by omega, rfl, S2⟩
    case round =>
      obtain ⟨j, r, hj, rfl, S⟩ := hrel
      by_cases hlt : j < s.n
      · by_cases h1 : j < 100
        · obtain ⟨V, RB, RD, GR⟩ := S.out
          obtain ⟨HX1, HM1⟩ := HX.out GR
          obtain ⟨x, hx⟩ : ∃ x, X[j]? = some x := ⟨_, List.getElem?_eq_getElem (by rw [← HN.out]; exact hlt)⟩
          obtain ⟨g, o, c', hv, hc⟩ := HX1.at_ hx
          injection hv with e1 e2 e3
          have RX : wr.rangeAt g (o + j * 10) (mc x) := fun i v hi => hc i v hi
          have hm := HM1 x (List.mem_of_getElem? hx)
          rw [e1]
          have hQ := RB.2.2
          have HM : Hid (Rdm wr x.1 x.2) := hm
          have HRB : Hid (Rb wr w.heap.size (nc r V) ∧ Rdn wr r V ∧ w.grownBy wr none) := ⟨RB, RD, GR⟩
          clear HX1 HM1 hx hc hm RB RD GR e1 e2 e3
          go_upto_region 9 with (first
            | (refine load_row (ty := 30) g (o + j * 10) (mc x) _ rfl RX Try.underlying30 rfl (by kernel_rfl) ?_))
          have hq6 := (box_msg (x := x) (grown_refl (wr.alloc (.cells #[.int .i64 x.1.kind, .int .i64 x.1.fm, .int .i64 x.1.tt, .int .i64 x.1.term, .int .i64 x.1.index, .int .i64 x.1.logt, .int .i64 x.1.com, .bool x.1.yes, .slice x.2.a x.2.n x.2.c, .string x.1.data] 30)) none)).rb
          have G6 : wr.grownBy (wr.alloc (.cells #[.int .i64 x.1.kind, .int .i64 x.1.fm, .int .i64 x.1.tt, .int .i64 x.1.term, .int .i64 x.1.index, .int .i64 x.1.logt, .int .i64 x.1.com, .bool x.1.yes, .slice x.2.a x.2.n x.2.c, .string x.1.data] 30)) none := World.grownBy_alloc wr _ none
          generalize wr.alloc (.cells #[.int .i64 x.1.kind, .int .i64 x.1.fm, .int .i64 x.1.tt, .int .i64 x.1.term, .int .i64 x.1.index, .int .i64 x.1.logt, .int .i64 x.1.com, .bool x.1.yes, .slice x.2.a x.2.n x.2.c, .string x.1.data] 30) = w6 at *
          obtain ⟨m, hmq⟩ : ∃ m, wr.heap.size = m := ⟨_, rfl⟩
          rw [hmq] at hq6 hQ ⊢
          have hmm : m ≠ w.heap.size := by omega
          have HMQ : Hid (wr.heap.size = m) := hmq
          have R6 := HRB.out.1.grown G6
          have z0 := hq6.at_ 0 rfl
          have z2 := hq6.at_ 2 rfl
          have f0 := (hq6.2.1 0 (by simp)).2
          have f2 := (hq6.2.1 2 (by simp)).2
          have q0 := R6.at_ 0 rfl
          clear RX hmq
          go_upto_region 11 with fail
          have M8 : Rb ((w6.setCell ⟨m, 0, none⟩ (.int .i64 1)).setCell ⟨m, 2, none⟩ (.int .i64 r.id)) m (mc ({ x.1 with kind := 1, tt := r.id }, x.2)) := (hq6.set 0 (.int .i64 1)).set 2 (.int .i64 r.id)
          have G8 : wr.grownBy ((w6.setCell ⟨m, 0, none⟩ (.int .i64 1)).setCell ⟨m, 2, none⟩ (.int .i64 r.id)) none := grown_more (grown_more G6 (grown_set w6 ⟨m, 0, none⟩ (.int .i64 1)) (fun k e => .inr (by injection e with e; have := HMQ.out; simp at e; omega))) (grown_set _ ⟨m, 2, none⟩ (.int .i64 r.id)) (fun k e => .inr (by injection e with e; have := HMQ.out; simp at e; omega))
          generalize (w6.setCell ⟨m, 0, none⟩ (.int .i64 1)).setCell ⟨m, 2, none⟩ (.int .i64 r.id) = w8 at *
          obtain ⟨gm, hgm⟩ : ∃ gm : Mg, ({ x.1 with kind := 1, tt := r.id } : Mg) = gm := ⟨_, rfl⟩
          have hk1 : gm.kind = 1 := by rw [← hgm]
          have HK1 : Hid (gm.kind = 1) := hk1
          have RM8 : Rdm w8 gm x.2 := by have h := HM.out.grown G8; rw [← hgm]; exact ⟨h.e, h.el, h.eb⟩
          rw [hgm] at M8
          have RN8 : Rdn w8 r V := HRB.out.2.1.grown G8
          have H1 := Handle12_any r V gm x.2 w8 RN8 RM8 (.inl hk1)
          have VF : Hid _ := vote_fine r gm hk1
          have HB1 : Hid ((Rft.handL r gm).length ≤ 1) := hand_one r gm hk1
          have LN : Hid (Lens (Rft.handN r gm)) := hand_lens RN8.lens gm (.inl hk1)
          have R8 := HRB.out.1.grown G8
          have RR8 := R8.1
          have RM : w8.rangeAt m 0 (mc (gm, x.2)) := M8.1
          have HR8 : Hid (Rb w8 w.heap.size (nc r V)) := R8
          have GR8 : Hid (w.grownBy w8 none) := grown_tr HRB.out.2.2 G8
          have HQ8 : Hid (w.heap.size < w8.heap.size) := R8.2.2
          generalize Rft.handN r gm = r' at *
          generalize Rft.handL r gm = L' at *
          clear z0 z2 f0 f2 q0 R6 hq6 G6 M8 G8 RM8 RN8 R8 hgm hk1 HM HRB S
          go_upto_region 12 with (first
            | (refine load_row (ty := 28) w.heap.size 0 (nc r V) _ rfl RR8 Try.underlying28 rfl (by kernel_rfl) ?_)
            | (refine load_row (ty := 30) m 0 (mc (gm, x.2)) _ rfl RM Try.underlying30 rfl (by kernel_rfl) ?_)
            | (go_at_call 7; (with_reducible refine H1.mono ?_); rintro e w9 ⟨V2, s2, X2, T2, rfl, o2, l2, m2, hL2, g9⟩))
          have VI : Vi w (w9.alloc (.cells #[.int .i64 r'.id, .slice V2.c.a V2.c.n V2.c.c, .int .i64 r'.term, .int .i64 r'.vote, .int .i64 r'.role, .int .i64 r'.lead, .int .i64 r'.b, .int .i64 r'.k, .slice V2.e.a V2.e.n V2.e.c, .string r'.snap, .int .i64 r'.com, .int .i64 r'.left, .int .i64 r'.wait, .slice V2.v.a V2.v.n V2.v.c, .slice V2.n.a V2.n.n V2.n.c, .slice V2.m.a V2.m.n V2.m.c] 28)) r r' V V2 w9.heap.size s2 X2 := by
            have ga := World.grownBy_alloc w9 (.cells #[.int .i64 r'.id, .slice V2.c.a V2.c.n V2.c.c, .int .i64 r'.term, .int .i64 r'.vote, .int .i64 r'.role, .int .i64 r'.lead, .int .i64 r'.b, .int .i64 r'.k, .slice V2.e.a V2.e.n V2.e.c, .string r'.snap, .int .i64 r'.com, .int .i64 r'.left, .int .i64 r'.wait, .slice V2.v.a V2.v.n V2.v.c, .slice V2.n.a V2.n.n V2.n.c, .slice V2.m.a V2.m.n V2.m.c] 28) none
            exact ⟨HR8.out.grown (grown_tr g9 ga), (box_node (grown_refl _ none)).1.rb, ⟨_, T2, HQ8.out, o2.grown ga⟩, (l2.grown ga).rx, grown_tr (grown_tr GR8.out g9) ga⟩
          have hs2 : s2.n = X2.length := l2.len
          have hq9 : w.heap.size < w9.heap.size := Nat.lt_of_lt_of_le HQ8.out g9.size
          have HVI : Hid (Vi w (w9.alloc (.cells #[.int .i64 r'.id, .slice V2.c.a V2.c.n V2.c.c, .int .i64 r'.term, .int .i64 r'.vote, .int .i64 r'.role, .int .i64 r'.lead, .int .i64 r'.b, .int .i64 r'.k, .slice V2.e.a V2.e.n V2.e.c, .string r'.snap, .int .i64 r'.com, .int .i64 r'.left, .int .i64 r'.wait, .slice V2.v.a V2.v.n V2.v.c, .slice V2.n.a V2.n.n V2.n.c, .slice V2.m.a V2.m.n V2.m.c] 28)) r r' V V2 w9.heap.size s2 X2) := VI
          have HL2 : Hid (X2.map (·.1) = L') := hL2
          have HS2 : Hid (s2.n = X2.length) := hs2
          have hs1 : s2.n ≤ 1 := by have h := HB1.out; rw [← hL2, List.length_map] at h; omega
          generalize w9.alloc (.cells #[.int .i64 r'.id, .slice V2.c.a V2.c.n V2.c.c, .int .i64 r'.term, .int .i64 r'.vote, .int .i64 r'.role, .int .i64 r'.lead, .int .i64 r'.b, .int .i64 r'.k, .slice V2.e.a V2.e.n V2.e.c, .string r'.snap, .int .i64 r'.com, .int .i64 r'.left, .int .i64 r'.wait, .slice V2.v.a V2.v.n V2.v.c, .slice V2.n.a V2.n.n V2.n.c, .slice V2.m.a V2.m.n V2.m.c] 28) = wa at *
          generalize w9.heap.size = q at *
          clear VI hs2 hL2 o2 l2 m2 g9 RR8 RM H1 HR8 GR8 HQ8
          go_wp2_with fail
          rename World => wz
          go_loopw [9] (fun t9 wr => ∃ k : Nat, k ≤ s2.n ∧ t9 = .int .i64 (k : Int) ∧ Hid (Vi w wr r r' V V2 q s2 X2)) (fun t9 _ => s2.n - (intOf t9).toNat)
          case atStart => exact ⟨0, by omega, rfl, HVI⟩
          case round =>
            obtain ⟨k, hk, rfl, I⟩ := hrel
            by_cases hkl : k < s2.n
            · obtain ⟨y, hy⟩ : ∃ y, X2[k]? = some y := ⟨_, List.getElem?_eq_getElem (by rw [← HS2.out]; exact hkl)⟩
              obtain ⟨g3, o3, c3, hv, hc⟩ := I.out.x.at_ hy
              injection hv with e1 e2 e3
              have F := VF.out y.1 (by rw [← HL2.out]; exact List.mem_map.2 ⟨y, List.mem_of_getElem? hy, rfl⟩)
              have es : eM.size = 10 := rfl
              rw [es] at hc
              have y0 : wr.cell? ⟨g3, o3 + k * 10, none⟩ = some (.int .i64 y.1.kind) := hc 0 _ rfl
              have y2 : wr.cell? ⟨g3, o3 + k * 10 + 2, none⟩ = some (.int .i64 y.1.tt) := hc 2 _ rfl
              have y3 : wr.cell? ⟨g3, o3 + k * 10 + 3, none⟩ = some (.int .i64 y.1.term) := hc 3 _ rfl
              have y7 : wr.cell? ⟨g3, o3 + k * 10 + 7, none⟩ = some (.bool y.1.yes) := hc 7 _ rfl
              have a2 : wr.cell? ⟨w.heap.size, 2, none⟩ = some (.int .i64 r.term) := I.out.a.at_ 2 rfl
              have a3 : wr.cell? ⟨w.heap.size, 3, none⟩ = some (.int .i64 r.vote) := I.out.a.at_ 3 rfl
              have b2 : wr.cell? ⟨q, 2, none⟩ = some (.int .i64 r'.term) := I.out.b.at_ 2 rfl
              have b3 : wr.cell? ⟨q, 3, none⟩ = some (.int .i64 r'.vote) := I.out.b.at_ 3 rfl
              rw [e1]
              generalize y.1.kind = yk at *
              generalize y.1.tt = yt at *
              generalize y.1.term = ye at *
              generalize y.1.yes = yy at *
              clear hc hy e1 e2 e3 es
              by_cases h2 : yk = 2
              · subst h2
                cases yy with
                | false =>
                clear F
                go_upto_region 15 with fail
                go_quiet (fail)
                have I2 : Hid (Vi w (wr.drewN nq) r r' V V2 q s2 X2) := I.out.grown (grown_drewN (grown_refl _ none) _)
                go_wp2_with fail
                go_roundw
                case rel => exact ⟨k + 1, by omega, by go_num, I2⟩
                case measure => simp [intOf]; omega
                | true =>
                obtain ⟨F1, F2, F3⟩ := F rfl
                have p1 : (r'.vote != yt) = false := by simpa using F1
                have p2 : (ye != r'.term) = false := by simpa using F2
                by_cases h3 : r.term = r'.term
                · have p3 : (r.term == r'.term) = true := by simpa using h3
                  by_cases h4 : r.vote = 0
                  · have p4 : (r.vote != 0) = false := by simpa using h4
                    clear F F1 F2 F3 h3 h4
                    go_upto_region 15 with fail
                    go_quiet (fail)
                    have I2 : Hid (Vi w (wr.drewN nq) r r' V V2 q s2 X2) := I.out.grown (grown_drewN (grown_refl _ none) _)
                    go_wp2_with fail
                    go_roundw
                    case rel => exact ⟨k + 1, by omega, by go_num, I2⟩
                    case measure => simp [intOf]; omega
                  · have p4 : (r.vote != 0) = true := by simpa using h4
                    have p5 : (r.vote != r'.vote) = false := by rcases F3 h3 with e | e; exact absurd e h4; simpa using e
                    clear F F1 F2 F3 h3 h4
                    go_upto_region 15 with fail
                    go_quiet (fail)
                    have I2 : Hid (Vi w (wr.drewN nq) r r' V V2 q s2 X2) := I.out.grown (grown_drewN (grown_refl _ none) _)
                    go_wp2_with fail
                    go_roundw
                    case rel => exact ⟨k + 1, by omega, by go_num, I2⟩
                    case measure => simp [intOf]; omega
                · have p3 : (r.term == r'.term) = false := by simpa using h3
                  clear F F1 F2 F3 h3
                  go_upto_region 15 with fail
                  go_quiet (fail)
                  have I2 : Hid (Vi w (wr.drewN nq) r r' V V2 q s2 X2) := I.out.grown (grown_drewN (grown_refl _ none) _)
                  go_wp2_with fail
                  go_roundw
                  case rel => exact ⟨k + 1, by omega, by go_num, I2⟩
                  case measure => simp [intOf]; omega
              · have p0 : (yk == 2) = false := by simpa using h2
                clear F h2
                go_upto_region 15 with fail
                go_quiet (fail)
                have I2 : Hid (Vi w (wr.drewN nq) r r' V V2 q s2 X2) := I.out.grown (grown_drewN (grown_refl _ none) _)
                go_wp2_with fail
                go_roundw
                case rel => exact ⟨k + 1, by omega, by go_num, I2⟩
                case measure => simp [intOf]; omega
            · have HI := I.out
              have RQ := HI.b.1
              have TH := HI.a.2.1
              go_wp2_with (first
                | (refine load_row (ty := 28) q 0 (nc r' V2) _ rfl RQ Try.underlying28 rfl (by kernel_rfl) ?_)
                | (refine store_row (ty := 28) w.heap.size (nc r' V2).toArray rfl rfl TH (by kernel_rfl) (by simp [Value.oneCell']) ?_; intro w6 hr6 ht6 hg6))
              go_roundw
              case rel =>
                have C : Chg (fun k => k = w.heap.size) wr w6 := Chg.of hg6 (fun k e => by injection e with e; exact e.symm)
                refine ⟨j + 1, r', by omega, by go_num, V2, Rb.stored hr6 ht6 hg6 HI.a.2.2, ?_, grown_more HI.g hg6 (fun k e => .inr (by injection e with e; omega))⟩
                obtain ⟨base, T, hb, o⟩ := HI.d
                exact (o.kept C (fun k hk _ e => by omega)).rdn LN.out
              case measure => simp [intOf]; omega
        · have d1 : decide ((j : Int) < 100) = false := decide_eq_false (by omega)
          have n1 : ¬ (j : Int) < 100 := by omega
          have GB : Hid (w.grownBy wr none) := by obtain ⟨_, _, _, g⟩ := S.out; exact g
          go_wp2_with fail
          go_ret
          exact ⟨rfl, grown_below GB.out⟩
      · have GB : Hid (w.grownBy wr none) := by obtain ⟨_, _, _, g⟩ := S.out; exact g
        go_wp2_with fail
        go_ret
        exact ⟨rfl, grown_below GB.out⟩
end raftVotes
end Go.Proofs.Ytdpcebaggldaiaa
