/- The fixed answers that every statement looks at first. -/
import Derived.Test.YtdpcebaggldaiaaGNew3
import Derived.Test.YtdpcebaggldaiaaGTop2
import Derived.Test.YtdpcebaggldaiaaMf
import Derived.Test.YtdpcebaggldaiaaMa
namespace Go.Proofs.Ytdpcebaggldaiaa
open Go.RowKit Trl
open Rft (Nd Mg)
set_option linter.unusedVariables false
set_option maxRecDepth 10000

/-- A box that holds a row. -/
def Rb (w : World) (q : Nat) (cs : List Value) : Prop := w.rangeAt q 0 cs ∧ w.there q 0 cs.length ∧ q < w.heap.size
theorem Rb.at_ {w : World} {q : Nat} {cs : List Value} (h : Rb w q cs) (i : Nat) {v : Value} (hi : cs[i]? = some v) : w.cell? ⟨q, i, none⟩ = some v := by
  have := h.1 i v hi
  rwa [Nat.zero_add] at this
theorem Rb.kept {F : Nat → Prop} {w w' : World} {q : Nat} {cs : List Value} (h : Rb w q cs) (g : Chg F w w') (hF : ¬ F q) : Rb w' q cs := by
  refine ⟨fun j v hv => g.cell (h.1 j v hv) hF, fun j hj => ?_, Nat.lt_of_lt_of_le h.2.2 g.size⟩
  obtain ⟨h1, h2⟩ := h.2.1 j hj
  obtain ⟨v, hv⟩ := Option.isSome_iff_exists.1 h1
  exact ⟨by rw [g.cell hv hF]; rfl, (g.frozen (a := ⟨q, 0 + j, none⟩) h.2.2 hF).trans h2⟩
theorem Rb.grown {w w' : World} {q : Nat} {cs : List Value} (h : Rb w q cs) (g : w.grownBy w' none) : Rb w' q cs := h.kept (F := fun _ => False) (Chg.of g (by simp)) id
theorem Cs.rb {w : World} {q : Nat} {cs : List Value} (h : Cs w q cs) : Rb w q cs := ⟨h.1, h.there (Nat.le_refl _), h.2.2⟩
theorem Rb.stored {w w2 : World} {q : Nat} {C : Array Value} (hr : w2.rangeAt q 0 C.toList) (ht : w2.there q 0 C.size) (hg : w.grownBy w2 (some q)) (h : q < w.heap.size) : Rb w2 q C.toList := ⟨hr, ht, Nat.lt_of_lt_of_le h hg.size⟩
/-- What the first two calls and the ticks leave: the node in its box, what it has sent. -/
def Aw (w wr : World) (q : Nat) (r : Nd) (L : List Mg) (s : S3) : Prop := ∃ V X, Rb wr q (nc r V) ∧ Rdn wr r V ∧ eM.Rx wr (.slice s.a s.n s.c) X ∧ X.map (·.1) = L ∧ s.n = L.length ∧ w.grownBy wr none ∧ w.heap.size ≤ q ∧ ∀ x ∈ X, x.2.n = x.1.es.length
theorem Aw.grown {w wr w' : World} {q : Nat} {r : Nd} {L : List Mg} {s : S3} (h : Aw w wr q r L s) (g : wr.grownBy w' none) : Aw w w' q r L s := by
  obtain ⟨V, X, h1, h2, h3, h4, h5, h6, h7, h8⟩ := h
  exact ⟨V, X, h1.grown g, h2.grown g, h3.grown g, h4, h5, grown_tr h6 g, h7, h8⟩
/-- What was answered is put into the box. -/
theorem Aw.put {w wr w1 w2 : World} {q : Nat} {r r' : Nd} {L L' : List Mg} {s s' : S3} {V' : Sv} {X' : List (Mg × S3)} {T : Nat → Nat} (h : Aw w wr q r L s) (o : Own5 w1 wr.heap.size r' V' T) (hl : Lens r') (hX : eM.Own w1 wr.heap.size (.slice s'.a s'.n s'.c) X') (hm : ∀ x ∈ X', Row eE w1 wr.heap.size T 1 x.2.v x.1.es) (hL : X'.map (·.1) = L') (g : wr.grownBy w1 none)
    (hr : w2.rangeAt q 0 (nc r' V')) (ht : w2.there q 0 16) (hg : w1.grownBy w2 (some q)) : Aw w w2 q r' L' s' := by
  obtain ⟨V, X, h1, h2, h3, h4, h5, h6, h7, h8⟩ := h
  have hq := h1.2.2
  have C : Chg (fun k => k = q) w1 w2 := Chg.of hg (fun k e => by injection e with e; exact e.symm)
  refine ⟨V', X', ⟨hr, ht, Nat.lt_of_lt_of_le hq (Nat.le_trans g.size hg.size)⟩, (o.kept C (fun k hk _ e => by omega)).rdn hl, (hX.kept C (fun k hk e => by have := (hX.lt k hk).1; omega)).rx, hL, ?_, ?_, h7, fun x hx => Row.len (hm x hx)⟩
  · have := hX.len
    rw [← hL]
    simpa using this
  · exact grown_more (grown_tr h6 g) hg (fun k e => .inr (by injection e with e; omega))
theorem lit_k (w : World) (l : List Int) (q : Nat) (hq : q = w.heap.size) : eK.Rx (w.alloc (.cells (eK.cells l).toArray 3)) (.slice (some ⟨q, 0, none⟩) l.length l.length) l := by
  refine .inr ⟨⟨q, 0, none⟩, l.length, rfl, .inr rfl, fun t u hu => ?_⟩
  rw [Addr.add_lit, Nat.zero_add]
  exact new_at w hq (by simpa using hu)
theorem awkN_lens : ∀ j, Lens (Rft.awkN j) := fun j => by
  unfold Rft.awkN
  split
  · exact ⟨by simp [Rft.awkC], by simp [Rft.awkC], by simp [Rft.awkC], by simp [Rft.awkC], by simp [Rft.awkC]⟩
  · exact ⟨by simp [Rft.awk], by simp [Rft.awk], by simp [Rft.awk], by simp [Rft.awk], by simp [Rft.awk]⟩
theorem new_two (w : World) : Calls Try.prog 12 #[.int .i64 2, .slice (some ⟨w.heap.size, 0, none⟩) 3 3] (w.alloc (.cells #[.int .i64 1, .int .i64 2, .int .i64 3] 3)) fun e w' => ∃ V T, e = .returned (.tuple #[nv (Rft.awkN 0) V, .int .i64 0]) ∧ Own5 w' (w.heap.size + 1) (Rft.awkN 0) V T ∧ w.grownBy w' none := by
  have h := New_any 2 [1, 2, 3] ⟨some ⟨w.heap.size, 0, none⟩, 3, 3⟩ (w.alloc (.cells #[.int .i64 1, .int .i64 2, .int .i64 3] 3)) (lit_k w [1, 2, 3] _ rfl) rfl (by decide)
  have e1 : (w.alloc (.cells #[.int .i64 1, .int .i64 2, .int .i64 3] 3)).heap.size = w.heap.size + 1 := by simp
  refine h.mono ?_
  rintro e w' (⟨hk, _⟩ | ⟨_, V, T, rfl, o, g⟩)
  · exact absurd hk (by decide)
  · rw [e1] at o
    exact ⟨V, T, rfl, o, grown_tr (World.grownBy_alloc w _ none) g⟩
theorem new_four (w : World) : Calls Try.prog 12 #[.int .i64 4, .slice (some ⟨w.heap.size, 0, none⟩) 3 3] (w.alloc (.cells #[.int .i64 1, .int .i64 2, .int .i64 3] 3)) fun e w' => e = .returned (.tuple #[.agg #[.int .i64 0, .slice none 0 0, .int .i64 0, .int .i64 0, .int .i64 0, .int .i64 0, .int .i64 0, .int .i64 0, .slice none 0 0, .string ⟨#[]⟩, .int .i64 0, .int .i64 0, .int .i64 0, .slice none 0 0, .slice none 0 0, .slice none 0 0], .int .i64 1]) ∧ w.grownBy w' none := by
  have h := New_any 4 [1, 2, 3] ⟨some ⟨w.heap.size, 0, none⟩, 3, 3⟩ (w.alloc (.cells #[.int .i64 1, .int .i64 2, .int .i64 3] 3)) (lit_k w [1, 2, 3] _ rfl) rfl (by decide)
  refine h.mono ?_
  rintro e w' (⟨_, rfl, g⟩ | ⟨hk, _⟩)
  · exact ⟨rfl, grown_tr (World.grownBy_alloc w _ none) g⟩
  · exact absurd hk (by decide)
/-- The last tests: a grant makes a leader. -/
theorem awake_grant (V : Sv) (w : World) (h : Rdn w Rft.awkC V) : Calls Try.prog 7 #[nv Rft.awkC V, .agg #[.int .i64 2, .int .i64 3, .int .i64 2, .int .i64 1, .int .i64 0, .int .i64 0, .int .i64 0, .bool true, .slice none 0 0, .string ⟨#[]⟩]] w fun e w' => Ans w w' (Rft.handN Rft.awkC Rft.awkG) (Rft.handL Rft.awkC Rft.awkG) e :=
  Handle12_any Rft.awkC V Rft.awkG nil3 w h ⟨Sl.nil w, rfl, by decide⟩ (.inr rfl)
theorem awake_lens : Lens (Rft.handN Rft.awkC Rft.awkG) := hand_lens (awkN_lens 10) Rft.awkG (.inr rfl)
/-- Two messages that were sent. -/
theorem Aw.two {w wr : World} {q : Nat} {r : Nd} {L : List Mg} {s : S3} (h : Aw w wr q r L s) {x y : Mg} (e : L = [x, y]) : s.n = 2 ∧ ∃ g o, s.a = some ⟨g, o, none⟩ ∧ wr.cell? ⟨g, o, none⟩ = some (.int .i64 x.kind) ∧ wr.cell? ⟨g, o + 12, none⟩ = some (.int .i64 y.tt) ∧ ∃ u : S3, wr.cell? ⟨g, o + 8, none⟩ = some (.slice u.a u.n u.c) ∧ u.n = x.es.length := by
  obtain ⟨V, X, h1, h2, h3, h4, h5, h6, h7, h8⟩ := h
  subst e
  match X, h4, h3, h8 with
  | [a, b], h4, h3, h8 =>
    simp at h4
    obtain ⟨rfl, rfl⟩ := h4
    obtain ⟨g, o, c', hv, hc⟩ := h3.at_ (i := 0) (x := a) rfl
    obtain ⟨g', o', c'', hv', hc'⟩ := h3.at_ (i := 1) (x := b) rfl
    injection hv with e1 e2 e3
    rw [e1] at hv'
    injection hv' with f1 f2 f3
    injection f1 with f1
    injection f1 with f4 f5
    subst f4 f5
    have es : eM.size = 10 := rfl
    rw [es] at hc hc'
    refine ⟨h5, g, o, e1, ?_, ?_, a.2, ?_, h8 a (by simp)⟩
    · simpa using hc 0 _ rfl
    · simpa using hc' 2 _ rfl
    · simpa using hc 8 _ rfl
set_option maxRecDepth 100000 in
set_option maxHeartbeats 3200000 in
theorem awake_any (w : World) : Calls Try.prog 5 #[] w fun e w' => e = .returned (.bool true) ∧ w.grownBy w' none := by
  have TK : Hid (∀ (r : Nd) (V : Sv) (W : World), Rdn W r V → _) := fun r V W h => Tick_any r V 4 W h (by decide) (by decide)
  obtain ⟨r0, hr0⟩ : ∃ r, Rft.awkN 0 = r := ⟨_, rfl⟩
  have HR0 : Hid (Rft.awkN 0 = r0) := hr0
  have N2 := new_two w
  rw [hr0] at N2
  clear hr0
  go_enter Try.func5, Try.ntmps5
  go_upto_region 2 with (go_at_call 12; (with_reducible refine N2.mono ?_); rintro e w1 ⟨V1, T1, rfl, o1, g1⟩)
  have RB : Rb (w1.alloc (.cells #[.int .i64 r0.id, .slice V1.c.a V1.c.n V1.c.c, .int .i64 r0.term, .int .i64 r0.vote, .int .i64 r0.role, .int .i64 r0.lead, .int .i64 r0.b, .int .i64 r0.k, .slice V1.e.a V1.e.n V1.e.c, .string r0.snap, .int .i64 r0.com, .int .i64 r0.left, .int .i64 r0.wait, .slice V1.v.a V1.v.n V1.v.c, .slice V1.n.a V1.n.n V1.n.c, .slice V1.m.a V1.m.n V1.m.c] 28)) w1.heap.size (nc r0 V1) := (box_node (grown_refl _ none)).1.rb
  have A1 : Aw w (w1.alloc (.cells #[.int .i64 r0.id, .slice V1.c.a V1.c.n V1.c.c, .int .i64 r0.term, .int .i64 r0.vote, .int .i64 r0.role, .int .i64 r0.lead, .int .i64 r0.b, .int .i64 r0.k, .slice V1.e.a V1.e.n V1.e.c, .string r0.snap, .int .i64 r0.com, .int .i64 r0.left, .int .i64 r0.wait, .slice V1.v.a V1.v.n V1.v.c, .slice V1.n.a V1.n.n V1.n.c, .slice V1.m.a V1.m.n V1.m.c] 28)) w1.heap.size r0 [] nil3 := ⟨V1, [], RB, (o1.rdn (by rw [← HR0.out]; exact awkN_lens 0)).grown (World.grownBy_alloc w1 _ none), .inl ⟨rfl, rfl⟩, rfl, rfl, grown_alloc g1 _, g1.size, by simp⟩
  have HA1 : Hid (Aw w (w1.alloc (.cells #[.int .i64 r0.id, .slice V1.c.a V1.c.n V1.c.c, .int .i64 r0.term, .int .i64 r0.vote, .int .i64 r0.role, .int .i64 r0.lead, .int .i64 r0.b, .int .i64 r0.k, .slice V1.e.a V1.e.n V1.e.c, .string r0.snap, .int .i64 r0.com, .int .i64 r0.left, .int .i64 r0.wait, .slice V1.v.a V1.v.n V1.v.c, .slice V1.n.a V1.n.n V1.n.c, .slice V1.m.a V1.m.n V1.m.c] 28)) w1.heap.size r0 [] nil3) := A1
  clear RB A1 o1 N2 g1
  generalize w1.alloc (.cells #[.int .i64 r0.id, .slice V1.c.a V1.c.n V1.c.c, .int .i64 r0.term, .int .i64 r0.vote, .int .i64 r0.role, .int .i64 r0.lead, .int .i64 r0.b, .int .i64 r0.k, .slice V1.e.a V1.e.n V1.e.c, .string r0.snap, .int .i64 r0.com, .int .i64 r0.left, .int .i64 r0.wait, .slice V1.v.a V1.v.n V1.v.c, .slice V1.n.a V1.n.n V1.n.c, .slice V1.m.a V1.m.n V1.m.c] 28) = wa at *
  generalize w1.heap.size = q at *
  go_wp2_with (go_at_call 12; (with_reducible refine (new_four wa).mono ?_); rintro e w2 ⟨rfl, g2⟩)
  have HA2 : Hid (∀ o, Aw w (w2.alloc o) q r0 [] nil3) := fun o => HA1.out.grown (grown_alloc g2 o)
  clear HA1 g2
  go_loopw [5, 6] (fun t5 t6 wr => ∃ (j : Nat) (s : S3), j ≤ 10 ∧ t6 = .int .i64 (j : Int) ∧ t5 = .slice s.a s.n s.c ∧ Hid (Aw w wr q (Rft.awkN j) (Rft.awkM j) s)) (fun _ t6 _ => 10 - (intOf t6).toNat)
  case atStart => exact ⟨0, nil3, by omega, rfl, rfl, by rw [HR0.out]; exact HA2.out _⟩
  case round =>
    obtain ⟨j, s, hj, rfl, rfl, A⟩ := hrel
    by_cases hlt : j < 10
    · obtain ⟨V, X, RB, RD, _⟩ := id A.out
      obtain ⟨e1, e2⟩ := Rft.awk_tick j hlt
      have T1 := TK.out _ V wr RD
      rw [e1, e2] at T1
      have LN : Hid (Lens (Rft.awkN (j + 1))) := awkN_lens _
      obtain ⟨r', hr'⟩ : ∃ r, Rft.awkN (j + 1) = r := ⟨_, rfl⟩
      have HR' : Hid (Rft.awkN (j + 1) = r') := hr'
      rw [hr'] at T1 LN
      generalize Rft.awkN j = r at *
      have RR := RB.1
      clear e1 e2 hr' RD
      go_wp2_with (first
        | (refine load_row (ty := 28) q 0 (nc r V) _ rfl RR Try.underlying28 rfl (by kernel_rfl) ?_)
        | (go_at_call 8; (with_reducible refine T1.mono ?_); rintro e w3 ⟨V3, s3, X3, T3, rfl, o3, l3, m3, hL3, g3⟩; have TH := (RB.grown g3).2.1)
        | (refine store_row (ty := 28) q (nc r' V3).toArray rfl rfl TH (by kernel_rfl) (by simp [Value.oneCell']) ?_; intro w6 hr6 ht6 hg6))
      go_roundw
      case rel => exact ⟨j + 1, s3, by omega, by go_num, rfl, by rw [HR'.out]; exact A.out.put o3 LN.out l3 m3 hL3 g3 hr6 ht6 hg6⟩
      case measure => simp [intOf]; omega
    · have E : j = 10 := by omega
      subst E
      have A10 : Hid (Aw w wr q Rft.awkC (Rft.awkM 10) s) := A.out
      obtain ⟨V, X, RB, RD, _⟩ := id A10.out
      obtain ⟨en, g, o, ea, x0, x12, _⟩ := A10.out.two (x := ⟨1, 2, 1, 1, 0, 0, 0, false, [], ⟨#[]⟩⟩) (y := ⟨1, 2, 3, 1, 0, 0, 0, false, [], ⟨#[]⟩⟩) rfl
      rw [en, ea]
      have c2 : wr.cell? ⟨q, 2, none⟩ = some (.int .i64 1) := RB.at_ 2 rfl
      have c4 : wr.cell? ⟨q, 4, none⟩ = some (.int .i64 1) := RB.at_ 4 rfl
      have c12 : wr.cell? ⟨q, 12, none⟩ = some (.int .i64 14) := RB.at_ 12 rfl
      have RR := RB.1
      have G1 := awake_grant V wr RD
      have LN : Hid (Lens (Rft.handN Rft.awkC Rft.awkG)) := awake_lens
      obtain ⟨k1, k2, k3, k4⟩ := Rft.awk_hand
      obtain ⟨r', hr'⟩ : ∃ r, Rft.handN Rft.awkC Rft.awkG = r := ⟨_, rfl⟩
      obtain ⟨L', hL'⟩ : ∃ L, Rft.handL Rft.awkC Rft.awkG = L := ⟨_, rfl⟩
      rw [hr'] at G1 LN k1 k2
      rw [hL'] at G1 k3 k4
      have HK : Hid (r'.role = 2 ∧ r'.l.length = 1 ∧ ∃ x y, L' = [x, y] ∧ x.es.length = 1) := by
        refine ⟨k1, k2, ?_⟩
        match L', k3, k4 with
        | [x, y], _, k4 => exact ⟨x, y, rfl, by simpa using k4⟩
      clear A en ea k1 k2 k3 k4 hr' hL' TK RD
      go_upto_region 11 with (first
        | (refine load_row (ty := 28) q 0 (nc Rft.awkC V) _ rfl RR Try.underlying28 rfl (by kernel_rfl) ?_)
        | (go_at_call 7; (with_reducible refine G1.mono ?_); rintro e w3 ⟨V3, s3, X3, T3, rfl, o3, l3, m3, hL3, g3⟩; have TH := (RB.grown g3).2.1)
        | (refine store_row (ty := 28) q (nc r' V3).toArray rfl rfl TH (by kernel_rfl) (by simp [Value.oneCell']) ?_; intro w6 hr6 ht6 hg6))
      have AF := A10.out.put o3 LN.out l3 m3 hL3 g3 hr6 ht6 hg6
      obtain ⟨hk1, hk2, x, y, hk3, hk4⟩ := HK.out
      obtain ⟨V6, X6, RB6, RD6, _, _, _, GF, _⟩ := id AF
      obtain ⟨en, g', o', ea, _, _, u, y8, eu⟩ := AF.two hk3
      have c4 : w6.cell? ⟨q, 4, none⟩ = some (.int .i64 2) := by rw [← hk1]; exact RB6.at_ 4 rfl
      have c8 : w6.cell? ⟨q, 8, none⟩ = some (.slice V6.e.a 1 V6.e.c) := by rw [← hk2, ← RD6.el]; exact RB6.at_ 8 rfl
      rw [eu, hk4] at y8
      rw [en, ea]
      have HF : Hid (w.grownBy w6 none) := GF
      clear AF RB6 RD6 GF A10 RR RB c2 c12 x0 x12 hr6 ht6 hg6 TH o3 l3 m3 hL3 hk1 hk2 hk3 hk4 en ea eu
      go_wp2_with fail
      go_ret
      exact ⟨rfl, HF.out⟩
end Go.Proofs.Ytdpcebaggldaiaa
