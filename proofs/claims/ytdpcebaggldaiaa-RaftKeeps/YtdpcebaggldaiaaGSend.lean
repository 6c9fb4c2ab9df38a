/- A node at work: its last number, a node's place, what it sends. -/
import Derived.Test.YtdpcebaggldaiaaGBase
import Derived.Deep.RegionHeld3
namespace Go.Proofs.Ytdpcebaggldaiaa
open Go.RowKit Trl
open Rft (Nd Mg)
set_option linter.unusedVariables false
set_option maxRecDepth 10000

theorem at_log {w : World} {base b : Nat} {r : Nd} {X : List (Mg × S3)} {V : Sv} {s : S3} {T : Nat → Nat} (h : Oc w base b r X V s T) : w.cell? ⟨b, 6, none⟩ = some (.int .i64 r.b) ∧ w.cell? ⟨b, 7, none⟩ = some (.int .i64 r.k) ∧ w.cell? ⟨b, 8, none⟩ = some (.slice V.e.a V.e.n V.e.c) := ⟨h.cs.at_ 6 rfl, h.cs.at_ 7 rfl, h.cs.at_ 8 rfl⟩
set_option maxRecDepth 100000 in
theorem last_w {w : World} {base b : Nat} {r : Nd} {X : List (Mg × S3)} {V : Sv} {s : S3} {T : Nat → Nat} (h : Oc w base b r X V s T) (hk : chk r.b r.k r.l = true) :
    Calls Try.prog 57 #[.pointer (some ⟨b, 0, none⟩)] w fun e w' => e = .returned (.int .i64 r.last) ∧ w.grownBy w' none := by
  have LA := last_any r.b r.k _ r.l w (Sl.row h.e) hk
  obtain ⟨c6, c7, c8⟩ := at_log h
  rw [show r.b + (r.l.length : Int) = r.last from rfl] at LA
  clear h hk
  go_enter Try.func57, Try.ntmps57
  go_wp2_with (go_at_call 43; (with_reducible refine LA.mono ?_); rintro e w1 ⟨rfl, g1⟩)
  go_ret
  exact ⟨rfl, g1⟩

/-- A message's box. -/
theorem box_msg {w W : World} {x : Mg × S3} {t : TypeId} (g : (w.alloc (.cells (mc x).toArray t)).grownBy W none) : Cs W w.heap.size (mc x) :=
  ⟨fun j v hv => by rw [Nat.zero_add]; exact cell_kept g j v (by simpa using hv), fun i => frozen_kept g i, by have := g.size; simp at this; omega⟩
/-- What a message becomes that is sent. -/
def sent (r : Nd) (g : Mg) (to_ : Int) : Mg := { g with fm := r.id, tt := to_, term := r.term }
theorem tag_more (T : Nat → Nat) (H i : Nat) : ∀ k, k < H → (fun k => if k < H then T k else i) k = T k := fun k hk => if_pos hk
set_option maxRecDepth 100000 in
set_option maxHeartbeats 1600000 in
theorem send_w {w : World} {base b : Nat} {r : Nd} {X : List (Mg × S3)} {V : Sv} {s : S3} {T : Nat → Nat} (g : Mg) (u : S3) (to_ : Int) (h : Oc w base b r X V s T) (hu : Row eE w base T 1 u.v g.es) (hX : X.length ≤ 4096) :
    Calls Try.prog 50 #[.pointer (some ⟨b, 0, none⟩), .int .i64 to_, mv g u] w fun e w' => e = .returned (.tuple #[]) ∧ Ob w' base b r (X.map (·.1) ++ [sent r g to_]) V.c ∧ Kp base w w' := by
  have c0 : ∀ {W : World}, w.grownBy W none → W.cell? ⟨b, 0, none⟩ = some (.int .i64 r.id) := fun {W} g => (h.cs.grown g).at_ 0 rfl
  have c2 : ∀ {W : World}, w.grownBy W none → W.cell? ⟨b, 2, none⟩ = some (.int .i64 r.term) := fun {W} g => (h.cs.grown g).at_ 2 rfl
  have hblt := h.cs.2.2
  have GA : ∀ o, w.grownBy (w.alloc o) none := fun o => World.grownBy_alloc w o none
  have BM : Cs (w.alloc (.cells #[.int .i64 g.kind, .int .i64 g.fm, .int .i64 g.tt, .int .i64 g.term, .int .i64 g.index, .int .i64 g.logt, .int .i64 g.com, .bool g.yes, .slice u.a u.n u.c, .string g.data] 30)) w.heap.size (mc (g, u)) := box_msg (grown_refl _ _)
  have GW := GA (.cells #[.int .i64 g.kind, .int .i64 g.fm, .int .i64 g.tt, .int .i64 g.term, .int .i64 g.index, .int .i64 g.logt, .int .i64 g.com, .bool g.yes, .slice u.a u.n u.c, .string g.data] 30)
  have x0 := c0 GW
  have x2 := c2 GW
  clear c0 c2
  go_enter Try.func50, Try.ntmps50
  go_upto_region 1 with fail
  obtain ⟨w0, hw0⟩ : ∃ w0, w.alloc (.cells #[.int .i64 g.kind, .int .i64 g.fm, .int .i64 g.tt, .int .i64 g.term, .int .i64 g.index, .int .i64 g.logt, .int .i64 g.com, .bool g.yes, .slice u.a u.n u.c, .string g.data] 30) = w0 := ⟨_, rfl⟩
  rw [hw0] at x0 x2 BM GW ⊢
  have q1 := BM.2.1 1
  have q2 := BM.2.1 2
  have q3 := BM.2.1 3
  have m1 := BM.at_ 1 rfl
  have m2 := BM.at_ 2 rfl
  have m3 := BM.at_ 3 rfl
  have hqz := BM.2.2
  have BM' : Hid (Cs w0 w.heap.size (mc (g, u))) := BM
  have H : Hid (Oc w base b r X V s T) := h
  have HU : Hid (Row eE w base T 1 u.v g.es) := hu
  obtain ⟨q, hq⟩ : ∃ q, w.heap.size = q := ⟨_, rfl⟩
  have HQ : Hid (w.heap.size = q) := hq
  rw [hq] at hblt BM' hqz q1 q2 q3 m1 m2 m3 ⊢
  clear BM hw0 GA h hu hq
  have qn : b ≠ q := by omega
  have hid := H.out.hb
  obtain ⟨w1, hw1⟩ : ∃ w1, ((w0.setCell ⟨q, 1, none⟩ (.int .i64 r.id)).setCell ⟨q, 2, none⟩ (.int .i64 to_)).setCell ⟨q, 3, none⟩ (.int .i64 r.term) = w1 := ⟨_, rfl⟩
  have B1 : Cs w1 q (mc (sent r g to_, u)) := by
    rw [← hw1]
    exact ((BM'.out.set 1 _).set 2 _).set 3 _
  have G1 : w.grownBy w1 none := by
    rw [← hw1]
    have hn : ∀ (i : Nat) (W : World) (v : Value), w.grownBy W none → w.grownBy (W.setCell ⟨q, i, none⟩ v) none := fun i W v hg => grown_more hg (grown_set W ⟨q, i, none⟩ v) (fun k e => .inr (by injection e with e; have := HQ.out; simp at e; omega))
    exact hn 3 _ _ (hn 2 _ _ (hn 1 _ _ GW))
  have z1 : Hid (q < w1.heap.size) := B1.2.2
  have O1 := H.out.grown G1
  have U1 : Row eE w1 base T 1 u.v g.es := HU.out.kept (F := fun _ => False) (Chg.of G1 (by simp)) (fun _ _ _ _ => id)
  have D1 : Hid (∀ o, w1.grownBy (w1.alloc o).drew.drew none) := fun o => grown_drew (grown_drew (World.grownBy_alloc w1 o none))
  have OWN : Hid (∀ o, eM.Own (w1.alloc o).drew.drew base (.slice s.a s.n s.c) X) := fun o => O1.l.1.grown (D1.out o)
  have y0 : w1.cell? ⟨q, 0, none⟩ = some (.int .i64 g.kind) := B1.at_ 0 rfl
  have y1 : w1.cell? ⟨q, 1, none⟩ = some (.int .i64 r.id) := B1.at_ 1 rfl
  have y2 : w1.cell? ⟨q, 2, none⟩ = some (.int .i64 to_) := B1.at_ 2 rfl
  have y3 : w1.cell? ⟨q, 3, none⟩ = some (.int .i64 r.term) := B1.at_ 3 rfl
  have y4 : w1.cell? ⟨q, 4, none⟩ = some (.int .i64 g.index) := B1.at_ 4 rfl
  have y5 : w1.cell? ⟨q, 5, none⟩ = some (.int .i64 g.logt) := B1.at_ 5 rfl
  have y6 : w1.cell? ⟨q, 6, none⟩ = some (.int .i64 g.com) := B1.at_ 6 rfl
  have y7 : w1.cell? ⟨q, 7, none⟩ = some (.bool g.yes) := B1.at_ 7 rfl
  have y8 : w1.cell? ⟨q, 8, none⟩ = some (.slice u.a u.n u.c) := B1.at_ 8 rfl
  have y9 : w1.cell? ⟨q, 9, none⟩ = some (.string g.data) := B1.at_ 9 rfl
  have l16 : w1.cell? ⟨b, 16, none⟩ = some (.slice s.a s.n s.c) := O1.cs.at_ 16 rfl
  have l16' : ∀ o, (w1.alloc o).cell? ⟨b, 16, none⟩ = some (.slice s.a s.n s.c) := fun o => (World.grownBy_alloc w1 o none).cell l16 (by simp)
  have hbase : Hid (base ≤ w1.heap.size) := by have := z1.out; show _ ≤ _; omega
  have RX : Hid (eM.Rx (w1.alloc (.cells #[.int .i64 g.kind, .int .i64 r.id, .int .i64 to_, .int .i64 r.term, .int .i64 g.index, .int .i64 g.logt, .int .i64 g.com, .bool g.yes, .slice u.a u.n u.c, .string g.data] 30)).drew.drew (.slice (some ⟨w1.heap.size, 0, none⟩) 1 1) [(sent r g to_, u)]) := Elm.rx_one (E := eM) fun j x hx => new_at w1 rfl (by rw [← hx]; simp [eM, sent])
  have KB : Hid (∀ o w2, (w1.alloc o).drew.drew.grownBy w2 (Value.slice s.a s.n s.c).ownBlock → w2.cell? ⟨b, 16, none⟩ = some (.slice s.a s.n s.c) ∧ w2.frozen? ⟨b, 16, none⟩ = false ∧ Cs w2 b (oc r V s)) := fun o w2 hg => by
    have hc : Cs w2 b (oc r V s) := (O1.cs.grown (D1.out o)).kept (F := fun k => (Value.slice s.a s.n s.c).ownBlock = some k) (Chg.of hg (fun k e => e)) (fun e => by have h1 := O1.l.2 b e; rw [O1.tb] at h1; cases h1)
    exact ⟨hc.at_ 16 rfl, hc.2.1 16, hc⟩
  have FIN : Hid (∀ (a2 : Option Addr) (n2 c2 : Nat) (o : Obj) (w2 : World), eM.Own w2 base (.slice a2 n2 c2) (X ++ [(sent r g to_, u)]) → (w1.alloc o).drew.drew.grownBy w2 (Value.slice s.a s.n s.c).ownBlock → ((Value.slice a2 n2 c2).ownBlock = (Value.slice s.a s.n s.c).ownBlock ∨ (Value.slice a2 n2 c2).ownBlock = some (w1.alloc o).drew.drew.heap.size) →
      Ob (w2.setCell ⟨b, 16, none⟩ (.slice a2 n2 c2)) base b r (X.map (·.1) ++ [sent r g to_]) V.c ∧ Kp base w (w2.setCell ⟨b, 16, none⟩ (.slice a2 n2 c2))) := fun a2 n2 c2 o w2 hO2 hg2 hl2 => by
    have hc := (KB.out o w2 hg2).2.2
    have G3 := grown_set w2 ⟨b, 16, none⟩ (.slice a2 n2 c2)
    have hsz : (w1.alloc o).drew.drew.heap.size = w1.heap.size + 1 := by show (w1.alloc o).heap.size = _; simp
    have C2 : Chg (fun k => (Value.slice s.a s.n s.c).ownBlock = some k) w1 w2 := (Chg.of (D1.out o) (by simp)).grown hg2 (fun k e => .inl e)
    have C3 : Chg (fun k => k = b ∨ (Value.slice s.a s.n s.c).ownBlock = some k) w1 (w2.setCell ⟨b, 16, none⟩ (.slice a2 n2 c2)) := (C2.wide (fun k e => .inr e)).grown G3 (fun k e => .inl (.inl (by injection e with e; exact e.symm)))
    have O2 := O1.retag (tag_more T w1.heap.size 5)
    have T2 := tag_more T w1.heap.size 5
    have U2 := U1.retag T2
    generalize hT' : (fun k => if k < w1.heap.size then T k else 5) = T' at *
    have hne : ∀ i, i ≠ 0 → i ≠ 5 → ∀ k, T' k = i → base ≤ k → k < w1.heap.size → ¬ (k = b ∨ (Value.slice s.a s.n s.c).ownBlock = some k) := fun i h0 h5 k ht _ _ e => by
      rcases e with e | e
      · subst e; rw [O2.tb] at ht; exact h0 ht.symm
      · rw [O2.l.2 k e] at ht; exact h5 ht.symm
    have nb : ∀ k, (Value.slice a2 n2 c2).ownBlock = some k → k ≠ b := fun k hk e => by
      subst e
      rcases hl2 with e | e
      · rw [e] at hk; have h1 := O1.l.2 k hk; rw [O1.tb] at h1; cases h1
      · rw [hk, hsz] at e; injection e with e; have := z1.out; omega
    refine ⟨⟨X ++ [(sent r g to_, u)], V, ⟨a2, n2, c2⟩, T', ⟨O2.hb, O2.tb, hc.set 16 _, O2.c.kept C3 (hne 1 (by decide) (by decide)), O2.e.kept C3 (hne 1 (by decide) (by decide)), O2.v.kept C3 (hne 2 (by decide) (by decide)), O2.n.kept C3 (hne 3 (by decide) (by decide)), O2.m.kept C3 (hne 4 (by decide) (by decide)), ⟨hO2.but G3 (fun k hk e => nb k hk (by injection e with e; exact e.symm)), fun k hk => ?_⟩, fun x hx => ?_⟩, by simp, rfl⟩, ?_⟩
    · rcases hl2 with e | e
      · rw [e] at hk; exact O2.l.2 k hk
      · rw [hk, hsz] at e; injection e with e; rw [← hT']; exact if_neg (by omega)
    · rcases List.mem_append.1 hx with hx | hx
      · exact (O2.ms x hx).kept C3 (hne 1 (by decide) (by decide))
      · simp at hx; subst hx; exact U2.kept C3 (hne 1 (by decide) (by decide))
    · refine (Kp.of G1).trans (C3.wide fun k e => ?_)
      rcases e with rfl | e
      · exact O1.hb
      · exact (O1.l.1.lt k e).1
  have HW1 : Hid (((w0.setCell ⟨q, 1, none⟩ (.int .i64 r.id)).setCell ⟨q, 2, none⟩ (.int .i64 to_)).setCell ⟨q, 3, none⟩ (.int .i64 r.term) = w1) := hw1
  clear hw1 B1 O1 U1 G1 hid
  go_region_with (fail)
  all_goals
    rw [HW1.out]
    clear x0 x2 m1 m2 m3 q1 q2 q3 hqz GW BM' HW1
    go_upto_region 2 with fail
    go_region_law (refine step_of rfl (Elm.wp_append (E := eM) (.tmp 24) (.tmp 26) rfl base (.slice s.a s.n s.c) X rfl (OWN.out _) _ [(sent r g to_, u)] rfl RX.out (by simp; omega) (by simp [eM]; omega) (by have := hbase.out; have := (D1.out (.cells #[] 0)).size; simp; omega) ?_); intro a2 n2 c2 w2 hO2 hg2 hl2; obtain ⟨k0, kf, kcs⟩ := KB.out _ _ hg2)
    all_goals go_wp2
    all_goals go_end0
    all_goals exact ⟨rfl, FIN.out _ _ _ _ _ hO2 hg2 hl2⟩
end Go.Proofs.Ytdpcebaggldaiaa
