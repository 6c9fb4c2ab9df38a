/- A node at work: a message comes (asks and grants). -/
import Derived.Test.YtdpcebaggldaiaaGGrant
namespace Go.Proofs.Ytdpcebaggldaiaa
open Go.RowKit Trl
open Rft (Nd Mg)
set_option linter.unusedVariables false
set_option maxRecDepth 10000

/-- What a message makes of a node at work, and what it sends. -/
def Rft.handW (r : Nd) (m : Mg) : Nd := if m.term < (Rft.later r m).term then Rft.later r m else Rft.armN (Rft.later r m) m
def Rft.handM (r : Nd) (L : List Mg) (m : Mg) : List Mg := if m.term < (Rft.later r m).term then Rft.refuseL (Rft.later r m) L m else Rft.armL (Rft.later r m) m L
theorem later_is (r : Nd) (m : Mg) : Rft.later r m = if r.term < m.term then Rft.ent r m.term else r := rfl
theorem later_nok {r : Nd} {m : Mg} (h : Nok r) (h2 : m.term ≤ 1099511627776) : Nok (Rft.later r m) := by
  rw [later_is]
  split
  · exact ⟨h.conf, h.id, h.log, by show 0 ≤ m.term; have := h.t0; omega, h2⟩
  · exact h
set_option maxRecDepth 100000 in
set_option maxHeartbeats 3200000 in
theorem handle12_o {w : World} {base b : Nat} {r : Nd} {L : List Mg} {c : S3} (g : Mg) (u : S3) (h : Ob w base b r L c) (hr : Nok r) (ht1 : 1 ≤ g.term) (ht2 : g.term ≤ 1099511627776) (hv : r.role = 1 → r.votes ≠ []) (hvl : r.votes.length * 8 ≤ 140737488351232) (hk : g.kind = 1 ∨ g.kind = 2) (hL : L.length ≤ 4000) :
    Calls Try.prog 15 #[.pointer (some ⟨b, 0, none⟩), mv g u] w fun e w' => e = .returned (.tuple #[]) ∧ Ob w' base b (Rft.handW r g) (Rft.handM r L g) c ∧ Kp base w w' := by
  have G0 : Hid (w.grownBy (w.alloc (.cells #[.int .i64 g.kind, .int .i64 g.fm, .int .i64 g.tt, .int .i64 g.term, .int .i64 g.index, .int .i64 g.logt, .int .i64 g.com, .bool g.yes, .slice u.a u.n u.c, .string g.data] 30)) none) := World.grownBy_alloc w _ none
  have BX : Hid (∀ {W : World}, (w.alloc (.cells #[.int .i64 g.kind, .int .i64 g.fm, .int .i64 g.tt, .int .i64 g.term, .int .i64 g.index, .int .i64 g.logt, .int .i64 g.com, .bool g.yes, .slice u.a u.n u.c, .string g.data] 30)).grownBy W none → Cs W w.heap.size (mc (g, u)) ∧ w.grownBy W none) := fun {W} gr => ⟨box_msg gr, grown_tr (World.grownBy_alloc w _ none) gr⟩
  have HH : Hid (∀ {W : World}, w.grownBy W none → Ob W base b r L c) := fun {W} gr => h.grown gr
  have CT : Hid (∀ {W : World} {r' : Nd}, Ob W base b r' L c → W.cell? ⟨b, 2, none⟩ = some (.int .i64 r'.term)) := fun {W r'} hO => by
    obtain ⟨X, V, s, T, h0, _, _⟩ := hO
    exact h0.cs.at_ 2 rfl
  have hbq : b < w.heap.size ∧ base ≤ b := by obtain ⟨X, V, s, T, h0, _, _⟩ := id h; exact ⟨h0.cs.2.2, h0.hb⟩
  have LN := later_nok (m := g) hr ht2
  have LI := later_is r g
  have EN : Hid (∀ W, Ob W base b r L c → _) := fun W hO => enter_b g.term hO
  have hV2 : (Rft.later r g).role = 1 → (Rft.later r g).votes ≠ [] := by
    rw [LI]; split
    · intro e; cases e
    · exact hv
  have hVl2 : (Rft.later r g).votes.length * 8 ≤ 140737488351232 := by
    rw [LI]; split
    · show ([] : List Int).length * 8 ≤ _; simp
    · exact hvl
  have AS : Hid (∀ W, Ob W base b (Rft.later r g) L c → _) := fun W hO => asked_o g u hO LN.log hL
  have GR : Hid (∀ W, ¬ g.term < (Rft.later r g).term → Ob W base b (Rft.later r g) L c → _) := fun W hn hO => granted_o g u hO LN (Int.le_trans ht1 (by rw [LI]; split; exact Int.le_refl _; omega)) hV2 hVl2 hL
  have RF : Hid (∀ W, Ob W base b (Rft.later r g) L c → _) := fun W hO => refuse_o g u hO hL
  have EW : Hid (Rft.handW r g = if g.term < (Rft.later r g).term then Rft.later r g else Rft.armN (Rft.later r g) g) := rfl
  have EM : Hid (Rft.handM r L g = if g.term < (Rft.later r g).term then Rft.refuseL (Rft.later r g) L g else Rft.armL (Rft.later r g) g L) := rfl
  generalize Rft.handW r g = RN at *
  generalize Rft.handM r L g = RL at *
  obtain ⟨r', hr'⟩ : ∃ x, Rft.later r g = x := ⟨_, rfl⟩
  rw [hr'] at LI AS GR RF EW EM
  have HLI : Hid (r' = if r.term < g.term then Rft.ent r g.term else r) := LI
  have B0 := BX.out (grown_refl _ none)
  have m3 : (w.alloc (.cells #[.int .i64 g.kind, .int .i64 g.fm, .int .i64 g.tt, .int .i64 g.term, .int .i64 g.index, .int .i64 g.logt, .int .i64 g.com, .bool g.yes, .slice u.a u.n u.c, .string g.data] 30)).cell? ⟨w.heap.size, 3, none⟩ = some (.int .i64 g.term) := B0.1.at_ 3 rfl
  have c2 := CT.out (HH.out G0.out)
  clear h hr LN LI hV2 hVl2 hr' B0 hv hvl
  go_enter Try.func15, Try.ntmps15
  go_upto_region 0 with fail
  go_cut [3] from 4 to 4 (fun t3 wx => t3 = .pointer (some ⟨w.heap.size, 0, none⟩) ∧ wx = w.alloc (.cells #[.int .i64 g.kind, .int .i64 g.fm, .int .i64 g.tt, .int .i64 g.term, .int .i64 g.index, .int .i64 g.logt, .int .i64 g.com, .bool g.yes, .slice u.a u.n u.c, .string g.data] 30))
  case first =>
    go_wp2_with fail
    go_meet
    exact ⟨rfl, rfl⟩
  case rest =>
  obtain ⟨rfl, hwx⟩ := hcut
  subst hwx
  have hqb : w.heap.size ≠ b := by omega
  have HC0 : Hid (Cs (w.alloc (.cells #[.int .i64 g.kind, .int .i64 g.fm, .int .i64 g.tt, .int .i64 g.term, .int .i64 g.index, .int .i64 g.logt, .int .i64 g.com, .bool g.yes, .slice u.a u.n u.c, .string g.data] 30)) w.heap.size (mc (g, u))) := (BX.out (grown_refl _ none)).1
  have HW0 : Hid (Ob (w.alloc (.cells #[.int .i64 g.kind, .int .i64 g.fm, .int .i64 g.tt, .int .i64 g.term, .int .i64 g.index, .int .i64 g.logt, .int .i64 g.com, .bool g.yes, .slice u.a u.n u.c, .string g.data] 30)) base b r L c) := HH.out G0.out
  clear BX HH
  generalize w.alloc (.cells #[.int .i64 g.kind, .int .i64 g.fm, .int .i64 g.tt, .int .i64 g.term, .int .i64 g.index, .int .i64 g.logt, .int .i64 g.com, .bool g.yes, .slice u.a u.n u.c, .string g.data] 30) = w0 at *
  go_step
  go_step
  go_cut [4] from 5 to 15 (fun _ wx => Hid (Ob wx base b r' L c ∧ Chg (fun k => k = b) w0 wx))
  case first =>
    by_cases hlt : r.term < g.term
    · have ER : Hid (r' = Rft.ent r g.term) := HLI.out.trans (if_pos hlt)
      have E1 : Hid (∀ k, Calls Try.prog 31 #[.pointer (some ⟨b, 0, none⟩), .int .i64 g.term] (w0.drewN k) fun e w' => e = .returned (.tuple #[]) ∧ Ob w' base b (Rft.ent r g.term) L c ∧ Chg (fun k => k = b) (w0.drewN k) w') := fun k => EN.out _ (HW0.out.grown (grown_drewN (grown_refl _ none) k))
      have m3' : ∀ k, (w0.drewN k).cell? ⟨w.heap.size, 3, none⟩ = some (.int .i64 g.term) := fun k => m3
      go_upto_region 1 with fail
      go_quiet (fail)
      go_wp2_with (go_at_call 31; (with_reducible refine (E1.out _).mono ?_); rintro e w2 ⟨rfl, o2, k2⟩)
      go_meet
      have hh : Ob w2 base b r' L c ∧ Chg (fun k => k = b) w0 w2 := ⟨by rw [ER.out]; exact o2, (Chg.of (grown_drewN (grown_refl w0 none) _) (by simp)).trans k2 (fun _ h => .inl h)⟩
      exact hh
    · have ER : Hid (r' = r) := HLI.out.trans (if_neg hlt)
      go_upto_region 1 with fail
      go_quiet (fail)
      go_wp2_with fail
      go_meet
      have hh : Ob (w0.drewN nq) base b r' L c ∧ Chg (fun k => k = b) w0 (w0.drewN nq) := ⟨by rw [ER.out]; exact HW0.out.grown (grown_drewN (grown_refl _ none) _), Chg.of (grown_drewN (grown_refl w0 none) _) (by simp)⟩
      exact hh
  case rest =>
    rename World => wd
    have O2 : Hid (Ob wd base b r' L c) := hcut.out.1
    have K2 : Hid (Kp base w wd) := (Kp.of G0.out).trans (hcut.out.2.toKp hbq.2)
    have M2 := HC0.out.kept hcut.out.2 (fun e => hqb e)
    have d2 := CT.out O2.out
    have n0 : wd.cell? ⟨w.heap.size, 0, none⟩ = some (.int .i64 g.kind) := M2.at_ 0 rfl
    have n1 : wd.cell? ⟨w.heap.size, 1, none⟩ = some (.int .i64 g.fm) := M2.at_ 1 rfl
    have n2 : wd.cell? ⟨w.heap.size, 2, none⟩ = some (.int .i64 g.tt) := M2.at_ 2 rfl
    have n3 : wd.cell? ⟨w.heap.size, 3, none⟩ = some (.int .i64 g.term) := M2.at_ 3 rfl
    have n4 : wd.cell? ⟨w.heap.size, 4, none⟩ = some (.int .i64 g.index) := M2.at_ 4 rfl
    have n5 : wd.cell? ⟨w.heap.size, 5, none⟩ = some (.int .i64 g.logt) := M2.at_ 5 rfl
    have n6 : wd.cell? ⟨w.heap.size, 6, none⟩ = some (.int .i64 g.com) := M2.at_ 6 rfl
    have n7 : wd.cell? ⟨w.heap.size, 7, none⟩ = some (.bool g.yes) := M2.at_ 7 rfl
    have n8 : wd.cell? ⟨w.heap.size, 8, none⟩ = some (.slice u.a u.n u.c) := M2.at_ 8 rfl
    have n9 : wd.cell? ⟨w.heap.size, 9, none⟩ = some (.string g.data) := M2.at_ 9 rfl
    clear M2 hcut HC0 HW0 m3 c2 EN CT HLI G0
    have OD : Hid (∀ k, Ob (wd.drewN k) base b r' L c) := fun k => O2.out.grown (grown_drewN (grown_refl _ none) k)
    have KD : Hid (∀ k, Kp base w (wd.drewN k)) := fun k => K2.out.grown (grown_drewN (grown_refl _ none) k)
    go_upto_region 3 with fail
    by_cases hlt : g.term < r'.term
    · have EW' : Hid (RN = r') := EW.out.trans (if_pos hlt)
      have EM' : Hid (RL = Rft.refuseL r' L g) := EM.out.trans (if_pos hlt)
      clear EW EM AS GR
      go_quiet (fail)
      have R1 := RF.out _ (OD.out nq)
      have K3 : Hid (Kp base w (wd.drewN nq)) := KD.out nq
      have n0 : (wd.drewN nq).cell? ⟨w.heap.size, 0, none⟩ = some (.int .i64 g.kind) := n0
      have n1 : (wd.drewN nq).cell? ⟨w.heap.size, 1, none⟩ = some (.int .i64 g.fm) := n1
      have n2 : (wd.drewN nq).cell? ⟨w.heap.size, 2, none⟩ = some (.int .i64 g.tt) := n2
      have n3 : (wd.drewN nq).cell? ⟨w.heap.size, 3, none⟩ = some (.int .i64 g.term) := n3
      have n4 : (wd.drewN nq).cell? ⟨w.heap.size, 4, none⟩ = some (.int .i64 g.index) := n4
      have n5 : (wd.drewN nq).cell? ⟨w.heap.size, 5, none⟩ = some (.int .i64 g.logt) := n5
      have n6 : (wd.drewN nq).cell? ⟨w.heap.size, 6, none⟩ = some (.int .i64 g.com) := n6
      have n7 : (wd.drewN nq).cell? ⟨w.heap.size, 7, none⟩ = some (.bool g.yes) := n7
      have n8 : (wd.drewN nq).cell? ⟨w.heap.size, 8, none⟩ = some (.slice u.a u.n u.c) := n8
      have n9 : (wd.drewN nq).cell? ⟨w.heap.size, 9, none⟩ = some (.string g.data) := n9
      rw [← EM'.out] at R1
      generalize wd.drewN nq = we at *
      go_wp2_with (go_at_call 32; (with_reducible refine R1.mono ?_); rintro e w3 ⟨rfl, o3, k3⟩)
      refine bodyPost_ret (results_none rfl _ _ _) rfl ?_
      exact ⟨rfl, by rw [EW'.out]; exact o3, K3.out.trans k3⟩
    · have EW' : Hid (RN = Rft.armN r' g) := EW.out.trans (if_neg hlt)
      have EM' : Hid (RL = Rft.armL r' g L) := EM.out.trans (if_neg hlt)
      clear EW EM RF
      go_quiet (fail)
      have K3 : Hid (Kp base w (wd.drewN nq)) := KD.out nq
      have A1 := AS.out _ (OD.out nq)
      have G1 := GR.out _ hlt (OD.out nq)
      have n0 : (wd.drewN nq).cell? ⟨w.heap.size, 0, none⟩ = some (.int .i64 g.kind) := n0
      have n1 : (wd.drewN nq).cell? ⟨w.heap.size, 1, none⟩ = some (.int .i64 g.fm) := n1
      have n2 : (wd.drewN nq).cell? ⟨w.heap.size, 2, none⟩ = some (.int .i64 g.tt) := n2
      have n3 : (wd.drewN nq).cell? ⟨w.heap.size, 3, none⟩ = some (.int .i64 g.term) := n3
      have n4 : (wd.drewN nq).cell? ⟨w.heap.size, 4, none⟩ = some (.int .i64 g.index) := n4
      have n5 : (wd.drewN nq).cell? ⟨w.heap.size, 5, none⟩ = some (.int .i64 g.logt) := n5
      have n6 : (wd.drewN nq).cell? ⟨w.heap.size, 6, none⟩ = some (.int .i64 g.com) := n6
      have n7 : (wd.drewN nq).cell? ⟨w.heap.size, 7, none⟩ = some (.bool g.yes) := n7
      have n8 : (wd.drewN nq).cell? ⟨w.heap.size, 8, none⟩ = some (.slice u.a u.n u.c) := n8
      have n9 : (wd.drewN nq).cell? ⟨w.heap.size, 9, none⟩ = some (.string g.data) := n9
      generalize wd.drewN nq = we at *
      rcases hk with hk | hk
      · have e1 : (g.kind == 1) = true := by simpa using hk
        have a1 : Rft.armN r' g = Rft.askN r' g := by unfold Rft.armN; rw [if_pos hk]
        have a2 : Rft.armL r' g L = Rft.askL r' g L := by unfold Rft.armL; rw [if_pos hk]
        rw [← a1, ← a2, ← EW'.out, ← EM'.out] at A1
        clear a1 a2 hk G1
        go_wp2_with (go_at_call 33; (with_reducible refine A1.mono ?_); rintro e w3 ⟨rfl, o3, k3⟩)
        go_end0
        exact ⟨rfl, o3, K3.out.trans k3⟩
      · have e1 : (g.kind == 1) = false := by simp; omega
        have e2 : (g.kind == 2) = true := by simpa using hk
        have a1 : Rft.armN r' g = Rft.grantN r' g := by unfold Rft.armN; rw [if_neg (by omega), if_pos hk]
        have a2 : Rft.armL r' g L = Rft.grantL r' g L := by unfold Rft.armL; rw [if_neg (by omega), if_pos hk]
        rw [← a1, ← a2, ← EW'.out, ← EM'.out] at G1
        clear a1 a2 hk A1
        go_wp2_with (go_at_call 34; (with_reducible refine G1.mono ?_); rintro e w3 ⟨rfl, o3, k3⟩)
        go_end0
        exact ⟨rfl, o3, K3.out.trans k3⟩
end Go.Proofs.Ytdpcebaggldaiaa
