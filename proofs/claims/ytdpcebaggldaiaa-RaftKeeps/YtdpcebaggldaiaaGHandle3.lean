/- A node at work: a message comes (pushes, acks and bundles). -/
import Derived.Test.YtdpcebaggldaiaaGHandle
import Derived.Test.YtdpcebaggldaiaaGPushed
import Derived.Test.YtdpcebaggldaiaaGBund
import Derived.Test.YtdpcebaggldaiaaGAcked
namespace Go.Proofs.Ytdpcebaggldaiaa
open Go.RowKit Trl
open Rft (Nd Mg)
set_option linter.unusedVariables false
set_option maxRecDepth 10000

set_option maxRecDepth 100000 in
set_option maxHeartbeats 1600000 in
theorem pushed_l {w : World} {base b : Nat} {r : Nd} {L : List Mg} {c : S3} (g : Mg) (u : S3) (h : Ob w base b r L c) (h2 : r.role = 2) :
    Calls Try.prog 35 #[.pointer (some ⟨b, 0, none⟩), mv g u] w fun e w' => e = .returned (.tuple #[]) ∧ Ob w' base b r L c ∧ Kp base w w' := by
  have G0 : Hid (w.grownBy (w.alloc (.cells #[.int .i64 g.kind, .int .i64 g.fm, .int .i64 g.tt, .int .i64 g.term, .int .i64 g.index, .int .i64 g.logt, .int .i64 g.com, .bool g.yes, .slice u.a u.n u.c, .string g.data] 30)) none) := World.grownBy_alloc w _ none
  have c4 := ob_role (h.grown G0.out)
  have HO : Hid (Ob (w.alloc (.cells #[.int .i64 g.kind, .int .i64 g.fm, .int .i64 g.tt, .int .i64 g.term, .int .i64 g.index, .int .i64 g.logt, .int .i64 g.com, .bool g.yes, .slice u.a u.n u.c, .string g.data] 30)) base b r L c) := h.grown G0.out
  rw [h2] at c4
  clear h h2
  go_enter Try.func35, Try.ntmps35
  go_upto_region 1 with fail
  generalize w.alloc (.cells #[.int .i64 g.kind, .int .i64 g.fm, .int .i64 g.tt, .int .i64 g.term, .int .i64 g.index, .int .i64 g.logt, .int .i64 g.com, .bool g.yes, .slice u.a u.n u.c, .string g.data] 30) = w0 at *
  go_wp2_with fail
  refine bodyPost_ret (results_none rfl _ _ _) rfl ?_
  exact ⟨rfl, HO.out, Kp.of G0.out⟩
set_option maxRecDepth 100000 in
set_option maxHeartbeats 1600000 in
theorem bundled_l {w : World} {base b : Nat} {r : Nd} {L : List Mg} {c : S3} (g : Mg) (u : S3) (h : Ob w base b r L c) (h2 : r.role = 2) :
    Calls Try.prog 36 #[.pointer (some ⟨b, 0, none⟩), mv g u] w fun e w' => e = .returned (.tuple #[]) ∧ Ob w' base b r L c ∧ Kp base w w' := by
  have G0 : Hid (w.grownBy (w.alloc (.cells #[.int .i64 g.kind, .int .i64 g.fm, .int .i64 g.tt, .int .i64 g.term, .int .i64 g.index, .int .i64 g.logt, .int .i64 g.com, .bool g.yes, .slice u.a u.n u.c, .string g.data] 30)) none) := World.grownBy_alloc w _ none
  have c4 := ob_role (h.grown G0.out)
  have HO : Hid (Ob (w.alloc (.cells #[.int .i64 g.kind, .int .i64 g.fm, .int .i64 g.tt, .int .i64 g.term, .int .i64 g.index, .int .i64 g.logt, .int .i64 g.com, .bool g.yes, .slice u.a u.n u.c, .string g.data] 30)) base b r L c) := h.grown G0.out
  rw [h2] at c4
  clear h h2
  go_enter Try.func36, Try.ntmps36
  go_upto_region 1 with fail
  generalize w.alloc (.cells #[.int .i64 g.kind, .int .i64 g.fm, .int .i64 g.tt, .int .i64 g.term, .int .i64 g.index, .int .i64 g.logt, .int .i64 g.com, .bool g.yes, .slice u.a u.n u.c, .string g.data] 30) = w0 at *
  go_wp2_with fail
  refine bodyPost_ret (results_none rfl _ _ _) rfl ?_
  exact ⟨rfl, HO.out, Kp.of G0.out⟩
set_option maxRecDepth 100000 in
set_option maxHeartbeats 1600000 in
theorem acked_n {w : World} {base b : Nat} {r : Nd} {L : List Mg} {c : S3} (g : Mg) (u : S3) (h : Ob w base b r L c) (h2 : ¬ r.role = 2) :
    Calls Try.prog 37 #[.pointer (some ⟨b, 0, none⟩), mv g u] w fun e w' => e = .returned (.tuple #[]) ∧ Ob w' base b r L c ∧ Kp base w w' := by
  have G0 : Hid (w.grownBy (w.alloc (.cells #[.int .i64 g.kind, .int .i64 g.fm, .int .i64 g.tt, .int .i64 g.term, .int .i64 g.index, .int .i64 g.logt, .int .i64 g.com, .bool g.yes, .slice u.a u.n u.c, .string g.data] 30)) none) := World.grownBy_alloc w _ none
  have c4 := ob_role (h.grown G0.out)
  have HO : Hid (Ob (w.alloc (.cells #[.int .i64 g.kind, .int .i64 g.fm, .int .i64 g.tt, .int .i64 g.term, .int .i64 g.index, .int .i64 g.logt, .int .i64 g.com, .bool g.yes, .slice u.a u.n u.c, .string g.data] 30)) base b r L c) := h.grown G0.out
  have er : (r.role != 2) = true := by simpa using h2
  clear h h2
  go_enter Try.func37, Try.ntmps37
  go_upto_region 1 with fail
  generalize w.alloc (.cells #[.int .i64 g.kind, .int .i64 g.fm, .int .i64 g.tt, .int .i64 g.term, .int .i64 g.index, .int .i64 g.logt, .int .i64 g.com, .bool g.yes, .slice u.a u.n u.c, .string g.data] 30) = w0 at *
  go_quiet (fail)
  go_wp2_with fail
  refine bodyPost_ret (results_none rfl _ _ _) rfl ?_
  exact ⟨rfl, HO.out.grown (grown_drewN (grown_refl _ none) _), Kp.of (grown_drewN G0.out _)⟩
set_option maxRecDepth 100000 in
set_option maxHeartbeats 3200000 in
theorem handle345_o {w : World} {base b : Nat} {r : Nd} {L : List Mg} {c : S3} (g : Mg) (u : S3) (h : Ob w base b r L c) (hr : Nok r) (ht1 : 1 ≤ g.term) (ht2 : g.term ≤ 1099511627776) (hv : r.role = 1 → r.votes ≠ []) (hvl : r.votes.length * 8 ≤ 140737488351232) (hk : g.kind = 3 ∨ g.kind = 4 ∨ g.kind = 5) (hf : Quo.has r.conf g.fm = true) (hm : Rdk w base g u) (hidle : ¬ r.role = 2 → r.next = [] ∧ r.mat = []) (hN : r.role = 2 → Lnum r) (hi0 : 0 ≤ g.index) (hi1 : g.index ≤ 1099511627776) (he8 : g.es.length ≤ 8) (hL : L.length ≤ 4000) :
    Calls Try.prog 15 #[.pointer (some ⟨b, 0, none⟩), mv g u] w fun e w' => e = .returned (.tuple #[]) ∧ Ob w' base b (Rft.handW r g) (Rft.handM r L g) c ∧ Kp base w w' := by
  have G0 : Hid (w.grownBy (w.alloc (.cells #[.int .i64 g.kind, .int .i64 g.fm, .int .i64 g.tt, .int .i64 g.term, .int .i64 g.index, .int .i64 g.logt, .int .i64 g.com, .bool g.yes, .slice u.a u.n u.c, .string g.data] 30)) none) := World.grownBy_alloc w _ none
  have BX : Hid (∀ {W : World}, (w.alloc (.cells #[.int .i64 g.kind, .int .i64 g.fm, .int .i64 g.tt, .int .i64 g.term, .int .i64 g.index, .int .i64 g.logt, .int .i64 g.com, .bool g.yes, .slice u.a u.n u.c, .string g.data] 30)).grownBy W none → Cs W w.heap.size (mc (g, u)) ∧ w.grownBy W none) := fun {W} gr => ⟨box_msg gr, grown_tr (World.grownBy_alloc w _ none) gr⟩
  have HH : Hid (∀ {W : World}, w.grownBy W none → Ob W base b r L c) := fun {W} gr => h.grown gr
  have CT : Hid (∀ {W : World} {r' : Nd}, Ob W base b r' L c → W.cell? ⟨b, 2, none⟩ = some (.int .i64 r'.term)) := fun {W r'} hO => by
    obtain ⟨X, V, s, T, h0, _, _⟩ := hO
    exact h0.cs.at_ 2 rfl
  have hbq : b < w.heap.size ∧ base ≤ b := by obtain ⟨X, V, s, T, h0, _, _⟩ := id h; exact ⟨h0.cs.2.2, h0.hb⟩
  have LN := later_nok (m := g) hr ht2
  have LI := later_is r g
  have EN : Hid (∀ W, Ob W base b r L c → _) := fun W hO => enter_b g.term hO
  have hV2 : (Rft.later r g).role = 1 → (Rft.later r g).votes ≠ [] := by
    rw [LI]; split
    · intro e; cases e
    · exact hv
  have hVl2 : (Rft.later r g).votes.length * 8 ≤ 140737488351232 := by
    rw [LI]; split
    · show ([] : List Int).length * 8 ≤ _; simp
    · exact hvl
  have hid2 : ¬ (Rft.later r g).role = 2 → (Rft.later r g).next = [] ∧ (Rft.later r g).mat = [] := by
    rw [LI]; split
    · exact fun _ => ⟨rfl, rfl⟩
    · exact hidle
  have hN2 : (Rft.later r g).role = 2 → Lnum (Rft.later r g) := by
    rw [LI]; split
    · intro e; cases e
    · exact hN
  have hc2 : (Rft.later r g).conf = r.conf := by rw [LI]; split <;> rfl
  have PU : Hid (∀ W, Kp base w W → Ob W base b (Rft.later r g) L c → Calls Try.prog 35 #[.pointer (some ⟨b, 0, none⟩), mv g u] W fun e w' => e = .returned (.tuple #[]) ∧ Ob w' base b (if (Rft.later r g).role = 2 then Rft.later r g else Rft.pushedN (Rft.later r g) g) (if (Rft.later r g).role = 2 then L else Rft.pushedL (Rft.later r g) g L) c ∧ Kp base W w') := fun W kp hO => by
    by_cases h2 : (Rft.later r g).role = 2
    · rw [if_pos h2, if_pos h2]; exact pushed_l g u hO h2
    · rw [if_neg h2, if_neg h2]; exact pushed_o g u hO LN.log ⟨fun W' k' => hm.e W' (kp.trans k'), hm.el, hm.eb⟩ h2 (hid2 h2) hi0 hi1 he8 hL
  have BU : Hid (∀ W, Ob W base b (Rft.later r g) L c → Calls Try.prog 36 #[.pointer (some ⟨b, 0, none⟩), mv g u] W fun e w' => e = .returned (.tuple #[]) ∧ Ob w' base b (if (Rft.later r g).role = 2 then Rft.later r g else Rft.bundledN (Rft.later r g) g) (if (Rft.later r g).role = 2 then L else Rft.bundledL (Rft.later r g) g L) c ∧ Kp base W w') := fun W hO => by
    by_cases h2 : (Rft.later r g).role = 2
    · rw [if_pos h2, if_pos h2]; exact bundled_l g u hO h2
    · rw [if_neg h2, if_neg h2]; exact bundled_o g u hO LN.log h2 (hid2 h2) hL
  have AK : Hid (∀ W, ¬ g.term < (Rft.later r g).term → Ob W base b (Rft.later r g) L c → Calls Try.prog 37 #[.pointer (some ⟨b, 0, none⟩), mv g u] W fun e w' => e = .returned (.tuple #[]) ∧ Ob w' base b (if (Rft.later r g).role = 2 then Rft.ackedN (Rft.later r g) g else Rft.later r g) (if (Rft.later r g).role = 2 then Rft.ackedL (Rft.later r g) g L else L) c ∧ Kp base W w') := fun W hn hO => by
    by_cases h2 : (Rft.later r g).role = 2
    · rw [if_pos h2, if_pos h2]; exact acked_o g u hO LN.log LN.c7 (Int.le_trans ht1 (by rw [LI]; split; exact Int.le_refl _; omega)) (by rw [hc2]; exact hf) h2 (hN2 h2) hi0 hi1 hL
    · rw [if_neg h2, if_neg h2]; exact acked_n g u hO h2
  have RF : Hid (∀ W, Ob W base b (Rft.later r g) L c → _) := fun W hO => refuse_o g u hO hL
  have EW : Hid (Rft.handW r g = if g.term < (Rft.later r g).term then Rft.later r g else Rft.armN (Rft.later r g) g) := rfl
  have EM : Hid (Rft.handM r L g = if g.term < (Rft.later r g).term then Rft.refuseL (Rft.later r g) L g else Rft.armL (Rft.later r g) g L) := rfl
  generalize Rft.handW r g = RN at *
  generalize Rft.handM r L g = RL at *
  obtain ⟨r', hr'⟩ : ∃ x, Rft.later r g = x := ⟨_, rfl⟩
  rw [hr'] at LI PU BU AK RF EW EM
  have HLI : Hid (r' = if r.term < g.term then Rft.ent r g.term else r) := LI
  have B0 := BX.out (grown_refl _ none)
  have m3 : (w.alloc (.cells #[.int .i64 g.kind, .int .i64 g.fm, .int .i64 g.tt, .int .i64 g.term, .int .i64 g.index, .int .i64 g.logt, .int .i64 g.com, .bool g.yes, .slice u.a u.n u.c, .string g.data] 30)).cell? ⟨w.heap.size, 3, none⟩ = some (.int .i64 g.term) := B0.1.at_ 3 rfl
  have c2 := CT.out (HH.out G0.out)
  clear h hr LN LI hV2 hVl2 hr' B0 hv hvl hm hidle hN hid2 hN2 hc2 hf hi0 hi1 he8
  go_enter Try.func15, Try.ntmps15
  go_upto_region 0 with fail
  go_cut [3] from 4 to 4 (fun t3 wx => t3 = .pointer (some ⟨w.heap.size, 0, none⟩) ∧ wx = w.alloc (.cells #[.int .i64 g.kind, .int .i64 g.fm, .int .i64 g.tt, .int .i64 g.term, .int .i64 g.index, .int .i64 g.logt, .int .i64 g.com, .bool g.yes, .slice u.a u.n u.c, .string g.data] 30))
  case first =>
    go_wp2_with fail
    go_meet
    exact ⟨rfl, rfl⟩
  case rest =>
  obtain ⟨rfl, hwx⟩ := hcut
  subst hwx
  have hqb : w.heap.size ≠ b := by omega
  have HC0 : Hid (Cs (w.alloc (.cells #[.int .i64 g.kind, .int .i64 g.fm, .int .i64 g.tt, .int .i64 g.term, .int .i64 g.index, .int .i64 g.logt, .int .i64 g.com, .bool g.yes, .slice u.a u.n u.c, .string g.data] 30)) w.heap.size (mc (g, u))) := (BX.out (grown_refl _ none)).1
  have HW0 : Hid (Ob (w.alloc (.cells #[.int .i64 g.kind, .int .i64 g.fm, .int .i64 g.tt, .int .i64 g.term, .int .i64 g.index, .int .i64 g.logt, .int .i64 g.com, .bool g.yes, .slice u.a u.n u.c, .string g.data] 30)) base b r L c) := HH.out G0.out
  clear BX HH
  generalize w.alloc (.cells #[.int .i64 g.kind, .int .i64 g.fm, .int .i64 g.tt, .int .i64 g.term, .int .i64 g.index, .int .i64 g.logt, .int .i64 g.com, .bool g.yes, .slice u.a u.n u.c, .string g.data] 30) = w0 at *
  go_step
  go_step
  go_cut [4] from 5 to 15 (fun _ wx => Hid (Ob wx base b r' L c ∧ Chg (fun k => k = b) w0 wx))
  case first =>
    by_cases hlt : r.term < g.term
    · have ER : Hid (r' = Rft.ent r g.term) := HLI.out.trans (if_pos hlt)
      have E1 : Hid (∀ k, Calls Try.prog 31 #[.pointer (some ⟨b, 0, none⟩), .int .i64 g.term] (w0.drewN k) fun e w' => e = .returned (.tuple #[]) ∧ Ob w' base b (Rft.ent r g.term) L c ∧ Chg (fun k => k = b) (w0.drewN k) w') := fun k => EN.out _ (HW0.out.grown (grown_drewN (grown_refl _ none) k))
      have m3' : ∀ k, (w0.drewN k).cell? ⟨w.heap.size, 3, none⟩ = some (.int .i64 g.term) := fun k => m3
      go_upto_region 1 with fail
      go_quiet (fail)
      go_wp2_with (go_at_call 31; (with_reducible refine (E1.out _).mono ?_); rintro e w2 ⟨rfl, o2, k2⟩)
      go_meet
      have hh : Ob w2 base b r' L c ∧ Chg (fun k => k = b) w0 w2 := ⟨by rw [ER.out]; exact o2, (Chg.of (grown_drewN (grown_refl w0 none) _) (by simp)).trans k2 (fun _ h => .inl h)⟩
      exact hh
    · have ER : Hid (r' = r) := HLI.out.trans (if_neg hlt)
      go_upto_region 1 with fail
      go_quiet (fail)
      go_wp2_with fail
      go_meet
      have hh : Ob (w0.drewN nq) base b r' L c ∧ Chg (fun k => k = b) w0 (w0.drewN nq) := ⟨by rw [ER.out]; exact HW0.out.grown (grown_drewN (grown_refl _ none) _), Chg.of (grown_drewN (grown_refl w0 none) _) (by simp)⟩
      exact hh
  case rest =>
    rename World => wd
    have O2 : Hid (Ob wd base b r' L c) := hcut.out.1
    have K2 : Hid (Kp base w wd) := (Kp.of G0.out).trans (hcut.out.2.toKp hbq.2)
    have M2 := HC0.out.kept hcut.out.2 (fun e => hqb e)
    have d2 := CT.out O2.out
    have n0 : wd.cell? ⟨w.heap.size, 0, none⟩ = some (.int .i64 g.kind) := M2.at_ 0 rfl
    have n1 : wd.cell? ⟨w.heap.size, 1, none⟩ = some (.int .i64 g.fm) := M2.at_ 1 rfl
    have n2 : wd.cell? ⟨w.heap.size, 2, none⟩ = some (.int .i64 g.tt) := M2.at_ 2 rfl
    have n3 : wd.cell? ⟨w.heap.size, 3, none⟩ = some (.int .i64 g.term) := M2.at_ 3 rfl
    have n4 : wd.cell? ⟨w.heap.size, 4, none⟩ = some (.int .i64 g.index) := M2.at_ 4 rfl
    have n5 : wd.cell? ⟨w.heap.size, 5, none⟩ = some (.int .i64 g.logt) := M2.at_ 5 rfl
    have n6 : wd.cell? ⟨w.heap.size, 6, none⟩ = some (.int .i64 g.com) := M2.at_ 6 rfl
    have n7 : wd.cell? ⟨w.heap.size, 7, none⟩ = some (.bool g.yes) := M2.at_ 7 rfl
    have n8 : wd.cell? ⟨w.heap.size, 8, none⟩ = some (.slice u.a u.n u.c) := M2.at_ 8 rfl
    have n9 : wd.cell? ⟨w.heap.size, 9, none⟩ = some (.string g.data) := M2.at_ 9 rfl
    clear M2 hcut HC0 HW0 m3 c2 EN CT HLI G0
    have OD : Hid (∀ k, Ob (wd.drewN k) base b r' L c) := fun k => O2.out.grown (grown_drewN (grown_refl _ none) k)
    have KD : Hid (∀ k, Kp base w (wd.drewN k)) := fun k => K2.out.grown (grown_drewN (grown_refl _ none) k)
    go_upto_region 3 with fail
    by_cases hlt : g.term < r'.term
    · have EW' : Hid (RN = r') := EW.out.trans (if_pos hlt)
      have EM' : Hid (RL = Rft.refuseL r' L g) := EM.out.trans (if_pos hlt)
      clear EW EM PU BU AK
      go_quiet (fail)
      have R1 := RF.out _ (OD.out nq)
      have K3 : Hid (Kp base w (wd.drewN nq)) := KD.out nq
      have n0 : (wd.drewN nq).cell? ⟨w.heap.size, 0, none⟩ = some (.int .i64 g.kind) := n0
      have n1 : (wd.drewN nq).cell? ⟨w.heap.size, 1, none⟩ = some (.int .i64 g.fm) := n1
      have n2 : (wd.drewN nq).cell? ⟨w.heap.size, 2, none⟩ = some (.int .i64 g.tt) := n2
      have n3 : (wd.drewN nq).cell? ⟨w.heap.size, 3, none⟩ = some (.int .i64 g.term) := n3
      have n4 : (wd.drewN nq).cell? ⟨w.heap.size, 4, none⟩ = some (.int .i64 g.index) := n4
      have n5 : (wd.drewN nq).cell? ⟨w.heap.size, 5, none⟩ = some (.int .i64 g.logt) := n5
      have n6 : (wd.drewN nq).cell? ⟨w.heap.size, 6, none⟩ = some (.int .i64 g.com) := n6
      have n7 : (wd.drewN nq).cell? ⟨w.heap.size, 7, none⟩ = some (.bool g.yes) := n7
      have n8 : (wd.drewN nq).cell? ⟨w.heap.size, 8, none⟩ = some (.slice u.a u.n u.c) := n8
      have n9 : (wd.drewN nq).cell? ⟨w.heap.size, 9, none⟩ = some (.string g.data) := n9
      rw [← EM'.out] at R1
      generalize wd.drewN nq = we at *
      go_wp2_with (go_at_call 32; (with_reducible refine R1.mono ?_); rintro e w3 ⟨rfl, o3, k3⟩)
      refine bodyPost_ret (results_none rfl _ _ _) rfl ?_
      exact ⟨rfl, by rw [EW'.out]; exact o3, K3.out.trans k3⟩
    · have EW' : Hid (RN = Rft.armN r' g) := EW.out.trans (if_neg hlt)
      have EM' : Hid (RL = Rft.armL r' g L) := EM.out.trans (if_neg hlt)
      clear EW EM RF
      go_quiet (fail)
      have K3 : Hid (Kp base w (wd.drewN nq)) := KD.out nq
      have P1 := PU.out _ (KD.out nq) (OD.out nq)
      have B1 := BU.out _ (OD.out nq)
      have A1 := AK.out _ hlt (OD.out nq)
      have n0 : (wd.drewN nq).cell? ⟨w.heap.size, 0, none⟩ = some (.int .i64 g.kind) := n0
      have n1 : (wd.drewN nq).cell? ⟨w.heap.size, 1, none⟩ = some (.int .i64 g.fm) := n1
      have n2 : (wd.drewN nq).cell? ⟨w.heap.size, 2, none⟩ = some (.int .i64 g.tt) := n2
      have n3 : (wd.drewN nq).cell? ⟨w.heap.size, 3, none⟩ = some (.int .i64 g.term) := n3
      have n4 : (wd.drewN nq).cell? ⟨w.heap.size, 4, none⟩ = some (.int .i64 g.index) := n4
      have n5 : (wd.drewN nq).cell? ⟨w.heap.size, 5, none⟩ = some (.int .i64 g.logt) := n5
      have n6 : (wd.drewN nq).cell? ⟨w.heap.size, 6, none⟩ = some (.int .i64 g.com) := n6
      have n7 : (wd.drewN nq).cell? ⟨w.heap.size, 7, none⟩ = some (.bool g.yes) := n7
      have n8 : (wd.drewN nq).cell? ⟨w.heap.size, 8, none⟩ = some (.slice u.a u.n u.c) := n8
      have n9 : (wd.drewN nq).cell? ⟨w.heap.size, 9, none⟩ = some (.string g.data) := n9
      generalize wd.drewN nq = we at *
      have e1 : (g.kind == 1) = false := by simp; omega
      have e2 : (g.kind == 2) = false := by simp; omega
      rcases hk with hk | hk | hk
      · have ek : (g.kind == 3) = true := by simpa using hk
        have a1 : Rft.armN r' g = (if r'.role = 2 then r' else Rft.pushedN r' g) := by unfold Rft.armN; rw [if_neg (by omega), if_neg (by omega), if_pos hk]
        have a2 : Rft.armL r' g L = (if r'.role = 2 then L else Rft.pushedL r' g L) := by unfold Rft.armL; rw [if_neg (by omega), if_neg (by omega), if_pos hk]
        rw [← a1, ← a2, ← EW'.out, ← EM'.out] at P1
        clear a1 a2 hk A1 B1
        go_wp2_with (go_at_call 35; (with_reducible refine P1.mono ?_); rintro e w3 ⟨rfl, o3, k3⟩)
        go_end0
        exact ⟨rfl, o3, K3.out.trans k3⟩
      · have ek : (g.kind == 4) = true := by simpa using hk
        have e3 : (g.kind == 3) = false := by simp; omega
        have e5 : (g.kind == 5) = false := by simp; omega
        have a1 : Rft.armN r' g = (if r'.role = 2 then Rft.ackedN r' g else r') := by unfold Rft.armN; rw [if_neg (by omega), if_neg (by omega), if_neg (by omega), if_neg (by omega)]
        have a2 : Rft.armL r' g L = (if r'.role = 2 then Rft.ackedL r' g L else L) := by unfold Rft.armL; rw [if_neg (by omega), if_neg (by omega), if_neg (by omega), if_neg (by omega)]
        rw [← a1, ← a2, ← EW'.out, ← EM'.out] at A1
        clear a1 a2 hk P1 B1
        go_wp2_with (go_at_call 37; (with_reducible refine A1.mono ?_); rintro e w3 ⟨rfl, o3, k3⟩)
        go_end0
        exact ⟨rfl, o3, K3.out.trans k3⟩
      · have ek : (g.kind == 5) = true := by simpa using hk
        have e3 : (g.kind == 3) = false := by simp; omega
        have a1 : Rft.armN r' g = (if r'.role = 2 then r' else Rft.bundledN r' g) := by unfold Rft.armN; rw [if_neg (by omega), if_neg (by omega), if_neg (by omega), if_pos hk]
        have a2 : Rft.armL r' g L = (if r'.role = 2 then L else Rft.bundledL r' g L) := by unfold Rft.armL; rw [if_neg (by omega), if_neg (by omega), if_neg (by omega), if_pos hk]
        rw [← a1, ← a2, ← EW'.out, ← EM'.out] at B1
        clear a1 a2 hk P1 A1
        go_wp2_with (go_at_call 36; (with_reducible refine B1.mono ?_); rintro e w3 ⟨rfl, o3, k3⟩)
        go_end0
        exact ⟨rfl, o3, K3.out.trans k3⟩
end Go.Proofs.Ytdpcebaggldaiaa
