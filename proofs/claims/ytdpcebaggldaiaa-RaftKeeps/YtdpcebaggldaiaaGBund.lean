/- A node at work: a bundle comes. -/
import Derived.Test.YtdpcebaggldaiaaGRepl
import Derived.Test.YtdpcebaggldaiaaGCopy
namespace Go.Proofs.Ytdpcebaggldaiaa
open Go.RowKit Trl
open Rft (Nd Mg)
set_option linter.unusedVariables false
set_option maxRecDepth 10000

theorem bundled_is {r : Nd} {m : Mg} (h1 : r.next = []) (h2 : r.mat = []) : Rft.bundledN r m = if r.com < m.index then Rft.repl (Rft.obey r m.fm) m else Rft.obey r m.fm := by
  unfold Rft.bundledN Rft.repl
  rw [heard_is h1 h2]
  rfl
set_option maxRecDepth 100000 in
set_option maxHeartbeats 3200000 in
theorem bundled_o {w : World} {base b : Nat} {r : Nd} {L : List Mg} {c : S3} (g : Mg) (u : S3) (h : Ob w base b r L c) (hk : chk r.b r.k r.l = true) (hrole : ¬ r.role = 2) (hidle : r.next = [] ∧ r.mat = []) (hL : L.length ≤ 4000) :
    Calls Try.prog 36 #[.pointer (some ⟨b, 0, none⟩), mv g u] w fun e w' => e = .returned (.tuple #[]) ∧ Ob w' base b (Rft.bundledN r g) (Rft.bundledL r g L) c ∧ Kp base w w' := by
  have G0 : Hid (w.grownBy (w.alloc (.cells #[.int .i64 g.kind, .int .i64 g.fm, .int .i64 g.tt, .int .i64 g.term, .int .i64 g.index, .int .i64 g.logt, .int .i64 g.com, .bool g.yes, .slice u.a u.n u.c, .string g.data] 30)) none) := World.grownBy_alloc w _ none
  have hbq := h.hb
  obtain ⟨V0, _, _, _, _, c4, _, _⟩ := ob_cells (h.grown G0.out)
  have OB : Hid (∀ W, w.grownBy W none → _) := fun W gr => obey_b g.fm (h.grown gr)
  have EN : Hid (Rft.bundledN r g = if r.com < g.index then Rft.repl (Rft.obey r g.fm) g else Rft.obey r g.fm) := bundled_is hidle.1 hidle.2
  have EL : Hid (Rft.bundledL r g L = Rft.say r L { Rft.mg0 with kind := 4, tt := g.fm, yes := true, index := (Rft.bundledN r g).com }) := rfl
  have RP : Hid (∀ W, Ob W base b (Rft.obey r g.fm) L c → _) := fun W hO => replace_o g u hO hk
  have IT : Hid ((Rft.bundledN r g).id = r.id ∧ (Rft.bundledN r g).term = r.term) := by
    rw [EN.out]
    unfold Rft.repl
    split
    · split <;> exact ⟨rfl, rfl⟩
    · exact ⟨rfl, rfl⟩
  generalize Rft.bundledN r g = RN at *
  generalize Rft.bundledL r g L = RL at *
  have AC : Hid (∀ (W : World), Ob W base b RN L c → Calls Try.prog 51 #[.pointer (some ⟨b, 0, none⟩), .int .i64 g.fm, .bool true, .int .i64 RN.com] W fun e w' => e = .returned (.tuple #[]) ∧ Ob w' base b RN RL c ∧ Kp base W w') := fun W hO => by
    have := ack_o g.fm true RN.com hO (by omega)
    unfold sent at this
    rw [IT.out.1, IT.out.2] at this
    rw [EL.out]
    exact this
  have B0 := box_msg (x := (g, u)) (grown_refl (w.alloc (.cells #[.int .i64 g.kind, .int .i64 g.fm, .int .i64 g.tt, .int .i64 g.term, .int .i64 g.index, .int .i64 g.logt, .int .i64 g.com, .bool g.yes, .slice u.a u.n u.c, .string g.data] 30)) none)
  have m1 : (w.alloc (.cells #[.int .i64 g.kind, .int .i64 g.fm, .int .i64 g.tt, .int .i64 g.term, .int .i64 g.index, .int .i64 g.logt, .int .i64 g.com, .bool g.yes, .slice u.a u.n u.c, .string g.data] 30)).cell? ⟨w.heap.size, 1, none⟩ = some (.int .i64 g.fm) := B0.at_ 1 rfl
  have er : (r.role == 2) = false := by simpa using hrole
  have HC0 : Hid (Cs (w.alloc (.cells #[.int .i64 g.kind, .int .i64 g.fm, .int .i64 g.tt, .int .i64 g.term, .int .i64 g.index, .int .i64 g.logt, .int .i64 g.com, .bool g.yes, .slice u.a u.n u.c, .string g.data] 30)) w.heap.size (mc (g, u))) := B0
  have hqn : b ≠ w.heap.size := by omega
  clear h hk hrole hidle B0 EL IT
  go_enter Try.func36, Try.ntmps36
  go_upto_region 1 with fail
  generalize w.alloc (.cells #[.int .i64 g.kind, .int .i64 g.fm, .int .i64 g.tt, .int .i64 g.term, .int .i64 g.index, .int .i64 g.logt, .int .i64 g.com, .bool g.yes, .slice u.a u.n u.c, .string g.data] 30) = w0 at *
  go_upto_region 2 with fail
  go_cut [10] from 11 to 13 (fun _ wx => Hid (Ob wx base b (Rft.obey r g.fm) L c ∧ Chg (fun k => k = b) w0 wx))
  case first =>
    go_wp2_with (go_at_call 55; (with_reducible refine (OB.out _ G0.out).mono ?_); rintro e w1 ⟨rfl, o1, k1⟩)
    go_meet
    have hh : Ob w1 base b (Rft.obey r g.fm) L c ∧ Chg (fun k => k = b) w0 w1 := ⟨o1, k1⟩
    exact hh
  case rest =>
  rename World => w1
  obtain ⟨o1, k1⟩ := hcut.out
  have O1 : Hid (Ob w1 base b (Rft.obey r g.fm) L c) := o1
  have K1 : Hid (Kp base w w1) := (Kp.of G0.out).trans (k1.toKp hbq.1)
  have M1 : Hid (Cs w1 w.heap.size (mc (g, u))) := HC0.out.kept k1 (fun e => hqn e.symm)
  obtain ⟨V, c6, c7, c8, c10, _, hS, _⟩ := ob_cells o1
  replace c10 : w1.cell? ⟨b, 10, none⟩ = some (.int .i64 r.com) := c10
  have n4 : w1.cell? ⟨w.heap.size, 4, none⟩ = some (.int .i64 g.index) := M1.out.at_ 4 rfl
  clear hS o1 k1 m1 c4 c6 c7 c8 OB HC0 hcut
  go_step
  go_step
  go_cut [14] from 15 to 24 (fun _ wx => Hid (Ob wx base b RN L c ∧ Kp base w wx ∧ wx.cell? ⟨w.heap.size, 1, none⟩ = some (.int .i64 g.fm)))
  case first =>
    by_cases hlt : r.com < g.index
    · have EN' : Hid (RN = Rft.repl (Rft.obey r g.fm) g) := EN.out.trans (if_pos hlt)
      have RPS : Hid (∀ W, w1.grownBy W none → _) := fun W gr => RP.out W (O1.out.grown gr)
      have RR := M1.out
      go_upto_region 3 with fail
      go_quiet (fail)
      have GQ : Hid (w1.grownBy (w1.drewN nq) none) := grown_drewN (grown_refl _ none) nq
      have RM : (w1.drewN nq).rangeAt w.heap.size 0 (mc (g, u)) := (M1.out.grown GQ.out).1
      have R1 := RPS.out _ GQ.out
      clear RR
      go_wp2_with (first
        | (refine load_row (ty := 30) w.heap.size 0 (mc (g, u)) _ rfl RM Try.underlying30 rfl (by kernel_rfl) ?_)
        | (go_at_call 58; (with_reducible refine R1.mono ?_); rintro e w4 ⟨rfl, o4, k4⟩))
      go_meet
      have hh : Ob w4 base b RN L c ∧ Kp base w w4 ∧ w4.cell? ⟨w.heap.size, 1, none⟩ = some (.int .i64 g.fm) := ⟨by rw [EN'.out]; exact o4, (K1.out.grown GQ.out).trans (k4.toKp hbq.1), ((M1.out.grown GQ.out).kept k4 (fun e => hqn e.symm)).at_ 1 rfl⟩
      exact hh
    · have EN' : Hid (RN = Rft.obey r g.fm) := EN.out.trans (if_neg hlt)
      go_upto_region 3 with fail
      go_quiet (fail)
      have GQ : Hid (w1.grownBy (w1.drewN nq) none) := grown_drewN (grown_refl _ none) nq
      go_wp2_with fail
      go_meet
      have hh : Ob (w1.drewN nq) base b RN L c ∧ Kp base w (w1.drewN nq) ∧ (w1.drewN nq).cell? ⟨w.heap.size, 1, none⟩ = some (.int .i64 g.fm) := ⟨by rw [EN'.out]; exact O1.out.grown GQ.out, K1.out.grown GQ.out, (M1.out.grown GQ.out).at_ 1 rfl⟩
      exact hh
  case rest =>
    rename World => wd
    have x1 := hcut.out.2.2
    obtain ⟨V4, _, _, _, x10, _, _, _⟩ := ob_cells hcut.out.1
    have A1 := AC.out wd.drew (hcut.out.1.grown (grown_drew (grown_refl _ none)))
    have KD : Hid (Kp base w wd.drew) := hcut.out.2.1.grown (grown_drew (grown_refl _ none))
    clear hcut
    go_upto_region 5 with fail
    refine region_tail 8 (by kernel_rfl) (by kernel_rfl) ?_
    simp only [List.take_succ_cons, List.take_zero, List.drop_succ_cons, List.drop_zero]
    iterate 8 still_step
    refine wpStill_nil ?_
    go_wp2_with (go_at_call 51; (with_reducible refine A1.mono ?_); rintro e w6 ⟨rfl, o6, k6⟩)
    go_end0
    exact ⟨rfl, o6, KD.out.trans k6⟩
end Go.Proofs.Ytdpcebaggldaiaa
