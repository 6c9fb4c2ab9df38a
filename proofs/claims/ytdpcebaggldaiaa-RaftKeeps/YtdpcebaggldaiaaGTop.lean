/- Tick: what is answered. -/
import Derived.Test.YtdpcebaggldaiaaGTick
import Derived.Test.YtdpcebaggldaiaaGCopy
import Derived.Test.YtdpcebaggldaiaaGRight3
namespace Go.Proofs.Ytdpcebaggldaiaa
open Go.RowKit Trl
open Rft (Nd Mg)
set_option linter.unusedVariables false
set_option maxRecDepth 10000

/-- A node and messages are answered, in new memory. -/
def Ans (w w' : World) (r : Nd) (L : List Mg) (e : Ending) : Prop := ∃ (V : Sv) (s : S3) (X : List (Mg × S3)) (T : Nat → Nat), e = .returned (.tuple #[nv r V, .slice s.a s.n s.c]) ∧ Own5 w' w.heap.size r V T ∧ eM.Own w' w.heap.size (.slice s.a s.n s.c) X ∧ (∀ x ∈ X, Row eE w' w.heap.size T 1 x.2.v x.1.es) ∧ X.map (·.1) = L ∧ w.grownBy w' none
theorem kp_grown {base : Nat} {w W w' : World} (g : w.grownBy W none) (k : Kp base W w') (hb : w.heap.size ≤ base) : w.grownBy w' none :=
  ⟨k.os.trans g.os, k.tape.trans g.tape, k.output.trans g.output, Nat.le_trans g.size k.size, fun j hj hn => by
    have := g.size
    rw [k.block j (by omega) (fun c => by omega)]
    exact g.block j hj hn⟩
theorem ok_parts {r : Nd} (h : Rft.ok r = true) : Nok r ∧ (r.role = 2 → Pushes r ∧ r.mat.length = r.conf.length ∧ ∀ i, i < r.conf.length → 0 ≤ Rft.at0 r.mat i ∧ Rft.at0 r.mat i ≤ r.last ∧ Rft.at0 r.mat i < Rft.at0 r.next i) ∧ (0 ≤ r.left ∧ r.left ≤ 100) ∧ (10 ≤ r.wait ∧ r.wait ≤ 19) ∧ r.lastt ≤ r.term ∧ (r.b ≤ r.com ∧ r.com ≤ r.last) := by
  rw [ok_is] at h
  unfold Rft.keptOk Rft.restOk at h
  simp only [Bool.and_eq_true, decide_eq_true_eq] at h
  obtain ⟨⟨h1, h2⟩, ⟨⟨⟨⟨h3, h4⟩, h5⟩, h6, h7⟩, ⟨⟨h8, h9⟩, h10⟩, h11⟩, h12⟩ := h
  refine ⟨⟨h1, h2, h6, h3.1, h3.2⟩, fun h2r => ?_, h10, h11, h7, h9⟩
  unfold Rft.roleOk at h12
  rw [if_neg (by omega), if_neg (by omega), if_pos h2r] at h12
  unfold Rft.placesOk at h12
  simp only [Bool.and_eq_true, decide_eq_true_eq] at h12
  obtain ⟨_, ⟨k1, k2⟩, k3⟩ := h12
  have key : ∀ (ns ms : List Int), Rft.numsOk r.last ns ms = true → ns.length = ms.length → ∀ i, i < ns.length → 0 ≤ Rft.at0 ms i ∧ Rft.at0 ms i ≤ r.last ∧ Rft.at0 ms i < Rft.at0 ns i ∧ Rft.at0 ns i ≤ r.last + 1 := by
    intro ns
    induction ns with
    | nil => intro ms _ _ i hi; simp at hi
    | cons n ns ih =>
      intro ms h hl i hi
      cases ms with
      | nil => simp at hl
      | cons m ms =>
        rw [Rft.numsOk] at h
        simp only [Bool.and_eq_true, decide_eq_true_eq] at h
        cases i with
        | zero => exact ⟨h.1.1.1.1, h.1.1.1.2, h.1.1.2, h.1.2⟩
        | succ i => simpa [Rft.at0] using ih ms h.2 (by simpa using hl) i (by simpa using hi)
  have K := key r.next r.mat k3 (by omega)
  exact ⟨⟨h6, conf_len h1, k1, fun i hi => by have := K i (by omega); omega⟩, k2, fun i hi => by have := K i (by omega); omega⟩
theorem setCells_drew (b : Nat) : ∀ (vs : List Value) (o : Nat) (w : World), w.drew.setCells b o vs = (w.setCells b o vs).drew
  | [], _, _ => rfl
  | v :: vs, o, w => setCells_drew b vs (o + 1) (w.setCell ⟨b, o, none⟩ v)
set_option maxRecDepth 100000 in
set_option maxHeartbeats 3200000 in
theorem Tick_any (r : Nd) (V : Sv) (d : Int) (w : World) (h : Rdn w r V) (hd1 : -9223372036854775808 ≤ d) (hd2 : d ≤ 9223372036854775807) : Calls Try.prog 8 #[nv r V, .int .i64 d] w fun e w' => Ans w w' (Rft.tickN r d) (Rft.tickL r d) e := by
  have BE : Hid (∀ W, w.grownBy W none → _) := fun W g => begin_any r V W (h.grown g)
  have CH : Hid (∀ W, w.grownBy W none → _) := fun W g => Check_any r V W (h.grown g)
  have BX : Hid (∀ {W : World}, ((w.alloc (.cells #[.int .i64 r.id, .slice V.c.a V.c.n V.c.c, .int .i64 r.term, .int .i64 r.vote, .int .i64 r.role, .int .i64 r.lead, .int .i64 r.b, .int .i64 r.k, .slice V.e.a V.e.n V.e.c, .string r.snap, .int .i64 r.com, .int .i64 r.left, .int .i64 r.wait, .slice V.v.a V.v.n V.v.c, .slice V.n.a V.n.n V.n.c, .slice V.m.a V.m.n V.m.c] 28)).alloc (.cells #[.int .i64 0, .slice none 0 0, .int .i64 0, .int .i64 0, .int .i64 0, .int .i64 0, .int .i64 0, .int .i64 0, .slice none 0 0, .string ⟨#[]⟩, .int .i64 0, .int .i64 0, .int .i64 0, .slice none 0 0, .slice none 0 0, .slice none 0 0] 28)).grownBy W none → Cs W w.heap.size (nc r V) ∧ Cs W (w.heap.size + 1) [.int .i64 0, .slice none 0 0, .int .i64 0, .int .i64 0, .int .i64 0, .int .i64 0, .int .i64 0, .int .i64 0, .slice none 0 0, .string ⟨#[]⟩, .int .i64 0, .int .i64 0, .int .i64 0, .slice none 0 0, .slice none 0 0, .slice none 0 0] ∧ w.grownBy W none) := fun {W} g => two_nodes g
  have B0 := BX.out (grown_refl _ none)
  have G0 : Hid (w.grownBy ((w.alloc (.cells #[.int .i64 r.id, .slice V.c.a V.c.n V.c.c, .int .i64 r.term, .int .i64 r.vote, .int .i64 r.role, .int .i64 r.lead, .int .i64 r.b, .int .i64 r.k, .slice V.e.a V.e.n V.e.c, .string r.snap, .int .i64 r.com, .int .i64 r.left, .int .i64 r.wait, .slice V.v.a V.v.n V.v.c, .slice V.n.a V.n.n V.n.c, .slice V.m.a V.m.n V.m.c] 28)).alloc (.cells #[.int .i64 0, .slice none 0 0, .int .i64 0, .int .i64 0, .int .i64 0, .int .i64 0, .int .i64 0, .int .i64 0, .slice none 0 0, .string ⟨#[]⟩, .int .i64 0, .int .i64 0, .int .i64 0, .slice none 0 0, .slice none 0 0, .slice none 0 0] 28)) none) := B0.2.2
  have q0 := B0.1.at_ 0 rfl
  have q1 := B0.1.at_ 1 rfl
  have q2 := B0.1.at_ 2 rfl
  have q3 := B0.1.at_ 3 rfl
  have q4 := B0.1.at_ 4 rfl
  have q5 := B0.1.at_ 5 rfl
  have q6 := B0.1.at_ 6 rfl
  have q7 := B0.1.at_ 7 rfl
  have q8 := B0.1.at_ 8 rfl
  have q9 := B0.1.at_ 9 rfl
  have q10 := B0.1.at_ 10 rfl
  have q11 := B0.1.at_ 11 rfl
  have q12 := B0.1.at_ 12 rfl
  have q13 := B0.1.at_ 13 rfl
  have q14 := B0.1.at_ 14 rfl
  have q15 := B0.1.at_ 15 rfl
  have TI : Hid (∀ (W : World) (b base : Nat) (c : S3), Rft.ok r = true → Ob W base b r [] c → _) := fun W b base c ho hO => tick_o (L := []) d hO (ok_parts ho).1 (fun h2 => ((ok_parts ho).2.1 h2).1) (ok_parts ho).2.2.1.1 (ok_parts ho).2.2.1.2 hd1 hd2 (by simp)
  have RES : Hid (∃ r' L', (Rft.tickN r d = r' ∧ Rft.tickL r d = L') ∧ ((Rft.ok r = false ∧ r' = r ∧ L' = []) ∨ (Rft.ok r = true ∧ r' = Rft.tickW r d ∧ L' = Rft.tickM r [] d))) := by
    refine ⟨_, _, ⟨rfl, rfl⟩, ?_⟩
    unfold Rft.tickN Rft.tickL Rft.tickW Rft.tickM
    cases hk : Rft.ok r with
    | false => exact .inl ⟨rfl, rfl, rfl⟩
    | true => exact .inr ⟨rfl, rfl, rfl⟩
  obtain ⟨r', L', ⟨e1, e2⟩, hcase⟩ := RES.out
  rw [e1, e2]
  have HC : Hid _ := hcase
  clear RES e1 e2 h B0 hd1 hd2 hcase
  have E2 : ((w.alloc (.cells #[.int .i64 r.id, .slice V.c.a V.c.n V.c.c, .int .i64 r.term, .int .i64 r.vote, .int .i64 r.role, .int .i64 r.lead, .int .i64 r.b, .int .i64 r.k, .slice V.e.a V.e.n V.e.c, .string r.snap, .int .i64 r.com, .int .i64 r.left, .int .i64 r.wait, .slice V.v.a V.v.n V.v.c, .slice V.n.a V.n.n V.n.c, .slice V.m.a V.m.n V.m.c] 28)).alloc (.cells #[.int .i64 0, .slice none 0 0, .int .i64 0, .int .i64 0, .int .i64 0, .int .i64 0, .int .i64 0, .int .i64 0, .slice none 0 0, .string ⟨#[]⟩, .int .i64 0, .int .i64 0, .int .i64 0, .slice none 0 0, .slice none 0 0, .slice none 0 0] 28)).heap.size = w.heap.size + 2 := by simp
  have ZS : Hid (w.heap.size ≤ ((w.alloc (.cells #[.int .i64 r.id, .slice V.c.a V.c.n V.c.c, .int .i64 r.term, .int .i64 r.vote, .int .i64 r.role, .int .i64 r.lead, .int .i64 r.b, .int .i64 r.k, .slice V.e.a V.e.n V.e.c, .string r.snap, .int .i64 r.com, .int .i64 r.left, .int .i64 r.wait, .slice V.v.a V.v.n V.v.c, .slice V.n.a V.n.n V.n.c, .slice V.m.a V.m.n V.m.c] 28)).alloc (.cells #[.int .i64 0, .slice none 0 0, .int .i64 0, .int .i64 0, .int .i64 0, .int .i64 0, .int .i64 0, .int .i64 0, .slice none 0 0, .string ⟨#[]⟩, .int .i64 0, .int .i64 0, .int .i64 0, .slice none 0 0, .slice none 0 0, .slice none 0 0] 28)).heap.size ∧ w.heap.size + 1 < ((w.alloc (.cells #[.int .i64 r.id, .slice V.c.a V.c.n V.c.c, .int .i64 r.term, .int .i64 r.vote, .int .i64 r.role, .int .i64 r.lead, .int .i64 r.b, .int .i64 r.k, .slice V.e.a V.e.n V.e.c, .string r.snap, .int .i64 r.com, .int .i64 r.left, .int .i64 r.wait, .slice V.v.a V.v.n V.v.c, .slice V.n.a V.n.n V.n.c, .slice V.m.a V.m.n V.m.c] 28)).alloc (.cells #[.int .i64 0, .slice none 0 0, .int .i64 0, .int .i64 0, .int .i64 0, .int .i64 0, .int .i64 0, .int .i64 0, .slice none 0 0, .string ⟨#[]⟩, .int .i64 0, .int .i64 0, .int .i64 0, .slice none 0 0, .slice none 0 0, .slice none 0 0] 28)).heap.size) := by rw [E2]; constructor <;> omega
  clear E2
  go_enter Try.func8, Try.ntmps8
  go_upto_region 1 with fail
  generalize hw0 : (w.alloc (.cells #[.int .i64 r.id, .slice V.c.a V.c.n V.c.c, .int .i64 r.term, .int .i64 r.vote, .int .i64 r.role, .int .i64 r.lead, .int .i64 r.b, .int .i64 r.k, .slice V.e.a V.e.n V.e.c, .string r.snap, .int .i64 r.com, .int .i64 r.left, .int .i64 r.wait, .slice V.v.a V.v.n V.v.c, .slice V.n.a V.n.n V.n.c, .slice V.m.a V.m.n V.m.c] 28)).alloc (.cells #[.int .i64 0, .slice none 0 0, .int .i64 0, .int .i64 0, .int .i64 0, .int .i64 0, .int .i64 0, .int .i64 0, .slice none 0 0, .string ⟨#[]⟩, .int .i64 0, .int .i64 0, .int .i64 0, .slice none 0 0, .slice none 0 0, .slice none 0 0] 28) = w0 at *
  go_cut [6] from 7 to 8 (fun t6 wx => ∃ b : Nat, t6 = .pointer (some ⟨b, 0, none⟩) ∧ Hid (∃ c, Ob wx w0.heap.size b r [] c) ∧ Hid (w0.grownBy wx none))
  case first =>
    go_wp2_with (go_at_call 13; (with_reducible refine (BE.out _ G0.out).mono ?_); rintro e w1 ⟨b, c, rfl, o1, g1⟩)
    go_meet
    exact ⟨b, rfl, ⟨c, o1⟩, g1⟩
  case rest =>
    obtain ⟨b, rfl, OB, GB⟩ := hcut
    obtain ⟨c, o1⟩ := OB.out
    have O1 : Hid (Ob wc w0.heap.size b r [] c) := o1
    obtain ⟨B1, Z1, G1⟩ := BX.out GB.out
    have HZ1 : Hid (Cs wc (w.heap.size + 1) [.int .i64 0, .slice none 0 0, .int .i64 0, .int .i64 0, .int .i64 0, .int .i64 0, .int .i64 0, .int .i64 0, .slice none 0 0, .string ⟨#[]⟩, .int .i64 0, .int .i64 0, .int .i64 0, .slice none 0 0, .slice none 0 0, .slice none 0 0]) := Z1
    have HG1 : Hid (w.grownBy wc none) := G1
    have x0 := B1.at_ 0 rfl
    have x1 := B1.at_ 1 rfl
    have x2 := B1.at_ 2 rfl
    have x3 := B1.at_ 3 rfl
    have x4 := B1.at_ 4 rfl
    have x5 := B1.at_ 5 rfl
    have x6 := B1.at_ 6 rfl
    have x7 := B1.at_ 7 rfl
    have x8 := B1.at_ 8 rfl
    have x9 := B1.at_ 9 rfl
    have x10 := B1.at_ 10 rfl
    have x11 := B1.at_ 11 rfl
    have x12 := B1.at_ 12 rfl
    have x13 := B1.at_ 13 rfl
    have x14 := B1.at_ 14 rfl
    have x15 := B1.at_ 15 rfl
    clear q0 q1 q2 q3 q4 q5 q6 q7 q8 q9 q10 q11 q12 q13 q14 q15
    clear B1 Z1 o1 OB BE
    go_step
    go_step
    go_cut [9] from 10 to 13 (fun _ wx => Hid (Ob wx w0.heap.size b r' L' c ∧ Kp w0.heap.size wc wx))
    case first =>
      have C1 := CH.out _ HG1.out
      rcases HC.out with ⟨hok, er, eL⟩ | ⟨hok, er, eL⟩
      · rw [hok] at C1
        have HE : Hid (r' = r ∧ L' = []) := ⟨er, eL⟩
        clear er eL hok TI CH
        go_wp2_with (go_at_call 11; (with_reducible refine C1.mono ?_); rintro e w2 ⟨rfl, g2⟩)
        go_meet
        have hh : Ob w2 w0.heap.size b r' L' c ∧ Kp w0.heap.size wc w2 := by rw [HE.out.1, HE.out.2]; exact ⟨O1.out.grown g2, Kp.of g2⟩
        exact hh
      · rw [hok] at C1
        have T1 : Hid (∀ W, wc.grownBy W none → _) := fun W g => TI.out W b _ c hok (O1.out.grown g)
        rw [← er, ← eL] at T1
        clear er eL hok TI CH
        go_wp2_with (first
          | (go_at_call 11; (with_reducible refine C1.mono ?_); rintro e w2 ⟨rfl, g2⟩)
          | (go_at_call 16; (with_reducible refine (T1.out _ g2).mono ?_); rintro e w3 ⟨rfl, o3, k3⟩))
        go_meet
        have hh : Ob w3 w0.heap.size b r' L' c ∧ Kp w0.heap.size wc w3 := ⟨o3, (Kp.of g2).trans k3⟩
        exact hh
    case rest =>
      rename World => wd
      have hsz : w.heap.size + 1 < w0.heap.size ∧ w.heap.size ≤ w0.heap.size := ⟨ZS.out.2, ZS.out.1⟩
      obtain ⟨HO, HK⟩ := hcut.out
      obtain ⟨X, V2, s2, T2, h0, hX, hVc⟩ := HO
      have Z2 := HZ1.out.kept HK (by omega)
      have GD : w.grownBy wd none := kp_grown HG1.out HK hsz.2
      have hbn : b ≠ w.heap.size + 1 := by have := h0.hb; omega
      have ZC := ((((((((((((((((Z2.set 0 (.int .i64 r'.id)).set 1 (.slice V2.c.a V2.c.n V2.c.c)).set 2 (.int .i64 r'.term)).set 3 (.int .i64 r'.vote)).set 4 (.int .i64 r'.role)).set 5 (.int .i64 r'.lead)).set 6 (.int .i64 r'.b)).set 7 (.int .i64 r'.k)).set 8 (.slice V2.e.a V2.e.n V2.e.c)).set 9 (.string r'.snap)).set 10 (.int .i64 r'.com)).set 11 (.int .i64 r'.left)).set 12 (.int .i64 r'.wait)).set 13 (.slice V2.v.a V2.v.n V2.v.c)).set 14 (.slice V2.n.a V2.n.n V2.n.c)).set 15 (.slice V2.m.a V2.m.n V2.m.c))
      have ZG := (chg_setb (chg_setb (chg_setb (chg_setb (chg_setb (chg_setb (chg_setb (chg_setb (chg_setb (chg_setb (chg_setb (chg_setb (chg_setb (chg_setb (chg_setb (chg_setb (Chg.refl (fun k => k = w.heap.size + 1) wd) (w.heap.size + 1) 0 (.int .i64 r'.id) rfl) (w.heap.size + 1) 1 (.slice V2.c.a V2.c.n V2.c.c) rfl) (w.heap.size + 1) 2 (.int .i64 r'.term) rfl) (w.heap.size + 1) 3 (.int .i64 r'.vote) rfl) (w.heap.size + 1) 4 (.int .i64 r'.role) rfl) (w.heap.size + 1) 5 (.int .i64 r'.lead) rfl) (w.heap.size + 1) 6 (.int .i64 r'.b) rfl) (w.heap.size + 1) 7 (.int .i64 r'.k) rfl) (w.heap.size + 1) 8 (.slice V2.e.a V2.e.n V2.e.c) rfl) (w.heap.size + 1) 9 (.string r'.snap) rfl) (w.heap.size + 1) 10 (.int .i64 r'.com) rfl) (w.heap.size + 1) 11 (.int .i64 r'.left) rfl) (w.heap.size + 1) 12 (.int .i64 r'.wait) rfl) (w.heap.size + 1) 13 (.slice V2.v.a V2.v.n V2.v.c) rfl) (w.heap.size + 1) 14 (.slice V2.n.a V2.n.n V2.n.c) rfl) (w.heap.size + 1) 15 (.slice V2.m.a V2.m.n V2.m.c) rfl)
      obtain ⟨WF, hWF⟩ : ∃ x, ((((((((((((((((wd.setCell ⟨w.heap.size + 1, 0, none⟩ (.int .i64 r'.id)).setCell ⟨w.heap.size + 1, 1, none⟩ (.slice V2.c.a V2.c.n V2.c.c)).setCell ⟨w.heap.size + 1, 2, none⟩ (.int .i64 r'.term)).setCell ⟨w.heap.size + 1, 3, none⟩ (.int .i64 r'.vote)).setCell ⟨w.heap.size + 1, 4, none⟩ (.int .i64 r'.role)).setCell ⟨w.heap.size + 1, 5, none⟩ (.int .i64 r'.lead)).setCell ⟨w.heap.size + 1, 6, none⟩ (.int .i64 r'.b)).setCell ⟨w.heap.size + 1, 7, none⟩ (.int .i64 r'.k)).setCell ⟨w.heap.size + 1, 8, none⟩ (.slice V2.e.a V2.e.n V2.e.c)).setCell ⟨w.heap.size + 1, 9, none⟩ (.string r'.snap)).setCell ⟨w.heap.size + 1, 10, none⟩ (.int .i64 r'.com)).setCell ⟨w.heap.size + 1, 11, none⟩ (.int .i64 r'.left)).setCell ⟨w.heap.size + 1, 12, none⟩ (.int .i64 r'.wait)).setCell ⟨w.heap.size + 1, 13, none⟩ (.slice V2.v.a V2.v.n V2.v.c)).setCell ⟨w.heap.size + 1, 14, none⟩ (.slice V2.n.a V2.n.n V2.n.c)).setCell ⟨w.heap.size + 1, 15, none⟩ (.slice V2.m.a V2.m.n V2.m.c)) = x := ⟨_, rfl⟩
      rw [hWF] at ZC ZG
      have HWF : Hid (((((((((((((((((wd.setCell ⟨w.heap.size + 1, 0, none⟩ (.int .i64 r'.id)).setCell ⟨w.heap.size + 1, 1, none⟩ (.slice V2.c.a V2.c.n V2.c.c)).setCell ⟨w.heap.size + 1, 2, none⟩ (.int .i64 r'.term)).setCell ⟨w.heap.size + 1, 3, none⟩ (.int .i64 r'.vote)).setCell ⟨w.heap.size + 1, 4, none⟩ (.int .i64 r'.role)).setCell ⟨w.heap.size + 1, 5, none⟩ (.int .i64 r'.lead)).setCell ⟨w.heap.size + 1, 6, none⟩ (.int .i64 r'.b)).setCell ⟨w.heap.size + 1, 7, none⟩ (.int .i64 r'.k)).setCell ⟨w.heap.size + 1, 8, none⟩ (.slice V2.e.a V2.e.n V2.e.c)).setCell ⟨w.heap.size + 1, 9, none⟩ (.string r'.snap)).setCell ⟨w.heap.size + 1, 10, none⟩ (.int .i64 r'.com)).setCell ⟨w.heap.size + 1, 11, none⟩ (.int .i64 r'.left)).setCell ⟨w.heap.size + 1, 12, none⟩ (.int .i64 r'.wait)).setCell ⟨w.heap.size + 1, 13, none⟩ (.slice V2.v.a V2.v.n V2.v.c)).setCell ⟨w.heap.size + 1, 14, none⟩ (.slice V2.n.a V2.n.n V2.n.c)).setCell ⟨w.heap.size + 1, 15, none⟩ (.slice V2.m.a V2.m.n V2.m.c)) = WF) := hWF
      clear hWF
      have FIN : Hid (WF.drew.rangeAt (w.heap.size + 1) 0 (nc r' V2) ∧ Ans w WF.drew r' L' (.returned (.tuple #[nv r' V2, .slice s2.a s2.n s2.c]))) := by
        have ZC1 : WF.rangeAt (w.heap.size + 1) 0 (nc r' V2) := ZC.1
        refine ⟨(World.rangeAt_drew WF _ _ _).2 ZC1, ?_⟩
        have hne : ∀ x, w0.heap.size ≤ x → x < wd.heap.size → ¬ x = w.heap.size + 1 := fun x hx _ => by omega
        have O2 := (h0.kept ZG hne).grown (grown_drew (grown_refl _ none))
        refine ⟨V2, s2, X, T2, rfl, ⟨O2.c.low hsz.2, O2.e.low hsz.2, O2.v.low hsz.2, O2.n.low hsz.2, O2.m.low hsz.2⟩, O2.l.1.low hsz.2, fun x hx => (O2.ms x hx).low hsz.2, hX, ?_⟩
        refine grown_drew (Chg.none (Chg.trans (F := fun _ => False) (Chg.of GD (by simp)) ZG (fun x hx => .inr (by omega))))
      have y0 := h0.cs.at_ 0 rfl
      have z0 := Z2.at_ 0 rfl
      have f0 := Z2.2.1 0
      have y1 := h0.cs.at_ 1 rfl
      have z1 := Z2.at_ 1 rfl
      have f1 := Z2.2.1 1
      have y2 := h0.cs.at_ 2 rfl
      have z2 := Z2.at_ 2 rfl
      have f2 := Z2.2.1 2
      have y3 := h0.cs.at_ 3 rfl
      have z3 := Z2.at_ 3 rfl
      have f3 := Z2.2.1 3
      have y4 := h0.cs.at_ 4 rfl
      have z4 := Z2.at_ 4 rfl
      have f4 := Z2.2.1 4
      have y5 := h0.cs.at_ 5 rfl
      have z5 := Z2.at_ 5 rfl
      have f5 := Z2.2.1 5
      have y6 := h0.cs.at_ 6 rfl
      have z6 := Z2.at_ 6 rfl
      have f6 := Z2.2.1 6
      have y7 := h0.cs.at_ 7 rfl
      have z7 := Z2.at_ 7 rfl
      have f7 := Z2.2.1 7
      have y8 := h0.cs.at_ 8 rfl
      have z8 := Z2.at_ 8 rfl
      have f8 := Z2.2.1 8
      have y9 := h0.cs.at_ 9 rfl
      have z9 := Z2.at_ 9 rfl
      have f9 := Z2.2.1 9
      have y10 := h0.cs.at_ 10 rfl
      have z10 := Z2.at_ 10 rfl
      have f10 := Z2.2.1 10
      have y11 := h0.cs.at_ 11 rfl
      have z11 := Z2.at_ 11 rfl
      have f11 := Z2.2.1 11
      have y12 := h0.cs.at_ 12 rfl
      have z12 := Z2.at_ 12 rfl
      have f12 := Z2.2.1 12
      have y13 := h0.cs.at_ 13 rfl
      have z13 := Z2.at_ 13 rfl
      have f13 := Z2.2.1 13
      have y14 := h0.cs.at_ 14 rfl
      have z14 := Z2.at_ 14 rfl
      have f14 := Z2.2.1 14
      have y15 := h0.cs.at_ 15 rfl
      have z15 := Z2.at_ 15 rfl
      have f15 := Z2.2.1 15
      have y16 := h0.cs.at_ 16 rfl
      clear h0 Z2 ZC ZG hcut HK GD hX hVc x0 x1 x2 x3 x4 x5 x6 x7 x8 x9 x10 x11 x12 x13 x14 x15
      clear O1 HZ1 HG1 HC BX G0 GB CH TI hw0 ZS
      go_upto_region 4 with fail
      go_region_with (fail)
      all_goals
        go_wp2_with fail
        rw [HWF.out]
        refine bodyPost_ret (res_row2 Try.results8 rfl FIN.out.1 Try.underlying28 rfl (by kernel_rfl)) rfl ?_
        exact FIN.out.2
end Go.Proofs.Ytdpcebaggldaiaa
