/- A node at work: a moment goes by. -/
import Derived.Test.YtdpcebaggldaiaaGStand2
namespace Go.Proofs.Ytdpcebaggldaiaa
open Go.RowKit Trl
open Rft (Nd Mg)
set_option linter.unusedVariables false
set_option maxRecDepth 10000

/-- What a moment makes of a node at work. -/
def Rft.tickW (r : Nd) (d : Int) : Nd := if 0 < (Rft.less r).left then Rft.less r else if r.role = 2 then { Rft.less r with left := 2 } else Rft.standN (Rft.less r) d
def Rft.tickM (r : Nd) (L : List Mg) (d : Int) : List Mg := if 0 < (Rft.less r).left then L else if r.role = 2 then Rft.pushAll { Rft.less r with left := 2 } L else Rft.standL (Rft.less r) L d
theorem less_nok {r : Nd} (h : Nok r) : Nok (Rft.less r) := by
  unfold Rft.less
  split
  · exact ⟨h.conf, h.id, h.log, h.t0, h.t1⟩
  · exact h
theorem less_role (r : Nd) : (Rft.less r).role = r.role := by
  unfold Rft.less
  split <;> rfl
/-- 'Left' is another one. -/
theorem left_o {w : World} {base b : Nat} {r : Nd} {L : List Mg} {c : S3} (x : Int) (h : Ob w base b r L c) : Ob (w.setCell ⟨b, 11, none⟩ (.int .i64 x)) base b { r with left := x } L c ∧ Kp base w (w.setCell ⟨b, 11, none⟩ (.int .i64 x)) := by
  obtain ⟨X, V, s, T, h0, hX, hVc⟩ := h
  have C := chg_setb (Chg.refl (fun k => k = b) w) b 11 (.int .i64 x) rfl
  exact ⟨⟨X, V, s, T, h0.turn C (h0.cs.set 11 _) ⟨rfl, rfl⟩ (.inl ⟨rfl, rfl⟩) (.inl ⟨rfl, rfl⟩) (.inl ⟨rfl, rfl⟩) (.inl ⟨rfl, rfl⟩), hX, hVc⟩, C.toKp h0.hb⟩
theorem left_cells {w : World} {base b : Nat} {r : Nd} {L : List Mg} {c : S3} (h : Ob w base b r L c) : w.cell? ⟨b, 11, none⟩ = some (.int .i64 r.left) ∧ w.frozen? ⟨b, 11, none⟩ = false ∧ w.cell? ⟨b, 4, none⟩ = some (.int .i64 r.role) := by
  obtain ⟨X, V, s, T, h0, hX, hVc⟩ := h
  exact ⟨h0.cs.at_ 11 rfl, h0.cs.2.1 11, h0.cs.at_ 4 rfl⟩
set_option maxRecDepth 100000 in
set_option maxHeartbeats 3200000 in
theorem tick_o {w : World} {base b : Nat} {r : Nd} {L : List Mg} {c : S3} (d : Int) (h : Ob w base b r L c) (hr : Nok r) (hp : r.role = 2 → Pushes r) (hl0 : 0 ≤ r.left) (hl1 : r.left ≤ 100) (hd1 : -9223372036854775808 ≤ d) (hd2 : d ≤ 9223372036854775807) (hL : L.length ≤ 4000) :
    Calls Try.prog 16 #[.pointer (some ⟨b, 0, none⟩), .int .i64 d] w fun e w' => e = .returned (.tuple #[]) ∧ Ob w' base b (Rft.tickW r d) (Rft.tickM r L d) c ∧ Kp base w w' := by
  obtain ⟨c11, f11, c4⟩ := left_cells h
  have SP : Hid (∀ W (r' : Nd), Nok r' → Ob W base b r' L c → _) := fun W r' hr' hO => stand_o (L := L) d hO hr' hd1 hd2 hL
  unfold Rft.tickW Rft.tickM
  by_cases h0 : r.left = 0
  · have el : Rft.less r = r := by unfold Rft.less; rw [if_neg (by omega)]
    have hn : ¬ 0 < r.left := by omega
    rw [el, if_neg hn, if_neg hn]
    by_cases h2 : r.role = 2
    · rw [if_pos h2, if_pos h2]
      have h2' : (r.role == 2) = true := by simpa using h2
      obtain ⟨o1, k1⟩ := left_o 2 h
      have PA := pushAll_o o1 (by have := hp h2; exact ⟨this.log, this.conf, this.len, this.next⟩) hL
      have HK : Hid (Kp base w (w.setCell ⟨b, 11, none⟩ (.int .i64 2))) := k1
      clear h hr hp o1 k1 SP
      go_enter Try.func16, Try.ntmps16
      go_wp2_with (go_at_call 38; (with_reducible refine PA.mono ?_); rintro e w1 ⟨rfl, o1, k1⟩)
      go_end0
      exact ⟨rfl, o1, HK.out.trans k1⟩
    · rw [if_neg h2, if_neg h2]
      have h2' : (r.role == 2) = false := by simpa using h2
      have ST := SP.out w r hr h
      clear h hr hp SP
      go_enter Try.func16, Try.ntmps16
      go_wp2_with (go_at_call 39; (with_reducible refine ST.mono ?_); rintro e w1 ⟨rfl, o1, k1⟩)
      go_end0
      exact ⟨rfl, o1, k1⟩
  · have el : Rft.less r = { r with left := r.left - 1 } := by unfold Rft.less; rw [if_pos (by omega)]
    obtain ⟨o1, k1⟩ := left_o (r.left - 1) h
    have wr1 : IntKind.i64.wrap (r.left - 1) = r.left - 1 := by rw [IntKind.wrap_i64]; omega
    obtain ⟨d11, g11, d4⟩ := left_cells o1
    have hpos : 0 < r.left := by omega
    rw [el]
    by_cases h1 : 0 < r.left - 1
    · have h1' : 0 < ({ r with left := r.left - 1 } : Nd).left := h1
      rw [if_pos h1', if_pos h1']
      clear h1'
      have HO : Hid _ := o1
      have HK : Hid (Kp base w (w.setCell ⟨b, 11, none⟩ (.int .i64 (r.left - 1)))) := k1
      clear h hr hp o1 k1 SP
      go_enter Try.func16, Try.ntmps16
      go_wp2_with fail
      go_end0
      exact ⟨rfl, HO.out, HK.out⟩
    · have h1' : ¬ 0 < ({ r with left := r.left - 1 } : Nd).left := h1
      rw [if_neg h1', if_neg h1']
      clear h1'
      by_cases h2 : r.role = 2
      · rw [if_pos h2, if_pos h2]
        have h2' : (r.role == 2) = true := by simpa using h2
        obtain ⟨o2, k2⟩ := left_o 2 o1
        have PA := pushAll_o o2 (by have := hp h2; exact ⟨this.log, this.conf, this.len, this.next⟩) hL
        have HK : Hid (Kp base w ((w.setCell ⟨b, 11, none⟩ (.int .i64 (r.left - 1))).setCell ⟨b, 11, none⟩ (.int .i64 2))) := k1.trans k2
        clear h hr hp o1 k1 o2 k2 SP
        go_enter Try.func16, Try.ntmps16
        go_wp2_with (go_at_call 38; (with_reducible refine PA.mono ?_); rintro e w1 ⟨rfl, o1, k1⟩)
        go_end0
        exact ⟨rfl, o1, HK.out.trans k1⟩
      · rw [if_neg h2, if_neg h2]
        have h2' : (r.role == 2) = false := by simpa using h2
        have hr' : Nok { r with left := r.left - 1 } := ⟨hr.conf, hr.id, hr.log, hr.t0, hr.t1⟩
        have ST := SP.out _ _ hr' o1
        have HK : Hid (Kp base w (w.setCell ⟨b, 11, none⟩ (.int .i64 (r.left - 1)))) := k1
        clear h hr hp SP hr' o1 k1
        go_enter Try.func16, Try.ntmps16
        go_wp2_with (go_at_call 39; (with_reducible refine ST.mono ?_); rintro e w1 ⟨rfl, o1, k1⟩)
        go_end0
        exact ⟨rfl, o1, HK.out.trans k1⟩
end Go.Proofs.Ytdpcebaggldaiaa
