/- Lists of numbers and of items; slices.Index, Contains. -/
import Derived.Test.YtdpcebaggldaiaaMRow
import Derived.Test.YtdpcebaggldaiaaUMath
namespace Go.Proofs.Ytdpcebaggldaiaa
open Go.RowKit Quo
set_option linter.unusedVariables false
set_option maxRecDepth 10000

def eK : Elm Int where
  el := 3
  sl := 22
  size := 1
  bytes := 8
  zero := .int .i64 0
  enc := fun x => [.int .i64 x]
  hu := Try.underlying22
  hi := by kernel_rfl
  hz := rfl
  hs := by decide
  len := fun _ => rfl
  one := by intro x v hv; simp at hv; subst hv; rfl
  he := by kernel_rfl
  so := fun W => Try.sizeOf3 W
def eN : Elm Int where
  el := 2
  sl := 26
  size := 1
  bytes := 8
  zero := .int .i64 0
  enc := fun x => [.int .i64 x]
  hu := Try.underlying26
  hi := by kernel_rfl
  hz := rfl
  hs := by decide
  len := fun _ => rfl
  one := by intro x v hv; simp at hv; subst hv; rfl
  he := by kernel_rfl
  so := fun W => Try.sizeOf2 W
def eI : Elm (Int × Int) where
  el := 92
  sl := 90
  size := 2
  bytes := 16
  zero := .agg #[.int .i64 0, .int .i64 0]
  enc := fun p => [.int .i64 p.1, .int .i64 p.2]
  hu := Try.underlying90
  hi := by kernel_rfl
  hz := rfl
  hs := by decide
  len := fun _ => rfl
  one := by intro x v hv; simp at hv; rcases hv with rfl | rfl <;> rfl
  he := by kernel_rfl
  so := fun W => Try.sizeOf92 W
theorem at_k {w : World} {ad : Option Addr} {n c : Nat} {l : List Int} (h : eK.Rx w (.slice ad n c) l) {i : Nat} {x : Int} (hi : l[i]? = some x) :
    ∃ g o, ad = some ⟨g, o, none⟩ ∧ w.cell? ⟨g, o + i, none⟩ = some (.int .i64 x) := by
  obtain ⟨g, o, c', hv, hc⟩ := h.at_ hi
  injection hv with e1 e2 e3
  have := hc 0 _ rfl
  have e : eK.size = 1 := rfl
  rw [e, Nat.mul_one, Nat.add_zero] at this
  exact ⟨g, o, e1, this⟩
theorem at_n {w : World} {ad : Option Addr} {n c : Nat} {l : List Int} (h : eN.Rx w (.slice ad n c) l) {i : Nat} {x : Int} (hi : l[i]? = some x) :
    ∃ g o, ad = some ⟨g, o, none⟩ ∧ w.cell? ⟨g, o + i, none⟩ = some (.int .i64 x) := by
  obtain ⟨g, o, c', hv, hc⟩ := h.at_ hi
  injection hv with e1 e2 e3
  have := hc 0 _ rfl
  have e : eN.size = 1 := rfl
  rw [e, Nat.mul_one, Nat.add_zero] at this
  exact ⟨g, o, e1, this⟩
theorem at_i {w : World} {ad : Option Addr} {n c : Nat} {l : List (Int × Int)} (h : eI.Rx w (.slice ad n c) l) {i : Nat} {x : Int × Int} (hi : l[i]? = some x) :
    ∃ g o, ad = some ⟨g, o, none⟩ ∧ w.cell? ⟨g, o + i * 2, none⟩ = some (.int .i64 x.1) ∧ w.cell? ⟨g, o + i * 2 + 1, none⟩ = some (.int .i64 x.2) := by
  obtain ⟨g, o, c', hv, hc⟩ := h.at_ hi
  injection hv with e1 e2 e3
  have h0 := hc 0 _ rfl
  have h1 := hc 1 _ rfl
  have e : eI.size = 2 := rfl
  rw [e] at h0 h1
  rw [Nat.add_zero] at h0
  exact ⟨g, o, e1, h0, h1⟩
set_option maxRecDepth 100000 in
set_option maxHeartbeats 800000 in
theorem index_any (v : Value) (l : List Int) (x : Int) (w : World) (h : eK.Rx w v l) (hl : l.length ≤ 9223372036854775807) :
    Calls Try.prog 41 #[v, .int .i64 x] w fun e w' => ∃ i : Int, e = .returned (.int .i64 i) ∧ decide (0 ≤ i) = has l x ∧ w' = w := by
  obtain ⟨ad, cp, hv⟩ := h.form
  subst hv
  obtain ⟨N, hN⟩ : ∃ N, l.length = N := ⟨_, rfl⟩
  have NL : Hid (l.length = N) := hN
  rw [hN] at h hl ⊢
  have H : Hid (eK.Rx w (.slice ad N cp) l) := h
  clear h hN
  go_enter Try.func41, Try.ntmps41
  go_wp2_with fail
  go_loopw [5, 8] (fun _ i wr => ∃ j : Nat, j ≤ N ∧ i = .int .i64 (j : Int) ∧ Hid (has (l.take j) x = false) ∧ wr = w) (fun _ i _ => N - (intOf i).toNat)
  case atStart => exact ⟨0, by omega, rfl, (rfl : has (l.take 0) x = false), rfl⟩
  case round =>
    obtain ⟨j, hj, rfl, I, rfl⟩ := hrel
    by_cases hlt : j < N
    · obtain ⟨y, hy⟩ : ∃ y, l[j]? = some y := ⟨_, List.getElem?_eq_getElem (by rw [NL.out]; exact hlt)⟩
      obtain ⟨g, o, rfl, y0⟩ := at_k H.out hy
      cases hs : (x == y) with
      | true =>
        have FN : Hid (has l x = true) := has_all hy (by rw [← hs]; exact BEq.comm)
        clear hy
        go_wp2_with fail
        go_ret
        exact ⟨_, rfl, by rw [FN.out]; exact decide_eq_true (by omega), rfl⟩
      | false =>
        have hyx : (y == x) = false := by rw [← hs]; exact BEq.comm
        have I2 : Hid (has (l.take (j + 1)) x = false) := by show _ = _; rw [has_take hy, I.out, hyx]; rfl
        clear hy I hyx
        go_wp2_with fail
        go_roundw
        case rel => exact ⟨j + 1, by omega, by go_num, I2, trivial⟩
        case measure => simp [intOf]; omega
    · have e : has l x = false := by
        have := I.out
        rwa [List.take_of_length_le (by rw [NL.out]; omega)] at this
      have E : Hid (has l x = false) := e
      clear e
      go_wp2_with fail
      go_ret
      exact ⟨-1, rfl, by rw [E.out]; rfl, rfl⟩
set_option maxRecDepth 100000 in
theorem contains_any (v : Value) (l : List Int) (x : Int) (w : World) (h : eK.Rx w v l) (hl : l.length ≤ 9223372036854775807) :
    Calls Try.prog 22 #[v, .int .i64 x] w fun e w' => e = .returned (.bool (has l x)) ∧ w' = w := by
  have IX := index_any v l x w h hl
  obtain ⟨ad, cp, rfl⟩ := h.form
  clear h
  go_enter Try.func22, Try.ntmps22
  go_wp2_with (go_at_call 41; (with_reducible refine IX.mono ?_); rintro e w1 ⟨i, rfl, hi, rfl⟩)
  go_ret
  exact ⟨by rw [← hi]; first | rfl | simp, rfl⟩
end Go.Proofs.Ytdpcebaggldaiaa
