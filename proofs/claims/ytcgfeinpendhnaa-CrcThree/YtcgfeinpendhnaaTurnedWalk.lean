/- 'CrcTurned', walked. -/
import Derived.Test.YtcgfeinpendhnaaAppend
import Derived.Test.YtcgfeinpendhnaaTurnedMath
import Derived.OpenShut
namespace Go.Proofs.Ytcgfeinpendhnaa
open Go.RowKit

theorem own_cell {w : World} {base g n cap : Nat} {l : List Int} (h : Own w base (.slice (some ⟨g, 0, none⟩) n cap) l) (i : Nat) (hi : i < n) : w.cell? ⟨g, i, none⟩ = some (.int .u8 ((l.getD i 0).toNat : Nat)) := by
  have hn : n = l.length := by
    rcases h.row.2 with ⟨e, _⟩ | ⟨g', cap', cur, e, _⟩
    · simp at e
    · simp at e; omega
  subst hn
  have hc := h.row.cellAt i (by omega)
  rw [hc]
  have hb := h.bytes.nonneg i
  simp [hi]
  simp [hi] at hb
  omega
theorem own_free {w : World} {base g n cap : Nat} {l : List Int} (h : Own w base (.slice (some ⟨g, 0, none⟩) n cap) l) (i : Nat) : w.frozen? ⟨g, i, none⟩ = false := by
  have hn : n = l.length := by
    rcases h.row.2 with ⟨e, _⟩ | ⟨g', cap', cur, e, _⟩
    · simp at e
    · simp at e; omega
  subst hn
  exact h.row.frozenAt i

theorem own_none {v : Value} : v.ownBlock = none ∨ v.ownBlock ≠ none := by
  cases v.ownBlock <;> simp
theorem own_lt {w : World} {base g n cap : Nat} {l : List Int} (h : Own w base (.slice (some ⟨g, 0, none⟩) n cap) l) : g < w.heap.size := (h.row.lt g rfl).2
theorem own_ge {w : World} {base g n cap B : Nat} {l : List Int} (h : Own w base (.slice (some ⟨g, 0, none⟩) n cap) l) (hB : B ≤ base) : B ≤ g := Nat.le_trans hB (h.row.lt g rfl).1
theorem own_len {w : World} {base g n cap : Nat} {l : List Int} (h : Own w base (.slice (some ⟨g, 0, none⟩) n cap) l) : n = l.length := by
  rcases h.row.2 with ⟨e, _⟩ | ⟨g', cap', cur, e, _⟩
  · simp at e
  · simp at e; omega
theorem own_store {w : World} {base g n cap : Nat} {l : List Int} (h : Own w base (.slice (some ⟨g, 0, none⟩) n cap) l) (i z : Nat) (hz : z < 256) :
    Own (w.setCell ⟨g, i, none⟩ (.int .u8 (z : Nat))).drew base (.slice (some ⟨g, 0, none⟩) n cap) (l.set i (z : Int)) := by
  have hn := own_len h
  subst hn
  refine ⟨?_, h.bytes.set i z hz⟩
  have := (h.row.stored i (.int .u8 (z : Nat))).1
  rw [List.length_set, List.map_set]
  exact this.drew
theorem own_turn {w : World} {base g n cap : Nat} {l : List Int} {p T k y : Nat} (h : Own w base (.slice (some ⟨g, 0, none⟩) n cap) (Crc.tw l p T k)) (hy : y = ((Crc.tw l p T k).getD (p + k) 0).toNat) (_ : p + k < n) :
    Own (w.setCell ⟨g, p + k, none⟩ (.int .u8 (bits BinOp.xor IntKind.u8 (y : Int) ((T : Int) / 2 ^ (8 * k) % 256)))).drew base (.slice (some ⟨g, 0, none⟩) n cap) (Crc.tw l p T (k + 1)) := by
  have hy' : y < 256 := by rw [hy]; exact h.bytes.getD _
  have e : bits BinOp.xor IntKind.u8 (y : Int) ((T : Int) / 2 ^ (8 * k) % 256) = ((y ^^^ (T / 2 ^ (8 * k) % 256) : Nat) : Int) := by
    rw [← u8_xor_nat y (T / 2 ^ (8 * k) % 256) hy' (by omega)]
    simp
  rw [e]
  have := own_store h (p + k) (y ^^^ (T / 2 ^ (8 * k) % 256)) (Crc.xor_lt 8 hy' (by omega))
  rw [hy] at this ⊢
  exact this

set_option maxRecDepth 100000 in
set_option maxHeartbeats 400000 in
theorem turned_main (b : Value) (l : List Int) (at' sh : Int) (n A B p : Nat) (w : World) (hb : Rd w b l) (h5 : 5 ≤ (l.length : Int)) (hs : (l.length : Int) ≤ 1048576) (hn0 : ((n : Int) == 0) = false) (hn1 : n < 4294967296)
    (hA : IntKind.u64.wrap at' = (A : Int)) (hB : IntKind.u64.wrap sh = (B : Int)) (hp : (A : Int) % ((l.length : Int) - 4) = (p : Int)) (hpl : (p : Int) + 4 < l.length)
    (T : Nat) (hT : IntKind.u64.wrap ((n : Int) * 2 ^ (B % 8)) = (T : Int)) (_ : T < 1099511627776) (HE : Hid (Crc.more 0 (Crc.tw l p T 5) ≠ Crc.more 0 l)) :
    Calls Try.prog 5 #[b, .int .i64 at', .int .u32 n, .int .i64 sh] w fun e w' => e = .returned (.bool true) ∧ Below w.heap.size w w' := by
  obtain ⟨ab, cb, eb⟩ := slice_of_rd hb
  subst eb
  have hnot : ∀ (x : Bool) (w : World), (Op.unary .not (.bool x)).run Try.prog w = .ok (.bool (!x)) w := fun _ _ => rfl
  go_enter Try.func5, Try.ntmps5
  go_wp2_with (first
    | (go_at_call 8; refine (awake_any _).mono ?_; rintro e w1 ⟨rfl, hB1⟩; have hz1 := hB1.size; have hB2 := hB1.alloc hz1 (.cells #[] 5); have hO2 := own_empty w1 w1.heap.size rfl; have hb2 := hb.below hB2; have tok2 : True := trivial)
    | (at_builtin; have _t := tok2; refine wpList_append_rd rfl (.tmp 41) (.tmp 42) rfl w1.heap.size _ [] rfl hO2 _ l rfl hb2 (by simp <;> omega) (by simp <;> omega) ?_; intro v3 w3 hO3 hg3; clear tok2; simp only [List.nil_append] at hO3; have hB3 := hO2.below hB2 (by simp <;> omega) (by omega) hg3; have hz3 := hg3.size))
  obtain ⟨g, cap, hv⟩ := Go.Joins.ownsRow_form hO3.row (by omega)
  rw [hv]
  rw [hv] at hO3
  clear hg3 hv hO2 hb2 hB2 hA hB hp hT
  go_loopw [11] (fun i wr => ∃ k : Nat, k ≤ 5 ∧ i = .int .i64 k ∧ Own wr w1.heap.size (.slice (some ⟨g, 0, none⟩) l.length cap) (Crc.tw l p T k) ∧ Below w.heap.size w wr) (fun i _ => 5 - (intOf i).toNat)
  case atStart => exact ⟨0, by omega, rfl, hO3, hB3⟩
  case round =>
    obtain ⟨k, hk, rfl, hO, hBr⟩ := hrel
    by_cases hk5 : k < 5
    · have hc := own_cell hO (p + k) (by omega)
      have hfz := own_free hO (p + k)
      obtain ⟨y, HY⟩ : ∃ y : Nat, Hid (y = ((Crc.tw l p T k).getD (p + k) 0).toNat) := ⟨_, rfl⟩
      rw [← HY.out] at hc
      have hy : y < 256 := by rw [HY.out]; exact hO.bytes.getD _
      have hi1 : (0 : Int) ≤ (p : Int) + (k : Int) := by omega
      have hi2 : (p : Int) + (k : Int) < (l.length : Int) := by omega
      go_wp2
      go_region
      all_goals
        go_wp2
        go_roundw
        case rel => exact ⟨k + 1, by omega, by go_num, own_turn hO HY.out (by omega), (hBr.setCell (own_ge hO hz1) _).drew⟩
        case measure => simp [intOf]; omega
    · obtain rfl : k = 5 := by omega
      have hlen : (Crc.tw l p T 5).length = l.length := Crc.tw_length l p T 5
      have hgl := own_lt hO
      have hO' := hO.grown (World.grownBy_alloc wr (.cells tab0 49) none) own_none
      have hF := fresh_new wr
      have hB4 := hBr.alloc hBr.size (.cells tab0 49)
      have hne : ((Crc.more 0 (Crc.tw l p T 5) : Nat) : Int) ≠ (Crc.more 0 l : Nat) := fun e => HE.out (by omega)
      obtain ⟨m1, HM1⟩ : ∃ m, Hid (Crc.more 0 (Crc.tw l p T 5) = m) := ⟨_, rfl⟩
      obtain ⟨m2, HM2⟩ : ∃ m, Hid (Crc.more 0 l = m) := ⟨_, rfl⟩
      rw [HM1.out, HM2.out] at hne
      have hne' : ((m1 : Int) != (m2 : Int)) = true := by simpa using hne
      clear hO3 hB3 hz3 hne
      go_wp2_with (go_at_call 9; refine (new_any _).mono ?_; rintro e w' ⟨rfl, rfl⟩)
      refine (sum_first wr.heap.size _ _ _ (hO'.rd (by omega)) hF (by simp [Value.ownBlock]; omega)).mono ?_
      rintro e w5 ⟨rfl, hM⟩
      rw [HM1.out]
      have hB5 := hB4.trans (made_below (B := w.heap.size) hM hBr.size hB4.size)
      have hb5 := hb.below hB5
      have hR5 := hM.ready
      clear hM hO hO' hF hB4
      go_wp2_with fail
      refine (sum_again wr.heap.size _ l _ hb5 hR5).mono ?_
      rintro e w6 ⟨rfl, rfl⟩
      rw [HM2.out]
      go_wp2
      go_ret
      exact ⟨rfl, hB5⟩

set_option maxRecDepth 100000 in
theorem turned_short (b : Value) (l : List Int) (x1 x2 x3 : Int) (w : World) (hb : Rd w b l) (h5 : (l.length : Int) < 5) :
    Calls Try.prog 5 #[b, .int .i64 x1, .int .u32 x2, .int .i64 x3] w fun e w' => e = .returned (.bool true) ∧ Below w.heap.size w w' := by
  obtain ⟨ab, cb, eb⟩ := slice_of_rd hb
  subst eb
  have hnot : ∀ (x : Bool) (w : World), (Op.unary .not (.bool x)).run Try.prog w = .ok (.bool (!x)) w := fun _ _ => rfl
  go_enter Try.func5, Try.ntmps5
  go_wp2_with (go_at_call 8; refine (awake_any _).mono ?_; rintro e w1 ⟨rfl, hB1⟩)
  all_goals (go_ret; exact ⟨rfl, hB1⟩)

set_option maxRecDepth 100000 in
theorem turned_great (b : Value) (l : List Int) (x1 x2 x3 : Int) (w : World) (hb : Rd w b l) (hl : l.length ≤ 140737488351232) (h5 : (1048576 : Int) < (l.length : Int)) :
    Calls Try.prog 5 #[b, .int .i64 x1, .int .u32 x2, .int .i64 x3] w fun e w' => e = .returned (.bool true) ∧ Below w.heap.size w w' := by
  obtain ⟨ab, cb, eb⟩ := slice_of_rd hb
  subst eb
  have hnot : ∀ (x : Bool) (w : World), (Op.unary .not (.bool x)).run Try.prog w = .ok (.bool (!x)) w := fun _ _ => rfl
  have h5' : decide ((l.length : Int) < 5) = false := by simp; omega
  go_enter Try.func5, Try.ntmps5
  go_wp2_with (go_at_call 8; refine (awake_any _).mono ?_; rintro e w1 ⟨rfl, hB1⟩)
  all_goals (go_ret; exact ⟨rfl, hB1⟩)

set_option maxRecDepth 100000 in
theorem turned_none (b : Value) (l : List Int) (x1 x3 : Int) (w : World) (hb : Rd w b l) (h5 : 5 ≤ (l.length : Int)) (hs : (l.length : Int) ≤ 1048576) :
    Calls Try.prog 5 #[b, .int .i64 x1, .int .u32 0, .int .i64 x3] w fun e w' => e = .returned (.bool true) ∧ Below w.heap.size w w' := by
  obtain ⟨ab, cb, eb⟩ := slice_of_rd hb
  subst eb
  have hnot : ∀ (x : Bool) (w : World), (Op.unary .not (.bool x)).run Try.prog w = .ok (.bool (!x)) w := fun _ _ => rfl
  go_enter Try.func5, Try.ntmps5
  go_wp2_with (go_at_call 8; refine (awake_any _).mono ?_; rintro e w1 ⟨rfl, hB1⟩)
  all_goals (go_ret; exact ⟨rfl, hB1⟩)

theorem u64_wrap_nat (x : Int) : ∃ A : Nat, IntKind.u64.wrap x = (A : Int) := by
  refine ⟨(IntKind.u64.wrap x).toNat, ?_⟩
  have : 0 ≤ IntKind.u64.wrap x := by
    simp [IntKind.wrap, IntKind.bits, IntKind.signed]
    omega
  omega

theorem crcTurned.walk (w : World) (v0 : Value) (l0 : List Int) (w0 : Rd w v0 l0) (b0 : l0.length ≤ 140737488351232) (x1 : Int) (_ : (Lit.int .i64 x1).wf = true) (x2 : Int) (wx2 : (Lit.int .u32 x2).wf = true) (x3 : Int) (_ : (Lit.int .i64 x3).wf = true) :
    Calls Try.prog 5 #[v0, .int .i64 x1, .int .u32 x2, .int .i64 x3] w fun e w' => e = .returned (.bool true) ∧ Below w.heap.size w w' := by
  by_cases h5 : (l0.length : Int) < 5
  · exact turned_short v0 l0 x1 x2 x3 w w0 h5
  by_cases hs : (1048576 : Int) < (l0.length : Int)
  · exact turned_great v0 l0 x1 x2 x3 w w0 b0 hs
  have h := bounds_u32 wx2
  obtain ⟨n, rfl⟩ : ∃ n : Nat, x2 = n := ⟨x2.toNat, by omega⟩
  by_cases h0 : n = 0
  · subst h0
    exact turned_none v0 l0 x1 x3 w w0 (by omega) (by omega)
  obtain ⟨A, hA⟩ := u64_wrap_nat x1
  obtain ⟨B, hB⟩ := u64_wrap_nat x3
  have hp0 := Int.emod_nonneg (A : Int) (show ((l0.length : Int) - 4) ≠ 0 by omega)
  have hp1 := Int.emod_lt_of_pos (A : Int) (show 0 < ((l0.length : Int) - 4) by omega)
  obtain ⟨p, hp⟩ : ∃ p : Nat, (A : Int) % ((l0.length : Int) - 4) = (p : Int) := ⟨((A : Int) % ((l0.length : Int) - 4)).toNat, by omega⟩
  rw [hp] at hp0 hp1
  have hB8 : B % 8 < 8 := by omega
  have hpow : 2 ^ (B % 8) ≤ 2 ^ 7 := Nat.pow_le_pow_right (by omega) (by omega)
  have hmul : n * 2 ^ (B % 8) ≤ 4294967295 * 2 ^ 7 := Nat.mul_le_mul (by omega) hpow
  have hT : IntKind.u64.wrap ((n : Int) * 2 ^ (B % 8)) = ((n * 2 ^ (B % 8) : Nat) : Int) := by
    have e : ((n * 2 ^ (B % 8) : Nat) : Int) = (n : Int) * 2 ^ (B % 8) := by simp
    rw [← e]
    simp only [IntKind.wrap, IntKind.bits, IntKind.signed]
    simp
    omega
  exact turned_main v0 l0 x1 x3 n A B p w w0 (by omega) (by omega) (by simpa using h0) (by omega) hA hB hp (by omega) (n * 2 ^ (B % 8)) hT (by omega)
    (Crc.turned l0 w0.bytes p n (B % 8) (by omega) (by omega) h0 hB8)
end Go.Proofs.Ytcgfeinpendhnaa
