/- What the reading of a number, of a text, of a field answers. -/
import Derived.Test.YtmolldednpdicaaCEncode
namespace Go.Proofs.Ytmolldednpdicaa
open Go.RowKit

def idxInt (l : List Int) : Int := match Code.idx l with | some k => (k : Int) | none => -1

theorem less_any (x : Int) (w : World) :
    Calls Try.prog 39 #[.int .u8 x] w fun e w' => e = .returned (.bool (decide (x < 128))) ∧ w' = w := by
  go_enter Try.func39, Try.ntmps39
  go_wp2
  go_ret
  exact ⟨rfl, rfl⟩

set_option maxRecDepth 100000 in
theorem index_some (b off cap : Nat) (l : List Int) (hl : l.length ≤ 9223372036854775807) (w : World) (hc : ∀ i, i < l.length → w.cell? ⟨b, off + i, none⟩ = some (.int .u8 (l.getD i 0))) :
    Calls Try.prog 38 #[.slice (some ⟨b, off, none⟩) l.length cap, .func (.func 39) #[] #[]] w fun e w' => e = .returned (.int .i64 (idxInt l)) ∧ w' = w := by
  go_enter Try.func38, Try.ntmps38
  go_wp2
  go_loop [8] (fun i => ∃ k : Nat, k ≤ l.length ∧ i = .int .i64 k ∧ ∀ j, j < k → ¬ l.getD j 0 < 128) (fun i => l.length - (intOf i).toNat)
  case atStart => exact ⟨0, Nat.zero_le _, rfl, fun j hj => by omega⟩
  case round =>
    obtain ⟨k, hk, rfl, hall⟩ := hrel
    have HA : Hid (∀ j, j < k → ¬ l.getD j 0 < 128) := hall
    clear hall
    by_cases hlk : k < l.length
    · have h1 := hc k hlk
      obtain ⟨x, HX⟩ : ∃ x, Hid (l.getD k 0 = x) := ⟨_, rfl⟩
      rw [HX.out] at h1
      clear hc
      by_cases hx : x < 128
      · have hd : decide (x < 128) = true := by simpa using hx
        go_wp2_with (go_at_call 39; refine (less_any x _).mono ?_; rintro e w1 ⟨rfl, rfl⟩; rw [hd])
        go_ret
        refine ⟨?_, rfl⟩
        have hi : Code.idx l = some k := Code.idx_of hlk (by rw [HX.out]; exact hx) (fun j hj => by have := HA.out j hj; omega)
        simp [idxInt, hi]
      · have hd : decide (x < 128) = false := by simpa using hx
        go_wp2_with (go_at_call 39; refine (less_any x _).mono ?_; rintro e w1 ⟨rfl, rfl⟩; rw [hd])
        go_round
        case rel =>
          refine ⟨k + 1, by omega, by go_num, fun j hj => ?_⟩
          by_cases hjk : j = k
          · subst hjk; rw [HX.out]; omega
          · have := HA.out j (by omega); omega
        case measure => simp [intOf]; omega
    · obtain rfl : k = l.length := by omega
      clear hc
      have hi : Code.idx l = none := Code.idx_of_none (fun j hj => by have := HA.out j hj; omega)
      go_wp2
      go_ret
      exact ⟨by simp [idxInt, hi], rfl⟩

set_option maxRecDepth 100000 in
theorem index_none (a : Option Addr) (cap : Nat) (f : Value) (w : World) :
    Calls Try.prog 38 #[.slice a 0 cap, f] w fun e w' => e = .returned (.int .i64 (-1)) ∧ w' = w := by
  go_enter Try.func38, Try.ntmps38
  go_wp2
  go_loop [8] (fun i => i = .int .i64 0) (fun _ => 0)
  case atStart => rfl
  case round =>
    subst hrel
    go_wp2
    go_ret
    exact ⟨rfl, rfl⟩

/-- A number that was read, as the three answers. -/
def numOut (l : List Int) : Value :=
  match Code.rNum l with
  | .error e => .tuple #[.int .u64 0, .int .i64 0, .int .i64 e]
  | .ok (n, s) => .tuple #[.int .u64 n, .int .i64 s, .int .i64 0]

theorem andNot_all : ∀ x : Fin 256, bits .andNot .u8 (x.val : Int) 128 = ((x.val % 128 : Nat) : Int) := by decide +kernel
theorem or_num (n x : Nat) (hn : 128 * n < 18446744073709551616) (hx : x < 128) : bits .or .u64 ((n : Int) * 128) (x : Int) = ((x + 128 * n : Nat) : Int) := by
  have h := u64_or_nat (n * 128) x (by omega) (by omega)
  have e : ((n * 128 : Nat) : Int) = (n : Int) * 128 := by omega
  rw [e] at h
  rw [h]
  congr 1
  have := Nat.two_pow_add_eq_or_of_lt (i := 7) (b := x) (by simpa using hx) n
  rw [Nat.mul_comm n 128]
  have e2 : 128 * n = 2 ^ 7 * n := by rfl
  rw [e2, ← this]
  omega

set_option maxRecDepth 100000 in
set_option maxHeartbeats 400000 in
theorem readNumber_some (b off cap : Nat) (l : List Int) (hb : Crc.Bytes l) (hl : l.length ≤ 9223372036854775807) (w : World) (hc : ∀ i, i < l.length → w.cell? ⟨b, off + i, none⟩ = some (.int .u8 (l.getD i 0))) :
    Calls Try.prog 35 #[.slice (some ⟨b, off, none⟩) l.length cap] w fun e w' => e = .returned (numOut l) ∧ w' = w := by
  have hidx := index_some b off cap l hl w hc
  unfold idxInt at hidx
  unfold numOut Code.rNum
  cases hi : Code.idx l with
  | none =>
    rw [hi] at hidx
    simp only at hidx ⊢
    go_enter Try.func35, Try.ntmps35
    go_wp2_with (go_at_call 38; refine hidx.mono ?_; rintro e w1 ⟨rfl, rfl⟩)
    go_ret3
    exact ⟨rfl, rfl⟩
  | some k =>
    rw [hi] at hidx
    simp only at hidx ⊢
    obtain ⟨g1, g2, g3⟩ := Code.idx_some hi
    have hck := hc k g1
    have hby : Crc.Byte (l.getD k 0) := by simp [g1]; exact hb _ (List.getElem_mem g1)
    by_cases hbad : Code.Bad l k
    · rw [if_pos hbad]
      unfold Code.Bad at hbad
      unfold Crc.Byte at hby
      clear hc hi g3
      generalize l.getD k 0 = x at *
      go_enter Try.func35, Try.ntmps35
      go_wp2_with (go_at_call 38; refine hidx.mono ?_; rintro e w1 ⟨rfl, rfl⟩)
      all_goals first
        | (go_ret3; exact ⟨rfl, rfl⟩)
        | (exfalso; clear hidx hck; simp at *; omega)
    · rw [if_neg hbad]
      have hlt := Code.good_lt hb hi hbad
      have hlen : (l.take (k + 1)).length = k + 1 := by simp; omega
      have HV : ∀ j, j < k + 1 → ∃ x : Nat, x < 256 ∧ w.cell? ⟨b, off + j, none⟩ = some (.int .u8 x) ∧ Code.val ((l.take (k + 1)).drop j) = x % 128 + 128 * Code.val ((l.take (k + 1)).drop (j + 1)) := by
        intro j hj
        obtain ⟨x, hx, hxe, _⟩ := Crc.byte_of hb j (by omega)
        refine ⟨x, hx, by rw [hc j (by omega), hxe], ?_⟩
        rw [Code.val_drop_step (by omega)]
        have : (l.take (k + 1)).getD j 0 = l.getD j 0 := by simp [hj]
        rw [this, hxe]
        simp
      have HV' : Hid (∀ j, j < k + 1 → ∃ x : Nat, x < 256 ∧ w.cell? ⟨b, off + j, none⟩ = some (.int .u8 x) ∧ Code.val ((l.take (k + 1)).drop j) = x % 128 + 128 * Code.val ((l.take (k + 1)).drop (j + 1))) := HV
      have HLT : Hid (∀ j, Code.val ((l.take (k + 1)).drop j) < 18446744073709551616) := fun j => Nat.lt_of_le_of_lt (Code.val_drop_le _ _) hlt
      have HEND : Hid ((l.take (k + 1)).drop (k + 1) = []) := by show _ = _; rw [List.drop_eq_nil_iff]; omega
      obtain ⟨L, HLL⟩ : ∃ L, Hid (l.take (k + 1) = L) := ⟨_, rfl⟩
      rw [HLL.out] at HV' HLT HEND ⊢
      clear HV hlt hlen hc
      unfold Code.Bad at hbad
      generalize l.getD k 0 = x at *
      go_enter Try.func35, Try.ntmps35
      go_wp2_with (go_at_call 38; refine hidx.mono ?_; rintro e w1 ⟨rfl, rfl⟩)
      all_goals first
        | (exfalso; clear HV' HLT HEND HLL; unfold Crc.Byte at hby; simp at *; omega)
        | skip
      all_goals
        clear hck hby hbad
        go_loop [7, 8] (fun n i => ∃ (j : Nat) (q : Int), j ≤ k + 1 ∧ i = .int .i64 q ∧ q + 1 = (j : Int) ∧ n = .int .u64 (Code.val (L.drop j) : Nat)) (fun _ i => (intOf i + 1).toNat)
        case atStart => exact ⟨k + 1, k, Nat.le_refl _, rfl, by simp, by rw [HEND.out]; rfl⟩
        case round =>
          obtain ⟨j, q, hj, rfl, hq, rfl⟩ := hrel
          by_cases h0 : q < 0
          · obtain rfl : j = 0 := by omega
            obtain rfl : q = -1 := by omega
            go_wp2
            go_ret3
            simp
          · obtain ⟨p, rfl⟩ := Int.eq_ofNat_of_zero_le (show 0 ≤ q by omega)
            obtain rfl : j = p + 1 := by omega
            obtain ⟨y, hy, hcy, hvy⟩ := HV'.out p (by omega)
            have hlp := HLT.out p
            have HN : Hid (Code.val (L.drop p) = y % 128 + 128 * Code.val (L.drop (p + 1))) := hvy
            rw [hvy] at hlp
            obtain ⟨V, hV⟩ : ∃ V, V = Code.val (L.drop (p + 1)) := ⟨_, rfl⟩
            rw [← hV] at HN hlp ⊢
            have han := andNot_all ⟨y, hy⟩
            simp only at han
            have hor := or_num V (y % 128) (by omega) (Nat.mod_lt _ (by decide))
            obtain ⟨z, hz⟩ : ∃ z, z = y % 128 := ⟨_, rfl⟩
            rw [← hz] at han hor HN hlp
            have hsh : IntKind.u64.wrap ((V : Int) * 128) = (V : Int) * 128 := by rw [IntKind.wrap_u64]; omega
            obtain ⟨s, hs⟩ : ∃ s, s = z + 128 * V := ⟨_, rfl⟩
            rw [← hs] at hor HN
            clear hvy hV hz hs
            go_wp2
            exact ⟨⟨p, (p : Int) - 1, by omega, rfl, by omega, by rw [HN.out]⟩, by simp [intOf] <;> omega⟩
end Go.Proofs.Ytmolldednpdicaa
