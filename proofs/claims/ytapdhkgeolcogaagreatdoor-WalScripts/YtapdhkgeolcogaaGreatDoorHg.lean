/- What the document's own reading of a number answers. -/
import Derived.Test.YtapdhkgeolcogaaGreatDoorHf
import Derived.Test.YtapdhkgeolcogaaGreatDoorGi
namespace Go.Proofs.YtapdhkgeolcogaaGreatDoor.Cd
open Go.RowKit
set_option linter.unusedVariables false

def NumOut (r : Except Int (Nat × Nat)) (e : Ending) : Prop :=
  match r with
  | .error _ => ∃ x : Int, (x == 0) = false ∧ e = .returned (.tuple #[.int .u64 0, .int .i64 0, .int .i64 x])
  | .ok (n, s) => e = .returned (.tuple #[.int .u64 n, .int .i64 s, .int .i64 0])

set_option maxRecDepth 100000 in
set_option maxHeartbeats 1600000 in
theorem refNum_some (b off cap : Nat) (l : List Int) (hb : Crc.Bytes l) (hl : l.length ≤ 9223372036854775000) (w : World) (hc : ∀ i, i < l.length → w.cell? ⟨b, off + i, none⟩ = some (.int .u8 (l.getD i 0))) :
    Calls Tryz.prog 75 #[.slice (some ⟨b, off, none⟩) l.length cap, .int .i64 0] w fun e w' => w' = w ∧ NumOut (Code.rNum l) e := by
  have HC : Hid (∀ i, i < l.length → w.cell? ⟨b, off + i, none⟩ = some (.int .u8 (l.getD i 0))) := hc
  have HB : Hid (∀ i, i < l.length → Crc.Byte (l.getD i 0)) := fun i hi => by simp [hi]; exact hb _ (List.getElem_mem hi)
  unfold Code.rNum
  cases hi : Code.idx l with
  | none =>
    have HN : Hid (∀ i, i < l.length → ¬ l.getD i 0 < 128) := Code.idx_none hi
    simp only
    clear hc hb hi
    go_enter Tryz.func75, Tryz.ntmps75
    go_wp2
    go_loop [7] (fun q => ∃ k : Nat, k ≤ l.length ∧ k ≤ 9 ∧ q = .int .i64 k) (fun q => 10 - (intOf q).toNat)
    case atStart => exact ⟨0, Nat.zero_le _, by omega, rfl⟩
    case round =>
      obtain ⟨k, hk1, hk2, rfl⟩ := hrel
      by_cases hlt : k < l.length
      · have hlti : (k : Int) < (l.length : Int) := by omega
        have c1 := HC.out k hlt
        have n1 := HN.out k hlt
        have b1 := HB.out k hlt
        unfold Crc.Byte at b1
        generalize l.getD k 0 = x at *
        have hx : (127 : Int) < x := by omega
        by_cases h9 : k = 9
        · subst h9
          go_wp2
          go_ret3
          exact ⟨rfl, 21, rfl, rfl⟩
        · have hk9 : (k : Int) + 1 ≤ 9 := by omega
          go_wp2
          go_round
          case rel => exact ⟨k + 1, by omega, by omega, by go_num⟩
          case measure => simp [intOf]; omega
      · obtain rfl : k = l.length := by omega
        have hk9 : (l.length : Int) ≤ 9 := by omega
        clear hlt hk1
        go_wp2
        go_loop [9] (fun q => ∃ j : Nat, 1 ≤ j ∧ j ≤ l.length + 1 ∧ q = .int .i64 j) (fun q => 11 - (intOf q).toNat)
        case atStart => exact ⟨1, by omega, by omega, rfl⟩
        case round =>
          obtain ⟨j, hj1, hj2, rfl⟩ := hrel
          by_cases hjl : j < l.length
          · have hjli : (j : Int) < (l.length : Int) := by omega
            have c1 := HC.out j hjl
            have n1 := HN.out j hjl
            generalize l.getD j 0 = x at *
            have hx : (x == 0) = false := by simp; omega
            have hj9 : ((j : Int) == 9) = false := by simp; omega
            clear n1
            go_wp2
            go_round
            case rel => exact ⟨j + 1, by omega, by omega, by go_num⟩
            case measure => simp [intOf]; omega
          · have hjli : ¬ (j : Int) < (l.length : Int) := by omega
            go_wp2
            go_ret3
            exact ⟨rfl, 20, rfl, rfl⟩
  | some K =>
    obtain ⟨g1, g2, g3⟩ := Code.idx_some hi
    have HN : Hid (∀ i, i < K → ¬ l.getD i 0 < 128) := g3
    simp only
    by_cases hK : 9 < K
    · have hbad : Code.Bad l K := .inr (.inl (by omega))
      rw [if_pos hbad]
      clear hc hb hi g3 hbad
      go_enter Tryz.func75, Tryz.ntmps75
      go_wp2
      go_loop [7] (fun q => ∃ k : Nat, k ≤ 9 ∧ q = .int .i64 k) (fun q => 10 - (intOf q).toNat)
      case atStart => exact ⟨0, by omega, rfl⟩
      case round =>
        obtain ⟨k, hk2, rfl⟩ := hrel
        have hlti : (k : Int) < (l.length : Int) := by omega
        have c1 := HC.out k (by omega)
        have n1 := HN.out k (by omega)
        generalize l.getD k 0 = x at *
        have hx : (127 : Int) < x := by omega
        by_cases h9 : k = 9
        · subst h9
          go_wp2
          go_ret3
          exact ⟨rfl, 21, rfl, rfl⟩
        · have hk9 : (k : Int) + 1 ≤ 9 := by omega
          go_wp2
          go_round
          case rel => exact ⟨k + 1, by omega, by go_num⟩
          case measure => simp [intOf]; omega
    · have hck := hc K g1
      have hby : Crc.Byte (l.getD K 0) := HB.out K g1
      unfold Crc.Byte at hby
      by_cases hbad : Code.Bad l K
      · rw [if_pos hbad]
        unfold Code.Bad at hbad
        clear hc hb hi g3
        generalize l.getD K 0 = y at *
        go_enter Tryz.func75, Tryz.ntmps75
        go_wp2
        go_loop [7] (fun q => ∃ k : Nat, k ≤ K ∧ q = .int .i64 k) (fun q => 10 - (intOf q).toNat)
        case atStart => exact ⟨0, by omega, rfl⟩
        case round =>
          obtain ⟨k, hk2, rfl⟩ := hrel
          have hlti : (k : Int) < (l.length : Int) := by omega
          by_cases hkK : k < K
          · have c1 := HC.out k (by omega)
            have n1 := HN.out k (by omega)
            generalize l.getD k 0 = x at *
            have hx : (127 : Int) < x := by omega
            have hk9 : (k : Int) + 1 ≤ 9 := by omega
            clear hck hby hbad g2
            go_wp2
            go_round
            case rel => exact ⟨k + 1, by omega, by go_num⟩
            case measure => simp [intOf]; omega
          · obtain rfl : k = K := by omega
            have hne : ((k : Int) == (l.length : Int)) = false := by simp; omega
            have hy : ¬ (127 : Int) < y := by omega
            have hyd : decide ((127 : Int) < y) = false := by simpa using hy
            clear hkK hk2
            rcases hbad with ⟨h1, h2⟩ | h2 | ⟨h1, h2⟩
            · have h1i : (0 : Int) < (k : Int) := by omega
              subst h2
              go_wp2
              go_ret3
              exact ⟨rfl, 21, rfl, rfl⟩
            · omega
            · obtain rfl : k = 9 := by omega
              have hy0 : (y == 0) = false := by simp; omega
              go_wp2
              go_ret3
              exact ⟨rfl, 21, rfl, rfl⟩
      · rw [if_neg hbad]
        have hlt := Code.good_lt hb hi hbad
        have hlen : (l.take (K + 1)).length = K + 1 := by simp; omega
        have HV' : Hid (∀ j, j < K + 1 → ∃ x : Nat, x < 256 ∧ w.cell? ⟨b, off + j, none⟩ = some (.int .u8 x) ∧ Code.val ((l.take (K + 1)).drop j) = x % 128 + 128 * Code.val ((l.take (K + 1)).drop (j + 1))) := by
          intro j hj
          obtain ⟨x, hx, hxe, _⟩ := Crc.byte_of hb j (by omega)
          refine ⟨x, hx, by rw [hc j (by omega), hxe], ?_⟩
          rw [Code.val_drop_step (by omega)]
          have : (l.take (K + 1)).getD j 0 = l.getD j 0 := by simp [hj]
          rw [this, hxe]
          simp
        have HLT : Hid (∀ j, Code.val ((l.take (K + 1)).drop j) < 18446744073709551616) := fun j => Nat.lt_of_le_of_lt (Code.val_drop_le _ _) hlt
        have HEND : Hid ((l.take (K + 1)).drop (K + 1) = []) := by show _ = _; rw [List.drop_eq_nil_iff]; omega
        obtain ⟨L, HLL⟩ : ∃ L, Hid (l.take (K + 1) = L) := ⟨_, rfl⟩
        rw [HLL.out] at HV' HLT HEND ⊢
        unfold Code.Bad at hbad
        clear hc hb hi g3 hlt hlen
        generalize l.getD K 0 = y at *
        go_enter Tryz.func75, Tryz.ntmps75
        go_wp2
        go_loop [7] (fun q => ∃ k : Nat, k ≤ K ∧ q = .int .i64 k) (fun q => 10 - (intOf q).toNat)
        case atStart => exact ⟨0, by omega, rfl⟩
        case round =>
          obtain ⟨k, hk2, rfl⟩ := hrel
          have hlti : (k : Int) < (l.length : Int) := by omega
          by_cases hkK : k < K
          · have c1 := HC.out k (by omega)
            have n1 := HN.out k (by omega)
            generalize l.getD k 0 = x at *
            have hx : (127 : Int) < x := by omega
            have hk9 : (k : Int) + 1 ≤ 9 := by omega
            clear hck hby hbad g2
            go_wp2
            go_round
            case rel => exact ⟨k + 1, by omega, by go_num⟩
            case measure => simp [intOf]; omega
          · obtain rfl : k = K := by omega
            have hne : ((k : Int) == (l.length : Int)) = false := by simp; omega
            have hy : ¬ (127 : Int) < y := by omega
            have hyd : decide ((127 : Int) < y) = false := by simpa using hy
            clear hkK hk2
            by_cases hk0 : k = 0
            · subst hk0
              have hck0 : w.cell? ⟨b, off, none⟩ = some (.int .u8 y) := hck
              clear hbad
              go_wp2
              go_loop [8, 10] (fun n i => ∃ (j : Nat) (q : Int), j ≤ 0 + 1 ∧ i = .int .i64 q ∧ q + 1 = (j : Int) ∧ n = .int .u64 (Code.val (L.drop j) : Nat)) (fun _ i => (intOf i + 1).toNat)
              case atStart => exact ⟨0 + 1, 0, Nat.le_refl _, rfl, by simp, by rw [HEND.out]; rfl⟩
              case round =>
                obtain ⟨j, q, hj, rfl, hq, rfl⟩ := hrel
                by_cases h0 : q < 0
                · obtain rfl : j = 0 := by omega
                  obtain rfl : q = -1 := by omega
                  go_wp2
                  go_ret3
                  simp [NumOut]
                · obtain ⟨p, rfl⟩ := Int.eq_ofNat_of_zero_le (show 0 ≤ q by omega)
                  obtain rfl : j = p + 1 := by omega
                  obtain ⟨y, hy, hcy, hvy⟩ := HV'.out p (by omega)
                  have hlp := HLT.out p
                  have HN2 : Hid (Code.val (L.drop p) = y % 128 + 128 * Code.val (L.drop (p + 1))) := hvy
                  rw [hvy] at hlp
                  obtain ⟨V, hV⟩ : ∃ V, V = Code.val (L.drop (p + 1)) := ⟨_, rfl⟩
                  rw [← hV] at HN2 hlp ⊢
                  have hpl : (p : Int) < (l.length : Int) := by omega
                  have hsh : IntKind.u64.wrap ((V : Int) * 128) = (V : Int) * 128 := by rw [IntKind.wrap_u64]; omega
                  have hsm : IntKind.u64.wrap ((V : Int) * 128 + (y : Int) % 128) = (V : Int) * 128 + (y : Int) % 128 := by rw [IntKind.wrap_u64]; omega
                  clear hvy hV
                  go_wp2
                  exact ⟨⟨p, (p : Int) - 1, by omega, by go_num, by omega, by rw [HN2.out]; go_num⟩, by simp [intOf] <;> omega⟩
            · have hk0i : (0 : Int) < (k : Int) := by omega
              have hy0 : (y == 0) = false := by simp; omega
              by_cases hk9 : k = 9
              · subst hk9
                have hy1 : ¬ (1 : Int) < y := by omega
                have hy1d : decide ((1 : Int) < y) = false := by simpa using hy1
                clear hbad
                go_wp2
                go_loop [8, 10] (fun n i => ∃ (j : Nat) (q : Int), j ≤ 9 + 1 ∧ i = .int .i64 q ∧ q + 1 = (j : Int) ∧ n = .int .u64 (Code.val (L.drop j) : Nat)) (fun _ i => (intOf i + 1).toNat)
                case atStart => exact ⟨9 + 1, 9, Nat.le_refl _, rfl, by simp, by rw [HEND.out]; rfl⟩
                case round =>
                  obtain ⟨j, q, hj, rfl, hq, rfl⟩ := hrel
                  by_cases h0 : q < 0
                  · obtain rfl : j = 0 := by omega
                    obtain rfl : q = -1 := by omega
                    go_wp2
                    go_ret3
                    simp [NumOut]
                  · obtain ⟨p, rfl⟩ := Int.eq_ofNat_of_zero_le (show 0 ≤ q by omega)
                    obtain rfl : j = p + 1 := by omega
                    obtain ⟨y, hy, hcy, hvy⟩ := HV'.out p (by omega)
                    have hlp := HLT.out p
                    have HN2 : Hid (Code.val (L.drop p) = y % 128 + 128 * Code.val (L.drop (p + 1))) := hvy
                    rw [hvy] at hlp
                    obtain ⟨V, hV⟩ : ∃ V, V = Code.val (L.drop (p + 1)) := ⟨_, rfl⟩
                    rw [← hV] at HN2 hlp ⊢
                    have hpl : (p : Int) < (l.length : Int) := by omega
                    have hsh : IntKind.u64.wrap ((V : Int) * 128) = (V : Int) * 128 := by rw [IntKind.wrap_u64]; omega
                    have hsm : IntKind.u64.wrap ((V : Int) * 128 + (y : Int) % 128) = (V : Int) * 128 + (y : Int) % 128 := by rw [IntKind.wrap_u64]; omega
                    clear hvy hV
                    go_wp2
                    exact ⟨⟨p, (p : Int) - 1, by omega, by go_num, by omega, by rw [HN2.out]; go_num⟩, by simp [intOf] <;> omega⟩
              · have hk9i : ((k : Int) == 9) = false := by simp; omega
                clear hbad
                go_wp2
                go_loop [8, 10] (fun n i => ∃ (j : Nat) (q : Int), j ≤ k + 1 ∧ i = .int .i64 q ∧ q + 1 = (j : Int) ∧ n = .int .u64 (Code.val (L.drop j) : Nat)) (fun _ i => (intOf i + 1).toNat)
                case atStart => exact ⟨k + 1, k, Nat.le_refl _, rfl, by simp, by rw [HEND.out]; rfl⟩
                case round =>
                  obtain ⟨j, q, hj, rfl, hq, rfl⟩ := hrel
                  by_cases h0 : q < 0
                  · obtain rfl : j = 0 := by omega
                    obtain rfl : q = -1 := by omega
                    go_wp2
                    go_ret3
                    simp [NumOut]
                  · obtain ⟨p, rfl⟩ := Int.eq_ofNat_of_zero_le (show 0 ≤ q by omega)
                    obtain rfl : j = p + 1 := by omega
                    obtain ⟨y, hy, hcy, hvy⟩ := HV'.out p (by omega)
                    have hlp := HLT.out p
                    have HN2 : Hid (Code.val (L.drop p) = y % 128 + 128 * Code.val (L.drop (p + 1))) := hvy
                    rw [hvy] at hlp
                    obtain ⟨V, hV⟩ : ∃ V, V = Code.val (L.drop (p + 1)) := ⟨_, rfl⟩
                    rw [← hV] at HN2 hlp ⊢
                    have hpl : (p : Int) < (l.length : Int) := by omega
                    have hsh : IntKind.u64.wrap ((V : Int) * 128) = (V : Int) * 128 := by rw [IntKind.wrap_u64]; omega
                    have hsm : IntKind.u64.wrap ((V : Int) * 128 + (y : Int) % 128) = (V : Int) * 128 + (y : Int) % 128 := by rw [IntKind.wrap_u64]; omega
                    clear hvy hV
                    go_wp2
                    exact ⟨⟨p, (p : Int) - 1, by omega, by go_num, by omega, by rw [HN2.out]; go_num⟩, by simp [intOf] <;> omega⟩
end Go.Proofs.YtapdhkgeolcogaaGreatDoor.Cd
