/- What the document's own answer writes: numbers, fields, frames. What the document's own Frame answers. -/
import Derived.Test.YtapdhkgeolcogaaGreatDoorGh
import Derived.Test.YtapdhkgeolcogaaGreatDoorHe
namespace Go.Proofs.YtapdhkgeolcogaaGreatDoor.Cd
open Go.RowKit

set_option maxRecDepth 100000 in
set_option maxHeartbeats 400000 in
theorem put_any (v : Value) (l0 : List Int) (n : Nat) (hn : n < 18446744073709551616) (base : Nat) (w : World) (hown : Own w base v l0) (hbase : base ≤ w.heap.size) (hb : l0.length ≤ 140737488351220) :
    Calls Tryz.prog 42 #[v, .int .u64 n] w fun e w' => ∃ v', e = .returned v' ∧ Ext w base v w' v' (l0 ++ Code.put n) := by
  go_enter Tryz.func42, Tryz.ntmps42
  go_wp2
  go_loopw [0, 1] (fun b x wr => ∃ (m : Nat) (l : List Int), x = .int .u64 m ∧ m ≤ n ∧ Hid (l0 ++ Code.put n = l ++ Code.put m) ∧ Ext w base v wr b l) (fun _ x _ => (intOf x).toNat)
  case atStart => exact ⟨n, l0, rfl, Nat.le_refl _, rfl, Ext.refl hown⟩
  case round =>
    obtain ⟨m, l, rfl, hm, HL, hE⟩ := hrel
    have hlen : l.length ≤ 140737488351230 := by
      have h1 := congrArg List.length HL.out
      have h2 := Code.put_len10 hn
      simp at h1
      omega
    have hsz := hE.grown.size
    by_cases h : m < 128
    · have HE2 : Hid (l0 ++ Code.put n = l ++ [(m : Int)]) := by show _ = _; rw [HL.out, Code.put_small h]
      have hby : Crc.Byte (m : Int) := by unfold Crc.Byte; omega
      have hmod : (m : Int) % 256 = m := by omega
      have hle : (m : Int) ≤ 127 := by omega
      go_wp2_with (at_builtin; go_must (refine wpList_append_one rfl (.tmp 16) (.tmp 19) rfl base _ l rfl hE.own m hby rfl (by omega) (by omega) ?_); intro v2 w2 hE2)
      go_ret
      exact ⟨_, rfl, by rw [HE2.out]; exact hE.trans hE2⟩
    · have HE2 : Hid (l0 ++ Code.put n = (l ++ [((m % 128 + 128 : Nat) : Int)]) ++ Code.put (m / 128)) := by show _ = _; rw [HL.out, Code.put_big (by omega), List.append_assoc]; rfl
      have hby : Crc.Byte ((m % 128 + 128 : Nat) : Int) := by unfold Crc.Byte; omega
      have hgt : (127 : Int) < (m : Int) := by omega
      have hw1 : IntKind.u64.wrap (128 + (m : Int) % 128) = ((m % 128 + 128 : Nat) : Int) := by rw [IntKind.wrap_u64]; omega
      have hw2 : ((m % 128 + 128 : Nat) : Int) % 256 = ((m % 128 + 128 : Nat) : Int) := by omega
      obtain ⟨q, hq⟩ : ∃ q, q = m % 128 + 128 := ⟨_, rfl⟩
      rw [← hq] at hby hw1 hw2 HE2
      clear hq h
      go_wp2_with (at_builtin; go_must (refine wpList_append_one rfl (.tmp 7) (.tmp 12) rfl base _ l rfl hE.own q hby rfl (by omega) (by omega) ?_); intro v2 w2 hE2)
      go_roundw
      case rel => exact ⟨m / 128, _, by go_num, by omega, HE2, hE.trans hE2⟩
      case measure => simp [intOf]; omega
end Go.Proofs.YtapdhkgeolcogaaGreatDoor.Cd
namespace Go.Proofs.YtapdhkgeolcogaaGreatDoor.Cd
open Go.RowKit

set_option maxRecDepth 100000 in
theorem refFrame_long (w : World) (a : Option Addr) (n c : Nat) (hn : (65536 : Int) < n) :
    Calls Tryz.prog 34 #[.slice a n c] w fun e w' => e = .returned (.tuple #[.slice none 0 0, .int .i64 1]) ∧ w' = w := by
  go_enter Tryz.func34, Tryz.ntmps34
  go_wp2
  go_ret2
  exact ⟨rfl, rfl⟩

def sk (m : Nat) : Nat → Nat
  | 0 => m
  | 1 => m / 256
  | 2 => m / 65536
  | 3 => m / 16777216
  | _ => 0

set_option maxRecDepth 100000 in
set_option maxHeartbeats 1600000 in
theorem refFrame_ok (w : World) (a : Option Addr) (c : Nat) (l : List Int) (hl : Rd w (.slice a l.length c) l) (hn : (l.length : Int) ≤ 65536) :
    Calls Tryz.prog 34 #[.slice a l.length c] w fun e w' => ∃ v', e = .returned (.tuple #[v', .int .i64 0]) ∧ Own w' w.heap.size v' (Code.frame l) ∧ w.grownBy w' none := by
  have hu : IntKind.u64.wrap (l.length : Int) = (l.length : Int) := by rw [IntKind.wrap_u64]; omega
  have hp := Code.put_len3 (n := l.length) (by omega)
  have HP : Hid ((Code.put l.length).length + l.length ≤ 140737488351200) := by show _ ≤ _; omega
  have HM := Crc.more_lt 0 (Code.head l)
  obtain ⟨P, hP⟩ : ∃ P, P = Code.put l.length := ⟨_, rfl⟩
  have hN := put_any (.slice none 0 0) [] l.length (by omega) w.heap.size w (own_nil w) (Nat.le_refl _) (by simp)
  rw [List.nil_append, ← hP] at hN
  rw [← hP] at HP
  obtain ⟨Hd, hHd⟩ : ∃ Hd, Hd = Code.head l := ⟨_, rfl⟩
  have HH : Hid (Hd = P ++ l) := by show _ = _; rw [hHd, hP]; rfl
  have HF : Hid (Code.frame l = Hd ++ Crc.low (Crc.more 0 Hd)) := by show _ = _; rw [hHd]; rfl
  rw [← hHd] at HM
  obtain ⟨m, hm⟩ : ∃ m, m = Crc.more 0 Hd := ⟨_, rfl⟩
  have HMM : Hid (m = Crc.more 0 Hd) := hm
  rw [← hm] at HM HF
  clear hP hHd hp hm
  have HM2 : Hid (m < 4294967296) := HM
  clear HM
  go_enter Tryz.func34, Tryz.ntmps34
  go_wp2_with (first
    | (go_at_call 42; go_must (refine hN.mono ?_); rintro e w1 ⟨v1, rfl, hE1⟩; have hz1 := hE1.grown.size; have hl1 := hl.grown hE1.grown (by cases (Value.ownBlock (.slice a l.length c)) <;> simp [Value.ownBlock]))
    | (at_builtin; go_must (refine wpList_append_rd rfl (.tmp 14) (.tmp 15) rfl w.heap.size _ P rfl hE1.own _ l rfl hl1 (by have := HP.out; omega) hz1 ?_); intro v2 w2 hO2 hg2; rw [← HH.out] at hO2; have gg2 : w.grownBy w2 none := grown_more (grown_more (grown_refl w none) hE1.grown (by simp [Value.ownBlock])) hg2 (fun b e => .inr (hE1.own.row.lt b e).1); have hz2 := gg2.size)
    | (go_at_call 60; go_must (refine (refsum_rd _ Hd _ (hO2.rd (by have := HP.out; rw [HH.out, List.length_append]; omega))).mono ?_); rintro e w3 ⟨rfl, rfl⟩; rw [← HMM.out]))
  clear hE1 hg2 hl1 hN
  go_loopw [4, 5, 6] (fun b s i wr => ∃ k : Nat, k ≤ 4 ∧ i = .int .i64 k ∧ s = .int .u32 (sk m k : Nat) ∧ Own wr w.heap.size b (Hd ++ (Crc.low m).take k) ∧ w.grownBy wr none) (fun _ _ i _ => 4 - (intOf i).toNat)
  case atStart => exact ⟨0, by omega, rfl, rfl, by simpa using hO2, gg2⟩
  case round =>
    obtain ⟨k, hk, rfl, rfl, hO, hg⟩ := hrel
    have hz := hg.size
    have HL : Hid ((Hd ++ (Crc.low m).take k).length + 1 ≤ 140737488351232) := by show _ ≤ _; have := HP.out; rw [List.length_append, List.length_take, Code.low_len, HH.out, List.length_append]; omega
    have step : ∀ (z : Int), (Crc.low m).take (k + 1) = (Crc.low m).take k ++ [z] → ∀ w2 v2, Ext wr w.heap.size u4 w2 v2 ((Hd ++ (Crc.low m).take k) ++ [z]) → Own w2 w.heap.size v2 (Hd ++ (Crc.low m).take (k + 1)) ∧ w.grownBy w2 none := by
      intro z e w2 v2 h
      rw [e, ← List.append_assoc]
      exact ⟨h.own, grown_more hg h.grown (fun b e => .inr (hO.row.lt b e).1)⟩
    have HO := hO
    obtain ⟨L, hL⟩ : ∃ L, L = Hd ++ (Crc.low m).take k := ⟨_, rfl⟩
    rw [← hL] at HO HL step
    have hcases : k = 0 ∨ k = 1 ∨ k = 2 ∨ k = 3 ∨ k = 4 := by omega
    have hm := HM2.out
    rcases hcases with rfl | rfl | rfl | rfl | rfl
    · have hby : Crc.Byte ((m : Int) % 256) := by unfold Crc.Byte; omega
      clear hO hL hm
      simp only [sk]
      go_wp2_with (at_builtin; go_must (refine wpList_append_one rfl (.tmp 23) (.tmp 26) rfl w.heap.size _ L rfl HO _ hby rfl HL.out hz ?_); intro v2 w2 hE2)
      go_roundw
      case rel => exact ⟨1, by omega, rfl, val_int (by show _ = ((m / 256 : Nat) : Int); have := HM2.out; omega), step _ rfl _ _ hE2⟩
      case measure => simp [intOf]
    · obtain ⟨q, hq⟩ : ∃ q, q = m / 256 := ⟨_, rfl⟩
      have hqs : sk m 1 = q := by simp only [sk]; exact hq.symm
      have hby : Crc.Byte ((q : Int) % 256) := by unfold Crc.Byte; omega
      have hel : (Crc.low m).take 2 = (Crc.low m).take 1 ++ [(q : Int) % 256] := by
        have : (q : Int) % 256 = ((m / 256 % 256 : Nat) : Int) := by omega
        rw [this]; rfl
      have HQ : Hid (q = m / 256) := hq
      have hq32 : q < 4294967296 := by omega
      have ST := step _ hel
      clear hO hL hm hq step hel
      rw [hqs]
      go_wp2_with (at_builtin; go_must (refine wpList_append_one rfl (.tmp 23) (.tmp 26) rfl w.heap.size _ L rfl HO _ hby rfl HL.out hz ?_); intro v2 w2 hE2)
      go_roundw
      case rel => exact ⟨2, by omega, rfl, val_int (by simp only [sk]; have h1 := HM2.out; have h2 := HQ.out; omega), ST _ _ hE2⟩
      case measure => simp [intOf]
    · obtain ⟨q, hq⟩ : ∃ q, q = m / 65536 := ⟨_, rfl⟩
      have hqs : sk m 2 = q := by simp only [sk]; exact hq.symm
      have hby : Crc.Byte ((q : Int) % 256) := by unfold Crc.Byte; omega
      have hel : (Crc.low m).take 3 = (Crc.low m).take 2 ++ [(q : Int) % 256] := by
        have : (q : Int) % 256 = ((m / 65536 % 256 : Nat) : Int) := by omega
        rw [this]; rfl
      have HQ : Hid (q = m / 65536) := hq
      have hq32 : q < 4294967296 := by omega
      have ST := step _ hel
      clear hO hL hm hq step hel
      rw [hqs]
      go_wp2_with (at_builtin; go_must (refine wpList_append_one rfl (.tmp 23) (.tmp 26) rfl w.heap.size _ L rfl HO _ hby rfl HL.out hz ?_); intro v2 w2 hE2)
      go_roundw
      case rel => exact ⟨3, by omega, rfl, val_int (by simp only [sk]; have h1 := HM2.out; have h2 := HQ.out; omega), ST _ _ hE2⟩
      case measure => simp [intOf]
    · obtain ⟨q, hq⟩ : ∃ q, q = m / 16777216 := ⟨_, rfl⟩
      have hqs : sk m 3 = q := by simp only [sk]; exact hq.symm
      have hby : Crc.Byte ((q : Int) % 256) := by unfold Crc.Byte; omega
      have hel : (Crc.low m).take 4 = (Crc.low m).take 3 ++ [(q : Int) % 256] := by
        have : (q : Int) % 256 = ((m / 16777216 : Nat) : Int) := by omega
        rw [this]; rfl
      have HQ : Hid (q = m / 16777216) := hq
      have hq32 : q < 4294967296 := by omega
      have ST := step _ hel
      clear hO hL hm hq step hel
      rw [hqs]
      go_wp2_with (at_builtin; go_must (refine wpList_append_one rfl (.tmp 23) (.tmp 26) rfl w.heap.size _ L rfl HO _ hby rfl HL.out hz ?_); intro v2 w2 hE2)
      go_roundw
      case rel => exact ⟨4, by omega, rfl, val_int (by simp only [sk]; have h1 := HM2.out; have h2 := HQ.out; omega), ST _ _ hE2⟩
      case measure => simp [intOf]
    · clear step HO HL hm
      go_wp2
      go_ret2
      exact ⟨_, rfl, by rw [HF.out]; exact hO, hg⟩
end Go.Proofs.YtapdhkgeolcogaaGreatDoor.Cd
