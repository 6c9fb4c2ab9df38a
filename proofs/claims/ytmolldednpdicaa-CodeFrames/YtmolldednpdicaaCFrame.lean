/- What the writing of a sum, of a frame answers. -/
import Derived.Test.YtmolldednpdicaaCFl
import Derived.Test.YtmolldednpdicaaLaws
namespace Go.Proofs.Ytmolldednpdicaa
open Go.RowKit

namespace Code
/-- The frame around some bytes. -/
def head (l : List Int) : List Int := put l.length ++ l
def frame (l : List Int) : List Int := head l ++ Crc.low (Crc.more 0 (head l))
theorem head_bytes {l : List Int} (h : Crc.Bytes l) : Crc.Bytes (head l) := (put_bytes _).append h
theorem low_len (m : Nat) : (Crc.low m).length = 4 := rfl
theorem frame_bytes {l : List Int} (h : Crc.Bytes l) : Crc.Bytes (frame l) := (head_bytes h).append (Crc.low_bytes _ (Crc.more_lt _ _))
theorem frame_len (l : List Int) : (frame l).length = (put l.length).length + l.length + 4 := by unfold frame head; simp [low_len]; omega
end Code

set_option maxRecDepth 100000 in
set_option maxHeartbeats 800000 in
theorem appendSum_any (v : Value) (l0 : List Int) (m : Nat) (hm : m < 4294967296) (base : Nat) (w : World) (hown : Own w base v l0) (hbase : base ≤ w.heap.size) (hb : l0.length ≤ 140737488351220) :
    Calls Try.prog 23 #[v, .int .u32 m] w fun e w' => ∃ v', e = .returned v' ∧ Ext w base v w' v' (l0 ++ Crc.low m) := by
  go_enter Try.func23, Try.ntmps23
  go_wp2
  go_loopw [0, 6] (fun b i wr => ∃ k : Nat, k ≤ 4 ∧ i = .int .i64 k ∧ Ext w base v wr b (l0 ++ (Crc.low m).take k)) (fun _ i _ => 4 - (intOf i).toNat)
  case atStart => exact ⟨0, by omega, rfl, by simpa using Ext.refl hown⟩
  case round =>
    obtain ⟨k, hk, rfl, hE⟩ := hrel
    have hz := hE.grown.size
    have HL : Hid ((l0 ++ (Crc.low m).take k).length + 1 ≤ 140737488351232) := by show _ ≤ _; rw [List.length_append, List.length_take, Code.low_len]; omega
    have step : ∀ (z : Int) (hz : Crc.Byte z), (Crc.low m).take (k + 1) = (Crc.low m).take k ++ [z] → ∀ w2 v2, Ext wr base u0 w2 v2 ((l0 ++ (Crc.low m).take k) ++ [z]) → Ext w base v w2 v2 (l0 ++ (Crc.low m).take (k + 1)) := by
      intro z hz e w2 v2 h
      rw [e, ← List.append_assoc]
      exact hE.trans h
    have HO := hE.own
    obtain ⟨L, hL⟩ : ∃ L, L = l0 ++ (Crc.low m).take k := ⟨_, rfl⟩
    rw [← hL] at HO HL step
    have hcases : k = 0 ∨ k = 1 ∨ k = 2 ∨ k = 3 ∨ k = 4 := by omega
    rcases hcases with rfl | rfl | rfl | rfl | rfl
    · have hby : Crc.Byte ((m : Int) % 256) := by unfold Crc.Byte; omega
      clear hE hL
      go_wp2_with (at_builtin; go_must (refine wpList_append_one rfl (.tmp 9) (.tmp 15) rfl base _ L rfl HO _ hby rfl HL.out (by omega) ?_); intro v2 w2 hE2)
      go_roundw
      case rel => exact ⟨1, by omega, rfl, step _ hby rfl _ _ hE2⟩
      case measure => simp [intOf]
    · have hby : Crc.Byte ((m : Int) / 256 % 256) := by unfold Crc.Byte; omega
      clear hE hL
      go_wp2_with (at_builtin; go_must (refine wpList_append_one rfl (.tmp 9) (.tmp 15) rfl base _ L rfl HO _ hby rfl HL.out (by omega) ?_); intro v2 w2 hE2)
      go_roundw
      case rel => exact ⟨2, by omega, rfl, step _ hby rfl _ _ hE2⟩
      case measure => simp [intOf]
    · have hby : Crc.Byte ((m : Int) / 65536 % 256) := by unfold Crc.Byte; omega
      clear hE hL
      go_wp2_with (at_builtin; go_must (refine wpList_append_one rfl (.tmp 9) (.tmp 15) rfl base _ L rfl HO _ hby rfl HL.out (by omega) ?_); intro v2 w2 hE2)
      go_roundw
      case rel => exact ⟨3, by omega, rfl, step _ hby rfl _ _ hE2⟩
      case measure => simp [intOf]
    · have hby : Crc.Byte ((m : Int) / 16777216) := by unfold Crc.Byte; omega
      have hmod : (m : Int) / 16777216 % 256 = (m : Int) / 16777216 := by omega
      clear hE hL
      go_wp2_with (at_builtin; go_must (refine wpList_append_one rfl (.tmp 9) (.tmp 15) rfl base _ L rfl HO _ hby rfl HL.out (by omega) ?_); intro v2 w2 hE2)
      go_roundw
      case rel => exact ⟨4, by omega, rfl, step _ hby rfl _ _ hE2⟩
      case measure => simp [intOf]
    · clear step HO HL
      go_wp2
      go_ret
      exact ⟨_, rfl, hE⟩

theorem Made.keep {w w' : World} {tb base : Nat} {v : Value} {l : List Int} (h : Made w w' tb) (ho : Own w base v l) (hne : v.ownBlock ≠ some tb) : Own w' base v l :=
  ho.grown h.grown (.inr hne)

set_option maxRecDepth 100000 in
theorem frame_long (w : World) (a : Option Addr) (n c : Nat) (hn : (65536 : Int) < n) :
    Calls Try.prog 12 #[.slice a n c] w fun e w' => e = .returned (.tuple #[.slice none 0 0, .int .i64 1]) ∧ w' = w := by
  go_enter Try.func12, Try.ntmps12
  go_wp2
  go_ret2
  exact ⟨rfl, rfl⟩

set_option maxRecDepth 100000 in
set_option maxHeartbeats 800000 in
theorem frame_ok (w : World) (a : Option Addr) (c : Nat) (l : List Int) (hl : Rd w (.slice a l.length c) l) (hn : (l.length : Int) ≤ 65536) :
    Calls Try.prog 12 #[.slice a l.length c] w fun e w' => ∃ v', e = .returned (.tuple #[v', .int .i64 0]) ∧ Own w' w.heap.size v' (Code.frame l) ∧ w.grownBy w' none := by
  have hu : IntKind.u64.wrap (l.length : Int) = (l.length : Int) := by rw [IntKind.wrap_u64]; omega
  have hp := Code.put_len3 (n := l.length) (by omega)
  have HP : Hid ((Code.put l.length).length + l.length ≤ 140737488351200) := by show _ ≤ _; omega
  have HM := Crc.more_lt 0 (Code.head l)
  obtain ⟨P, hP⟩ : ∃ P, P = Code.put l.length := ⟨_, rfl⟩
  have hN := number_any (.slice none 0 0) [] l.length (by omega) w.heap.size w (own_nil w) (Nat.le_refl _) (by simp)
  rw [List.nil_append, ← hP] at hN
  rw [← hP] at HP
  obtain ⟨Hd, hHd⟩ : ∃ Hd, Hd = Code.head l := ⟨_, rfl⟩
  have HH : Hid (Hd = P ++ l) := by show _ = _; rw [hHd, hP]; rfl
  have HF : Hid (Code.frame l = Hd ++ Crc.low (Crc.more 0 Hd)) := by show _ = _; rw [hHd]; rfl
  rw [← hHd] at HM
  have HMM : Hid (Crc.more 0 Hd < 4294967296) := HM
  clear hP hHd hp HM
  go_enter Try.func12, Try.ntmps12
  go_wp2_with (first
    | (go_at_call 22; go_must (refine hN.mono ?_); rintro e w1 ⟨v1, rfl, hE1⟩; have hz1 := hE1.grown.size; have hl1 := hl.grown hE1.grown (by cases (Value.ownBlock (.slice a l.length c)) <;> simp [Value.ownBlock]))
    | (at_builtin; go_must (refine wpList_append_rd rfl (.tmp 11) (.tmp 12) rfl w.heap.size _ P rfl hE1.own _ l rfl hl1 (by have := HP.out; omega) hz1 ?_); intro v2 w2 hO2 hg2; rw [← HH.out] at hO2; have gg2 : w.grownBy w2 none := grown_more (grown_more (grown_refl w none) hE1.grown (by simp [Value.ownBlock])) hg2 (fun b e => .inr (hE1.own.row.lt b e).1); have hz2 := gg2.size)
    | (go_at_call 24; refine (new_any _).mono ?_; rintro e w' ⟨rfl, rfl⟩; have hO3 := own_alloc hO2 (.cells tab0 72); have hF3 := fresh_new w2; have hne : v2.ownBlock ≠ some w2.heap.size := fun e => by { have := hO2.lt e; omega })
    | (go_at_call 25; go_must (refine (sum_first w2.heap.size _ Hd _ (hO3.rd (by have := HP.out; rw [HH.out, List.length_append]; omega)) hF3 hne).mono ?_); rintro e w4 ⟨rfl, hM⟩; have hO4 := hM.keep hO3 hne; have hz4 := hM.size)
    | (go_at_call 23; go_must (refine (appendSum_any _ Hd _ HMM.out w.heap.size _ hO4 (by rw [hz4]; simp; omega) (by have := HP.out; rw [HH.out, List.length_append]; omega)).mono ?_); rintro e w5 ⟨v5, rfl, hE5⟩))
  go_ret2
  refine ⟨_, rfl, by rw [HF.out]; exact hE5.own, ?_⟩
  have gg4 : w.grownBy w4 none := grown_more (grown_alloc gg2 _) hM.grown (fun b e => .inr (by injection e with e; omega))
  exact grown_more gg4 hE5.grown (fun b e => .inr (hO4.row.lt b e).1)
end Go.Proofs.Ytmolldednpdicaa
