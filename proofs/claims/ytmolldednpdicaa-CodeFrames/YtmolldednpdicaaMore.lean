/- What 'More' and 'Sum' answer, of a table and of any bytes: the sum as it is reckoned; nothing but the table's own block turns, and that only the first time. -/
import Derived.Test.YtmolldednpdicaaAsk
namespace Go.Proofs.Ytmolldednpdicaa
open Go.RowKit

/-- The value v is a slice whose elements are the bytes l. -/
structure Rd (w : World) (v : Value) (l : List Int) : Prop where
  bytes : Crc.Bytes l
  len : l.length ≤ 9223372036854775807
  val : (l = [] ∧ (v = .slice none 0 0 ∨ ∃ a cap, v = .slice (some a) 0 cap)) ∨ ∃ b off cap, v = .slice (some ⟨b, off, none⟩) l.length cap ∧ ∀ i, i < l.length → w.cell? ⟨b, off + i, none⟩ = some (.int .u8 (l.getD i 0))

theorem Rd.grown {w w' : World} {v : Value} {l : List Int} {row : Option Nat} (h : Rd w v l) (g : w.grownBy w' row) (hr : v.ownBlock = none ∨ v.ownBlock ≠ row) : Rd w' v l := by
  refine ⟨h.bytes, h.len, ?_⟩
  rcases h.val with hn | ⟨b, off, cap, rfl, hc⟩
  · exact .inl hn
  · refine .inr ⟨b, off, cap, rfl, fun i hi => g.cell (hc i hi) ?_⟩
    simpa [Value.ownBlock] using hr

set_option maxRecDepth 100000 in
set_option maxHeartbeats 400000 in
theorem more_of (tb : Nat) (s : Nat) (hs : s < 4294967296) (b off cap : Nat) (l : List Int) (hb : Crc.Bytes l) (hl : l.length ≤ 9223372036854775807) (w : World) (P : World → Prop)
    (hask : Calls Try.prog 37 #[.pointer (some ⟨tb, 0, none⟩)] w fun e w1 => e = .returned (.pointer (some ⟨tb, 3, none⟩)) ∧ P w1)
    (hP : ∀ w1, P w1 → Ready w1 tb ∧ ∀ i, i < l.length → w1.cell? ⟨b, off + i, none⟩ = some (.int .u8 (l.getD i 0))) :
    Calls Try.prog 33 #[.pointer (some ⟨tb, 0, none⟩), .int .u32 s, .slice (some ⟨b, off, none⟩) l.length cap] w fun e w' => e = .returned (.int .u32 (Crc.more s l : Nat)) ∧ P w' := by
  go_enter Try.func33, Try.ntmps33
  go_wp2_with (go_at_call 37; refine hask.mono ?_; rintro e w1 ⟨rfl, hw1⟩)
  obtain ⟨hR, hc⟩ := hP w1 hw1
  clear hP hask
  have hn := Crc.not_u32 s hs
  go_loop [8, 17] (fun r i => ∃ k : Nat, k ≤ l.length ∧ i = .int .i64 k ∧ r = .int .u32 (Crc.run (Crc.inv s) (l.take k) : Nat)) (fun _ i => l.length - (intOf i).toNat)
  case atStart => exact ⟨0, Nat.zero_le _, rfl, val_int hn⟩
  case round =>
    clear hn
    obtain ⟨k, hk, rfl, rfl⟩ := hrel
    by_cases hlk : k < l.length
    · have hck := hc k hlk
      obtain ⟨x, hx, hxe, htk⟩ := Crc.byte_of hb k hlk
      rw [hxe] at hck
      have hr : Crc.run (Crc.inv s) (l.take k) < 4294967296 := Crc.run_lt _ (hb.take k) _ (Crc.inv_lt _)
      obtain ⟨r, HR⟩ : ∃ r, Hid (Crc.run (Crc.inv s) (l.take k) = r) := ⟨_, rfl⟩
      rw [HR.out] at hr ⊢
      have H2 : Hid (Crc.run (Crc.inv s) (l.take (k + 1)) = Crc.stp r x) := by
        show _ = _
        rw [htk, Crc.run_snoc, HR.out]; rfl
      have h8 := Crc.xor_u8 r x hx
      have hy := Crc.xor8_lt (r := r) hx
      have hst := hR.steps _ hy
      have htl : Crc.shN 8 (r % 256 ^^^ x) < 4294967296 := Crc.shN_lt 8 (by omega)
      have h32 := Crc.xor_u32 r _ hr htl
      have HS : Hid (r / 256 ^^^ Crc.shN 8 (r % 256 ^^^ x) = Crc.stp r x) := rfl
      obtain ⟨y, hyy⟩ : ∃ y, y = r % 256 ^^^ x := ⟨_, rfl⟩
      rw [← hyy] at h8 hy hst htl h32 HS
      obtain ⟨t, ht⟩ : ∃ t, t = Crc.shN 8 y := ⟨_, rfl⟩
      rw [← ht] at hst htl h32 HS
      obtain ⟨z, hz⟩ : ∃ z, z = r / 256 ^^^ t := ⟨_, rfl⟩
      rw [← hz] at h32 HS
      clear hyy ht hz hxe htk hc hR
      go_wp2
      go_round
      case rel => exact ⟨k + 1, by omega, by go_num, val_int (by rw [H2.out, ← HS.out])⟩
      case measure => simp [intOf]; omega
    · obtain rfl : k = l.length := by omega
      have hr : Crc.run (Crc.inv s) l < 4294967296 := Crc.run_lt _ hb _ (Crc.inv_lt _)
      have hnn := Crc.not_u32 _ hr
      have ht : l.take l.length = l := List.take_length
      rw [ht]
      clear hc hR ht
      go_wp2
      go_ret
      exact ⟨rfl, hw1⟩

set_option maxRecDepth 100000 in
theorem more_nil (tb : Nat) (s : Nat) (hs : s < 4294967296) (a : Option Addr) (cap : Nat) (w : World) (P : World → Prop)
    (hask : Calls Try.prog 37 #[.pointer (some ⟨tb, 0, none⟩)] w fun e w1 => e = .returned (.pointer (some ⟨tb, 3, none⟩)) ∧ P w1) :
    Calls Try.prog 33 #[.pointer (some ⟨tb, 0, none⟩), .int .u32 s, .slice a 0 cap] w fun e w' => e = .returned (.int .u32 (Crc.more s [] : Nat)) ∧ P w' := by
  go_enter Try.func33, Try.ntmps33
  go_wp2_with (go_at_call 37; refine hask.mono ?_; rintro e w1 ⟨rfl, hw1⟩)
  clear hask
  have hn := Crc.not_u32 s hs
  go_loop [8, 17] (fun r i => i = .int .i64 0 ∧ r = .int .u32 (Crc.inv s : Nat)) (fun _ _ => 0)
  case atStart => exact ⟨rfl, val_int hn⟩
  case round =>
    clear hn
    obtain ⟨rfl, rfl⟩ := hrel
    have hnn := Crc.not_u32 _ (Crc.inv_lt s)
    go_wp2
    go_ret
    exact ⟨rfl, hw1⟩

/-- 'More', of any bytes, by whatever asking the table does. -/
theorem more_rd (tb : Nat) (s : Nat) (hs : s < 4294967296) (v : Value) (l : List Int) (w : World) (P : World → Prop) (hv : Rd w v l)
    (hask : Calls Try.prog 37 #[.pointer (some ⟨tb, 0, none⟩)] w fun e w1 => e = .returned (.pointer (some ⟨tb, 3, none⟩)) ∧ P w1)
    (hP : ∀ w1, P w1 → Ready w1 tb ∧ Rd w1 v l) :
    Calls Try.prog 33 #[.pointer (some ⟨tb, 0, none⟩), .int .u32 s, v] w fun e w' => e = .returned (.int .u32 (Crc.more s l : Nat)) ∧ P w' := by
  rcases hv.val with ⟨rfl, rfl | ⟨a, cap, rfl⟩⟩ | ⟨b, off, cap, rfl, hc⟩
  · exact more_nil tb s hs none 0 w P hask
  · exact more_nil tb s hs (some a) cap w P hask
  · refine more_of tb s hs b off cap l hv.bytes hv.len w P hask fun w1 h1 => ⟨(hP w1 h1).1, fun i hi => ?_⟩
    rcases (hP w1 h1).2.val with ⟨rfl, _⟩ | ⟨b', off', cap', e, hc'⟩
    · simp at hi
    · simp only [Value.slice.injEq, Option.some.injEq, Addr.mk.injEq] at e
      obtain ⟨⟨rfl, rfl, _⟩, _, rfl⟩ := e
      exact hc' i hi

theorem more_first (tb : Nat) (s : Nat) (hs : s < 4294967296) (v : Value) (l : List Int) (w : World) (hv : Rd w v l) (h : Fresh w tb) (hne : v.ownBlock ≠ some tb) :
    Calls Try.prog 33 #[.pointer (some ⟨tb, 0, none⟩), .int .u32 s, v] w fun e w' => e = .returned (.int .u32 (Crc.more s l : Nat)) ∧ Made w w' tb :=
  more_rd tb s hs v l w _ hv (ask_first tb w h) fun _ h1 => ⟨h1.ready, hv.grown h1.grown (.inr hne)⟩

theorem more_again (tb : Nat) (s : Nat) (hs : s < 4294967296) (v : Value) (l : List Int) (w : World) (hv : Rd w v l) (h : Ready w tb) :
    Calls Try.prog 33 #[.pointer (some ⟨tb, 0, none⟩), .int .u32 s, v] w fun e w' => e = .returned (.int .u32 (Crc.more s l : Nat)) ∧ w' = w :=
  more_rd tb s hs v l w _ hv (ask_again tb w h) fun w1 h1 => by subst h1; exact ⟨h, hv⟩

theorem sum_of (tb : Nat) (v : Value) (l : List Int) (w : World) (P : World → Prop)
    (hmore : Calls Try.prog 33 #[.pointer (some ⟨tb, 0, none⟩), .int .u32 0, v] w fun e w' => e = .returned (.int .u32 (Crc.more 0 l : Nat)) ∧ P w') :
    Calls Try.prog 25 #[.pointer (some ⟨tb, 0, none⟩), v] w fun e w' => e = .returned (.int .u32 (Crc.more 0 l : Nat)) ∧ P w' := by
  go_enter Try.func25, Try.ntmps25
  go_wp2_with (go_at_call 33; refine hmore.mono ?_; rintro e w1 ⟨rfl, hw1⟩)
  go_ret
  exact ⟨rfl, hw1⟩

theorem sum_first (tb : Nat) (v : Value) (l : List Int) (w : World) (hv : Rd w v l) (h : Fresh w tb) (hne : v.ownBlock ≠ some tb) :
    Calls Try.prog 25 #[.pointer (some ⟨tb, 0, none⟩), v] w fun e w' => e = .returned (.int .u32 (Crc.more 0 l : Nat)) ∧ Made w w' tb :=
  sum_of tb v l w _ (more_first tb 0 (by decide) v l w hv h hne)

theorem sum_again (tb : Nat) (v : Value) (l : List Int) (w : World) (hv : Rd w v l) (h : Ready w tb) :
    Calls Try.prog 25 #[.pointer (some ⟨tb, 0, none⟩), v] w fun e w' => e = .returned (.int .u32 (Crc.more 0 l : Nat)) ∧ w' = w :=
  sum_of tb v l w _ (more_again tb 0 (by decide) v l w hv h)
end Go.Proofs.Ytmolldednpdicaa
