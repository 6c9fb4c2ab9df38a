/- What a table's Once does, asked by one goroutine: the first time the steps are made, later nothing is done. What asking a table does: the first time the steps are made, later nothing is done. What 'More' and 'Sum' answer, of a table and of any bytes: the sum as it is reckoned; nothing but the table's own block turns, and that only the first time. A new slice read as bytes; what making a table leaves as it was. -/
import Derived.Test.YtapdhkgeolcogaaGreatDoorGc
import Derived.Defers
import Derived.RegionCalls
namespace Go.Proofs.YtapdhkgeolcogaaGreatDoor.Cd
open Go.RowKit

theorem disable (w : World) : (callFunc 183 #[]).run Tryz.prog w = .ok (.value (.tuple #[])) w := run_call_mark0 Tryz.func183 (by kernel_rfl) (by kernel_rfl) (by kernel_rfl) .disable (by kernel_rfl) w
theorem enable (w : World) : (callFunc 185 #[]).run Tryz.prog w = .ok (.value (.tuple #[])) w := run_call_mark0 Tryz.func185 (by kernel_rfl) (by kernel_rfl) (by kernel_rfl) .enable (by kernel_rfl) w
theorem acquire (a : Addr) (w : World) : (callFunc 186 #[.pointer (some a)]).run Tryz.prog w = .ok (.value (.tuple #[])) w := run_call_marked Tryz.func186 (by kernel_rfl) (by kernel_rfl) (by kernel_rfl) .acquire (by kernel_rfl) a w
theorem releaseMerge (a : Addr) (w : World) : (callFunc 188 #[.pointer (some a)]).run Tryz.prog w = .ok (.value (.tuple #[])) w := run_call_marked Tryz.func188 (by kernel_rfl) (by kernel_rfl) (by kernel_rfl) .releaseMerge (by kernel_rfl) a w

/-- The Once's word is stored, by a deferred call: it holds 1. -/
theorem store_deferred (a : Addr) (x : Value) (u : FrameMode) (w : World) (hc : w.cell? a = some x) (hz : w.frozen? a = false) :
    CallsD Tryz.prog 178 #[.pointer (some a), .bool true] u w fun e u' w' => u' = u ∧ (e = .returned (.tuple #[]) ∧ w' = (w.setCell a (.int .u32 1)).drew) := by
  have hc' : w.drew.cell? a = some x := by go_simp
  have hz' : w.drew.frozen? a = false := by go_simp
  have hst := run_call_store (P := Tryz.prog) Tryz.func181 (by kernel_rfl) (by kernel_rfl) (by kernel_rfl) (by kernel_rfl) (k := .u32) (y := 1) hc' hz'
  go_enter_d Tryz.func178, Tryz.ntmps178
  go_wp2
  go_region_calls
  all_goals (go_end0; exact ⟨rfl, rfl⟩)

set_option maxRecDepth 100000 in
/-- The lock is let go, by a deferred call, nobody waiting. -/
theorem unlock_deferred (a : Addr) (u : FrameMode) (w : World) (hc : w.cell? a = some (.int .i32 1)) (hz : w.frozen? a = false) :
    CallsD Tryz.prog 177 #[.pointer (some a)] u w fun e u' w' => u' = u ∧ (e = .returned (.tuple #[]) ∧ w' = w.setCell a (.int .i32 0)) := by
  have hd := disable
  have he := enable
  have hr := releaseMerge
  have hadd := run_call_add (P := Tryz.prog) Tryz.func189 (by kernel_rfl) (by kernel_rfl) (by kernel_rfl) .i32 (by kernel_rfl) (y := -1) (s := 0) hc hz (by simp [go_sem]; rfl)
  have hcv := run_convert_to_unsafe (P := Tryz.prog) (src := 242) (dst := 246) Tryz.underlying242 Tryz.underlying246 (by kernel_rfl) hc
  go_enter_d Tryz.func177, Tryz.ntmps177
  go_wp2
  go_end0
  go_wp2
  go_end0
  exact ⟨rfl, rfl⟩

set_option maxRecDepth 100000 in
/-- The lock is taken, when it is free. -/
theorem lock_free (a : Addr) (w : World) (hc : w.cell? a = some (.int .i32 0)) (hz : w.frozen? a = false) :
    Calls Tryz.prog 176 #[.pointer (some a)] w fun e w' => e = .returned (.tuple #[]) ∧ w' = w.setCell a (.int .i32 1) := by
  have hd := disable
  have he := enable
  have ha := acquire
  have hcas := run_call_cas_hit (P := Tryz.prog) Tryz.func184 (by kernel_rfl) (by kernel_rfl) (by kernel_rfl) .i32 (by kernel_rfl) (y := 1) hc hz
  have hc' : (w.setCell a (.int .i32 1)).cell? a = some (.int .i32 1) := World.cell?_setCell_same w a _ hc
  have hcv := run_convert_to_unsafe (P := Tryz.prog) (src := 242) (dst := 246) Tryz.underlying242 Tryz.underlying246 (by kernel_rfl) hc'
  go_enter Tryz.func176, Tryz.ntmps176
  go_wp2
  first | go_end0 | (simp only [Exit.inBlock, Exit.then]; refine bodyPost_ret (results_none rfl _ _ _) rfl ?_) | refine bodyPost_ret (results_none rfl _ _ _) rfl ?_
  go_wp2
  go_end0
  exact ⟨rfl, rfl⟩
end Go.Proofs.YtapdhkgeolcogaaGreatDoor.Cd
namespace Go.Proofs.YtapdhkgeolcogaaGreatDoor.Cd
open Go.RowKit

/-- The table b is made; nothing but its block has turned, and no block is new. -/
structure Made (w w' : World) (b : Nat) : Prop where
  grown : w.grownBy w' (some b)
  size : w'.heap.size = w.heap.size
  ready : Ready w' b
  frozen : ∀ p, w'.frozen? p = w.frozen? p

theorem other_off {b i j : Nat} (h : i ≠ j) : (⟨b, i, none⟩ : Addr) ≠ ⟨b, j, none⟩ := fun e => h (by injection e)

theorem made_of {w w2 : World} {b : Nat} (h : Fresh w b) (hF : FillTo (w.setCell ⟨b, 1, none⟩ (.int .i32 1)) w2 b 256) :
    Made w ((w2.setCell ⟨b, 0, none⟩ (.int .u32 1)).drew.setCell ⟨b, 1, none⟩ (.int .i32 0)) b := by
  have c0 : w2.cell? ⟨b, 0, none⟩ = some (.int .u32 0) := by rw [hF.head 0 (by omega), World.cell?_setCell_other _ _ _ _ (other_off (by omega))]; exact h.done
  refine ⟨?_, ?_, ⟨?_, fun i hi => ?_⟩, fun p => ?_⟩
  · exact grown_trans (grown_trans (grown_set w ⟨b, 1, none⟩ _) hF.grown) (grown_trans (grown_drew (grown_set _ ⟨b, 0, none⟩ _)) (grown_set _ ⟨b, 1, none⟩ _))
  · rw [size_set]; show (w2.setCell _ _).heap.size = _; rw [size_set, hF.size, size_set]
  · rw [World.cell?_setCell_other _ _ _ _ (other_off (by omega)), World.cell?_drew]; exact World.cell?_setCell_same _ _ _ c0
  · rw [World.cell?_setCell_other _ _ _ _ (other_off (by omega)), World.cell?_drew, World.cell?_setCell_other _ _ _ _ (other_off (by omega))]; exact hF.done i hi
  · rw [World.frozen?_setCell, World.frozen?_drew, World.frozen?_setCell, hF.frozen, World.frozen?_setCell]

set_option maxRecDepth 100000 in
set_option maxHeartbeats 1600000 in
theorem slow_first (b : Nat) (w : World) (h : Fresh w b) :
    Calls Tryz.prog 169 #[.pointer (some ⟨b, 0, none⟩), .func (.func 158) #[.pointer (some ⟨b, 0, none⟩)] #[]] w fun e w' => e = .returned (.tuple #[]) ∧ Made w w' b := by
  have h0 := h.done
  have h1 := h.lock
  have f1 := h.free 1
  have hl := run_call_load (P := Tryz.prog) Tryz.func175 (by kernel_rfl) (by kernel_rfl) (by kernel_rfl) .u32 (by kernel_rfl) (w := w.setCell ⟨b, 1, none⟩ (.int .i32 1)) (a := ⟨b, 0, none⟩) (x := 0) ((World.cell?_setCell_other _ ⟨b, 1, none⟩ ⟨b, 0, none⟩ _ (by simp)).trans h0)
  have hnot : ∀ (x : Bool) (w : World), (Op.unary .not (.bool x)).run Tryz.prog w = .ok (.bool (!x)) w := fun _ _ => rfl
  have hs : ∀ i, i < 256 → ∃ z, (w.setCell ⟨b, 1, none⟩ (.int .i32 1)).cell? ⟨b, 3 + i, none⟩ = some (.int .u32 z) := fun i hi => (h.steps i hi).imp fun z hz => (World.cell?_setCell_other _ _ _ _ (other_off (by omega))).trans hz
  have hfree : ∀ j, (w.setCell ⟨b, 1, none⟩ (.int .i32 1)).frozen? ⟨b, j, none⟩ = false := fun j => by rw [World.frozen?_setCell]; exact h.free j
  have HS := fill_any b _ hs hfree
  clear hs hfree
  go_enter_defers Tryz.func169, Tryz.ntmps169
  go_wp2_with (first | (go_at_call 176; refine (lock_free ⟨b, 1, none⟩ _ h1 f1).mono ?_; rintro e w' ⟨rfl, rfl⟩) | (go_at_call 168; go_in) | (go_at_call 158; refine HS.mono ?_; rintro e w2 ⟨rfl, hF⟩))
  -- the door: two deferred calls, the last laid first
  have c0 : w2.cell? ⟨b, 0, none⟩ = some (.int .u32 0) := by rw [hF.head 0 (by omega), World.cell?_setCell_other _ _ _ _ (other_off (by omega))]; exact h0
  have c1 : w2.cell? ⟨b, 1, none⟩ = some (.int .i32 1) := by rw [hF.head 1 (by omega)]; exact World.cell?_setCell_same _ _ _ h1
  have z0 : w2.frozen? ⟨b, 0, none⟩ = false := by rw [hF.frozen, World.frozen?_setCell]; exact h.free 0
  have z1 : w2.frozen? ⟨b, 1, none⟩ = false := by rw [hF.frozen, World.frozen?_setCell]; exact h.free 1
  have hM := made_of h hF
  refine leaves_cons (f := 178) (args := #[.pointer (some ⟨b, 0, none⟩), .bool true]) (by simp) (by simp [go_sem]) ?_
  refine (store_deferred ⟨b, 0, none⟩ (.int .u32 0) .returning _ c0 z0).mono ?_
  rintro e u' w'' ⟨rfl, rfl, rfl⟩
  refine leaves_cons (f := 177) (args := #[.pointer (some ⟨b, 1, none⟩)]) (by simp [settle]) (by simp [go_sem]) ?_
  refine (unlock_deferred ⟨b, 1, none⟩ _ _ ?_ ?_).mono ?_
  · rw [World.cell?_drew, World.cell?_setCell_other _ _ _ _ (other_off (by omega))]; exact c1
  · rw [World.frozen?_drew, World.frozen?_setCell]; exact z1
  rintro e u' w'' ⟨rfl, rfl, rfl⟩
  simp [Leaves, settle, results, Tryz.results169]
  exact hM

set_option maxRecDepth 100000 in
set_option maxHeartbeats 1600000 in
theorem do_first (b : Nat) (w : World) (h : Fresh w b) :
    Calls Tryz.prog 157 #[.pointer (some ⟨b, 0, none⟩), .func (.func 158) #[.pointer (some ⟨b, 0, none⟩)] #[]] w fun e w' => e = .returned (.tuple #[]) ∧ Made w w' b := by
  have hl := run_call_load (P := Tryz.prog) Tryz.func175 (by kernel_rfl) (by kernel_rfl) (by kernel_rfl) .u32 (by kernel_rfl) h.done
  have hnot : ∀ (x : Bool) (w : World), (Op.unary .not (.bool x)).run Tryz.prog w = .ok (.bool (!x)) w := fun _ _ => rfl
  go_enter Tryz.func157, Tryz.ntmps157
  go_wp2_with (first | (go_at_call 169; refine (slow_first b _ h).mono ?_; rintro e w' ⟨rfl, hM⟩) | (go_at_call 168; go_in))
  go_end0
  exact ⟨rfl, hM⟩

theorem do_done (b : Nat) (fv : Value) (w : World) (h : Ready w b) :
    Calls Tryz.prog 157 #[.pointer (some ⟨b, 0, none⟩), fv] w fun e w' => e = .returned (.tuple #[]) ∧ w' = w := by
  have hl := run_call_load (P := Tryz.prog) Tryz.func175 (by kernel_rfl) (by kernel_rfl) (by kernel_rfl) .u32 (by kernel_rfl) h.done
  have hnot : ∀ (x : Bool) (w : World), (Op.unary .not (.bool x)).run Tryz.prog w = .ok (.bool (!x)) w := fun _ _ => rfl
  go_enter Tryz.func157, Tryz.ntmps157
  go_wp2
  go_end0
  exact ⟨rfl, rfl⟩

/-- Asked the first time. -/
theorem ask_first (b : Nat) (w : World) (h : Fresh w b) :
    Calls Tryz.prog 135 #[.pointer (some ⟨b, 0, none⟩)] w fun e w' => e = .returned (.pointer (some ⟨b, 3, none⟩)) ∧ Made w w' b := by
  have hmf : ∀ (fn : Fn) (first cap : Array Value) (w : World), (Instr.makeFunc fn first cap).run Tryz.prog w = .ok (.func fn first cap) w := fun _ _ _ _ => rfl
  go_enter Tryz.func135, Tryz.ntmps135
  go_wp2_with (go_at_call 157; refine (do_first b _ h).mono ?_; rintro e w' ⟨rfl, hM⟩)
  go_ret
  exact ⟨rfl, hM⟩

/-- Asked again. -/
theorem ask_again (b : Nat) (w : World) (h : Ready w b) :
    Calls Tryz.prog 135 #[.pointer (some ⟨b, 0, none⟩)] w fun e w' => e = .returned (.pointer (some ⟨b, 3, none⟩)) ∧ w' = w := by
  have hmf : ∀ (fn : Fn) (first cap : Array Value) (w : World), (Instr.makeFunc fn first cap).run Tryz.prog w = .ok (.func fn first cap) w := fun _ _ _ _ => rfl
  go_enter Tryz.func135, Tryz.ntmps135
  go_wp2_with (go_at_call 157; refine (do_done b _ _ h).mono ?_; rintro e w' ⟨rfl, rfl⟩)
  go_ret
  exact ⟨rfl, rfl⟩
end Go.Proofs.YtapdhkgeolcogaaGreatDoor.Cd
namespace Go.Proofs.YtapdhkgeolcogaaGreatDoor.Cd
open Go.RowKit

/-- The value v is a slice whose elements are the bytes l. -/
structure Rd (w : World) (v : Value) (l : List Int) : Prop where
  bytes : Crc.Bytes l
  len : l.length ≤ 9223372036854775807
  val : (l = [] ∧ (v = .slice none 0 0 ∨ ∃ a cap, v = .slice (some a) 0 cap)) ∨ ∃ b off cap, v = .slice (some ⟨b, off, none⟩) l.length cap ∧ ∀ i, i < l.length → w.cell? ⟨b, off + i, none⟩ = some (.int .u8 (l.getD i 0))

theorem Rd.grown {w w' : World} {v : Value} {l : List Int} {row : Option Nat} (h : Rd w v l) (g : w.grownBy w' row) (hr : v.ownBlock = none ∨ v.ownBlock ≠ row) : Rd w' v l := by
  refine ⟨h.bytes, h.len, ?_⟩
  rcases h.val with hn | ⟨b, off, cap, rfl, hc⟩
  · exact .inl hn
  · refine .inr ⟨b, off, cap, rfl, fun i hi => g.cell (hc i hi) ?_⟩
    simpa [Value.ownBlock] using hr

set_option maxRecDepth 100000 in
set_option maxHeartbeats 400000 in
theorem more_of (tb : Nat) (s : Nat) (hs : s < 4294967296) (b off cap : Nat) (l : List Int) (hb : Crc.Bytes l) (hl : l.length ≤ 9223372036854775807) (w : World) (P : World → Prop)
    (hask : Calls Tryz.prog 135 #[.pointer (some ⟨tb, 0, none⟩)] w fun e w1 => e = .returned (.pointer (some ⟨tb, 3, none⟩)) ∧ P w1)
    (hP : ∀ w1, P w1 → Ready w1 tb ∧ ∀ i, i < l.length → w1.cell? ⟨b, off + i, none⟩ = some (.int .u8 (l.getD i 0))) :
    Calls Tryz.prog 103 #[.pointer (some ⟨tb, 0, none⟩), .int .u32 s, .slice (some ⟨b, off, none⟩) l.length cap] w fun e w' => e = .returned (.int .u32 (Crc.more s l : Nat)) ∧ P w' := by
  go_enter Tryz.func103, Tryz.ntmps103
  go_wp2_with (go_at_call 135; refine hask.mono ?_; rintro e w1 ⟨rfl, hw1⟩)
  obtain ⟨hR, hc⟩ := hP w1 hw1
  clear hP hask
  have hn := Crc.not_u32 s hs
  go_loop [8, 17] (fun r i => ∃ k : Nat, k ≤ l.length ∧ i = .int .i64 k ∧ r = .int .u32 (Crc.run (Crc.inv s) (l.take k) : Nat)) (fun _ i => l.length - (intOf i).toNat)
  case atStart => exact ⟨0, Nat.zero_le _, rfl, val_int hn⟩
  case round =>
    clear hn
    obtain ⟨k, hk, rfl, rfl⟩ := hrel
    by_cases hlk : k < l.length
    · have hck := hc k hlk
      obtain ⟨x, hx, hxe, htk⟩ := Crc.byte_of hb k hlk
      rw [hxe] at hck
      have hr : Crc.run (Crc.inv s) (l.take k) < 4294967296 := Crc.run_lt _ (hb.take k) _ (Crc.inv_lt _)
      obtain ⟨r, HR⟩ : ∃ r, Hid (Crc.run (Crc.inv s) (l.take k) = r) := ⟨_, rfl⟩
      rw [HR.out] at hr ⊢
      have H2 : Hid (Crc.run (Crc.inv s) (l.take (k + 1)) = Crc.stp r x) := by
        show _ = _
        rw [htk, Crc.run_snoc, HR.out]; rfl
      have h8 := Crc.xor_u8 r x hx
      have hy := Crc.xor8_lt (r := r) hx
      have hst := hR.steps _ hy
      have htl : Crc.shN 8 (r % 256 ^^^ x) < 4294967296 := Crc.shN_lt 8 (by omega)
      have h32 := Crc.xor_u32 r _ hr htl
      have HS : Hid (r / 256 ^^^ Crc.shN 8 (r % 256 ^^^ x) = Crc.stp r x) := rfl
      obtain ⟨y, hyy⟩ : ∃ y, y = r % 256 ^^^ x := ⟨_, rfl⟩
      rw [← hyy] at h8 hy hst htl h32 HS
      obtain ⟨t, ht⟩ : ∃ t, t = Crc.shN 8 y := ⟨_, rfl⟩
      rw [← ht] at hst htl h32 HS
      obtain ⟨z, hz⟩ : ∃ z, z = r / 256 ^^^ t := ⟨_, rfl⟩
      rw [← hz] at h32 HS
      clear hyy ht hz hxe htk hc hR
      go_wp2
      go_round
      case rel => exact ⟨k + 1, by omega, by go_num, val_int (by rw [H2.out, ← HS.out])⟩
      case measure => simp [intOf]; omega
    · obtain rfl : k = l.length := by omega
      have hr : Crc.run (Crc.inv s) l < 4294967296 := Crc.run_lt _ hb _ (Crc.inv_lt _)
      have hnn := Crc.not_u32 _ hr
      have ht : l.take l.length = l := List.take_length
      rw [ht]
      clear hc hR ht
      go_wp2
      go_ret
      exact ⟨rfl, hw1⟩

set_option maxRecDepth 100000 in
theorem more_nil (tb : Nat) (s : Nat) (hs : s < 4294967296) (a : Option Addr) (cap : Nat) (w : World) (P : World → Prop)
    (hask : Calls Tryz.prog 135 #[.pointer (some ⟨tb, 0, none⟩)] w fun e w1 => e = .returned (.pointer (some ⟨tb, 3, none⟩)) ∧ P w1) :
    Calls Tryz.prog 103 #[.pointer (some ⟨tb, 0, none⟩), .int .u32 s, .slice a 0 cap] w fun e w' => e = .returned (.int .u32 (Crc.more s [] : Nat)) ∧ P w' := by
  go_enter Tryz.func103, Tryz.ntmps103
  go_wp2_with (go_at_call 135; refine hask.mono ?_; rintro e w1 ⟨rfl, hw1⟩)
  clear hask
  have hn := Crc.not_u32 s hs
  go_loop [8, 17] (fun r i => i = .int .i64 0 ∧ r = .int .u32 (Crc.inv s : Nat)) (fun _ _ => 0)
  case atStart => exact ⟨rfl, val_int hn⟩
  case round =>
    clear hn
    obtain ⟨rfl, rfl⟩ := hrel
    have hnn := Crc.not_u32 _ (Crc.inv_lt s)
    go_wp2
    go_ret
    exact ⟨rfl, hw1⟩

/-- 'More', of any bytes, by whatever asking the table does. -/
theorem more_rd (tb : Nat) (s : Nat) (hs : s < 4294967296) (v : Value) (l : List Int) (w : World) (P : World → Prop) (hv : Rd w v l)
    (hask : Calls Tryz.prog 135 #[.pointer (some ⟨tb, 0, none⟩)] w fun e w1 => e = .returned (.pointer (some ⟨tb, 3, none⟩)) ∧ P w1)
    (hP : ∀ w1, P w1 → Ready w1 tb ∧ Rd w1 v l) :
    Calls Tryz.prog 103 #[.pointer (some ⟨tb, 0, none⟩), .int .u32 s, v] w fun e w' => e = .returned (.int .u32 (Crc.more s l : Nat)) ∧ P w' := by
  rcases hv.val with ⟨rfl, rfl | ⟨a, cap, rfl⟩⟩ | ⟨b, off, cap, rfl, hc⟩
  · exact more_nil tb s hs none 0 w P hask
  · exact more_nil tb s hs (some a) cap w P hask
  · refine more_of tb s hs b off cap l hv.bytes hv.len w P hask fun w1 h1 => ⟨(hP w1 h1).1, fun i hi => ?_⟩
    rcases (hP w1 h1).2.val with ⟨rfl, _⟩ | ⟨b', off', cap', e, hc'⟩
    · simp at hi
    · simp only [Value.slice.injEq, Option.some.injEq, Addr.mk.injEq] at e
      obtain ⟨⟨rfl, rfl, _⟩, _, rfl⟩ := e
      exact hc' i hi

theorem more_first (tb : Nat) (s : Nat) (hs : s < 4294967296) (v : Value) (l : List Int) (w : World) (hv : Rd w v l) (h : Fresh w tb) (hne : v.ownBlock ≠ some tb) :
    Calls Tryz.prog 103 #[.pointer (some ⟨tb, 0, none⟩), .int .u32 s, v] w fun e w' => e = .returned (.int .u32 (Crc.more s l : Nat)) ∧ Made w w' tb :=
  more_rd tb s hs v l w _ hv (ask_first tb w h) fun _ h1 => ⟨h1.ready, hv.grown h1.grown (.inr hne)⟩

theorem more_again (tb : Nat) (s : Nat) (hs : s < 4294967296) (v : Value) (l : List Int) (w : World) (hv : Rd w v l) (h : Ready w tb) :
    Calls Tryz.prog 103 #[.pointer (some ⟨tb, 0, none⟩), .int .u32 s, v] w fun e w' => e = .returned (.int .u32 (Crc.more s l : Nat)) ∧ w' = w :=
  more_rd tb s hs v l w _ hv (ask_again tb w h) fun w1 h1 => by subst h1; exact ⟨h, hv⟩

theorem sum_of (tb : Nat) (v : Value) (l : List Int) (w : World) (P : World → Prop)
    (hmore : Calls Tryz.prog 103 #[.pointer (some ⟨tb, 0, none⟩), .int .u32 0, v] w fun e w' => e = .returned (.int .u32 (Crc.more 0 l : Nat)) ∧ P w') :
    Calls Tryz.prog 79 #[.pointer (some ⟨tb, 0, none⟩), v] w fun e w' => e = .returned (.int .u32 (Crc.more 0 l : Nat)) ∧ P w' := by
  go_enter Tryz.func79, Tryz.ntmps79
  go_wp2_with (go_at_call 103; refine hmore.mono ?_; rintro e w1 ⟨rfl, hw1⟩)
  go_ret
  exact ⟨rfl, hw1⟩

theorem sum_first (tb : Nat) (v : Value) (l : List Int) (w : World) (hv : Rd w v l) (h : Fresh w tb) (hne : v.ownBlock ≠ some tb) :
    Calls Tryz.prog 79 #[.pointer (some ⟨tb, 0, none⟩), v] w fun e w' => e = .returned (.int .u32 (Crc.more 0 l : Nat)) ∧ Made w w' tb :=
  sum_of tb v l w _ (more_first tb 0 (by decide) v l w hv h hne)

theorem sum_again (tb : Nat) (v : Value) (l : List Int) (w : World) (hv : Rd w v l) (h : Ready w tb) :
    Calls Tryz.prog 79 #[.pointer (some ⟨tb, 0, none⟩), v] w fun e w' => e = .returned (.int .u32 (Crc.more 0 l : Nat)) ∧ w' = w :=
  sum_of tb v l w _ (more_again tb 0 (by decide) v l w hv h)
end Go.Proofs.YtapdhkgeolcogaaGreatDoor.Cd
namespace Go.Proofs.YtapdhkgeolcogaaGreatDoor.Cd
open Go.RowKit

/-- A slice over the whole of the last new block, whose cells are the bytes l. -/
theorem rd_new (w : World) (l : List Int) (fr : Nat × Nat) (t : TypeId) (C : Array Value) (hC : C = (l.map (Value.int .u8)).toArray) (hl : l.length ≤ 9223372036854775807) (hb : Crc.Bytes l) (n cap : Nat) (hn : n = w.heap.size) :
    Rd (w.alloc (.cells C t fr)) (.slice (some ⟨n, 0, none⟩) l.length cap) l := by
  subst hn hC
  refine ⟨hb, hl, .inr ⟨w.heap.size, 0, cap, rfl, fun i hi => ?_⟩⟩
  rw [World.cell?_alloc_mark]
  simp [hi]

theorem made_below {w w' : World} {tb B : Nat} (h : Made w w' tb) (hB : B ≤ tb) (hs : B ≤ w.heap.size) : Below B w w' :=
  ⟨h.grown.os, h.grown.tape, h.grown.output, h.grown.size, fun k hk => h.grown.block k (by omega) (by simp; omega)⟩

end Go.Proofs.YtapdhkgeolcogaaGreatDoor.Cd
