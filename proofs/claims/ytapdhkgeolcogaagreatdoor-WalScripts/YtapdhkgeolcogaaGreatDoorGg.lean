/- What the tests of a field and the writing of a field answer. What 'Encode' answers. What the reading of a number, of a text, of a field answers. What the reading of a text answers. -/
import Derived.Test.YtapdhkgeolcogaaGreatDoorGf
import Derived.Deep.RegionLaw
namespace Go.Proofs.YtapdhkgeolcogaaGreatDoor.Cd
open Go.RowKit

/-- A field's cells. -/
def fc (f : Code.Fd) : Array Value := #[.int .i64 f.k, .int .i64 f.n, .string f.s]

theorem not_any (n : Int) (h : Code.In64 n) : bits .xor .i64 (-1) n = -1 - n := by
  unfold Code.In64 at h
  show IntKind.i64.wrap ((BitVec.ofInt 64 (-1) ^^^ BitVec.ofInt 64 n).toNat : Int) = _
  have h1 : BitVec.ofInt 64 (-1) = BitVec.allOnes 64 := by decide
  rw [h1, BitVec.allOnes_xor, BitVec.toNat_not, BitVec.toNat_ofInt]
  simp [IntKind.wrap, IntKind.bits, IntKind.signed]
  omega

theorem Own.lt {w : World} {base : Nat} {v : Value} {l : List Int} (h : Own w base v l) {k : Nat} (e : v.ownBlock = some k) : k < w.heap.size := (h.row.lt k e).2

set_option maxRecDepth 100000 in
theorem fold_any (n : Int) (h : Code.In64 n) (w : World) :
    Calls Tryz.prog 105 #[.int .i64 n] w fun e w' => e = .returned (.int .u64 (Code.fold n : Nat)) ∧ w' = w := by
  have hnot := not_any n h
  go_enter Tryz.func105, Tryz.ntmps105
  by_cases hn : n < 0
  · go_wp2
    go_ret
    refine ⟨ret_int ?_, rfl⟩
    unfold Code.fold Code.In64 at *
    rw [if_pos hn]
    simp only [IntKind.wrap_u64]
    omega
  · go_wp2
    go_ret
    refine ⟨ret_int ?_, rfl⟩
    unfold Code.fold Code.In64 at *
    rw [if_neg (by omega)]
    simp only [IntKind.wrap_u64]
    omega

set_option maxRecDepth 100000 in
theorem fits_any (f : Code.Fd) (w : World) :
    Calls Tryz.prog 82 #[.agg (fc f)] w fun e w' => e = .returned (.bool (decide (Code.Fits f))) ∧ w' = w.alloc (.cells (fc f) 110) := by
  obtain ⟨k, n, s⟩ := f
  simp only [fc]
  go_enter Tryz.func82, Tryz.ntmps82
  go_wp2
  all_goals
    go_ret
    refine ⟨?_, rfl⟩
    simp_all [Code.Fits] <;> omega

set_option maxRecDepth 100000 in
set_option maxHeartbeats 400000 in
theorem field_any (v : Value) (l0 : List Int) (f : Code.Fd) (hf : Code.Fits f) (hn : Code.In64 f.n) (base : Nat) (w : World) (hown : Own w base v l0) (hbase : base ≤ w.heap.size) (hb : l0.length ≤ 140737488280000) :
    Calls Tryz.prog 83 #[v, .agg (fc f)] w fun e w' => ∃ v', e = .returned v' ∧ Own w' base v' (l0 ++ Code.fb f) ∧ w.grownBy w' v.ownBlock := by
  obtain ⟨k, n, s⟩ := f
  simp only [fc] at *
  unfold Code.Fits at hf
  simp only at hf
  have hE0 := (Ext.refl hown).alloc (.cells #[.int .i64 k, .int .i64 n, .string s] 110)
  have hs0 : base ≤ (w.alloc (.cells #[.int .i64 k, .int .i64 n, .string s] 110)).heap.size := by simp; omega
  rcases hf with ⟨rfl, h0⟩ | rfl | ⟨rfl, h0⟩
  · obtain ⟨m, rfl⟩ := Int.eq_ofNat_of_zero_le h0
    have hfb : Code.fb ⟨1, m, s⟩ = Code.put m := by simp [Code.fb]
    have hu : IntKind.u64.wrap (m : Int) = (m : Int) := by unfold Code.In64 at hn; simp only [IntKind.wrap_u64]; omega
    have hn2 : m < 18446744073709551616 := by unfold Code.In64 at hn; omega
    rw [hfb]
    go_enter Tryz.func83, Tryz.ntmps83
    go_wp2_with (go_at_call 76; go_must (refine (number_any v l0 m hn2 base _ hE0.own hs0 (by omega)).mono ?_); rintro e w1 ⟨v1, rfl, hE1⟩)
    go_ret
    exact ⟨_, rfl, hE1.own, (hE0.trans hE1).grown⟩
  · have hfb : Code.fb ⟨2, n, s⟩ = Code.put (Code.fold n) := by simp [Code.fb]
    rw [hfb]
    go_enter Tryz.func83, Tryz.ntmps83
    go_wp2_with (first | (go_at_call 105; refine (fold_any n hn _).mono ?_; rintro e w1 ⟨rfl, rfl⟩) | (go_at_call 76; go_must (refine (number_any v l0 (Code.fold n) (Code.fold_lt hn) base _ hE0.own hs0 (by omega)).mono ?_); rintro e w1 ⟨v1, rfl, hE1⟩))
    go_ret
    exact ⟨_, rfl, hE1.own, (hE0.trans hE1).grown⟩
  · have hfb : Code.fb ⟨3, n, s⟩ = Code.put s.size ++ Code.toB s := by simp [Code.fb]
    have h3 := Code.put_len3 h0
    have hcell : (w.alloc (.cells #[.int .i64 3, .int .i64 n, .string s] 110)).cell? ⟨w.heap.size, 2, none⟩ = some (.string s) := by rw [World.cell?_alloc_new]; rfl
    have hu : IntKind.u64.wrap (s.size : Int) = (s.size : Int) := by simp only [IntKind.wrap_u64]; omega
    rw [hfb]
    go_enter Tryz.func83, Tryz.ntmps83
    have hE0' := hE0.drew
    have hs0' : base ≤ (w.alloc (.cells #[.int .i64 3, .int .i64 n, .string s] 110)).drew.heap.size := hs0
    have hne : some w.heap.size ≠ v.ownBlock := fun e => by have := hown.lt e.symm; omega
    go_wp2
    go_region_law (first
      | (refine step_of rfl (wp_append_str (.tmp 21) (.tmp 23) rfl base _ _ rfl hE1.own s rfl (by simp <;> omega) (by omega) ?_); intro v2 w2 hO2 hg2)
      | (go_simp; go_at_call 76; refine (number_any v l0 s.size (by omega) base _ hE0'.own hs0' (by omega)).mono ?_; rintro e w1 ⟨v1, rfl, hE1⟩; have hc1 := hE1.grown.cell (a := ⟨w.heap.size, 2, none⟩) hcell hne; have hz1 := hE1.grown.size))
    all_goals
      go_wp2
      go_ret
      refine ⟨_, rfl, ?_, grown_more (hE0'.trans hE1).grown hg2 (hE0'.trans hE1).at_⟩
      rw [← List.append_assoc]
      exact hO2
end Go.Proofs.YtapdhkgeolcogaaGreatDoor.Cd
namespace Go.Proofs.YtapdhkgeolcogaaGreatDoor.Cd
open Go.RowKit

/-- The three cells of a field, from ⟨b, o⟩ on. -/
structure At (w : World) (b o : Nat) (f : Code.Fd) : Prop where
  k : w.cell? ⟨b, o, none⟩ = some (.int .i64 f.k)
  n : w.cell? ⟨b, o + 1, none⟩ = some (.int .i64 f.n)
  s : w.cell? ⟨b, o + 2, none⟩ = some (.string f.s)

/-- The value v is a slice whose elements are the fields fs. -/
structure Fl (w : World) (v : Value) (fs : List Code.Fd) : Prop where
  in64 : ∀ f ∈ fs, Code.In64 f.n
  val : (fs = [] ∧ (v = .slice none 0 0 ∨ ∃ a cap, v = .slice (some a) 0 cap)) ∨ ∃ b off cap, v = .slice (some ⟨b, off, none⟩) fs.length cap ∧ ∀ i (hi : i < fs.length), At w b (off + i * 3) fs[i]

theorem At.grown {w w' : World} {b o : Nat} {f : Code.Fd} {row : Option Nat} (h : At w b o f) (g : w.grownBy w' row) (hr : some b ≠ row) : At w' b o f :=
  ⟨g.cell h.k hr, g.cell h.n hr, g.cell h.s hr⟩
theorem At.lt {w : World} {b o : Nat} {f : Code.Fd} (h : At w b o f) : b < w.heap.size := World.block_lt_of_cell? w ⟨b, o, none⟩ h.k

theorem Fl.grown {w w' : World} {v : Value} {fs : List Code.Fd} {row : Option Nat} (h : Fl w v fs) (g : w.grownBy w' row) (hr : v.ownBlock = none ∨ v.ownBlock ≠ row) : Fl w' v fs := by
  refine ⟨h.in64, ?_⟩
  rcases h.val with hn | ⟨b, off, cap, rfl, hc⟩
  · exact .inl hn
  · exact .inr ⟨b, off, cap, rfl, fun i hi => (hc i hi).grown g (by simpa [Value.ownBlock] using hr)⟩

theorem own_nil (w : World) : Own w w.heap.size (.slice none 0 0) [] := ⟨World.ownsRow_nil w _ _ _, fun _ h => by cases h⟩

set_option maxRecDepth 100000 in
set_option maxHeartbeats 400000 in
theorem encode_some (b off cap : Nat) (fs : List Code.Fd) (h64 : ∀ f ∈ fs, Code.In64 f.n) (hl : fs.length ≤ 1000000000) (w : World) (hc : ∀ i (hi : i < fs.length), At w b (off + i * 3) fs[i]) :
    Calls Tryz.prog 63 #[.slice (some ⟨b, off, none⟩) fs.length cap] w fun e w' => w.grownBy w' none ∧
      (((∀ f ∈ fs, Code.Fits f) ∧ ∃ v', e = .returned (.tuple #[v', .int .i64 0]) ∧ Own w' w.heap.size v' (Code.enc fs)) ∨ (¬ (∀ f ∈ fs, Code.Fits f) ∧ e = .returned (.tuple #[.slice none 0 0, .int .i64 1]))) := by
  go_enter Tryz.func63, Tryz.ntmps63
  go_wp2
  go_loopw [4, 9] (fun v i wr => ∃ k : Nat, k ≤ fs.length ∧ i = .int .i64 k ∧ (∀ f ∈ fs.take k, Code.Fits f) ∧ Own wr w.heap.size v (Code.enc (fs.take k)) ∧ w.grownBy wr none) (fun _ i _ => fs.length - (intOf i).toNat)
  case atStart => exact ⟨0, Nat.zero_le _, rfl, fun _ h => by simp at h, own_nil w, grown_refl _ _⟩
  case round =>
    obtain ⟨k, hk, rfl, hfit, hO, hg⟩ := hrel
    by_cases hlk : k < fs.length
    · have hA := (hc k hlk).grown hg (by simp)
      have hmem : fs[k] ∈ fs := List.getElem_mem hlk
      have hin := h64 _ hmem
      have HT : Hid (fs.take (k + 1) = fs.take k ++ [fs[k]]) := List.take_succ_eq_append_getElem hlk
      have HL : Hid ((Code.enc (fs.take k)).length ≤ k * 65546) := Code.enc_len (fun f hf => ⟨hfit f hf, h64 f (List.mem_of_mem_take hf)⟩) (by simp; omega)
      have HF : Hid (∀ f ∈ fs.take k, Code.Fits f) := hfit
      have HX : Hid (fs[k] ∈ fs) := hmem
      clear hfit hmem
      generalize fs[k] = f at *
      obtain ⟨l, hl0⟩ : ∃ l, l = Code.enc (fs.take k) := ⟨_, rfl⟩
      rw [← hl0] at hO HL
      have HL0 : Hid (l = Code.enc (fs.take k)) := hl0
      clear hl0 hc h64
      have h1 := hA.k
      have h2 := hA.n
      have h3 := hA.s
      have hz := hg.size
      by_cases hf : Code.Fits f
      · have hD : decide (Code.Fits f) = true := by simpa using hf
        have HB : Hid (l.length ≤ 140737488280000) := by show _ ≤ _; have := HL.out; omega
        clear HL
        go_wp2_with (first
          | (go_at_call 82; go_must (refine (fits_any f _).mono ?_); rintro e w1 ⟨rfl, rfl⟩; rw [hD])
          | (go_at_call 83; go_must (refine (field_any _ l f hf hin w.heap.size _ (own_alloc (own_alloc hO _) _) (by simp <;> omega) HB.out).mono ?_); rintro e w2 ⟨v2, rfl, hO2, hg2⟩))
        go_roundw
        case rel =>
          refine ⟨k + 1, by omega, by go_num, ?_, ?_, ?_⟩
          · intro g hg'
            rw [HT.out] at hg'
            rcases List.mem_append.1 hg' with h | h
            · exact HF.out g h
            · simp at h; rw [h]; exact hf
          · rw [HT.out, Code.enc_append, ← HL0.out]
            simpa [Code.enc] using hO2
          · exact grown_more (grown_alloc (grown_alloc hg _) _) hg2 (fun b e => .inr (hO.row.lt b e).1)
        case measure => simp [intOf]; omega
      · have hD : decide (Code.Fits f) = false := by simpa using hf
        go_wp2_with (go_at_call 82; go_must (refine (fits_any f _).mono ?_); rintro e w1 ⟨rfl, rfl⟩; rw [hD])
        go_ret2
        exact ⟨grown_alloc (grown_alloc hg _) _, .inr ⟨fun h => hf (h f HX.out), rfl⟩⟩
    · obtain rfl : k = fs.length := by omega
      rw [List.take_length] at hO hfit
      go_wp2
      go_ret2
      exact ⟨hg, .inl ⟨hfit, _, rfl, hO⟩⟩

set_option maxRecDepth 100000 in
theorem encode_none (a : Option Addr) (cap : Nat) (w : World) :
    Calls Tryz.prog 63 #[.slice a 0 cap] w fun e w' => w.grownBy w' none ∧ ∃ v', e = .returned (.tuple #[v', .int .i64 0]) ∧ Own w' w.heap.size v' [] := by
  go_enter Tryz.func63, Tryz.ntmps63
  go_wp2
  go_loopw [4, 9] (fun v i wr => i = .int .i64 0 ∧ v = .slice none 0 0 ∧ wr = w) (fun _ _ _ => 0)
  case atStart => exact ⟨rfl, rfl, rfl⟩
  case round =>
    obtain ⟨rfl, rfl, rfl⟩ := hrel
    go_wp2
    go_ret2
    exact ⟨grown_refl _ _, _, rfl, own_nil _⟩

/-- 'Encode', of any fields that lie in memory. -/
theorem encode_any (v : Value) (fs : List Code.Fd) (w : World) (hv : Fl w v fs) (hl : fs.length ≤ 1000000000) :
    Calls Tryz.prog 63 #[v] w fun e w' => w.grownBy w' none ∧
      (((∀ f ∈ fs, Code.Fits f) ∧ ∃ v', e = .returned (.tuple #[v', .int .i64 0]) ∧ Own w' w.heap.size v' (Code.enc fs)) ∨ (¬ (∀ f ∈ fs, Code.Fits f) ∧ e = .returned (.tuple #[.slice none 0 0, .int .i64 1]))) := by
  rcases hv.val with ⟨rfl, rfl | ⟨a, cap, rfl⟩⟩ | ⟨b, off, cap, rfl, hc⟩
  · exact (encode_none none 0 w).mono fun e w' ⟨h1, v', h2, h3⟩ => ⟨h1, .inl ⟨fun _ h => (List.not_mem_nil h).elim, v', h2, h3⟩⟩
  · exact (encode_none (some a) cap w).mono fun e w' ⟨h1, v', h2, h3⟩ => ⟨h1, .inl ⟨fun _ h => (List.not_mem_nil h).elim, v', h2, h3⟩⟩
  · exact encode_some b off cap fs hv.in64 hl w hc
end Go.Proofs.YtapdhkgeolcogaaGreatDoor.Cd
namespace Go.Proofs.YtapdhkgeolcogaaGreatDoor.Cd
open Go.RowKit

def idxInt (l : List Int) : Int := match Code.idx l with | some k => (k : Int) | none => -1

theorem less_any (x : Int) (w : World) :
    Calls Tryz.prog 156 #[.int .u8 x] w fun e w' => e = .returned (.bool (decide (x < 128))) ∧ w' = w := by
  go_enter Tryz.func156, Tryz.ntmps156
  go_wp2
  go_ret
  exact ⟨rfl, rfl⟩

set_option maxRecDepth 100000 in
theorem index_some (b off cap : Nat) (l : List Int) (hl : l.length ≤ 9223372036854775807) (w : World) (hc : ∀ i, i < l.length → w.cell? ⟨b, off + i, none⟩ = some (.int .u8 (l.getD i 0))) :
    Calls Tryz.prog 155 #[.slice (some ⟨b, off, none⟩) l.length cap, .func (.func 156) #[] #[]] w fun e w' => e = .returned (.int .i64 (idxInt l)) ∧ w' = w := by
  go_enter Tryz.func155, Tryz.ntmps155
  go_wp2
  go_loop [8] (fun i => ∃ k : Nat, k ≤ l.length ∧ i = .int .i64 k ∧ ∀ j, j < k → ¬ l.getD j 0 < 128) (fun i => l.length - (intOf i).toNat)
  case atStart => exact ⟨0, Nat.zero_le _, rfl, fun j hj => by omega⟩
  case round =>
    obtain ⟨k, hk, rfl, hall⟩ := hrel
    have HA : Hid (∀ j, j < k → ¬ l.getD j 0 < 128) := hall
    clear hall
    by_cases hlk : k < l.length
    · have h1 := hc k hlk
      obtain ⟨x, HX⟩ : ∃ x, Hid (l.getD k 0 = x) := ⟨_, rfl⟩
      rw [HX.out] at h1
      clear hc
      by_cases hx : x < 128
      · have hd : decide (x < 128) = true := by simpa using hx
        go_wp2_with (go_at_call 156; refine (less_any x _).mono ?_; rintro e w1 ⟨rfl, rfl⟩; rw [hd])
        go_ret
        refine ⟨?_, rfl⟩
        have hi : Code.idx l = some k := Code.idx_of hlk (by rw [HX.out]; exact hx) (fun j hj => by have := HA.out j hj; omega)
        simp [idxInt, hi]
      · have hd : decide (x < 128) = false := by simpa using hx
        go_wp2_with (go_at_call 156; refine (less_any x _).mono ?_; rintro e w1 ⟨rfl, rfl⟩; rw [hd])
        go_round
        case rel =>
          refine ⟨k + 1, by omega, by go_num, fun j hj => ?_⟩
          by_cases hjk : j = k
          · subst hjk; rw [HX.out]; omega
          · have := HA.out j (by omega); omega
        case measure => simp [intOf]; omega
    · obtain rfl : k = l.length := by omega
      clear hc
      have hi : Code.idx l = none := Code.idx_of_none (fun j hj => by have := HA.out j hj; omega)
      go_wp2
      go_ret
      exact ⟨by simp [idxInt, hi], rfl⟩

set_option maxRecDepth 100000 in
theorem index_none (a : Option Addr) (cap : Nat) (f : Value) (w : World) :
    Calls Tryz.prog 155 #[.slice a 0 cap, f] w fun e w' => e = .returned (.int .i64 (-1)) ∧ w' = w := by
  go_enter Tryz.func155, Tryz.ntmps155
  go_wp2
  go_loop [8] (fun i => i = .int .i64 0) (fun _ => 0)
  case atStart => rfl
  case round =>
    subst hrel
    go_wp2
    go_ret
    exact ⟨rfl, rfl⟩

/-- A number that was read, as the three answers. -/
def numOut (l : List Int) : Value :=
  match Code.rNum l with
  | .error e => .tuple #[.int .u64 0, .int .i64 0, .int .i64 e]
  | .ok (n, s) => .tuple #[.int .u64 n, .int .i64 s, .int .i64 0]

theorem andNot_all : ∀ x : Fin 256, bits .andNot .u8 (x.val : Int) 128 = ((x.val % 128 : Nat) : Int) := by decide +kernel
theorem or_num (n x : Nat) (hn : 128 * n < 18446744073709551616) (hx : x < 128) : bits .or .u64 ((n : Int) * 128) (x : Int) = ((x + 128 * n : Nat) : Int) := by
  have h := u64_or_nat (n * 128) x (by omega) (by omega)
  have e : ((n * 128 : Nat) : Int) = (n : Int) * 128 := by omega
  rw [e] at h
  rw [h]
  congr 1
  have := Nat.two_pow_add_eq_or_of_lt (i := 7) (b := x) (by simpa using hx) n
  rw [Nat.mul_comm n 128]
  have e2 : 128 * n = 2 ^ 7 * n := by rfl
  rw [e2, ← this]
  omega

set_option maxRecDepth 100000 in
set_option maxHeartbeats 400000 in
theorem readNumber_some (b off cap : Nat) (l : List Int) (hb : Crc.Bytes l) (hl : l.length ≤ 9223372036854775807) (w : World) (hc : ∀ i, i < l.length → w.cell? ⟨b, off + i, none⟩ = some (.int .u8 (l.getD i 0))) :
    Calls Tryz.prog 133 #[.slice (some ⟨b, off, none⟩) l.length cap] w fun e w' => e = .returned (numOut l) ∧ w' = w := by
  have hidx := index_some b off cap l hl w hc
  unfold idxInt at hidx
  unfold numOut Code.rNum
  cases hi : Code.idx l with
  | none =>
    rw [hi] at hidx
    simp only at hidx ⊢
    go_enter Tryz.func133, Tryz.ntmps133
    go_wp2_with (go_at_call 155; refine hidx.mono ?_; rintro e w1 ⟨rfl, rfl⟩)
    go_ret3
    exact ⟨rfl, rfl⟩
  | some k =>
    rw [hi] at hidx
    simp only at hidx ⊢
    obtain ⟨g1, g2, g3⟩ := Code.idx_some hi
    have hck := hc k g1
    have hby : Crc.Byte (l.getD k 0) := by simp [g1]; exact hb _ (List.getElem_mem g1)
    by_cases hbad : Code.Bad l k
    · rw [if_pos hbad]
      unfold Code.Bad at hbad
      unfold Crc.Byte at hby
      clear hc hi g3
      generalize l.getD k 0 = x at *
      go_enter Tryz.func133, Tryz.ntmps133
      go_wp2_with (go_at_call 155; refine hidx.mono ?_; rintro e w1 ⟨rfl, rfl⟩)
      all_goals first
        | (go_ret3; exact ⟨rfl, rfl⟩)
        | (exfalso; clear hidx hck; simp at *; omega)
    · rw [if_neg hbad]
      have hlt := Code.good_lt hb hi hbad
      have hlen : (l.take (k + 1)).length = k + 1 := by simp; omega
      have HV : ∀ j, j < k + 1 → ∃ x : Nat, x < 256 ∧ w.cell? ⟨b, off + j, none⟩ = some (.int .u8 x) ∧ Code.val ((l.take (k + 1)).drop j) = x % 128 + 128 * Code.val ((l.take (k + 1)).drop (j + 1)) := by
        intro j hj
        obtain ⟨x, hx, hxe, _⟩ := Crc.byte_of hb j (by omega)
        refine ⟨x, hx, by rw [hc j (by omega), hxe], ?_⟩
        rw [Code.val_drop_step (by omega)]
        have : (l.take (k + 1)).getD j 0 = l.getD j 0 := by simp [hj]
        rw [this, hxe]
        simp
      have HV' : Hid (∀ j, j < k + 1 → ∃ x : Nat, x < 256 ∧ w.cell? ⟨b, off + j, none⟩ = some (.int .u8 x) ∧ Code.val ((l.take (k + 1)).drop j) = x % 128 + 128 * Code.val ((l.take (k + 1)).drop (j + 1))) := HV
      have HLT : Hid (∀ j, Code.val ((l.take (k + 1)).drop j) < 18446744073709551616) := fun j => Nat.lt_of_le_of_lt (Code.val_drop_le _ _) hlt
      have HEND : Hid ((l.take (k + 1)).drop (k + 1) = []) := by show _ = _; rw [List.drop_eq_nil_iff]; omega
      obtain ⟨L, HLL⟩ : ∃ L, Hid (l.take (k + 1) = L) := ⟨_, rfl⟩
      rw [HLL.out] at HV' HLT HEND ⊢
      clear HV hlt hlen hc
      unfold Code.Bad at hbad
      generalize l.getD k 0 = x at *
      go_enter Tryz.func133, Tryz.ntmps133
      go_wp2_with (go_at_call 155; refine hidx.mono ?_; rintro e w1 ⟨rfl, rfl⟩)
      all_goals first
        | (exfalso; clear HV' HLT HEND HLL; unfold Crc.Byte at hby; simp at *; omega)
        | skip
      all_goals
        clear hck hby hbad
        go_loop [7, 8] (fun n i => ∃ (j : Nat) (q : Int), j ≤ k + 1 ∧ i = .int .i64 q ∧ q + 1 = (j : Int) ∧ n = .int .u64 (Code.val (L.drop j) : Nat)) (fun _ i => (intOf i + 1).toNat)
        case atStart => exact ⟨k + 1, k, Nat.le_refl _, rfl, by simp, by rw [HEND.out]; rfl⟩
        case round =>
          obtain ⟨j, q, hj, rfl, hq, rfl⟩ := hrel
          by_cases h0 : q < 0
          · obtain rfl : j = 0 := by omega
            obtain rfl : q = -1 := by omega
            go_wp2
            go_ret3
            simp
          · obtain ⟨p, rfl⟩ := Int.eq_ofNat_of_zero_le (show 0 ≤ q by omega)
            obtain rfl : j = p + 1 := by omega
            obtain ⟨y, hy, hcy, hvy⟩ := HV'.out p (by omega)
            have hlp := HLT.out p
            have HN : Hid (Code.val (L.drop p) = y % 128 + 128 * Code.val (L.drop (p + 1))) := hvy
            rw [hvy] at hlp
            obtain ⟨V, hV⟩ : ∃ V, V = Code.val (L.drop (p + 1)) := ⟨_, rfl⟩
            rw [← hV] at HN hlp ⊢
            have han := andNot_all ⟨y, hy⟩
            simp only at han
            have hor := or_num V (y % 128) (by omega) (Nat.mod_lt _ (by decide))
            obtain ⟨z, hz⟩ : ∃ z, z = y % 128 := ⟨_, rfl⟩
            rw [← hz] at han hor HN hlp
            have hsh : IntKind.u64.wrap ((V : Int) * 128) = (V : Int) * 128 := by rw [IntKind.wrap_u64]; omega
            obtain ⟨s, hs⟩ : ∃ s, s = z + 128 * V := ⟨_, rfl⟩
            rw [← hs] at hor HN
            clear hvy hV hz hs
            go_wp2
            exact ⟨⟨p, (p : Int) - 1, by omega, rfl, by omega, by rw [HN.out]⟩, by simp [intOf] <;> omega⟩
end Go.Proofs.YtapdhkgeolcogaaGreatDoor.Cd
namespace Go.Proofs.YtapdhkgeolcogaaGreatDoor.Cd
open Go.RowKit

theorem readNumber_any (v : Value) (l : List Int) (w : World) (h : Rd w v l) :
    Calls Tryz.prog 133 #[v] w fun e w' => e = .returned (numOut l) ∧ w' = w := by
  have empty : ∀ a cap, Calls Tryz.prog 133 #[.slice a 0 cap] w fun e w' => e = .returned (numOut []) ∧ w' = w := by
    intro a cap
    go_enter Tryz.func133, Tryz.ntmps133
    go_wp2_with (go_at_call 155; refine (index_none a cap _ _).mono ?_; rintro e w1 ⟨rfl, rfl⟩)
    go_ret3
    exact ⟨rfl, rfl⟩
  rcases h.val with ⟨rfl, rfl | ⟨a, cap, rfl⟩⟩ | ⟨b, off, cap, rfl, hc⟩
  · exact empty none 0
  · exact empty (some a) cap
  · exact readNumber_some b off cap l h.bytes h.len w hc

/-- A slice of bytes, with a capacity that is no less than its length. -/
structure Sl (w : World) (v : Value) (l : List Int) : Prop where
  rd : Rd w v l
  cap : ∃ a c, v = .slice a l.length c ∧ l.length ≤ c ∧ c ≤ 9223372036854775807

theorem sliced_empty (a : Addr) (lo c : Nat) : ∃ a' cap, sliced (some a) lo lo c 1 = .slice (some a') 0 cap := by
  unfold sliced
  by_cases h : c = lo
  · exact ⟨a, c - lo, by simp [h]⟩
  · exact ⟨a.add lo, c - lo, by simp [h]⟩

theorem Sl.sub {w : World} {a : Option Addr} {c : Nat} {l : List Int} (h : Sl w (.slice a l.length c) l) (lo hi : Nat) (h1 : lo ≤ hi) (h2 : hi ≤ l.length) : Sl w (sliced a lo hi c 1) ((l.drop lo).take (hi - lo)) := by
  obtain ⟨a', c', e, hc1, hc2⟩ := h.cap
  injection e with e1 e2 e3
  subst e1 e3
  have hlen : ((l.drop lo).take (hi - lo)).length = hi - lo := by simp; omega
  have hl := h.rd.len
  refine ⟨⟨(h.rd.bytes.drop lo).take _, by omega, ?_⟩, ⟨_, _, by rw [hlen]; rfl, by omega, by omega⟩⟩
  rcases h.rd.val with ⟨rfl, hv⟩ | ⟨b, off, cap, e, hc⟩
  · refine .inl ⟨by simp, ?_⟩
    simp at h2
    subst h2
    obtain rfl : lo = 0 := by omega
    cases a with
    | none => exact .inl (by simp at hv; simp [sliced, hv])
    | some a => exact .inr (sliced_empty a 0 c)
  · injection e with e1 e2 e3
    subst e1 e3
    by_cases hz : hi = lo
    · subst hz
      exact .inl ⟨by simp, .inr (sliced_empty _ hi c)⟩
    · refine .inr ⟨b, off + lo, c - lo, ?_, fun i hi' => ?_⟩
      · unfold sliced
        rw [hlen, if_neg (by omega)]
        simp [Addr.add]
      · rw [hlen] at hi'
        have := hc (lo + i) (by omega)
        rw [← Nat.add_assoc] at this
        rw [this]
        simp [hi', List.getElem?_drop]

def textOut (l : List Int) (a : Option Addr) (c : Nat) : Value :=
  match Code.rText l with
  | .error e => .tuple #[.slice none 0 0, .int .i64 0, .int .i64 e]
  | .ok (lo, hi) => .tuple #[sliced a lo hi c 1, .int .i64 hi, .int .i64 0]

set_option maxRecDepth 100000 in
set_option maxHeartbeats 400000 in
theorem readText_any (a : Option Addr) (c : Nat) (l : List Int) (w : World) (h : Sl w (.slice a l.length c) l) :
    Calls Tryz.prog 99 #[.slice a l.length c] w fun e w' => e = .returned (textOut l a c) ∧ w' = w := by
  have hnum := readNumber_any _ l w h.rd
  have hlen := h.rd.len
  have hcap : l.length ≤ c ∧ c ≤ 9223372036854775807 := by
    obtain ⟨a', c', e, h1, h2⟩ := h.cap
    injection e with e1 e2 e3
    subst e3
    exact ⟨h1, h2⟩
  obtain ⟨hc1, hc2⟩ := hcap
  unfold numOut at hnum
  unfold textOut Code.rText
  cases hr : Code.rNum l with
  | error x =>
    have hx : (x == 0) = false := by
      unfold Code.rNum at hr
      cases hi : Code.idx l with
      | none => rw [hi] at hr; injection hr with hr; subst hr; rfl
      | some k => rw [hi] at hr; simp only at hr; split at hr <;> cases hr; rfl
    rw [hr] at hnum
    simp only at hnum ⊢
    go_enter Tryz.func99, Tryz.ntmps99
    go_wp2_with (go_at_call 133; refine hnum.mono ?_; rintro e w1 ⟨rfl, rfl⟩)
    go_ret3
    exact ⟨rfl, rfl⟩
  | ok p =>
    obtain ⟨n, s⟩ := p
    rw [hr] at hnum
    simp only at hnum ⊢
    obtain ⟨g1, g2, g3, g4⟩ := Code.rNum_ok h.rd.bytes hr
    by_cases hn : 65536 < n
    · rw [if_pos hn]
      go_enter Tryz.func99, Tryz.ntmps99
      go_wp2_with (go_at_call 133; refine hnum.mono ?_; rintro e w1 ⟨rfl, rfl⟩)
      go_ret3
      exact ⟨rfl, rfl⟩
    · rw [if_neg hn]
      have hu : IntKind.i64.wrap (n : Int) = (n : Int) := by rw [IntKind.wrap_i64]; omega
      have hs10 : s ≤ 10 := by
        have := congrArg List.length g4
        have h10 := Code.put_len10 g1
        simp at this
        omega
      by_cases he : l.length < s + n
      · rw [if_pos he]
        have he' : (l.length : Int) < (s : Int) + (n : Int) := by omega
        clear he
        go_enter Tryz.func99, Tryz.ntmps99
        go_wp2_with (go_at_call 133; refine hnum.mono ?_; rintro e w1 ⟨rfl, rfl⟩)
        go_ret3
        exact ⟨rfl, rfl⟩
      · rw [if_neg he]
        have he' : (s : Int) + (n : Int) ≤ (l.length : Int) := by omega
        obtain ⟨V, hV⟩ : ∃ V, V = sliced a s (s + n) c 1 := ⟨_, rfl⟩
        have hsl : ∀ w : World, (Instr.slice 39 (.slice a l.length c) (some (.int .i64 s)) (some (.int .i64 ((s : Int) + (n : Int)))) none).run Tryz.prog w = .ok V w := by
          intro w
          rw [run_slice_lh (t := 39) (a := a) (len := l.length) (cap := c) (ht := Tryz.underlying39) (kl := .i64) (kh := .i64) (l := (s : Int)) (h := ((s : Int) + (n : Int))) (h0 := by omega) (h1 := by omega) (h2 := by omega), hV]
          rfl
        have hq : ((s : Int) + (n : Int)) = ((s + n : Nat) : Int) := by omega
        have HR : Hid (Value.tuple #[sliced a s (s + n) c 1, .int .i64 ((s + n : Nat) : Int), .int .i64 0] = Value.tuple #[V, .int .i64 ((s : Int) + (n : Int)), .int .i64 0]) := by show _ = _; rw [hq, hV]
        simp only
        rw [HR.out]
        clear hq he HR hV
        go_enter Tryz.func99, Tryz.ntmps99
        go_wp2_with (go_at_call 133; refine hnum.mono ?_; rintro e w1 ⟨rfl, rfl⟩)
        go_ret3
        exact ⟨rfl, rfl⟩
end Go.Proofs.YtapdhkgeolcogaaGreatDoor.Cd
