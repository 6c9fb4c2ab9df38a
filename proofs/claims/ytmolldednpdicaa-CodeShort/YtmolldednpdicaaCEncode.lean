/- What 'Encode' answers. -/
import Derived.Test.YtmolldednpdicaaCField
namespace Go.Proofs.Ytmolldednpdicaa
open Go.RowKit

/-- The three cells of a field, from ⟨b, o⟩ on. -/
structure At (w : World) (b o : Nat) (f : Code.Fd) : Prop where
  k : w.cell? ⟨b, o, none⟩ = some (.int .i64 f.k)
  n : w.cell? ⟨b, o + 1, none⟩ = some (.int .i64 f.n)
  s : w.cell? ⟨b, o + 2, none⟩ = some (.string f.s)

/-- The value v is a slice whose elements are the fields fs. -/
structure Fl (w : World) (v : Value) (fs : List Code.Fd) : Prop where
  in64 : ∀ f ∈ fs, Code.In64 f.n
  val : (fs = [] ∧ (v = .slice none 0 0 ∨ ∃ a cap, v = .slice (some a) 0 cap)) ∨ ∃ b off cap, v = .slice (some ⟨b, off, none⟩) fs.length cap ∧ ∀ i (hi : i < fs.length), At w b (off + i * 3) fs[i]

theorem At.grown {w w' : World} {b o : Nat} {f : Code.Fd} {row : Option Nat} (h : At w b o f) (g : w.grownBy w' row) (hr : some b ≠ row) : At w' b o f :=
  ⟨g.cell h.k hr, g.cell h.n hr, g.cell h.s hr⟩
theorem At.lt {w : World} {b o : Nat} {f : Code.Fd} (h : At w b o f) : b < w.heap.size := World.block_lt_of_cell? w ⟨b, o, none⟩ h.k

theorem Fl.grown {w w' : World} {v : Value} {fs : List Code.Fd} {row : Option Nat} (h : Fl w v fs) (g : w.grownBy w' row) (hr : v.ownBlock = none ∨ v.ownBlock ≠ row) : Fl w' v fs := by
  refine ⟨h.in64, ?_⟩
  rcases h.val with hn | ⟨b, off, cap, rfl, hc⟩
  · exact .inl hn
  · exact .inr ⟨b, off, cap, rfl, fun i hi => (hc i hi).grown g (by simpa [Value.ownBlock] using hr)⟩

theorem own_nil (w : World) : Own w w.heap.size (.slice none 0 0) [] := ⟨World.ownsRow_nil w _ _ _, fun _ h => by cases h⟩

set_option maxRecDepth 100000 in
set_option maxHeartbeats 400000 in
theorem encode_some (b off cap : Nat) (fs : List Code.Fd) (h64 : ∀ f ∈ fs, Code.In64 f.n) (hl : fs.length ≤ 1000000000) (w : World) (hc : ∀ i (hi : i < fs.length), At w b (off + i * 3) fs[i]) :
    Calls Try.prog 10 #[.slice (some ⟨b, off, none⟩) fs.length cap] w fun e w' => w.grownBy w' none ∧
      (((∀ f ∈ fs, Code.Fits f) ∧ ∃ v', e = .returned (.tuple #[v', .int .i64 0]) ∧ Own w' w.heap.size v' (Code.enc fs)) ∨ (¬ (∀ f ∈ fs, Code.Fits f) ∧ e = .returned (.tuple #[.slice none 0 0, .int .i64 1]))) := by
  go_enter Try.func10, Try.ntmps10
  go_wp2
  go_loopw [4, 9] (fun v i wr => ∃ k : Nat, k ≤ fs.length ∧ i = .int .i64 k ∧ (∀ f ∈ fs.take k, Code.Fits f) ∧ Own wr w.heap.size v (Code.enc (fs.take k)) ∧ w.grownBy wr none) (fun _ i _ => fs.length - (intOf i).toNat)
  case atStart => exact ⟨0, Nat.zero_le _, rfl, fun _ h => by simp at h, own_nil w, grown_refl _ _⟩
  case round =>
    obtain ⟨k, hk, rfl, hfit, hO, hg⟩ := hrel
    by_cases hlk : k < fs.length
    · have hA := (hc k hlk).grown hg (by simp)
      have hmem : fs[k] ∈ fs := List.getElem_mem hlk
      have hin := h64 _ hmem
      have HT : Hid (fs.take (k + 1) = fs.take k ++ [fs[k]]) := List.take_succ_eq_append_getElem hlk
      have HL : Hid ((Code.enc (fs.take k)).length ≤ k * 65546) := Code.enc_len (fun f hf => ⟨hfit f hf, h64 f (List.mem_of_mem_take hf)⟩) (by simp; omega)
      have HF : Hid (∀ f ∈ fs.take k, Code.Fits f) := hfit
      have HX : Hid (fs[k] ∈ fs) := hmem
      clear hfit hmem
      generalize fs[k] = f at *
      obtain ⟨l, hl0⟩ : ∃ l, l = Code.enc (fs.take k) := ⟨_, rfl⟩
      rw [← hl0] at hO HL
      have HL0 : Hid (l = Code.enc (fs.take k)) := hl0
      clear hl0 hc h64
      have h1 := hA.k
      have h2 := hA.n
      have h3 := hA.s
      have hz := hg.size
      by_cases hf : Code.Fits f
      · have hD : decide (Code.Fits f) = true := by simpa using hf
        have HB : Hid (l.length ≤ 140737488280000) := by show _ ≤ _; have := HL.out; omega
        clear HL
        go_wp2_with (first
          | (go_at_call 19; go_must (refine (fits_any f _).mono ?_); rintro e w1 ⟨rfl, rfl⟩; rw [hD])
          | (go_at_call 20; go_must (refine (field_any _ l f hf hin w.heap.size _ (own_alloc (own_alloc hO _) _) (by simp <;> omega) HB.out).mono ?_); rintro e w2 ⟨v2, rfl, hO2, hg2⟩))
        go_roundw
        case rel =>
          refine ⟨k + 1, by omega, by go_num, ?_, ?_, ?_⟩
          · intro g hg'
            rw [HT.out] at hg'
            rcases List.mem_append.1 hg' with h | h
            · exact HF.out g h
            · simp at h; rw [h]; exact hf
          · rw [HT.out, Code.enc_append, ← HL0.out]
            simpa [Code.enc] using hO2
          · exact grown_more (grown_alloc (grown_alloc hg _) _) hg2 (fun b e => .inr (hO.row.lt b e).1)
        case measure => simp [intOf]; omega
      · have hD : decide (Code.Fits f) = false := by simpa using hf
        go_wp2_with (go_at_call 19; go_must (refine (fits_any f _).mono ?_); rintro e w1 ⟨rfl, rfl⟩; rw [hD])
        go_ret2
        exact ⟨grown_alloc (grown_alloc hg _) _, .inr ⟨fun h => hf (h f HX.out), rfl⟩⟩
    · obtain rfl : k = fs.length := by omega
      rw [List.take_length] at hO hfit
      go_wp2
      go_ret2
      exact ⟨hg, .inl ⟨hfit, _, rfl, hO⟩⟩

set_option maxRecDepth 100000 in
theorem encode_none (a : Option Addr) (cap : Nat) (w : World) :
    Calls Try.prog 10 #[.slice a 0 cap] w fun e w' => w.grownBy w' none ∧ ∃ v', e = .returned (.tuple #[v', .int .i64 0]) ∧ Own w' w.heap.size v' [] := by
  go_enter Try.func10, Try.ntmps10
  go_wp2
  go_loopw [4, 9] (fun v i wr => i = .int .i64 0 ∧ v = .slice none 0 0 ∧ wr = w) (fun _ _ _ => 0)
  case atStart => exact ⟨rfl, rfl, rfl⟩
  case round =>
    obtain ⟨rfl, rfl, rfl⟩ := hrel
    go_wp2
    go_ret2
    exact ⟨grown_refl _ _, _, rfl, own_nil _⟩

/-- 'Encode', of any fields that lie in memory. -/
theorem encode_any (v : Value) (fs : List Code.Fd) (w : World) (hv : Fl w v fs) (hl : fs.length ≤ 1000000000) :
    Calls Try.prog 10 #[v] w fun e w' => w.grownBy w' none ∧
      (((∀ f ∈ fs, Code.Fits f) ∧ ∃ v', e = .returned (.tuple #[v', .int .i64 0]) ∧ Own w' w.heap.size v' (Code.enc fs)) ∨ (¬ (∀ f ∈ fs, Code.Fits f) ∧ e = .returned (.tuple #[.slice none 0 0, .int .i64 1]))) := by
  rcases hv.val with ⟨rfl, rfl | ⟨a, cap, rfl⟩⟩ | ⟨b, off, cap, rfl, hc⟩
  · exact (encode_none none 0 w).mono fun e w' ⟨h1, v', h2, h3⟩ => ⟨h1, .inl ⟨fun _ h => (List.not_mem_nil h).elim, v', h2, h3⟩⟩
  · exact (encode_none (some a) cap w).mono fun e w' ⟨h1, v', h2, h3⟩ => ⟨h1, .inl ⟨fun _ h => (List.not_mem_nil h).elim, v', h2, h3⟩⟩
  · exact encode_some b off cap fs hv.in64 hl w hc
end Go.Proofs.Ytmolldednpdicaa
