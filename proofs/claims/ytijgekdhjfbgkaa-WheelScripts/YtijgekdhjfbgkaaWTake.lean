/- Places emptied ('takeUpTo'). -/
import Derived.Test.YtijgekdhjfbgkaaWCat
import Derived.Lib.SliceRun
import Derived.Deep.Upon
import Derived.Shelf.SlSortFuncK.RowK2
namespace Go.Proofs.Ytijgekdhjfbgkaa
open Go.RowKit Go.Sort Whl
set_option linter.unusedVariables false

/-- The places' slices, those up to q emptied. -/
def cutv (v : Nat → Value) (q : Nat) : Nat → Value := fun p => if p ≤ q then .slice none 0 0 else v p
def cutl (ls : Nat → List Int) (q : Nat) : Nat → List Int := fun p => if p ≤ q then [] else ls p
theorem cutv_own {v : Nat → Value} {q p k : Nat} (h : (cutv v q p).ownBlock = some k) : q < p ∧ (v p).ownBlock = some k := by
  unfold cutv at h
  split at h
  · cases h
  · exact ⟨by omega, h⟩
theorem tape_setCells (b : Nat) : ∀ (vs : List Value) (o : Nat) (w : World), (w.setCells b o vs).tape = w.tape
  | [], _, _ => rfl
  | v :: r, o, w => by rw [World.setCells, tape_setCells b r]; rfl
set_option maxRecDepth 100000 in
theorem slice_places (b q : Nat) (hq : q < 193) (w : World) : (Instr.sliceAt 52 (.pointer (some ⟨b, 2, none⟩)) none (some (.int .i64 ((q : Int) + 1))) none).run Try.prog w = .ok (.slice (some ⟨b, 2, none⟩) (q + 1) 193) w := by
  have ht : Try.prog.underlying 52 = some (.array (Try.prog.arrayLen 52) (Try.prog.elem 52)) := by kernel_rfl
  have e1 : Try.prog.arrayLen 52 = 193 := by kernel_rfl
  have e2 : Try.prog.elem 52 = 44 := by kernel_rfl
  have := run_sliceAt_array_h (P := Try.prog) w 52 ⟨b, 2, none⟩ ht .i64 ((q : Int) + 1) (by omega) (by rw [e1]; omega)
  rw [this, e2, Try.sizeOf44 w, e1]
  have e3 : ((q : Int) + 1).toNat = q + 1 := by omega
  show Result.ok (slicedAt ⟨b, 2, none⟩ 0 ((q : Int) + 1).toNat 193 1) w = _
  rw [e3]
  rfl
theorem WhD.clear {w : World} {b : Nat} {now : Int} {bm : Nat} {D : DataW Unit} {v : Nat → Value} {ls : Nat → List Int} (h : WhD w b now bm D v ls) {q : Nat} (hq : q < 193) :
    WhD (w.setCells b 2 (List.replicate (q + 1) (.slice none 0 0))) b now bm D (cutv v q) (cutl ls q) ∧ w.grownBy (w.setCells b 2 (List.replicate (q + 1) (.slice none 0 0))) (some b) := by
  have hb : b < w.heap.size := World.block_lt_of_cell? w _ h.c0
  have g : w.grownBy (w.setCells b 2 (List.replicate (q + 1) (.slice none 0 0))) (some b) :=
    ⟨World.os_setCells w b 2 _, tape_setCells b _ 2 w, World.output_setCells w b 2 _, by rw [size_setCells]; exact Nat.le_refl _, fun k hk hne => World.heap_setCells_other w b 2 _ hk (fun e => hne (by rw [e]))⟩
  have out : ∀ i, (i < 2 ∨ 3 + q ≤ i) → (w.setCells b 2 (List.replicate (q + 1) (.slice none 0 0))).cell? ⟨b, i, none⟩ = w.cell? ⟨b, i, none⟩ := fun i hi => World.cell?_setCells_out b _ 2 w ⟨b, i, none⟩ (fun _ _ => by
    show i < 2 ∨ 2 + (List.replicate (q + 1) _).length ≤ i
    rw [List.length_replicate]; omega)
  refine ⟨⟨?_, ?_, fun p hp => ?_, fun i => ?_, ?_, fun p hp => ?_, fun p r hp hr hpr k hk => ?_, fun p hp => ?_, fun p hp => ?_, h.bb⟩, g⟩
  · rw [out 0 (by omega)]; exact h.c0
  · rw [out 1 (by omega)]; exact h.c1
  · unfold cutv
    split
    · rename_i c
      have := World.cell?_setCells_in b (List.replicate (q + 1) (.slice none 0 0)) 2 w (fun j hj => by
        rw [List.length_replicate] at hj
        rw [h.cp j (by omega)]; rfl) p (by rw [List.length_replicate]; omega)
      rw [this]
      simp
    · rw [out (2 + p) (by omega)]; exact h.cp p hp
  · rw [World.frozen?_setCells]; exact h.fr i
  · exact h.map.kept g (fun e => h.bb (by injection e with e; exact e.symm))
  · unfold cutv cutl
    split
    · exact World.ownsRow_nil _ _ _ _
    · exact kept_ne (h.row p hp) g fun k hk e => h.nb p hp (by rw [hk]; exact e.symm)
  · obtain ⟨_, k1⟩ := cutv_own hk
    intro e
    obtain ⟨_, k2⟩ := cutv_own e
    exact h.apart p r hp hr hpr k k1 k2
  · exact fun e => h.nb p hp (cutv_own e).2
  · exact fun e => h.nm p hp (cutv_own e).2

set_option maxRecDepth 100000 in
set_option maxHeartbeats 1600000 in
theorem take_any (b : Nat) (now : Int) (bm : Nat) (D : DataW Unit) (v : Nat → Value) (ls : Nat → List Int) (q : Nat) (hq : q < 193) (hsum : (cat ls (q + 1)).length ≤ 5000) (w : World) (hW : WhD w b now bm D v ls) :
    Calls Try.prog 24 #[.pointer (some ⟨b, 0, none⟩), .int .i64 q] w fun e w' => ∃ ad m c, e = .returned (.slice ad m c) ∧ w'.ownsRow w.heap.size 3 1 (.slice ad m c) (cat ls (q + 1)).length ((cat ls (q + 1)).map (Value.int .i64)) ∧ WhD w' b now bm D (cutv v q) (cutl ls q) ∧ w.grownBy w' (some b) := by
  have CA := fun c => concat_any b v ls (q + 1) c (by omega) hsum w hW.cp hW.row
  have HW : Hid (WhD w b now bm D v ls) := hW
  have hqi : (q : Int) < 193 := by omega
  have hsl := slice_places b q hq
  have hcl : Hid (∀ w1, w.grownBy w1 none → ∀ ty, (Builtin.clear_ #[65] ty #[.slice (some ⟨b, 2, none⟩) (q + 1) 193]).run Try.prog w1 = .ok (.tuple #[]) (w1.setCells b 2 (List.replicate (q + 1) (.slice none 0 0)))) := fun w1 g ty =>
    Lib.run_clear_slice w1 _ _ ty _ Try.underlying65 Try.zeroValue44 rfl rfl b 2 (q + 1) 193 (by omega) (fun j hj => by rw [g.cell (hW.cp j (by omega)) (by simp)]; rfl) (fun j hj => by
      rw [World.frozen?_of_block (w := w) (a := ⟨b, 2 + j, none⟩) (g.block b (World.block_lt_of_cell? w _ hW.c0) (by simp))]
      exact hW.fr _)
  clear hW
  go_enter Try.func24, Try.ntmps24
  go_wp2_with (go_at_call 28; (with_reducible refine (CA _).mono ?_); rintro e w1 ⟨ad, m, c, rfl, hO1, hg1⟩; have hc1 := hcl.out w1 hg1)
  go_ret
  have hW1 := (HW.out.kept (F := fun _ => False) (Chg.of hg1 (by simp)) id id (fun _ _ _ _ => id)).clear hq
  have hb : b < w.heap.size := World.block_lt_of_cell? w _ HW.out.c0
  exact ⟨ad, m, c, rfl, kept_ne hO1 hW1.2 (fun k hk e => by have := (hO1.lt k hk).1; injection e with e; omega), hW1.1, grown_more (hg1.but _) hW1.2 (fun _ e => .inl e)⟩
end Go.Proofs.Ytijgekdhjfbgkaa
