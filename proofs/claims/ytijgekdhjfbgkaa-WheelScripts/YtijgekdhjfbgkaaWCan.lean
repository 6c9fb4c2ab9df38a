/- 'Cancel'. -/
import Derived.Test.YtijgekdhjfbgkaaWIns2
namespace Go.Proofs.Ytijgekdhjfbgkaa
open Go.RowKit Go.Sort Go.Shelf Whl
set_option linter.unusedVariables false

set_option maxRecDepth 100000 in
/-- The closure that 'Cancel' hands on. -/
theorem can_gives (id x : Int) (B : Nat) (W : World) (hc : W.cell? ⟨B, 0, none⟩ = some (.int .i64 id)) :
    FnGives Try.prog 23 #[.pointer (some ⟨B, 0, none⟩)] #[.int .i64 x] (.bool (x == id)) W := by
  show Calls Try.prog 23 #[.int .i64 x, .pointer (some ⟨B, 0, none⟩)] W _
  go_enter Try.func23, Try.ntmps23
  go_wp2
  all_goals (go_ret; exact ⟨rfl, 0, rfl⟩)
theorem can_at (id : Int) (B : Nat) (w : World) (hB : B < w.heap.size) (hcell : w.cell? ⟨B, 0, none⟩ = some (.int .i64 id)) :
    PredAt Try.prog 23 #[.pointer (some ⟨B, 0, none⟩)] (Value.int .i64) (fun x => x == id) w :=
  fun W x hb => can_gives id x B W ((hb.cell (p := ⟨B, 0, none⟩) hB).trans hcell)
theorem can_over (id : Int) (B blk off size : Nat) (w : World) (hB : B < w.heap.size) (hne : B ≠ blk) (hcell : w.cell? ⟨B, 0, none⟩ = some (.int .i64 id)) :
    PredOver Try.prog 23 #[.pointer (some ⟨B, 0, none⟩)] (Value.int .i64) (fun x => x == id) blk off size w :=
  fun n os dk x _ => can_gives id x B _ (by
    unfold sortWorld
    rw [cell?_grow _ _ _ (by show B < (putRow _ _ _ _ _).heap.size; rw [size_putRow]; exact hB), cell?_putRow_other _ _ blk off _ _ (Or.inl hne)]
    exact hcell)
/-- 'slices.DeleteFunc' on a place's slice. -/
theorem delete_any (id : Int) (B : Nat) (v : Value) (l : List Int) (w : World) (hl : l.length ≤ 100000) (hne : l ≠ []) (hown : w.ownsRow 0 3 1 v l.length (l.map (Value.int .i64))) (hB : B < w.heap.size) (hBv : v.ownBlock ≠ some B) (hcell : w.cell? ⟨B, 0, none⟩ = some (.int .i64 id)) :
    Calls Try.prog 22 #[v, .func (.func 23) #[] #[.pointer (some ⟨B, 0, none⟩)]] w fun e w' => ∃ ad m c, e = .returned (.slice ad m c) ∧ w'.ownsRow 0 3 1 (.slice ad m c) (l.filter (fun x => x != id)).length ((l.filter (fun x => x != id)).map (Value.int .i64)) ∧ w.grownBy w' v.ownBlock ∧ (Value.slice ad m c).ownBlock = v.ownBlock := by
  have eg : ∀ args w, (callFunc 23 args).run Try.prog w = .ok (.enter 23 args) w := enters_of Try.func23 (by kernel_rfl) rfl
  rcases hown.2 with ⟨hv, h0⟩ | ⟨g, cap, cur, rfl, hbase, hb, h1, h2, h3, h4⟩
  · exact absurd (List.eq_nil_of_length_eq_zero h0) hne
  · have hgB : B ≠ g := fun e => hBv (by rw [e]; rfl)
    have hH : Holds (Value.int .i64) w g 0 l.toArray := holds_block _ hb (by simpa using h4)
    have := AnyE.slices_DeleteFunc (P := Try.prog) Try.delL (Value.int .i64) (fun _ => rfl) (fun x => x == id) 23 #[.pointer (some ⟨B, 0, none⟩)] eg 0 Try.zeroValue3 g 0 cap l.toArray w
      (can_at id B w hB hcell) (can_over id B g 0 _ w hB hgB hcell) hH (by simp; omega) (by simpa using h1)
    refine Calls.mono this ?_
    rintro e w' ⟨rfl, q, rfl⟩
    have fe : (l.toArray.toList.filter fun x => !(x == id)) = l.filter fun x => x != id := rfl
    rw [fe]
    have hfl := List.length_filter_le (fun x => x != id) l
    generalize (l.filter fun x => x != id) = r at hfl ⊢
    have hlen : (r ++ List.replicate (l.toArray.size - r.length) (0 : Int)).length = l.length := by simp; omega
    have hsz : l.length ≤ cur.size := by rw [h3]; omega
    have tk := take_put (Value.int .i64) cur (r ++ List.replicate (l.toArray.size - r.length) (0 : Int)) (by rw [hlen]; exact hsz)
    have hp := heap_put (Value.int .i64) (n := q) (os := #[]) (r ++ List.replicate (l.toArray.size - r.length) (0 : Int)).toArray hb
    have gp := grown_put (Value.int .i64) (w := w) (g := g) (n := q) (os := #[]) (r ++ List.replicate (l.toArray.size - r.length) (0 : Int)).toArray
    rw [Go.Sort.grow_empty] at hp gp
    refine ⟨_, _, _, rfl, ⟨by simp, .inr ⟨g, cap, _, rfl, Nat.zero_le _, hp, by omega, h2, by simp [putCells, h3], ?_⟩⟩, gp, rfl⟩
    rw [hlen] at tk
    have := congrArg (List.take r.length) tk
    rw [List.take_take, Nat.min_eq_left hfl, List.map_append, List.take_left' (by simp)] at this
    simpa using this
end Go.Proofs.Ytijgekdhjfbgkaa
