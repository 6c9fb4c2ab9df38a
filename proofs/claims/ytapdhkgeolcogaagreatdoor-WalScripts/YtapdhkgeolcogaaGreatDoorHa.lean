/- An element of a row stored anew. The reference's disk in memory; what it reads. -/
import Derived.Test.YtapdhkgeolcogaaGreatDoorGz
import Derived.Laws.CopyRow
namespace Go.Proofs.YtapdhkgeolcogaaGreatDoor
open Go.RowKit Dsk
set_option linter.unusedVariables false

theorem Elm.Own.set {α : Type} {E : Elm α} (h1 : E.size = 1) {w : World} {base : Nat} {v : Value} {l : List α} (h : E.Own w base v l) (hl : l.length ≤ 9223372036854775807) {i : Nat} (hi : i < l.length) (x : α) (u : Value) (hu : E.enc x = [u]) :
    ∃ g u0, (∀ W, (Instr.indexAt E.sl v (.int .i64 (i : Int))).run Tryz.prog W = .ok (.pointer (some ⟨g, i, none⟩)) W) ∧ w.cell? ⟨g, i, none⟩ = some u0 ∧ w.frozen? ⟨g, i, none⟩ = false ∧ v.ownBlock = some g ∧ E.Own (w.setCell ⟨g, i, none⟩ u) base v (l.set i x) := by
  obtain ⟨y, hy⟩ : ∃ y, l[i]? = some y := ⟨_, List.getElem?_eq_getElem hi⟩
  obtain ⟨g, c, rfl, h2, h3⟩ := h.at_ hy
  have hy1 := E.len y
  obtain ⟨u0, hu0⟩ : ∃ u0, (E.enc y)[0]? = some u0 := ⟨_, List.getElem?_eq_getElem (by omega)⟩
  have hc := h2 0 u0 hu0
  rw [h1, Nat.mul_one, Nat.add_zero] at hc
  refine ⟨g, u0, fun W => ?_, hc, h3 i, rfl, ?_⟩
  · have := Elm.run_at (E := E) (W := W) (g := g) (o := 0) (c := c) hi hl
    rw [h1, Nat.mul_one, Nat.zero_add] at this
    exact this
  · rcases h.2 with ⟨e, h0⟩ | ⟨g', cap, cur, e, hg, hh, k1, k2, k3, k4⟩
    · cases e
    · injection e with e1 _ e2
      injection e1 with e1
      injection e1 with e1
      subst e1 e2
      have hset := setCell_eq_setRow w g i cur E.el (0, 0) u hh
      rw [hset]
      refine ⟨by rw [cells_len], .inr ⟨g, c, cur.setIfInBounds i u, by rw [List.length_set], hg, setRow_heap w g cur _ E.el (0, 0) hh, by rw [List.length_set]; exact k1, k2, by simpa using k3, ?_⟩⟩
      rw [List.length_set]
      rw [h1, Nat.mul_one] at k4 ⊢
      have hcs : E.cells (l.set i x) = (E.cells l).set i u := by
        apply List.ext_getElem?
        intro t
        have cell1 : ∀ (m : List α) (t : Nat), (E.cells m)[t]? = (m[t]?).bind fun z => (E.enc z)[0]? := fun m t => by
          cases hm : m[t]? with
          | none =>
            rw [List.getElem?_eq_none (by rw [cells_len, h1, Nat.mul_one]; exact List.getElem?_eq_none_iff.1 hm)]
            rfl
          | some z =>
            have := cells_at E hm 0 (by omega)
            rw [h1, Nat.mul_one, Nat.add_zero] at this
            rw [this]
            rfl
        rw [cell1, List.getElem?_set, List.getElem?_set]
        by_cases e : i = t
        · subst e
          rw [if_pos rfl, if_pos hi, if_pos rfl, if_pos (by rw [cells_len, h1, Nat.mul_one]; exact hi)]
          simp [hu]
        · rw [if_neg e, if_neg e, cell1]
      rw [hcs, ← k4]
      simp only [Array.toList_setIfInBounds]
      rw [List.take_set]
theorem run_string {w : World} {v : Value} {l : List UInt8} (h : eB.Rx w v l) : (convert 39 9 v).run Tryz.prog w = .ok (.string ⟨l.toArray⟩) w := by
  rcases h with ⟨rfl, rfl⟩ | ⟨a, c, rfl, _, hc⟩
  · rw [run_convert_bytes_string w 39 9 5 none 0 0 Tryz.underlying39 Tryz.underlying5 Tryz.underlying9]
    rfl
  · refine run_convert_bytes_back (P := Tryz.prog) w 39 9 5 a c l Tryz.underlying39 Tryz.underlying5 Tryz.underlying9 fun j hj => ?_
    refine hc j _ ?_
    have h1 := Elm.cells_at eB (List.getElem?_eq_getElem hj) 0 (by decide)
    have e : eB.size = 1 := rfl
    rw [e, Nat.mul_one, Nat.add_zero] at h1
    rw [h1]
    rfl
theorem mem_srtS {l : List (List UInt8)} {x : List UInt8} : x ∈ srtS l ↔ x ∈ l := (List.mergeSort_perm _ _).mem_iff
end Go.Proofs.YtapdhkgeolcogaaGreatDoor
namespace Go.Proofs.YtapdhkgeolcogaaGreatDoor
open Go.RowKit Dsk
set_option linter.unusedVariables false
set_option maxRecDepth 10000

/-- A write, as the reference holds it. -/
structure Rw where
  nm : List UInt8
  b : List UInt8
  sy : Bool
def eR : Elm Rw where
  el := 86
  sl := 28
  size := 3
  bytes := 40
  zero := .agg #[.string ⟨#[]⟩, .string ⟨#[]⟩, .bool false]
  enc := fun x => [.string ⟨x.nm.toArray⟩, .string ⟨x.b.toArray⟩, .bool x.sy]
  hu := Tryz.underlying28
  hi := by kernel_rfl
  hz := rfl
  hs := by decide
  len := fun _ => rfl
  one := by intro x v hv; simp at hv; rcases hv with rfl | rfl | rfl <;> rfl
  he := by kernel_rfl
  so := fun W => Tryz.sizeOf86 W
/-- The reference's disk at q: its names N and its writes L; its slices vN and vL. -/
structure RfD (w : World) (q : Nat) (vN vL : Value) (N : List (List UInt8)) (L : List Rw) : Prop where
  c0 : w.cell? ⟨q, 0, none⟩ = some vN
  c1 : w.cell? ⟨q, 1, none⟩ = some vL
  fr : ∀ i, w.frozen? ⟨q, i, none⟩ = false
  oN : eS.Own w 0 vN N
  oL : eR.Own w 0 vL L
  nN : vN.ownBlock ≠ some q
  nL : vL.ownBlock ≠ some q
  ap : ∀ k, vN.ownBlock = some k → vL.ownBlock ≠ some k
/-- .. its blocks lie in G. -/
def Rf (w : World) (q : Nat) (N : List (List UInt8)) (L : List Rw) (G : Nat → Prop) : Prop := ∃ vN vL, RfD w q vN vL N L ∧ G q ∧ (∀ k, vN.ownBlock = some k → G k) ∧ (∀ k, vL.ownBlock = some k → G k) ∧ ∀ k, G k → k < w.heap.size
theorem RfD.kept {F : Nat → Prop} {w w' : World} {q : Nat} {vN vL : Value} {N : List (List UInt8)} {L : List Rw} (h : RfD w q vN vL N L) (g : Chg F w w') (hf : ¬ F q) (hb : ∀ k, vN.ownBlock = some k → ¬ F k) (hw : ∀ k, vL.ownBlock = some k → ¬ F k) : RfD w' q vN vL N L :=
  ⟨g.cell h.c0 hf, g.cell h.c1 hf, fun i => (g.frozen (a := ⟨q, i, none⟩) (show q < w.heap.size from World.block_lt_of_cell? w ⟨q, 0, none⟩ h.c0) hf).trans (h.fr i), h.oN.kept g hb, h.oL.kept g hw, h.nN, h.nL, h.ap⟩
theorem RfD.grown {w w' : World} {q : Nat} {vN vL : Value} {N : List (List UInt8)} {L : List Rw} (h : RfD w q vN vL N L) (g : w.grownBy w' none) : RfD w' q vN vL N L := h.kept (F := fun _ => False) (Chg.of g (by simp)) id (fun _ _ => id) (fun _ _ => id)
theorem Rf.kept {F G : Nat → Prop} {w w' : World} {q : Nat} {N : List (List UInt8)} {L : List Rw} (h : Rf w q N L G) (g : Chg F w w') (hd : ∀ k, G k → ¬ F k) : Rf w' q N L G := by
  obtain ⟨vN, vL, h1, h2, h3, h4, h5⟩ := h
  exact ⟨vN, vL, h1.kept g (hd q h2) (fun k hk => hd k (h3 k hk)) (fun k hk => hd k (h4 k hk)), h2, h3, h4, fun k hk => Nat.lt_of_lt_of_le (h5 k hk) g.size⟩
theorem Rf.grown {G : Nat → Prop} {w w' : World} {q : Nat} {N : List (List UInt8)} {L : List Rw} (h : Rf w q N L G) (g : w.grownBy w' none) : Rf w' q N L G := h.kept (F := fun _ => False) (Chg.of g (by simp)) (fun _ _ => id)
/-- The i-th write's place. -/
theorem RfD.at_ {w : World} {q : Nat} {vN vL : Value} {N : List (List UInt8)} {L : List Rw} (h : RfD w q vN vL N L) (hl : L.length ≤ 1000000000) {i : Nat} {x : Rw} (hi : L[i]? = some x) :
    ∃ g o, (∀ W, (Instr.indexAt 28 vL (.int .i64 (i : Int))).run Tryz.prog W = .ok (.pointer (some ⟨g, o, none⟩)) W) ∧ w.cell? ⟨g, o, none⟩ = some (.string ⟨x.nm.toArray⟩) ∧ w.cell? ⟨g, o + 1, none⟩ = some (.string ⟨x.b.toArray⟩) ∧ w.cell? ⟨g, o + 2, none⟩ = some (.bool x.sy) := by
  obtain ⟨g, o, h1, h2, _⟩ := h.oL.idx (by omega) hi
  exact ⟨g, o, h1, h2 0 _ rfl, h2 1 _ rfl, h2 2 _ rfl⟩
theorem str_ne {a b : List UInt8} (h : a ≠ b) : ¬ (⟨a.toArray⟩ : ByteArray) = ⟨b.toArray⟩ := fun e => h (by injection e with e; simpa using e)
set_option maxRecDepth 100000 in
set_option maxHeartbeats 1600000 in
theorem rhas_any (q : Nat) (vN vL : Value) (N : List (List UInt8)) (L : List Rw) (x : List UInt8) (hN : N.length ≤ 64) (w : World) (h : RfD w q vN vL N L) :
    Calls Tryz.prog 48 #[.pointer (some ⟨q, 0, none⟩), .string ⟨x.toArray⟩] w fun e w' => e = .returned (.bool (N.any fun y => y == x)) ∧ w' = w := by
  obtain ⟨aN, cN, rfl⟩ := Elm.form h.oN
  have c0 := h.c0
  have H : Hid (RfD w q (.slice aN N.length cN) vL N L) := h
  obtain ⟨B, hB⟩ : ∃ B, B = N.any fun y => y == x := ⟨_, rfl⟩
  rw [← hB]
  have HB : Hid (B = N.any fun y => y == x) := hB
  clear h hB
  go_enter Tryz.func48, Tryz.ntmps48
  go_wp2
  go_loop [5] (fun i => ∃ k : Nat, k ≤ N.length ∧ i = .int .i64 k ∧ ((N.take k).any fun y => y == x) = false) (fun i => N.length - (intOf i).toNat)
  case atStart => exact ⟨0, Nat.zero_le _, rfl, by simp⟩
  case round =>
    obtain ⟨k, hk, rfl, hno⟩ := hrel
    have HNo : Hid (((N.take k).any fun y => y == x) = false) := hno
    clear hno
    by_cases hlt : k < N.length
    · obtain ⟨y, hy⟩ : ∃ y, N[k]? = some y := ⟨_, List.getElem?_eq_getElem hlt⟩
      obtain ⟨g, o, h1, h2, _⟩ := H.out.oN.idx (by omega) hy
      have h1' : ∀ W, (Instr.indexAt 27 (.slice aN N.length cN) (.int .i64 (k : Int))).run Tryz.prog W = .ok (.pointer (some ⟨g, o, none⟩)) W := h1
      have z : w.cell? ⟨g, o, none⟩ = some (.string ⟨y.toArray⟩) := h2 0 _ rfl
      have HY : Hid (N[k]? = some y) := hy
      clear h1 h2 hy
      by_cases e : y = x
      · subst e
        have HBT : Hid (B = true) := by
          show _ = _
          rw [HB.out, List.any_eq_true]
          exact ⟨y, List.mem_of_getElem? HY.out, by simp⟩
        go_wp2
        go_ret
        exact ⟨ret_bool HBT.out.symm, rfl⟩
      · have e1 := str_ne e
        have e2 : (y == x) = false := by simpa using e
        go_wp2
        go_round
        case rel => exact ⟨k + 1, by omega, by go_num, by rw [List.take_add_one, HY.out, List.any_append, HNo.out]; simp [e]⟩
        case measure => simp [intOf]; omega
    · have HBF : Hid (B = false) := by
        show _ = _
        have := HNo.out
        rw [List.take_of_length_le (by omega)] at this
        rw [HB.out, this]
      go_wp2
      go_ret
      exact ⟨ret_bool HBF.out.symm, rfl⟩
def rtot (L : List Rw) : Nat := (L.map fun x => x.b.length).sum
theorem rtot_take {L : List Rw} {k : Nat} {x : Rw} (h : L[k]? = some x) : rtot (L.take (k + 1)) = rtot (L.take k) + x.b.length := by
  unfold rtot
  rw [List.take_add_one, h]
  simp
theorem rtot_le (L : List Rw) (k : Nat) : rtot (L.take k) ≤ rtot L := by
  unfold rtot
  conv => rhs; rw [← List.take_append_drop k L]
  rw [List.map_append, List.sum_append]
  omega
set_option maxRecDepth 100000 in
set_option maxHeartbeats 1600000 in
theorem rtotal_any (q : Nat) (vN vL : Value) (N : List (List UInt8)) (L : List Rw) (hL : L.length ≤ 1000000000) (ht : rtot L ≤ 1048576) (w : World) (h : RfD w q vN vL N L) :
    Calls Tryz.prog 49 #[.pointer (some ⟨q, 0, none⟩)] w fun e w' => e = .returned (.int .i64 (rtot L : Int)) ∧ w' = w := by
  obtain ⟨aL, cL, rfl⟩ := Elm.form h.oL
  have c1 := h.c1
  have H : Hid (RfD w q vN (.slice aL L.length cL) N L) := h
  have HTL : Hid (∀ k, rtot (L.take k) ≤ 1048576) := fun k => Nat.le_trans (rtot_le L k) ht
  clear h
  go_enter Tryz.func49, Tryz.ntmps49
  go_wp2
  go_loop [3, 4] (fun n i => ∃ k : Nat, k ≤ L.length ∧ i = .int .i64 k ∧ n = .int .i64 (rtot (L.take k) : Int)) (fun _ i => L.length - (intOf i).toNat)
  case atStart => exact ⟨0, Nat.zero_le _, rfl, by simp [rtot]⟩
  case round =>
    obtain ⟨k, hk, rfl, rfl⟩ := hrel
    by_cases hlt : k < L.length
    · obtain ⟨x, hx⟩ : ∃ x, L[k]? = some x := ⟨_, List.getElem?_eq_getElem hlt⟩
      obtain ⟨g, o, h1, z0, z1, z2⟩ := H.out.at_ hL hx
      have HT : Hid (rtot (L.take (k + 1)) = rtot (L.take k) + x.b.length) := rtot_take hx
      have b1 := HTL.out (k + 1)
      rw [HT.out] at b1
      obtain ⟨sb, hsb⟩ : ∃ sb : ByteArray, sb = ⟨x.b.toArray⟩ := ⟨_, rfl⟩
      rw [← hsb] at z1
      have hsz : sb.size = x.b.length := by rw [hsb]; simp [ByteArray.size]
      have HZ : Hid (sb.size = x.b.length) := hsz
      generalize rtot (L.take k) = T at HT b1 ⊢
      have b2 : (T : Int) + (sb.size : Int) ≤ 1048576 := by omega
      clear hx hsb hsz b1
      go_wp2
      go_round
      case rel => exact ⟨k + 1, by omega, by go_num, by rw [HT.out, ← HZ.out]; go_num⟩
      case measure => simp [intOf]; omega
    · have e : L.take k = L := List.take_of_length_le (by omega)
      rw [e]
      clear e HTL
      go_wp2
      go_ret
      exact ⟨rfl, rfl⟩
def rwait (L : List Rw) : Nat := (L.filter fun x => !x.sy).length
theorem rwait_take {L : List Rw} {k : Nat} {x : Rw} (h : L[k]? = some x) : rwait (L.take (k + 1)) = rwait (L.take k) + if x.sy = true then 0 else 1 := by
  unfold rwait
  rw [List.take_add_one, h, List.filter_append]
  cases hs : x.sy <;> simp [hs]
end Go.Proofs.YtapdhkgeolcogaaGreatDoor
