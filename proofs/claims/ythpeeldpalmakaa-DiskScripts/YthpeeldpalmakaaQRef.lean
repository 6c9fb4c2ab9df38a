/- The reference's disk in memory; what it reads. -/
import Derived.Test.YthpeeldpalmakaaQSet
namespace Go.Proofs.Ythpeeldpalmakaa
open Go.RowKit Dsk
set_option linter.unusedVariables false
set_option maxRecDepth 10000

/-- A write, as the reference holds it. -/
structure Rw where
  nm : List UInt8
  b : List UInt8
  sy : Bool
def eR : Elm Rw where
  el := 51
  sl := 28
  size := 3
  bytes := 40
  zero := .agg #[.string ⟨#[]⟩, .string ⟨#[]⟩, .bool false]
  enc := fun x => [.string ⟨x.nm.toArray⟩, .string ⟨x.b.toArray⟩, .bool x.sy]
  hu := Try.underlying28
  hi := by kernel_rfl
  hz := rfl
  hs := by decide
  len := fun _ => rfl
  one := by intro x v hv; simp at hv; rcases hv with rfl | rfl | rfl <;> rfl
  he := by kernel_rfl
  so := fun W => Try.sizeOf51 W
/-- The reference's disk at q: its names N and its writes L; its slices vN and vL. -/
structure RfD (w : World) (q : Nat) (vN vL : Value) (N : List (List UInt8)) (L : List Rw) : Prop where
  c0 : w.cell? ⟨q, 0, none⟩ = some vN
  c1 : w.cell? ⟨q, 1, none⟩ = some vL
  fr : ∀ i, w.frozen? ⟨q, i, none⟩ = false
  oN : eS.Own w 0 vN N
  oL : eR.Own w 0 vL L
  nN : vN.ownBlock ≠ some q
  nL : vL.ownBlock ≠ some q
  ap : ∀ k, vN.ownBlock = some k → vL.ownBlock ≠ some k
/-- .. its blocks lie in G. -/
def Rf (w : World) (q : Nat) (N : List (List UInt8)) (L : List Rw) (G : Nat → Prop) : Prop := ∃ vN vL, RfD w q vN vL N L ∧ G q ∧ (∀ k, vN.ownBlock = some k → G k) ∧ (∀ k, vL.ownBlock = some k → G k) ∧ ∀ k, G k → k < w.heap.size
theorem RfD.kept {F : Nat → Prop} {w w' : World} {q : Nat} {vN vL : Value} {N : List (List UInt8)} {L : List Rw} (h : RfD w q vN vL N L) (g : Chg F w w') (hf : ¬ F q) (hb : ∀ k, vN.ownBlock = some k → ¬ F k) (hw : ∀ k, vL.ownBlock = some k → ¬ F k) : RfD w' q vN vL N L :=
  ⟨g.cell h.c0 hf, g.cell h.c1 hf, fun i => (g.frozen (a := ⟨q, i, none⟩) (show q < w.heap.size from World.block_lt_of_cell? w ⟨q, 0, none⟩ h.c0) hf).trans (h.fr i), h.oN.kept g hb, h.oL.kept g hw, h.nN, h.nL, h.ap⟩
theorem RfD.grown {w w' : World} {q : Nat} {vN vL : Value} {N : List (List UInt8)} {L : List Rw} (h : RfD w q vN vL N L) (g : w.grownBy w' none) : RfD w' q vN vL N L := h.kept (F := fun _ => False) (Chg.of g (by simp)) id (fun _ _ => id) (fun _ _ => id)
theorem Rf.kept {F G : Nat → Prop} {w w' : World} {q : Nat} {N : List (List UInt8)} {L : List Rw} (h : Rf w q N L G) (g : Chg F w w') (hd : ∀ k, G k → ¬ F k) : Rf w' q N L G := by
  obtain ⟨vN, vL, h1, h2, h3, h4, h5⟩ := h
  exact ⟨vN, vL, h1.kept g (hd q h2) (fun k hk => hd k (h3 k hk)) (fun k hk => hd k (h4 k hk)), h2, h3, h4, fun k hk => Nat.lt_of_lt_of_le (h5 k hk) g.size⟩
theorem Rf.grown {G : Nat → Prop} {w w' : World} {q : Nat} {N : List (List UInt8)} {L : List Rw} (h : Rf w q N L G) (g : w.grownBy w' none) : Rf w' q N L G := h.kept (F := fun _ => False) (Chg.of g (by simp)) (fun _ _ => id)
/-- The i-th write's place. -/
theorem RfD.at_ {w : World} {q : Nat} {vN vL : Value} {N : List (List UInt8)} {L : List Rw} (h : RfD w q vN vL N L) (hl : L.length ≤ 1000000) {i : Nat} {x : Rw} (hi : L[i]? = some x) :
    ∃ g o, (∀ W, (Instr.indexAt 28 vL (.int .i64 (i : Int))).run Try.prog W = .ok (.pointer (some ⟨g, o, none⟩)) W) ∧ w.cell? ⟨g, o, none⟩ = some (.string ⟨x.nm.toArray⟩) ∧ w.cell? ⟨g, o + 1, none⟩ = some (.string ⟨x.b.toArray⟩) ∧ w.cell? ⟨g, o + 2, none⟩ = some (.bool x.sy) := by
  obtain ⟨g, o, h1, h2, _⟩ := h.oL.idx (by omega) hi
  exact ⟨g, o, h1, h2 0 _ rfl, h2 1 _ rfl, h2 2 _ rfl⟩
theorem str_ne {a b : List UInt8} (h : a ≠ b) : ¬ (⟨a.toArray⟩ : ByteArray) = ⟨b.toArray⟩ := fun e => h (by injection e with e; simpa using e)
set_option maxRecDepth 100000 in
set_option maxHeartbeats 1600000 in
theorem rhas_any (q : Nat) (vN vL : Value) (N : List (List UInt8)) (L : List Rw) (x : List UInt8) (hN : N.length ≤ 64) (w : World) (h : RfD w q vN vL N L) :
    Calls Try.prog 25 #[.pointer (some ⟨q, 0, none⟩), .string ⟨x.toArray⟩] w fun e w' => e = .returned (.bool (N.any fun y => y == x)) ∧ w' = w := by
  obtain ⟨aN, cN, rfl⟩ := Elm.form h.oN
  have c0 := h.c0
  have H : Hid (RfD w q (.slice aN N.length cN) vL N L) := h
  obtain ⟨B, hB⟩ : ∃ B, B = N.any fun y => y == x := ⟨_, rfl⟩
  rw [← hB]
  have HB : Hid (B = N.any fun y => y == x) := hB
  clear h hB
  go_enter Try.func25, Try.ntmps25
  go_wp2
  go_loop [5] (fun i => ∃ k : Nat, k ≤ N.length ∧ i = .int .i64 k ∧ ((N.take k).any fun y => y == x) = false) (fun i => N.length - (intOf i).toNat)
  case atStart => exact ⟨0, Nat.zero_le _, rfl, by simp⟩
  case round =>
    obtain ⟨k, hk, rfl, hno⟩ := hrel
    have HNo : Hid (((N.take k).any fun y => y == x) = false) := hno
    clear hno
    by_cases hlt : k < N.length
    · obtain ⟨y, hy⟩ : ∃ y, N[k]? = some y := ⟨_, List.getElem?_eq_getElem hlt⟩
      obtain ⟨g, o, h1, h2, _⟩ := H.out.oN.idx (by omega) hy
      have h1' : ∀ W, (Instr.indexAt 27 (.slice aN N.length cN) (.int .i64 (k : Int))).run Try.prog W = .ok (.pointer (some ⟨g, o, none⟩)) W := h1
      have z : w.cell? ⟨g, o, none⟩ = some (.string ⟨y.toArray⟩) := h2 0 _ rfl
      have HY : Hid (N[k]? = some y) := hy
      clear h1 h2 hy
      by_cases e : y = x
      · subst e
        have HBT : Hid (B = true) := by
          show _ = _
          rw [HB.out, List.any_eq_true]
          exact ⟨y, List.mem_of_getElem? HY.out, by simp⟩
        go_wp2
        go_ret
        exact ⟨ret_bool HBT.out.symm, rfl⟩
      · have e1 := str_ne e
        have e2 : (y == x) = false := by simpa using e
        go_wp2
        go_round
        case rel => exact ⟨k + 1, by omega, by go_num, by rw [List.take_add_one, HY.out, List.any_append, HNo.out]; simp [e]⟩
        case measure => simp [intOf]; omega
    · have HBF : Hid (B = false) := by
        show _ = _
        have := HNo.out
        rw [List.take_of_length_le (by omega)] at this
        rw [HB.out, this]
      go_wp2
      go_ret
      exact ⟨ret_bool HBF.out.symm, rfl⟩
def rtot (L : List Rw) : Nat := (L.map fun x => x.b.length).sum
theorem rtot_take {L : List Rw} {k : Nat} {x : Rw} (h : L[k]? = some x) : rtot (L.take (k + 1)) = rtot (L.take k) + x.b.length := by
  unfold rtot
  rw [List.take_add_one, h]
  simp
theorem rtot_le (L : List Rw) (k : Nat) : rtot (L.take k) ≤ rtot L := by
  unfold rtot
  conv => rhs; rw [← List.take_append_drop k L]
  rw [List.map_append, List.sum_append]
  omega
set_option maxRecDepth 100000 in
set_option maxHeartbeats 1600000 in
theorem rtotal_any (q : Nat) (vN vL : Value) (N : List (List UInt8)) (L : List Rw) (hL : L.length ≤ 1000000) (ht : rtot L ≤ 1048576) (w : World) (h : RfD w q vN vL N L) :
    Calls Try.prog 26 #[.pointer (some ⟨q, 0, none⟩)] w fun e w' => e = .returned (.int .i64 (rtot L : Int)) ∧ w' = w := by
  obtain ⟨aL, cL, rfl⟩ := Elm.form h.oL
  have c1 := h.c1
  have H : Hid (RfD w q vN (.slice aL L.length cL) N L) := h
  have HTL : Hid (∀ k, rtot (L.take k) ≤ 1048576) := fun k => Nat.le_trans (rtot_le L k) ht
  clear h
  go_enter Try.func26, Try.ntmps26
  go_wp2
  go_loop [3, 4] (fun n i => ∃ k : Nat, k ≤ L.length ∧ i = .int .i64 k ∧ n = .int .i64 (rtot (L.take k) : Int)) (fun _ i => L.length - (intOf i).toNat)
  case atStart => exact ⟨0, Nat.zero_le _, rfl, by simp [rtot]⟩
  case round =>
    obtain ⟨k, hk, rfl, rfl⟩ := hrel
    by_cases hlt : k < L.length
    · obtain ⟨x, hx⟩ : ∃ x, L[k]? = some x := ⟨_, List.getElem?_eq_getElem hlt⟩
      obtain ⟨g, o, h1, z0, z1, z2⟩ := H.out.at_ hL hx
      have HT : Hid (rtot (L.take (k + 1)) = rtot (L.take k) + x.b.length) := rtot_take hx
      have b1 := HTL.out (k + 1)
      rw [HT.out] at b1
      obtain ⟨sb, hsb⟩ : ∃ sb : ByteArray, sb = ⟨x.b.toArray⟩ := ⟨_, rfl⟩
      rw [← hsb] at z1
      have hsz : sb.size = x.b.length := by rw [hsb]; simp [ByteArray.size]
      have HZ : Hid (sb.size = x.b.length) := hsz
      generalize rtot (L.take k) = T at HT b1 ⊢
      have b2 : (T : Int) + (sb.size : Int) ≤ 1048576 := by omega
      clear hx hsb hsz b1
      go_wp2
      go_round
      case rel => exact ⟨k + 1, by omega, by go_num, by rw [HT.out, ← HZ.out]; go_num⟩
      case measure => simp [intOf]; omega
    · have e : L.take k = L := List.take_of_length_le (by omega)
      rw [e]
      clear e HTL
      go_wp2
      go_ret
      exact ⟨rfl, rfl⟩
def rwait (L : List Rw) : Nat := (L.filter fun x => !x.sy).length
theorem rwait_take {L : List Rw} {k : Nat} {x : Rw} (h : L[k]? = some x) : rwait (L.take (k + 1)) = rwait (L.take k) + if x.sy = true then 0 else 1 := by
  unfold rwait
  rw [List.take_add_one, h, List.filter_append]
  cases hs : x.sy <;> simp [hs]
set_option maxRecDepth 100000 in
set_option maxHeartbeats 1600000 in
theorem rwaiting_any (q : Nat) (vN vL : Value) (N : List (List UInt8)) (L : List Rw) (hL : L.length ≤ 1000000) (w : World) (h : RfD w q vN vL N L) :
    Calls Try.prog 18 #[.pointer (some ⟨q, 0, none⟩)] w fun e w' => e = .returned (.int .i64 (rwait L : Int)) ∧ w' = w := by
  obtain ⟨aL, cL, rfl⟩ := Elm.form h.oL
  have c1 := h.c1
  have H : Hid (RfD w q vN (.slice aL L.length cL) N L) := h
  have HTL : Hid (∀ k, rwait (L.take k) ≤ 1000000) := fun k => Nat.le_trans (List.length_filter_le _ _) (by rw [List.length_take]; omega)
  clear h
  go_enter Try.func18, Try.ntmps18
  go_wp2
  go_loop [3, 4] (fun n i => ∃ k : Nat, k ≤ L.length ∧ i = .int .i64 k ∧ n = .int .i64 (rwait (L.take k) : Int)) (fun _ i => L.length - (intOf i).toNat)
  case atStart => exact ⟨0, Nat.zero_le _, rfl, by simp [rwait]⟩
  case round =>
    obtain ⟨k, hk, rfl, rfl⟩ := hrel
    by_cases hlt : k < L.length
    · obtain ⟨x, hx⟩ : ∃ x, L[k]? = some x := ⟨_, List.getElem?_eq_getElem hlt⟩
      obtain ⟨g, o, h1, z0, z1, z2⟩ := H.out.at_ hL hx
      have HT : Hid (rwait (L.take (k + 1)) = rwait (L.take k) + if x.sy = true then 0 else 1) := rwait_take hx
      have b1 := HTL.out k
      generalize rwait (L.take k) = T at HT b1 ⊢
      clear hx
      cases hs : x.sy with
      | true =>
        rw [hs] at z2 HT
        clear hs
        go_wp2
        go_round
        case rel => exact ⟨k + 1, by omega, by go_num, by rw [HT.out]; simp⟩
        case measure => simp [intOf]; omega
      | false =>
        rw [hs] at z2 HT
        clear hs
        go_wp2
        go_round
        case rel => exact ⟨k + 1, by omega, by go_num, by rw [HT.out]; go_num⟩
        case measure => simp [intOf]; omega
    · have e : L.take k = L := List.take_of_length_le (by omega)
      rw [e]
      clear e HTL
      go_wp2
      go_ret
      exact ⟨rfl, rfl⟩
end Go.Proofs.Ythpeeldpalmakaa
