/- A local minute's instants: in a seat that asks Between too. -/
import Derived.Test.YteiiapnpdfgoaaaDoorDBetween
namespace Go.Proofs.YteiiapnpdfgoaaaDoor.Zon
/-- The zone's offsets, falling. -/
def Z.offs (z : Z) : List Int := if z.s = 0 then [z.b] else [z.b + z.s, z.b]
/-- The instant at which a local minute is shown by an offset, if it is one. -/
def Z.by (z : Z) (L o : Int) : Option Int := if 0 ≤ L - o ∧ L - o ≤ 226157759 ∧ z.at (L - o) = o then some (L - o) else none
/-- All instants of a local minute. -/
def Z.ins (z : Z) (L : Int) : List Int := z.offs.filterMap (z.by L)
theorem offs_bd {z : Z} (h : z.ok) {o : Int} (ho : o ∈ z.offs) : -720 ≤ o ∧ o ≤ 960 := by
  have h' := h
  unfold Z.offs at ho
  split at ho <;> simp at ho <;> omega
theorem offs_len (z : Z) : z.offs.length ≤ 2 := by unfold Z.offs; split <;> simp
theorem ins_len (z : Z) (L : Int) : (z.ins L).length ≤ 2 := Nat.le_trans (List.length_filterMap_le _ _) (offs_len z)
theorem take_succ (z : Z) (L : Int) {j : Nat} (hj : j < z.offs.length) :
    (z.offs.take (j + 1)).filterMap (z.by L) = (z.offs.take j).filterMap (z.by L) ++ (match z.by L (z.offs.getD j 0) with | some t => [t] | none => []) := by
  rw [List.take_add_one, List.filterMap_append]
  congr 1
  rw [List.getD_eq_getElem?_getD, List.getElem?_eq_getElem hj]
  simp only [Option.toList_some, List.filterMap_cons, List.filterMap_nil, Option.getD_some]
  split <;> simp_all
theorem ins_mem {z : Z} {L e : Int} (h : e ∈ z.ins L) : 0 ≤ e ∧ e ≤ 226157759 ∧ e + z.at e = L := by
  unfold Z.ins at h
  obtain ⟨o, _, ho⟩ := List.mem_filterMap.mp h
  unfold Z.by at ho
  split at ho
  · rename_i c
    injection ho with ho
    subst ho
    exact ⟨c.1, c.2.1, by rw [c.2.2]; omega⟩
  · cases ho
theorem at_offs (z : Z) (t : Int) : z.at t ∈ z.offs := by
  unfold Z.offs
  split
  · rename_i h; rw [at_zero h]; simp
  · rcases at_two z t with h | h <;> rw [h] <;> simp
theorem mem_ins {z : Z} {t : Int} (h1 : 0 ≤ t) (h2 : t ≤ 226157759) : t ∈ z.ins (t + z.at t) := by
  unfold Z.ins
  refine List.mem_filterMap.mpr ⟨z.at t, at_offs z t, ?_⟩
  unfold Z.by
  have e : t + z.at t - z.at t = t := by omega
  rw [e, if_pos ⟨h1, h2, rfl⟩]
theorem ins_rise {z : Z} (h : z.ok) {L a c : Int} {r : List Int} (e : z.ins L = a :: c :: r) : a < c ∧ r = [] := by
  unfold Z.ins Z.offs at e
  split at e
  · simp only [List.filterMap_cons, List.filterMap_nil] at e
    split at e <;> cases e
  · rename_i hs
    have h' := h.2.2.1
    simp only [List.filterMap_cons, List.filterMap_nil] at e
    cases h1 : z.by L (z.b + z.s) with
    | none => rw [h1] at e; simp only at e; cases h2 : z.by L z.b <;> rw [h2] at e <;> cases e
    | some x =>
      cases h2 : z.by L z.b with
      | none => rw [h1, h2] at e; cases e
      | some y =>
        rw [h1, h2] at e
        injection e with e1 e
        injection e with e2 e
        subst e1 e2
        unfold Z.by at h1 h2
        split at h1
        · split at h2
          · injection h1 with h1
            injection h2 with h2
            exact ⟨by omega, e.symm⟩
          · cases h2
        · cases h1
/-- Is t among the first j? -/
def fnd (l : List Int) (t : Int) : Nat → Bool
  | 0 => false
  | j + 1 => fnd l t j || (l.getD j 0 == t)
theorem fnd_mem (l : List Int) (t : Int) (n : Nat) (i : Nat) (hi : i < n) (h : l.getD i 0 = t) : fnd l t n = true := by
  induction n with
  | zero => omega
  | succ n ih =>
    unfold fnd
    by_cases c : i = n
    · subst c; simp at h ⊢; simp [h]
    · rw [ih (by omega)]; rfl
theorem fnd_all {l : List Int} {t : Int} (h : t ∈ l) : fnd l t l.length = true := by
  obtain ⟨i, hi, e⟩ := List.getElem_of_mem h
  exact fnd_mem l t _ i hi (by rw [List.getD_eq_getElem?_getD, List.getElem?_eq_getElem hi]; exact e)
end Go.Proofs.YteiiapnpdfgoaaaDoor.Zon
namespace Go.Proofs.YteiiapnpdfgoaaaDoor
open Go.RowKit
set_option linter.unusedVariables false

set_option maxRecDepth 100000 in
set_option maxHeartbeats 800000 in
theorem offsets_any (b : Nat) (z : Zon.Z) (hz : z.ok) (w : World) (h : Zr w b z) :
    Calls Tryd.prog 28 #[.pointer (some ⟨b, 0, none⟩)] w fun e w' => ∃ g, e = .returned (.slice (some ⟨g, 0, none⟩) z.offs.length z.offs.length) ∧ w.heap.size ≤ g ∧ w.grownBy w' none ∧ ∀ i, i < z.offs.length → w'.cell? ⟨g, i, none⟩ = some (.int .i64 (z.offs.getD i 0)) := by
  have c0 := h.c0
  have c1 := h.c1
  have hdone : ∀ o, w.grownBy (w.alloc o) none := fun o => World.grownBy_alloc w o none
  have hb1 := hz.1
  have hb2 := hz.2.1
  have hs1 := hz.2.2.1
  have hs2 := hz.2.2.2.1
  clear h hz
  by_cases hs : z.s = 0
  · have e : z.offs = [z.b] := by unfold Zon.Z.offs; rw [if_pos hs]
    rw [e]
    rw [hs] at c1
    clear e hs hs1 hs2
    go_enter Tryd.func28, Tryd.ntmps28
    go_wp2
    go_ret
    refine ⟨w.heap.size, rfl, Nat.le_refl _, hdone _, fun i hi => ?_⟩
    obtain rfl : i = 0 := by simp at hi; omega
    rw [World.cell?_alloc_new]; rfl
  · have e : z.offs = [z.b + z.s, z.b] := by unfold Zon.Z.offs; rw [if_neg hs]
    have g0 : (z.s == 0) = false := by simpa using hs
    rw [e]
    clear e hs
    go_enter Tryd.func28, Tryd.ntmps28
    go_wp2
    go_region
    all_goals
      go_wp2
      go_ret
      have g1 := hdone (.cells #[.int .i64 (z.b + z.s), .int .i64 z.b] 3)
      refine ⟨w.heap.size, rfl, Nat.le_refl _, ⟨g1.os, g1.tape, g1.output, g1.size, g1.block⟩, fun i hi => ?_⟩
      rw [World.cell?_drew, World.cell?_alloc_new]
      have hi' : i = 0 ∨ i = 1 := by omega
      rcases hi' with rfl | rfl <;> rfl

theorem inst_bd {y m d h n : Int} (hT : Thr y m d h n) : 0 ≤ inst y m d h n ∧ inst y m d h n ≤ 226157759 := by
  obtain ⟨t1, t2, t3, t4, t5, t6⟩ := hT
  obtain ⟨hy1, hy2, hm1, hm2⟩ := Civ.of_dys (y := y) (m := m) (by omega)
  rw [Civ.dys_in hy1 hy2 hm1 hm2] at t2
  have hr := (⟨hy1, hy2, hm1, hm2, t1, t2, rfl⟩ : Civ.At _ y m d).range
  unfold inst
  omega

theorem Fnd.offset {B : Nat} {wr : World} {b : Nat} {z : Zon.Z} {f : Value} {l : List Int} (hz : z.ok) (h : Fnd B wr b z f l) (hb : b < B) (t : Int) (t1 : 0 ≤ t) (t2 : t ≤ 226157759) :
    Calls Tryd.prog 29 #[.pointer (some ⟨b, 0, none⟩), .int .i64 t] wr fun e w' => e = .returned (.tuple #[.int .i64 (z.at t), .int .i64 0]) ∧ ∃ base, Fnd3 B w' b z f l base ∧ wr.grownBy w' (some b) := by
  obtain ⟨base, h1, h2, hO, ⟨hf, hZ⟩ | ⟨s, hR, hs⟩⟩ := h
  · refine (offset_any b z hz t t1 t2 wr hZ).mono fun e w' ⟨he, s, hR, hg⟩ => ⟨he, w'.heap.size, ⟨by have := hg.size; omega, Nat.le_refl _, ?_, s, hR, hR.low⟩, hg⟩
    rcases hO.row with ⟨rfl, rfl⟩ | ⟨g, cap, e, _⟩
    · exact World.ownsRow_nil _ _ _ _
    · rw [hf] at e; cases e
  · refine (offset_again b z hz t t1 t2 wr s hR).mono fun e w' ⟨he, hR', hg⟩ => ⟨he, base, ⟨h1, by have := hg.size; omega, hO.kept hg (by simp), s, hR', hs⟩, grown_more (grown_refl wr (some b)) hg (by simp)⟩
set_option maxRecDepth 100000 in
set_option maxHeartbeats 1600000 in
theorem instants_any (b : Nat) (z : Zon.Z) (hz : z.ok) (y m d h n k : Int) (hT : Thr y m d h n) (w : World) (hw : Zn w b z) :
    Calls Tryd.prog 13 #[.pointer (some ⟨b, 0, none⟩), civ y m d h n k] w fun e w' => ∃ v, e = .returned v ∧ OwnI w' w.heap.size v (z.ins (inst y m d h n)) ∧ ((z.ins (inst y m d h n) = [] ∧ Zn w' b z) ∨ ∃ s, Rdy w' b z s) ∧ w.grownBy w' (some b) := by
  have T := to_ok y m d h n k hT
  have hI := inst_bd hT
  obtain ⟨L, hL⟩ : ∃ L, L = inst y m d h n := ⟨_, rfl⟩
  rw [← hL] at T hI ⊢
  clear hL hT
  obtain ⟨hL1, hL2⟩ := hI
  have OF := fun w (h : Zr w b z) => offsets_any b z hz w h
  have hlt := World.block_lt_of_cell? w _ hw.c0
  simp only at hlt
  have HO : Hid (∀ j, j < z.offs.length → -720 ≤ z.offs.getD j 0 ∧ z.offs.getD j 0 ≤ 960) := fun j hj => by
    refine Zon.offs_bd hz ?_
    rw [List.getD_eq_getElem?_getD, List.getElem?_eq_getElem hj]
    exact List.getElem_mem hj
  have HT : Hid (∀ j, j < z.offs.length → (z.offs.take (j + 1)).filterMap (z.by L) = (z.offs.take j).filterMap (z.by L) ++ (match z.by L (z.offs.getD j 0) with | some t => [t] | none => [])) := fun j hj => Zon.take_succ z L hj
  have HE : Hid (z.ins L = (z.offs.take z.offs.length).filterMap (z.by L)) := by show z.ins L = _; rw [List.take_length]; rfl
  have hlen := Zon.offs_len z
  obtain ⟨N, hN⟩ : ∃ N, N = z.offs.length := ⟨_, rfl⟩
  simp only [← hN] at OF
  rw [← hN] at HO HT HE hlen
  clear hN
  go_enter Tryd.func13, Tryd.ntmps13
  go_wp2_with (first
    | (go_at_call 15; go_must (refine (T _).mono ?_); rintro e w1 ⟨rfl, hg1⟩; have hZ1 := (hw.kept (World.grownBy_alloc w _ none)).kept hg1)
    | (go_at_call 28; go_must (refine (OF _ hZ1.toZr).mono ?_); rintro e w2 ⟨g, rfl, hg, hg2, hc⟩; have hZ2 := hZ1.kept hg2))
  have hs2 := hg2.size
  have hs1 := hg1.size
  simp at hs1
  have G0 : w.grownBy w2 (some b) := grown_more (grown_more (grown_more (grown_refl w (some b)) (World.grownBy_alloc w _ none) (by simp)) hg1 (by simp)) hg2 (by simp)
  have CG : Hid (∀ wr, w2.grownBy wr (some b) → ∀ i, i < N → wr.cell? ⟨g, i, none⟩ = some (.int .i64 (z.offs.getD i 0))) := fun wr hr i hi => hr.cell (hc i hi) (by simp; omega)
  have hbb : b < w2.heap.size := by omega
  have hwb : w.heap.size ≤ w2.heap.size := by omega
  clear hc T OF hZ1 hg hg1 hg2 hs1 hs2
  go_loopw [7, 27] (fun f i wr => ∃ j : Nat, j ≤ N ∧ i = .int .i64 j ∧ Fnd w2.heap.size wr b z f ((z.offs.take j).filterMap (z.by L)) ∧ w2.grownBy wr (some b)) (fun _ i _ => (10 - intOf i).toNat)
  case atStart => exact ⟨0, by omega, rfl, ⟨w2.heap.size, Nat.le_refl _, Nat.le_refl _, World.ownsRow_nil _ _ _ _, .inl ⟨rfl, hZ2⟩⟩, grown_refl _ _⟩
  case round =>
    clear hZ2
    obtain ⟨j, hj, rfl, hF, hG⟩ := hrel
    by_cases hjn : j < N
    · have cj := CG.out _ hG j hjn
      have hob := HO.out j hjn
      have HTj : Hid _ := HT.out j hjn
      obtain ⟨o, ho⟩ : ∃ o, o = z.offs.getD j 0 := ⟨_, rfl⟩
      rw [← ho] at cj hob HTj
      clear ho
      obtain ⟨hob1, hob2⟩ := hob
      by_cases ht : 0 ≤ L - o ∧ L - o ≤ 226157759
      · obtain ⟨ht1, ht2⟩ := ht
        have hl : ((z.offs.take j).filterMap (z.by L)).length ≤ 100 := by have := List.length_filterMap_le (z.by L) (z.offs.take j); have := List.length_take_le j z.offs; omega
        by_cases hat : z.at (L - o) = o
        · have HTk : Hid (List.filterMap (z.by L) (List.take (j + 1) z.offs) = List.filterMap (z.by L) (List.take j z.offs) ++ [L - o]) := by
            have hby : z.by L o = some (L - o) := by unfold Zon.Z.by; rw [if_pos ⟨ht1, ht2, hat⟩]
            have := HTj.out
            rw [hby] at this
            exact this
          clear HTj
          generalize (z.offs.take j).filterMap (z.by L) = l at hF HTk hl
          have A := hF.offset hz hbb (L - o) ht1 ht2
          rw [hat] at A
          clear hat
          go_wp2_with (first
            | (go_at_call 29; go_must (refine A.mono ?_); rintro e w3 ⟨rfl, base, hF3, hg3⟩)
            | (refine wpList_append_one rfl (.tmp 47) (.tmp 49) rfl base _ l rfl (hF3.2.2.1.kept (World.grownBy_alloc w3 _ none) (by simp)) w3.heap.size (L - o) rfl (by rw [World.cell?_alloc_new]; rfl) (by omega) (by have := hF3.2.1; simp; omega) ?_; intro v4 w4 hO4 hg4))
          go_roundw
          case rel => exact ⟨j + 1, by omega, val_int (by omega), by rw [HTk.out]; exact hF3.add hbb hg4 hO4, hF3.grown (Nat.le_refl _) (grown_more hG hg3 (by simp)) hg4⟩
          case measure => simp [intOf]; omega
        · have HTk : Hid (List.filterMap (z.by L) (List.take (j + 1) z.offs) = List.filterMap (z.by L) (List.take j z.offs)) := by
            have hby : z.by L o = none := by unfold Zon.Z.by; rw [if_neg (fun h => hat h.2.2)]
            have := HTj.out
            rw [hby] at this
            exact this.trans (List.append_nil _)
          have hat' : (z.at (L - o) == o) = false := by simpa using hat
          clear HTj
          generalize (z.offs.take j).filterMap (z.by L) = l at hF HTk hl
          have A := hF.offset hz hbb (L - o) ht1 ht2
          generalize z.at (L - o) = q at A hat'
          clear hat
          go_wp2_with (go_at_call 29; go_must (refine A.mono ?_); rintro e w3 ⟨rfl, base, hF3, hg3⟩)
          go_roundw
          case rel => exact ⟨j + 1, by omega, val_int (by omega), by rw [HTk.out]; exact hF3.fnd, grown_more hG hg3 (by simp)⟩
          case measure => simp [intOf]; omega
      · have HTk : Hid (List.filterMap (z.by L) (List.take (j + 1) z.offs) = List.filterMap (z.by L) (List.take j z.offs)) := by
          have hby : z.by L o = none := by unfold Zon.Z.by; rw [if_neg (fun h => ht ⟨h.1, h.2.1⟩)]
          have := HTj.out
          rw [hby] at this
          exact this.trans (List.append_nil _)
        clear HTj
        have A := offset_bad b (L - o) (by omega)
        clear ht
        go_wp2_with (go_at_call 29; go_must (refine (A _).mono ?_); rintro e w3 ⟨rfl, rfl⟩)
        go_roundw
        case rel => exact ⟨j + 1, by omega, val_int (by omega), by rw [HTk.out]; exact hF, hG⟩
        case measure => simp [intOf]; omega
    · obtain rfl : j = N := by omega
      obtain ⟨base, hb1, hb2, hO, hQ⟩ := hF
      have HQ : Hid ((z.ins L = [] ∧ Zn wr b z) ∨ ∃ s, Rdy wr b z s) := by
        rcases hQ with ⟨e, hZ⟩ | ⟨s, hR, _⟩
        · refine .inl ⟨?_, hZ⟩
          rw [HE.out]
          rcases hO.row with ⟨e2, _⟩ | ⟨g, cap, e2, _⟩
          · exact e2
          · rw [e] at e2; cases e2
        · exact .inr ⟨s, hR⟩
      clear hQ
      go_wp2_with fail
      go_ret
      refine ⟨_, rfl, ?_, HQ.out, grown_more G0 hG (by simp)⟩
      rw [HE.out]
      refine ⟨hO.1, ?_⟩
      rcases hO.2 with h | ⟨g, cap, cur, e, hg, r⟩
      · exact .inl h
      · exact .inr ⟨g, cap, cur, e, by omega, r⟩
set_option maxRecDepth 100000 in
set_option maxHeartbeats 1600000 in
theorem instants_rdy (b : Nat) (z : Zon.Z) (hz : z.ok) (y m d h n k : Int) (hT : Thr y m d h n) (w : World) (s : Value) (hw : Rdy w b z s) :
    Calls Tryd.prog 13 #[.pointer (some ⟨b, 0, none⟩), civ y m d h n k] w fun e w' => ∃ v, e = .returned v ∧ OwnI w' w.heap.size v (z.ins (inst y m d h n)) ∧ Rdy w' b z s ∧ w.grownBy w' none := by
  have T := to_ok y m d h n k hT
  have hI := inst_bd hT
  obtain ⟨L, hL⟩ : ∃ L, L = inst y m d h n := ⟨_, rfl⟩
  rw [← hL] at T hI ⊢
  clear hL hT
  obtain ⟨hL1, hL2⟩ := hI
  have OF := fun w (h : Zr w b z) => offsets_any b z hz w h
  have hlt := World.block_lt_of_cell? w _ hw.c0
  simp only at hlt
  have HO : Hid (∀ j, j < z.offs.length → -720 ≤ z.offs.getD j 0 ∧ z.offs.getD j 0 ≤ 960) := fun j hj => by
    refine Zon.offs_bd hz ?_
    rw [List.getD_eq_getElem?_getD, List.getElem?_eq_getElem hj]
    exact List.getElem_mem hj
  have HT : Hid (∀ j, j < z.offs.length → (z.offs.take (j + 1)).filterMap (z.by L) = (z.offs.take j).filterMap (z.by L) ++ (match z.by L (z.offs.getD j 0) with | some t => [t] | none => [])) := fun j hj => Zon.take_succ z L hj
  have HE : Hid (z.ins L = (z.offs.take z.offs.length).filterMap (z.by L)) := by show z.ins L = _; rw [List.take_length]; rfl
  have hlen := Zon.offs_len z
  obtain ⟨N, hN⟩ : ∃ N, N = z.offs.length := ⟨_, rfl⟩
  simp only [← hN] at OF
  rw [← hN] at HO HT HE hlen
  clear hN
  have hsl := hw.low
  go_enter Tryd.func13, Tryd.ntmps13
  go_wp2_with (first
    | (go_at_call 15; go_must (refine (T _).mono ?_); rintro e w1 ⟨rfl, hg1⟩; have hZ1 := (hw.kept (World.grownBy_alloc w _ none)).kept hg1)
    | (go_at_call 28; go_must (refine (OF _ hZ1.toZr).mono ?_); rintro e w2 ⟨g, rfl, hg, hg2, hc⟩; have hZ2 := hZ1.kept hg2))
  have hs2 := hg2.size
  have hs1 := hg1.size
  simp at hs1
  have G0 : w.grownBy w2 none := grown_more (grown_more (World.grownBy_alloc w _ none) hg1 (by simp)) hg2 (by simp)
  have CG : Hid (∀ wr, w2.grownBy wr none → ∀ i, i < N → wr.cell? ⟨g, i, none⟩ = some (.int .i64 (z.offs.getD i 0))) := fun wr hr i hi => hr.cell (hc i hi) (by simp)
  have hbb : b < w2.heap.size := by omega
  have hwb : w.heap.size ≤ w2.heap.size := by omega
  have HSL : Hid (∀ k, s.ownBlock = some k → k < w2.heap.size) := fun k hk => by have := hsl k hk; omega
  clear hc T OF hZ1 hg hg1 hg2 hs1 hs2 hsl
  go_loopw [7, 27] (fun f i wr => ∃ j : Nat, j ≤ N ∧ i = .int .i64 j ∧ OwnI wr w2.heap.size f ((z.offs.take j).filterMap (z.by L)) ∧ Rdy wr b z s ∧ w2.grownBy wr none) (fun _ i _ => (10 - intOf i).toNat)
  case atStart => exact ⟨0, by omega, rfl, World.ownsRow_nil _ _ _ _, hZ2, grown_refl _ _⟩
  case round =>
    clear hZ2
    obtain ⟨j, hj, rfl, hF, hR, hG⟩ := hrel
    have hGs := hG.size
    by_cases hjn : j < N
    · have cj := CG.out _ hG j hjn
      have hob := HO.out j hjn
      have HTj : Hid _ := HT.out j hjn
      obtain ⟨o, ho⟩ : ∃ o, o = z.offs.getD j 0 := ⟨_, rfl⟩
      rw [← ho] at cj hob HTj
      clear ho
      obtain ⟨hob1, hob2⟩ := hob
      by_cases ht : 0 ≤ L - o ∧ L - o ≤ 226157759
      · obtain ⟨ht1, ht2⟩ := ht
        have hl : ((z.offs.take j).filterMap (z.by L)).length ≤ 100 := by have := List.length_filterMap_le (z.by L) (z.offs.take j); have := List.length_take_le j z.offs; omega
        have A := offset_again b z hz (L - o) ht1 ht2 wr s hR
        by_cases hat : z.at (L - o) = o
        · have HTk : Hid (List.filterMap (z.by L) (List.take (j + 1) z.offs) = List.filterMap (z.by L) (List.take j z.offs) ++ [L - o]) := by
            have hby : z.by L o = some (L - o) := by unfold Zon.Z.by; rw [if_pos ⟨ht1, ht2, hat⟩]
            have := HTj.out
            rw [hby] at this
            exact this
          clear HTj
          generalize (z.offs.take j).filterMap (z.by L) = l at hF HTk hl
          rw [hat] at A
          clear hat
          go_wp2_with (first
            | (go_at_call 29; go_must (refine A.mono ?_); rintro e w3 ⟨rfl, hR3, hg3⟩; have hF3 := hF.kept hg3 (by simp); have hz3 := hg3.size)
            | (refine wpList_append_one rfl (.tmp 47) (.tmp 49) rfl w2.heap.size _ l rfl (hF3.kept (World.grownBy_alloc w3 _ none) (by simp)) w3.heap.size (L - o) rfl (by rw [World.cell?_alloc_new]; rfl) (by omega) (by simp; omega) ?_; intro v4 w4 hO4 hg4))
          have g34 := grown_more ((World.grownBy_alloc w3 _ none).but _) hg4 (fun _ e => .inl e)
          have hlow := fun k hk => (World.ownsRow.lt hF3 k hk).1
          go_roundw
          case rel => exact ⟨j + 1, by omega, val_int (by omega), by rw [HTk.out]; exact hO4, hR3.foreign g34 (fun e => by have := hlow b e.symm; omega) (fun k hk e => by have := hlow k e.symm; have := HSL.out k hk; omega), grown_more (grown_more hG hg3 (by simp)) g34 fun k e => .inr (hlow k e)⟩
          case measure => simp [intOf]; omega
        · have HTk : Hid (List.filterMap (z.by L) (List.take (j + 1) z.offs) = List.filterMap (z.by L) (List.take j z.offs)) := by
            have hby : z.by L o = none := by unfold Zon.Z.by; rw [if_neg (fun h => hat h.2.2)]
            have := HTj.out
            rw [hby] at this
            exact this.trans (List.append_nil _)
          have hat' : (z.at (L - o) == o) = false := by simpa using hat
          clear HTj
          generalize (z.offs.take j).filterMap (z.by L) = l at hF HTk hl
          generalize z.at (L - o) = q at A hat'
          clear hat
          go_wp2_with (go_at_call 29; go_must (refine A.mono ?_); rintro e w3 ⟨rfl, hR3, hg3⟩)
          go_roundw
          case rel => exact ⟨j + 1, by omega, val_int (by omega), by rw [HTk.out]; exact hF.kept hg3 (by simp), hR3, grown_more hG hg3 (by simp)⟩
          case measure => simp [intOf]; omega
      · have HTk : Hid (List.filterMap (z.by L) (List.take (j + 1) z.offs) = List.filterMap (z.by L) (List.take j z.offs)) := by
          have hby : z.by L o = none := by unfold Zon.Z.by; rw [if_neg (fun h => ht ⟨h.1, h.2.1⟩)]
          have := HTj.out
          rw [hby] at this
          exact this.trans (List.append_nil _)
        clear HTj
        have A := offset_bad b (L - o) (by omega)
        clear ht
        go_wp2_with (go_at_call 29; go_must (refine (A _).mono ?_); rintro e w3 ⟨rfl, rfl⟩)
        go_roundw
        case rel => exact ⟨j + 1, by omega, val_int (by omega), by rw [HTk.out]; exact hF, hR, hG⟩
        case measure => simp [intOf]; omega
    · obtain rfl : j = N := by omega
      have HR : Hid (Rdy wr b z s) := hR
      clear hR
      go_wp2_with fail
      go_ret
      refine ⟨_, rfl, ?_, HR.out, grown_more G0 hG (by simp)⟩
      rw [HE.out]
      refine ⟨hF.1, ?_⟩
      rcases hF.2 with h | ⟨g, cap, cur, e, hg, r⟩
      · exact .inl h
      · exact .inr ⟨g, cap, cur, e, by omega, r⟩
end Go.Proofs.YteiiapnpdfgoaaaDoor
