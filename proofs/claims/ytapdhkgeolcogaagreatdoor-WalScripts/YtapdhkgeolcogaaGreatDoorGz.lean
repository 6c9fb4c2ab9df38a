/- Two lists that are alike compared: nothing but draws is left. And bytes that lie apart from the disk. -/
import Derived.Test.YtapdhkgeolcogaaGreatDoorGy
namespace Go.Proofs.YtapdhkgeolcogaaGreatDoor
open Go.RowKit Dsk Lg
set_option linter.unusedVariables false

set_option maxRecDepth 100000 in
set_option maxHeartbeats 3200000 in
theorem lists_quiet (v1 v2 : Value) (ls : List By) {R1 R2 : Nat → Prop} (w : World) (h1 : Rl w v1 ls R1) (h2 : Rl w v2 ls R2) (n1 : ls.length ≤ 100000000) (f1 : ∀ l ∈ ls, l.length ≤ 9223372036854775807) :
    Calls Tryz.prog 20 #[v1, v2] w fun e w' => e = .returned (.bool true) ∧ ∃ m, w' = w.drewN m := by
  obtain ⟨a1, c1, rfl⟩ := h1.form
  obtain ⟨a2, c2, rfl⟩ := h2.form
  have hni : ((ls.length : Int) != (ls.length : Int)) = false := by simp
  have H1 : Hid (Rl w (.slice a1 ls.length c1) ls R1) := h1
  have H2 : Hid (Rl w (.slice a2 ls.length c2) ls R2) := h2
  have F1 : Hid (∀ l ∈ ls, l.length ≤ 9223372036854775807) := f1
  clear h1 h2 f1
  go_enter Tryz.func20, Tryz.ntmps20
  go_wp2
  go_loopw [5] (fun i wr => ∃ k : Nat, k ≤ ls.length ∧ i = .int .i64 k ∧ ∃ m, wr = w.drewN m) (fun i _ => ls.length - (intOf i).toNat)
  case atStart => exact ⟨0, Nat.zero_le _, rfl, 0, rfl⟩
  case round =>
    obtain ⟨k, hk, rfl, md, hg⟩ := hrel
    by_cases hlt : k < ls.length
    · have hg' : w.grownBy wr none := by rw [hg]; exact grown_drewN (grown_refl w none) md
      obtain ⟨vs, x1, x2, x3⟩ := H1.out.grown (grown_drew hg')
      obtain ⟨us, y1, y2, y3⟩ := H2.out.grown (grown_drew hg')
      obtain ⟨p, l, hp, hl, hpl⟩ := x2.at_ hlt
      obtain ⟨q, m, hq, hm, hqm⟩ := y2.at_ hlt
      rw [hl] at hm
      injection hm with hm
      subst hm
      obtain ⟨g, o, cc, ev, hcell⟩ := x1.at_ hp
      obtain ⟨g', o', cc', ev', hcell'⟩ := y1.at_ hq
      injection ev with e1 e2 e3
      injection ev' with e1' e2' e3'
      subst e1 e1' e3 e3'
      clear e2 e2'
      have hcx : wr.drew.cell? ⟨g, o + k, none⟩ = some (.slice p.1 p.2.1 p.2.2) := by
        have := hcell 0 _ rfl
        have e : eL.size = 1 := rfl
        rw [e, Nat.mul_one, Nat.add_zero] at this
        exact this
      have hcy : wr.drew.cell? ⟨g', o' + k, none⟩ = some (.slice q.1 q.2.1 q.2.2) := by
        have := hcell' 0 _ rfl
        have e : eL.size = 1 := rfl
        rw [e, Nat.mul_one, Nat.add_zero] at this
        exact this
      have s1 := str_run hpl (F1.out l (List.mem_of_getElem? hl))
      have s2 := str_run hqm (F1.out l (List.mem_of_getElem? hl))
      have hse := str_same l l
      have hd : decide (l = l) = true := by simp
      rw [hd] at hse
      have HG : Hid (wr = w.drewN md) := hg
      clear hp hq hl hpl hqm hcell hcell' x1 x2 x3 y1 y2 y3 hd hg hg'
      obtain ⟨pa, pn, pc⟩ := p
      obtain ⟨qa, qn, qc⟩ := q
      simp only at hcx hcy s1 s2
      generalize Cd.Code.ofB (bI l) = X at *
      have hki : (k : Int) < (ls.length : Int) := by omega
      go_wp2
      refine region_still (by kernel_rfl) (by kernel_rfl) ?_
      iterate 11 still_step
      refine wpStill_nil ?_
      go_wp2
      go_roundw
      case rel => exact ⟨k + 1, by omega, by go_num, md + 1, by rw [HG.out]; rfl⟩
      case measure => simp [intOf]; omega
    · obtain rfl : k = ls.length := by omega
      have HG : Hid (wr = w.drewN md) := hg
      clear hg
      go_wp2
      go_ret
      exact ⟨rfl, md, HG.out⟩
/-- Bytes that lie apart from the disk's blocks F, made ahead of block S. -/
structure Byt (w : World) (S : Nat) (F : Nat → Prop) (v : Value) (l : By) : Prop where
  rx : eB.Rx w v l
  own : l ≠ [] → ∀ j, v.ownBlock = some j → ¬ F j ∧ j < S
section
variable {W w w' : World} {S : Nat} {F F' T : Nat → Prop} {v : Value} {l : By}
theorem Byt.turn (h : Byt w S F v l) (g : Chg T w w') (hT : ∀ k, T k → F k ∨ S ≤ k) (hF : ∀ k, F' k → F k ∨ S ≤ k) : Byt w' S F' v l := by
  refine ⟨h.rx.kept' g fun h0 k hk e => ?_, fun h0 j hj => ⟨fun e => ?_, (h.own h0 j hj).2⟩⟩
  · rcases hT k e with e | e
    · exact (h.own h0 k hk).1 e
    · have := (h.own h0 k hk).2; omega
  · rcases hF j e with e | e
    · exact (h.own h0 j hj).1 e
    · have := (h.own h0 j hj).2; omega
theorem Byt.grown (h : Byt w S F v l) (g : w.grownBy w' none) : Byt w' S F v l :=
  h.turn (Chg.of (F := F) g (by simp)) (fun _ hk => .inl hk) fun _ hk => .inl hk
theorem Byt.str {a : Option Addr} {n c : Nat} (h : Byt w S F (.slice a n c) l) (hl : l.length ≤ 9223372036854775807) (k : Nat) : (convert 39 9 (.slice a n c)).run Tryz.prog (w.drewN k) = .ok (.string (Cd.Code.ofB (bI l))) (w.drewN k) :=
  str_run (p := (a, n, c)) (h.grown (grown_drewN (grown_refl w none) k)).rx hl
end
/-- A file read. -/
theorem wread_byt {W w : World} {b wb : Nat} {s : St} {F : Nat → Prop} {file : By} {n cnt : Int} (h : Wl W w b wb s F file n cnt) (nm : By) (hn : nm.length ≤ 1000) :
    Calls Tryz.prog 23 #[.pointer (some ⟨b, 0, none⟩), .string ⟨nm.toArray⟩] w fun e w' => ∃ ad c, e = .returned (.tuple #[.slice ad (rdB s.l nm).length c, .int .i64 (hasE s.l nm)]) ∧ Wl W w' b wb s F file n cnt ∧ Byt w' w'.heap.size F (.slice ad (rdB s.l nm).length c) (rdB s.l nm) ∧ eB.Own w' w.heap.size (.slice ad (rdB s.l nm).length c) (rdB s.l nm) ∧ w.grownBy w' none := by
  refine (read_any b s F ⟨nm.toArray⟩ (by simp [ByteArray.size]; omega) w h.dk).mono ?_
  rintro e w' ⟨ad, c, h1, h2, h3⟩
  refine ⟨ad, c, h1, h.grown h3, ⟨h2.rx, fun h0 j hj => ⟨fun e => ?_, (h2.lt j hj).2⟩⟩, h2, h3⟩
  have := h.dk.lt j e
  have := (h2.lt j hj).1
  omega
/-- What opening answers is short. -/
theorem open_len {s : St} (ho : Ok s) {s' : St} {file : By} {n : Nat} {ls : List By} (h : openR s = some (s', file, n, ls)) : ls.length ≤ 1048576 ∧ ∀ l ∈ ls, l.length ≤ 65536 := by
  have hok := choose_ok ho
  have e : ls = (chooseC s).ls := by
    unfold openR at h
    split at h
    · simp only [Option.some.injEq, Prod.mk.injEq] at h
      exact h.2.2.2.symm
    · split at h
      · cases h
      · split at h
        · simp only [Option.some.injEq, Prod.mk.injEq] at h
          exact h.2.2.2.symm
        · cases h
  rw [e]
  exact ⟨hok.len, hok.fit⟩
end Go.Proofs.YtapdhkgeolcogaaGreatDoor
