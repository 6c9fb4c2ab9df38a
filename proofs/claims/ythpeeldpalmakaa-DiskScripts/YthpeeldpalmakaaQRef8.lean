/- Both disks side by side: each call. -/
import Derived.Test.YthpeeldpalmakaaQRef7
namespace Go.Proofs.Ythpeeldpalmakaa
open Go.RowKit Dsk
set_option linter.unusedVariables false
set_option maxRecDepth 10000

def Re (s : St) (N : List (List UInt8)) (L : List Rw) : Prop := ∃ A, Rel s N L A
theorem nm_eq (nm : ByteArray) : (⟨nm.data.toList.toArray⟩ : ByteArray) = nm := by cases nm; simp
theorem appE_rel {s : St} {N L A} (h : Rel s N L A) (ok : Ok s) (x : List UInt8) (n : Nat) : rappE N L x n = appE s.l x n := by
  unfold rappE appE
  rw [has_rel h, len_rel h, tot_rel h ok.nd]
  have e : (64 ≤ s.l.length) = (s.l.length = 64) := propext ⟨fun c => by have := ok.len; omega, fun c => by omega⟩
  simp only [e]
section
variable {W w : World} {b q : Nat} {s : St} {N : List (List UInt8)} {L : List Rw} {P : Nat} {o : Dd}
theorem Jx.bounds (h : Jx W w b q s N L P o) (re : Re s N L) : N.length ≤ 64 ∧ rtot L ≤ 1048576 := by
  obtain ⟨F, G, ⟨h1, _⟩, _⟩ := h
  obtain ⟨A, r⟩ := re
  have ok := h1.1.ok
  exact ⟨by rw [len_rel r]; exact ok.len, by rw [tot_rel r ok.nd]; exact ok.tot⟩
theorem j_app (h : Jx W w b q s N L P o) (re : Re s N L) (hL : L.length ≤ 1000) {g u : Nat} (ho : DoAt W g u o) :
    Calls Try.prog 10 #[.pointer (some ⟨q, 0, none⟩), .string o.nm, o.v] w fun e w' => e = .returned (.int .i64 (appE s.l o.nm.data.toList o.b.length)) ∧ ∃ N' L', Jx W w' b q s N' L' P o ∧ L'.length ≤ L.length + 1 ∧ Re (appS s o.nm.data.toList o.b) N' L' := by
  obtain ⟨hN, ht⟩ := h.bounds re
  obtain ⟨F, G, hj, c5, nF, nG⟩ := h
  obtain ⟨A, r⟩ := re
  have ok := hj.1.1.ok
  have hl := ho.low hj.1.2.2
  have CA := rapp_any q N L G o.nm.data.toList o.b o.v (by rw [Array.length_toList]; exact ho.hn) ho.hb hN (by omega) ht w hj.2.1 hl.rx fun hne k hk c => by
    have := ho.rx.lt hne k hk
    have := hj.2.2.1 k c
    omega
  rw [nm_eq, appE_rel r ok] at CA
  refine CA.mono ?_
  rintro e w' ⟨rfl, N', L', ro, at1, at2⟩
  rw [appE_rel r ok] at at1 at2
  refine ⟨rfl, N', L', Jx.ref hj c5 nF nG ro, ?_⟩
  by_cases he : appE s.l o.nm.data.toList o.b.length = 0
  · obtain ⟨e1, e2⟩ := at2 he
    exact ⟨by rw [e1]; simp, _, by rw [e1]; exact rel_app r _ _ he N' e2⟩
  · obtain ⟨e1, e2⟩ := at1 he
    refine ⟨by rw [e2]; omega, A, ?_⟩
    unfold appS
    rw [if_neg he, e1, e2]
    exact r
theorem j_sync (h : Jx W w b q s N L P o) (re : Re s N L) (hL : L.length ≤ 1000) :
    Calls Try.prog 11 #[.pointer (some ⟨q, 0, none⟩), .string o.nm] w fun e w' => e = .returned (.int .i64 (hasE s.l o.nm.data.toList)) ∧ ∃ N' L', Jx W w' b q s N' L' P o ∧ L'.length ≤ L.length + 1 ∧ Re (syncS s o.nm.data.toList) N' L' := by
  obtain ⟨hN, ht⟩ := h.bounds re
  obtain ⟨F, G, hj, c5, nF, nG⟩ := h
  obtain ⟨A, r⟩ := re
  have CA := rsync_any q N L G o.nm.data.toList hN (by omega) w hj.2.1
  have e : (if rhas N o.nm.data.toList = true then syncR L o.nm.data.toList else L) = syncR L o.nm.data.toList := by
    split
    · rfl
    · next c => exact (sync_none r (by simpa using c)).symm
  rw [nm_eq, e, hasE_rel r] at CA
  refine CA.mono ?_
  rintro e w' ⟨rfl, ro⟩
  exact ⟨rfl, N, _, Jx.ref hj c5 nF nG ro, by rw [syncR_len]; omega, _, rel_sync r _⟩
theorem j_rem (h : Jx W w b q s N L P o) (re : Re s N L) (hL : L.length ≤ 1000) :
    Calls Try.prog 12 #[.pointer (some ⟨q, 0, none⟩), .string o.nm] w fun e w' => e = .returned (.int .i64 (hasE s.l o.nm.data.toList)) ∧ ∃ N' L', Jx W w' b q s N' L' P o ∧ L'.length ≤ L.length + 1 ∧ Re (remS s o.nm.data.toList) N' L' := by
  obtain ⟨hN, ht⟩ := h.bounds re
  obtain ⟨F, G, hj, c5, nF, nG⟩ := h
  obtain ⟨A, r⟩ := re
  have CA := rrem_any q N L G o.nm.data.toList hN (by omega) w hj.2.1
  have e1 : (if rhas N o.nm.data.toList = true then N.filter fun y => y != o.nm.data.toList else N) = N.filter fun y => y != o.nm.data.toList := by
    split
    · rfl
    · next c => exact (rem_none r (by simpa using c)).1.symm
  have e2 : (if rhas N o.nm.data.toList = true then L.filter fun y => y.nm != o.nm.data.toList else L) = L.filter fun y => y.nm != o.nm.data.toList := by
    split
    · rfl
    · next c => exact (rem_none r (by simpa using c)).2.symm
  rw [nm_eq, e1, e2, hasE_rel r] at CA
  refine CA.mono ?_
  rintro e w' ⟨rfl, ro⟩
  exact ⟨rfl, _, _, Jx.ref hj c5 nF nG ro, Nat.le_trans (List.length_filter_le _ _) (by omega), _, rel_rem r _⟩
theorem j_crash (h : Jx W w b q s N L P o) (re : Re s N L) (hL : L.length ≤ 1000) :
    Calls Try.prog 13 #[.pointer (some ⟨q, 0, none⟩), .int .i64 o.keep, .int .i64 o.torn] w fun e w' => e = .returned (.tuple #[]) ∧ ∃ N' L', Jx W w' b q s N' L' P o ∧ L'.length ≤ L.length + 1 ∧ Re (crashS s o.keep o.torn) N' L' := by
  obtain ⟨F, G, hj, c5, nF, nG⟩ := h
  obtain ⟨A, r⟩ := re
  refine (rcrash_any q N L G o.keep o.torn (by omega) w hj.2.1).mono ?_
  rintro e w' ⟨rfl, ro⟩
  exact ⟨rfl, N, _, Jx.ref hj c5 nF nG ro, by rw [crR_len]; omega, _, rel_crash r hj.1.1.ok.nd _ _⟩
theorem j_does (h : Jx W w b q s N L P o) (m1 : s.m ≤ 1000000000) {g u : Nat} (ho : DoAt W g u o) :
    Calls Try.prog 14 #[.pointer (some ⟨b, 0, none⟩), .agg #[.int .i64 o.kd, .string o.nm, o.v, .int .i64 o.keep, .int .i64 o.torn]] w fun e w' => e = .returned (.int .i64 (stepE s o)) ∧ Jx W w' b q (stepS s o) N L P o := by
  obtain ⟨F, G, hj, c5, nF, nG⟩ := h
  refine (does_lv hj.1 m1 ho).mono ?_
  rintro e w' ⟨rfl, F', l', f', C⟩
  refine ⟨rfl, F', G, hj.prog l' f' C, c5.kept C nF, fun c => ?_, nG⟩
  rcases f' P c with e | e
  · exact nF e
  · have := c5.lt; omega
end
section
variable {W w : World} {b q : Nat} {s : St} {N : List (List UInt8)} {L : List Rw} {F G : Nat → Prop}
theorem j_read (h : Jh W w b q s N L F G) (nm : ByteArray) (hn : nm.size ≤ 140737488351232) :
    Calls Try.prog 15 #[.pointer (some ⟨b, 0, none⟩), .string nm] w fun e w' => ∃ ad n c, e = .returned (.tuple #[.slice ad n c, .int .i64 (hasE s.l nm.data.toList)]) ∧ eB.Own w' w.heap.size (.slice ad n c) (rdB s.l nm.data.toList) ∧ w.grownBy w' none := by
  refine (read_any b s F nm hn w h.1.1).mono ?_
  rintro e w' ⟨ad, c, rfl, o, g⟩
  exact ⟨ad, _, c, rfl, o, g⟩
theorem j_rread (h : Jh W w b q s N L F G) (re : Re s N L) (hL : L.length ≤ 1000) (nm : ByteArray) :
    Calls Try.prog 16 #[.pointer (some ⟨q, 0, none⟩), .string nm] w fun e w' => ∃ ad n c, e = .returned (.tuple #[.slice ad n c, .int .i64 (hasE s.l nm.data.toList)]) ∧ eB.Own w' w.heap.size (.slice ad n c) (rdB s.l nm.data.toList) ∧ w.grownBy w' none := by
  obtain ⟨A, r⟩ := re
  have ok := h.1.1.ok
  have CA := rread_any q N L G nm.data.toList (by rw [len_rel r]; exact ok.len) (by omega) (by rw [tot_rel r ok.nd]; exact ok.tot) w h.2.1
  rw [nm_eq, hasE_rel r, read_rel r ok.nd] at CA
  exact CA
theorem j_wait (h : Jh W w b q s N L F G) (hm : s.m ≤ 1000000000) :
    Calls Try.prog 17 #[.pointer (some ⟨b, 0, none⟩)] w fun e w' => e = .returned (.int .i64 (wait s.l : Int)) ∧ w.grownBy w' none := waiting_any b s F w h.1.1 hm
theorem j_rwait (h : Jh W w b q s N L F G) (re : Re s N L) (hL : L.length ≤ 1000) :
    Calls Try.prog 18 #[.pointer (some ⟨q, 0, none⟩)] w fun e w' => e = .returned (.int .i64 (wait s.l : Int)) ∧ w' = w := by
  obtain ⟨A, r⟩ := re
  obtain ⟨vN, vL, h1, _⟩ := h.2.1
  have CA := rwaiting_any q vN vL N L (by omega) w h1
  rw [wait_rel r h.1.1.ok.nd] at CA
  exact CA
end
end Go.Proofs.Ythpeeldpalmakaa
