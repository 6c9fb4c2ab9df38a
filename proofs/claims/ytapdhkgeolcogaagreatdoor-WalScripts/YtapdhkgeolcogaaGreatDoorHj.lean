/- The reference's disk, held against the state of a disk. The reference's log: Sync, Append. The reference's log: a record appended. -/
import Derived.Test.YtapdhkgeolcogaaGreatDoorHi
namespace Go.Proofs.YtapdhkgeolcogaaGreatDoor
open Go.RowKit Dsk Lg
set_option linter.unusedVariables false

theorem appE_rel {s : St} {N L A} (h : Rel s N L A) (ok : Ok s) (x : List UInt8) (n : Nat) : rappE N L x n = appE s.l x n := by
  unfold rappE appE
  rw [has_rel h, len_rel h, tot_rel h ok.nd]
  have e : (64 ≤ s.l.length) = (s.l.length = 64) := propext ⟨fun c => by have := ok.len; omega, fun c => by omega⟩
  simp only [e]
/-- The reference's disk at q stands for the state s; G are its blocks; it has had c writes at most. -/
structure RS (w : World) (q : Nat) (s : St) (G : Nat → Prop) (c : Nat) : Prop where
  ok : Ok s
  ex : ∃ N L A, Rf w q N L G ∧ Rel s N L A ∧ L.length ≤ c
def RSo (w w' : World) (q : Nat) (s' : St) (G : Nat → Prop) (c : Nat) : Prop := ∃ G', RS w' q s' G' c ∧ (∀ k, G' k → G k ∨ w.heap.size ≤ k) ∧ Chg G w w'
section
variable {w w' : World} {q : Nat} {s : St} {G : Nat → Prop} {c : Nat}
theorem RS.kept {F : Nat → Prop} (h : RS w q s G c) (g : Chg F w w') (hd : ∀ k, G k → ¬ F k) : RS w' q s G c := by
  obtain ⟨N, L, A, h1, h2, h3⟩ := h.ex
  exact ⟨h.ok, N, L, A, h1.kept g hd, h2, h3⟩
theorem RS.grown (h : RS w q s G c) (g : w.grownBy w' none) : RS w' q s G c := h.kept (F := fun _ => False) (Chg.of g (by simp)) fun _ _ => id
theorem RS.lt (h : RS w q s G c) : ∀ k, G k → k < w.heap.size := by
  obtain ⟨N, L, A, ⟨vN, vL, _, _, _, _, h5⟩, _⟩ := h.ex
  exact h5
theorem RS.inq (h : RS w q s G c) : G q := by
  obtain ⟨N, L, A, ⟨vN, vL, _, h2, _⟩, _⟩ := h.ex
  exact h2
theorem rs_app (h : RS w q s G c) (hc : c ≤ 999999999) (x l : By) (v : Value) (hx : x.length ≤ 140737488351232) (hl : l.length ≤ 140737488351232) (hX : eB.Rx w v l) (hdj : l ≠ [] → ∀ j, v.ownBlock = some j → ¬ G j) :
    Calls Tryz.prog 22 #[.pointer (some ⟨q, 0, none⟩), .string ⟨x.toArray⟩, v] w fun e w' => e = .returned (.int .i64 (appE s.l x l.length)) ∧ RSo w w' q (appS s x l) G (c + 1) := by
  obtain ⟨N, L, A, h1, r, h3⟩ := h.ex
  have ok := h.ok
  refine (rapp_any q N L G x l v hx hl (by rw [len_rel r]; exact ok.len) (by omega) (by rw [tot_rel r ok.nd]; exact ok.tot) w h1 hX hdj).mono ?_
  rintro e w' ⟨rfl, N', L', ⟨G', ro1, ro2, ro3⟩, at1, at2⟩
  rw [appE_rel r ok] at at1 at2 ⊢
  have ok' : Ok (appS s x l) := ok_app ok x l
  refine ⟨rfl, G', ⟨ok', N', L', ?_⟩, ro2, ro3⟩
  by_cases he : appE s.l x l.length = 0
  · obtain ⟨e1, e2⟩ := at2 he
    exact ⟨_, ro1, by rw [e1]; exact rel_app r _ _ he N' e2, by rw [e1]; simp; omega⟩
  · obtain ⟨e1, e2⟩ := at1 he
    refine ⟨A, ro1, ?_, by rw [e2]; omega⟩
    unfold appS
    rw [if_neg he, e1, e2]
    exact r
theorem rs_sync (h : RS w q s G c) (hc : c ≤ 1000000000) (x : By) :
    Calls Tryz.prog 36 #[.pointer (some ⟨q, 0, none⟩), .string ⟨x.toArray⟩] w fun e w' => e = .returned (.int .i64 (hasE s.l x)) ∧ RSo w w' q (syncS s x) G c := by
  obtain ⟨N, L, A, h1, r, h3⟩ := h.ex
  have ok := h.ok
  have CA := rsync_any q N L G x (by rw [len_rel r]; exact ok.len) (by omega) w h1
  have e : (if rhas N x = true then syncR L x else L) = syncR L x := by
    split
    · rfl
    · next c => exact (sync_none r (by simpa using c)).symm
  rw [e, hasE_rel r] at CA
  refine CA.mono ?_
  rintro e w' ⟨rfl, G', ro1, ro2, ro3⟩
  exact ⟨rfl, G', ⟨ok_sync ok x, N, _, _, ro1, rel_sync r _, by rw [syncR_len]; omega⟩, ro2, ro3⟩
theorem rs_rem (h : RS w q s G c) (hc : c ≤ 1000000000) (x : By) :
    Calls Tryz.prog 32 #[.pointer (some ⟨q, 0, none⟩), .string ⟨x.toArray⟩] w fun e w' => e = .returned (.int .i64 (hasE s.l x)) ∧ RSo w w' q (remS s x) G c := by
  obtain ⟨N, L, A, h1, r, h3⟩ := h.ex
  have ok := h.ok
  have CA := rrem_any q N L G x (by rw [len_rel r]; exact ok.len) (by omega) w h1
  have e1 : (if rhas N x = true then N.filter fun y => y != x else N) = N.filter fun y => y != x := by
    split
    · rfl
    · next c => exact (rem_none r (by simpa using c)).1.symm
  have e2 : (if rhas N x = true then L.filter fun y => y.nm != x else L) = L.filter fun y => y.nm != x := by
    split
    · rfl
    · next c => exact (rem_none r (by simpa using c)).2.symm
  rw [e1, e2, hasE_rel r] at CA
  refine CA.mono ?_
  rintro e w' ⟨rfl, G', ro1, ro2, ro3⟩
  exact ⟨rfl, G', ⟨ok_rem ok x, _, _, _, ro1, rel_rem r _, Nat.le_trans (List.length_filter_le _ _) h3⟩, ro2, ro3⟩
theorem rs_crash (h : RS w q s G c) (hc : c ≤ 1000000000) (keep torn : Int) :
    Calls Tryz.prog 19 #[.pointer (some ⟨q, 0, none⟩), .int .i64 keep, .int .i64 torn] w fun e w' => e = .returned (.tuple #[]) ∧ RSo w w' q (crashS s keep torn) G c := by
  obtain ⟨N, L, A, h1, r, h3⟩ := h.ex
  refine (rcrash_any q N L G keep torn (by omega) w h1).mono ?_
  rintro e w' ⟨rfl, G', ro1, ro2, ro3⟩
  exact ⟨rfl, G', ⟨ok_crash h.ok keep torn, N, _, _, ro1, rel_crash r h.ok.nd _ _, by rw [crR_len]; omega⟩, ro2, ro3⟩
theorem rs_read (h : RS w q s G c) (hc : c ≤ 1000000000) (x : By) :
    Calls Tryz.prog 25 #[.pointer (some ⟨q, 0, none⟩), .string ⟨x.toArray⟩] w fun e w' => ∃ ad c, e = .returned (.tuple #[.slice ad (rdB s.l x).length c, .int .i64 (hasE s.l x)]) ∧ eB.Own w' w.heap.size (.slice ad (rdB s.l x).length c) (rdB s.l x) ∧ w.grownBy w' none := by
  obtain ⟨N, L, A, h1, r, h3⟩ := h.ex
  have ok := h.ok
  have CA := rread_any q N L G x (by rw [len_rel r]; exact ok.len) (by omega) (by rw [tot_rel r ok.nd]; exact ok.tot) w h1
  rw [hasE_rel r, read_rel r ok.nd] at CA
  refine CA.mono ?_
  rintro e w' ⟨ad, n, c, rfl, ho, hg⟩
  have := ho.len
  subst this
  exact ⟨ad, c, rfl, ho, hg⟩
/-- The files' names, in the reference's own slice. -/
theorem RS.files (h : RS w q s G c) : ∃ v, w.cell? ⟨q, 0, none⟩ = some v ∧ eS.Own w 0 v (srtS (s.l.map (·.1))) := by
  obtain ⟨N, L, A, ⟨vN, vL, h1, _⟩, r, _⟩ := h.ex
  exact ⟨vN, h1.c0, by rw [← r.hN]; exact h1.oN⟩
end
end Go.Proofs.YtapdhkgeolcogaaGreatDoor
namespace Go.Proofs.YtapdhkgeolcogaaGreatDoor
open Go.RowKit Dsk Lg
set_option linter.unusedVariables false

/-- The reference's log at rb: its disk at q stands for s; the file's number n, the last number, cnt records. -/
structure Wr (W w : World) (q rb : Nat) (s : St) (G : Nat → Prop) (c n last cnt : Nat) : Prop where
  rs : RS w q s G c
  lo : ∀ k, G k → W.heap.size ≤ k
  bel : Below W.heap.size W w
  c0 : w.cell? ⟨rb, 0, none⟩ = some (.pointer (some ⟨q, 0, none⟩))
  c1 : w.cell? ⟨rb, 1, none⟩ = some (.int .i64 (n : Int))
  c2 : w.cell? ⟨rb, 2, none⟩ = some (.int .i64 (last : Int))
  c3 : ∃ ad cp vs, w.cell? ⟨rb, 3, none⟩ = some (.slice ad cnt cp) ∧ eL.Own w W.heap.size (.slice ad cnt cp) vs ∧ ∀ j, (Value.slice ad cnt cp).ownBlock = some j → ¬ G j ∧ j ≠ rb
  fr : ∀ i, w.frozen? ⟨rb, i, none⟩ = false
  nf : ¬ G rb
  wlo : W.heap.size ≤ rb
section
variable {W w w' : World} {q rb : Nat} {s s' : St} {G G' : Nat → Prop} {c c' n last cnt : Nat}
theorem Wr.lt (h : Wr W w q rb s G c n last cnt) : rb < w.heap.size := World.block_lt_of_cell? w _ h.c0
/-- What turns neither the log's box nor its list. -/
theorem Wr.disk (h : Wr W w q rb s G c n last cnt) (h1 : RS w' q s' G' c') (h2 : ∀ k, G' k → G k ∨ w.heap.size ≤ k) (h3 : Chg G w w') : Wr W w' q rb s' G' c' n last cnt := by
  obtain ⟨ad, cp, vs, k1, k2, k3⟩ := h.c3
  have hz : W.heap.size ≤ w.heap.size := h.bel.size
  refine ⟨h1, fun k hk => (h2 k hk).elim (h.lo k) fun e => by omega, Chg.low h.bel h3 h.lo, h3.cell h.c0 h.nf, h3.cell h.c1 h.nf, h3.cell h.c2 h.nf, ⟨ad, cp, vs, h3.cell k1 h.nf, k2.kept h3 (fun j hj => (k3 j hj).1), fun j hj => ⟨fun e => ?_, (k3 j hj).2⟩⟩, fun i => (h3.frozen (a := ⟨rb, i, none⟩) h.lt h.nf).trans (h.fr i), fun e => ?_, h.wlo⟩
  · rcases h2 j e with e | e
    · exact (k3 j hj).1 e
    · have := (k2.lt j hj).2; omega
  · rcases h2 rb e with e | e
    · exact h.nf e
    · have := h.lt; omega
theorem Wr.grown (h : Wr W w q rb s G c n last cnt) (g : w.grownBy w' none) : Wr W w' q rb s G c n last cnt :=
  h.disk (h.rs.grown g) (fun _ hk => .inl hk) (Chg.of g (by simp))
set_option maxRecDepth 100000 in
set_option maxHeartbeats 1600000 in
theorem rsync10 (h : Wr W w q rb s G c n last cnt) (hc : c ≤ 1000000000) (h1 : 1 ≤ n) (h2 : n ≤ 999999999) :
    Calls Tryz.prog 15 #[.pointer (some ⟨rb, 0, none⟩)] w fun e w' => e = .returned (.int .i64 (hasE s.l (nm n))) ∧ ∃ G', Wr W w' q rb (syncS s (nm n)) G' c n last cnt ∧ (∀ k, G' k → G k ∨ w.heap.size ≤ k) ∧ Chg G w w' := by
  have hd := h.grown (grown_drew (grown_refl w none))
  have NA := rname_any n h1 (by omega) w.drew
  have SY : ∀ {w1}, w.drew.grownBy w1 none → Calls Tryz.prog 36 #[.pointer (some ⟨q, 0, none⟩), .string ⟨(nm n).toArray⟩] w1 fun e w' => e = .returned (.int .i64 (hasE s.l (nm n))) ∧ ∃ G', Wr W w' q rb (syncS s (nm n)) G' c n last cnt ∧ (∀ k, G' k → G k ∨ w.heap.size ≤ k) ∧ Chg G w w' := fun {w1} g1 => by
    have hz := g1.size
    refine (rs_sync (hd.rs.grown g1) hc (nm n)).mono ?_
    rintro e w' ⟨rfl, G', r1, r2, r3⟩
    exact ⟨rfl, G', (hd.grown g1).disk r1 r2 r3, fun k hk => (r2 k hk).imp id fun e => by simp at hz; omega, ((Chg.of (F := G) (grown_drew (grown_refl w none)) (by simp)).trans (Chg.of (F := G) g1 (by simp)) fun _ hb => .inl hb).trans r3 fun _ hb => .inl hb⟩
  have c0 := h.c0
  have c1 := h.c1
  clear h hd
  go_enter Tryz.func15, Tryz.ntmps15
  go_wp2
  have c0' : ∀ {w1}, w.drew.grownBy w1 none → w1.cell? ⟨rb, 0, none⟩ = some (.pointer (some ⟨q, 0, none⟩)) := fun {w1} g => g.cell (show w.drew.cell? ⟨rb, 0, none⟩ = _ from c0) (by simp)
  go_region_with (first
    | (go_at_call 26; (with_reducible refine NA.mono ?_); rintro e w1 ⟨rfl, hg1⟩; have c01 := c0' hg1)
    | (go_at_call 36; (with_reducible refine (SY hg1).mono ?_); rintro e w2 ⟨rfl, h2⟩))
  all_goals go_wp2
  all_goals go_ret
  all_goals exact ⟨rfl, h2⟩
end
end Go.Proofs.YtapdhkgeolcogaaGreatDoor
namespace Go.Proofs.YtapdhkgeolcogaaGreatDoor
open Go.RowKit Dsk Lg
set_option linter.unusedVariables false

/-- The blocks that a call on the reference's log may turn. -/
def Wb (w : World) (rb : Nat) (G : Nat → Prop) (k : Nat) : Prop := G k ∨ k = rb ∨ ∃ v, w.cell? ⟨rb, 3, none⟩ = some v ∧ v.ownBlock = some k
section
variable {W w w' : World} {q rb : Nat} {s s' : St} {G G' : Nat → Prop} {c c' n last cnt : Nat}
/-- A new list in the log's box. -/
theorem Wr.list {w5 : World} {ad ad' : Option Addr} {cp cp' cnt' : Nat} {vs us : List S3} (h : Wr W w q rb s G c n last cnt) (k1 : w.cell? ⟨rb, 3, none⟩ = some (.slice ad cnt cp)) (k2 : eL.Own w W.heap.size (.slice ad cnt cp) vs) (k3 : ∀ j, (Value.slice ad cnt cp).ownBlock = some j → ¬ G j ∧ j ≠ rb)
    (g : w.grownBy w5 (Value.slice ad cnt cp).ownBlock) (o : eL.Own w5 W.heap.size (.slice ad' cnt' cp') us) (hb : (Value.slice ad' cnt' cp').ownBlock = (Value.slice ad cnt cp).ownBlock ∨ ∃ j, (Value.slice ad' cnt' cp').ownBlock = some j ∧ w.heap.size ≤ j) :
    Wr W (w5.setCell ⟨rb, 3, none⟩ (.slice ad' cnt' cp')) q rb s G c n last cnt' ∧ Chg (Wb w rb G) w (w5.setCell ⟨rb, 3, none⟩ (.slice ad' cnt' cp')) := by
  have C : Chg (fun k => (Value.slice ad cnt cp).ownBlock = some k) w w5 := Chg.of g fun k hk => hk
  have S := chg_set w5 ⟨rb, 3, none⟩ (.slice ad' cnt' cp')
  have nrb : ¬ (Value.slice ad cnt cp).ownBlock = some rb := fun e => (k3 rb e).2 rfl
  have hlt := h.lt
  have hz := C.size
  have hn' : ∀ j, (Value.slice ad' cnt' cp').ownBlock = some j → ¬ G j ∧ j ≠ rb := fun j hj => by
    rcases hb with e | ⟨i, e, hi⟩
    · rw [e] at hj; exact k3 j hj
    · rw [e] at hj
      injection hj with hj
      subst hj
      exact ⟨fun e2 => by have := h.rs.lt i e2; omega, by omega⟩
  have rs5 := h.rs.kept C fun k hk e => (k3 k e).1 hk
  have bel5 : Below W.heap.size W w5 := Chg.low h.bel C fun k hk => (k2.lt k hk).1
  refine ⟨⟨rs5.kept S fun k hk e => h.nf (by rw [e] at hk; exact hk), h.lo, Chg.low bel5 S fun k hk => by rw [hk]; exact h.wlo, (set_other (by simp)).trans (C.cell h.c0 nrb), (set_other (by simp)).trans (C.cell h.c1 nrb), (set_other (by simp)).trans (C.cell h.c2 nrb), ⟨ad', cp', us, set_same (C.cell k1 nrb), o.kept S (fun j hj e => (hn' j hj).2 e), hn'⟩, fun i => (World.frozen?_setCell _ _ _ _).trans ((C.frozen (a := ⟨rb, i, none⟩) hlt nrb).trans (h.fr i)), h.nf, h.wlo⟩, ?_⟩
  exact (C.wide fun k hk => .inr (.inr ⟨_, k1, hk⟩)).trans S fun b hb => .inl (.inr (.inl hb))
set_option maxRecDepth 100000 in
set_option maxHeartbeats 3200000 in
theorem rapp10_long (h : Wr W w q rb s G c n last cnt) (a : Option Addr) (m cp : Nat) (hm : 65536 < m) :
    Calls Tryz.prog 13 #[.pointer (some ⟨rb, 0, none⟩), .slice a m cp] w fun e w' => e = .returned (.int .i64 1) ∧ w' = w := by
  have FL := Cd.refFrame_long w a m cp (by omega)
  clear h
  go_enter Tryz.func13, Tryz.ntmps13
  go_wp2_with (go_at_call 34; (with_reducible refine FL.mono ?_); rintro e w1 ⟨rfl, rfl⟩)
  go_ret
  exact ⟨rfl, rfl⟩
/-- The frame around a record. -/
theorem rframe_ok (a : Option Addr) (cp : Nat) (l : By) (w : World) (hX : eB.Rx w (.slice a l.length cp) l) (hl : l.length ≤ 65536) :
    Calls Tryz.prog 34 #[.slice a l.length cp] w fun e w' => ∃ ad c, e = .returned (.tuple #[.slice ad (fr l).length c, .int .i64 0]) ∧ eB.Own w' w.heap.size (.slice ad (fr l).length c) (fr l) ∧ w.grownBy w' none := by
  have hb := bI_len l
  have FR := Cd.refFrame_ok w a cp (bI l) (by rw [hb]; exact rx_cd hX (by omega)) (by rw [hb]; omega)
  rw [hb] at FR
  refine FR.mono ?_
  rintro e w' ⟨v', rfl, ho, hg⟩
  have h1 := cd_own ho
  obtain ⟨ad, cc, e⟩ := Elm.form h1
  have hlen : (iB (Cd.Code.frame (bI l))) = fr l := rfl
  rw [hlen] at h1 e
  subst e
  exact ⟨ad, cc, rfl, h1, hg⟩
set_option maxRecDepth 100000 in
set_option maxHeartbeats 6400000 in
theorem rapp10_full (h : Wr W w q rb s G c n last cnt) (hc : c ≤ 999999999) (h1 : 1 ≤ n) (h2 : n ≤ 999999999) (a : Option Addr) (cp : Nat) (l : By) (hX : eB.Rx w (.slice a l.length cp) l) (hl : l.length ≤ 65536) (hE : ¬ appE s.l (nm n) (fr l).length = 0) :
    Calls Tryz.prog 13 #[.pointer (some ⟨rb, 0, none⟩), .slice a l.length cp] w fun e w' => e = .returned (.int .i64 3) ∧ ∃ G', Wr W w' q rb s G' (c + 1) n last cnt ∧ (∀ k, G' k → G k ∨ w.heap.size ≤ k) ∧ Chg G w w' := by
  have FR := rframe_ok a cp l w hX hl
  have hfl := fr_le hl
  have hnl := nm_len (n := n) (by omega)
  have KEY : ∀ {w1 ad cc}, eB.Own w1 w.heap.size (.slice ad (fr l).length cc) (fr l) → w.grownBy w1 none → w1.drew.cell? ⟨rb, 0, none⟩ = some (.pointer (some ⟨q, 0, none⟩)) ∧ w1.drew.cell? ⟨rb, 1, none⟩ = some (.int .i64 (n : Int)) ∧ Calls Tryz.prog 26 #[.int .i64 (n : Int)] w1.drew fun e w' => e = .returned (.string ⟨(nm n).toArray⟩) ∧ w1.drew.grownBy w' none ∧ w'.cell? ⟨rb, 0, none⟩ = some (.pointer (some ⟨q, 0, none⟩)) ∧ Calls Tryz.prog 22 #[.pointer (some ⟨q, 0, none⟩), .string ⟨(nm n).toArray⟩, .slice ad (fr l).length cc] w' fun e w'' => e = .returned (.int .i64 (appE s.l (nm n) (fr l).length)) ∧ ∃ G', Wr W w'' q rb s G' (c + 1) n last cnt ∧ (∀ k, G' k → G k ∨ w.heap.size ≤ k) ∧ Chg G w w'' := fun {w1 ad cc} ho hg => by
    have gd : w.grownBy w1.drew none := grown_drew hg
    have hd := h.grown gd
    refine ⟨hd.c0, hd.c1, (rname_any n h1 (by omega) w1.drew).mono ?_⟩
    rintro e w' ⟨rfl, g2⟩
    have h3 := hd.grown g2
    have g03 : w.grownBy w' none := grown_more gd g2 (by simp)
    refine ⟨rfl, g2, h3.c0, (rs_app h3.rs hc (nm n) (fr l) _ (by omega) (by omega) ((ho.grown (grown_drew (grown_refl w1 none))).grown g2).rx (fun _ j hj e => by have := (ho.lt j hj).1; have := h.rs.lt j e; omega)).mono ?_⟩
    rintro e w'' ⟨rfl, G', r1, r2, r3⟩
    have es : appS s (nm n) (fr l) = s := by unfold appS; rw [if_neg hE]
    rw [es] at r1
    have hz := g03.size
    exact ⟨rfl, G', h3.disk r1 r2 r3, fun k hk => (r2 k hk).imp id fun e => by omega, (Chg.of (F := G) g03 (by simp)).trans r3 fun _ hb => .inl hb⟩
  have hE' : (appE s.l (nm n) (fr l).length == 0) = false := by simpa using hE
  generalize appE s.l (nm n) (fr l).length = E at *
  generalize (fr l).length = FL at *
  clear h hX hE hfl hnl
  generalize l.length = LL at *
  go_enter Tryz.func13, Tryz.ntmps13
  go_wp2_with (go_at_call 34; (with_reducible refine FR.mono ?_); rintro e w1 ⟨ad, cc, rfl, hO1, hg1⟩; obtain ⟨k0, k1, NA⟩ := KEY hO1 hg1; clear KEY hO1)
  go_region_with (first
    | (go_at_call 26; (with_reducible refine NA.mono ?_); rintro e w2 ⟨rfl, hg2, k02, AP⟩)
    | (go_at_call 22; (with_reducible refine AP.mono ?_); rintro e w3 ⟨rfl, h3⟩))
  all_goals go_wp2
  all_goals go_ret
  all_goals exact ⟨rfl, h3⟩
end
end Go.Proofs.YtapdhkgeolcogaaGreatDoor
