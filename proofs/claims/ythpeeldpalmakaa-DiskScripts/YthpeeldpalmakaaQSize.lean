/- Remove; how many bytes all files have; how many writes wait. -/
import Derived.Test.YthpeeldpalmakaaQFind
namespace Go.Proofs.Ythpeeldpalmakaa
open Go.RowKit Dsk
set_option linter.unusedVariables false

theorem sum_perm {l l' : List Nat} (h : l.Perm l') : l.sum = l'.sum := by
  induction h with
  | nil => rfl
  | cons x _ ih => simp [ih]
  | swap x y l => simp; omega
  | trans _ _ a b => rw [a, b]
theorem tot_perm {L L' : Ds} (h : L.Perm L') : tot L = tot L' := sum_perm (h.map _)
theorem wait_perm {L L' : Ds} (h : L.Perm L') : wait L = wait L' := sum_perm (h.map _)
theorem lay_perm {M M' : List (List UInt8 × Nat)} (c : Nat → Fl) (h : M.Perm M') : (lay M c).Perm (lay M' c) := h.map _
theorem lay_cons (p : List UInt8 × Nat) (M : List (List UInt8 × Nat)) (c : Nat → Fl) : lay (p :: M) c = (p.1, c p.2) :: lay M c := rfl
theorem wait_cons (p : List UInt8 × Fl) (B : Ds) : wait (p :: B) = p.2.ws.length + wait B := by simp [wait]
set_option maxRecDepth 100000 in
set_option maxHeartbeats 1600000 in
theorem size_any {w : World} {b bm : Nat} {M : List (List UInt8 × Nat)} {c : Nat → Fl} {G : Nat → Nat → Prop} {m : Int} (h : DkD w b bm M c G m) (hb : tot (lay M c) ≤ 1048576) :
    Calls Try.prog 34 #[.pointer (some ⟨b, 0, none⟩)] w fun e w' => e = .returned (.int .i64 (tot (lay M c) : Int)) ∧ w.grownBy w' none := by
  have hm := h.map
  have c0 := h.c0
  have H : Hid (DkD w b bm M c G m) := h
  clear h
  go_enter Try.func34, Try.ntmps34
  go_wp2_with (at_range; refine wpList_range_M _ rfl _ rfl rfl hm ?_; intro w2 cnt2 hrg2 hg2 hs2)
  go_frame
  obtain ⟨r, hr⟩ : ∃ r, r = w.heap.size := ⟨_, rfl⟩
  rw [← hr] at hrg2 ⊢
  have hr1 : Hid (w.heap.size ≤ r) := Nat.le_of_eq hr.symm
  clear hs2 hr hm c0
  go_loopw [3] (fun v wr => ∃ R cnt, ∃ n : Nat, v = Value.int .i64 (n : Int) ∧ Rng wr bm r M R cnt ∧ n + tot (lay R c) = tot (lay M c) ∧ w.grownBy wr none) (fun _ wr => wr.rangeLeft bm r)
  case atStart => exact ⟨M, cnt2, 0, rfl, hrg2, by omega, hg2⟩
  case round =>
    obtain ⟨R, cnt, n, rfl, hrg, hsum, hgw⟩ := hrel
    clear hrg2 hg2
    go_wp2_with (at_next; refine wpList_next_M _ rfl _ rfl rfl hrg ?_ ?_)
    · intro h0
      have hs0 : (n : Int) = tot (lay M c) := by subst h0; rw [← hsum]; simp [lay, tot]
      have HS : Hid ((n : Int) = tot (lay M c)) := hs0
      clear hs0
      clear hsum hrg hb
      go_wp2
      go_ret
      exact ⟨ret_int HS.out, hgw⟩
    · intro nm f R' w3 cnt1 hmem hperm hne hrg3 hlt hg3 hs3 hen
      have hgw3 := grown_more hgw hg3 (fun k e => .inr (by injection e with e; have := hr1.out; omega))
      obtain ⟨vb, vw, g1, _⟩ := ((H.out.grown hgw3).fil _ hmem)
      obtain ⟨ad, cp, rfl⟩ := Elm.form g1.rb
      have k0 := g1.c0
      have hp : tot (lay R c) = (c f).by_.length + tot (lay R' c) := by rw [tot_perm (lay_perm c hperm), lay_cons, tot_cons]
      have HP : Hid (tot (lay R c) = (c f).by_.length + tot (lay R' c)) := hp
      have hn1 : (n : Int) + ((c f).by_.length : Int) ≤ 1048576 := by omega
      have hl1 : ((c f).by_.length : Int) ≤ 1048576 := by omega
      have HS : Hid (n + tot (lay R c) = tot (lay M c)) := hsum
      have hrgm := hrg.left
      have hrgm3 := hrg3.left
      have HM : Hid (w3.rangeLeft bm r < wr.rangeLeft bm r) := by rw [hrgm, hrgm3]; exact hlt
      clear g1 hsum hp hperm hne hmem hrg hrgm hrgm3 hlt hb
      go_wp2
      go_roundw
      case rel => exact ⟨R', cnt1, n + (c f).by_.length, by go_num, hrg3, by have := HS.out; have := HP.out; omega, hgw3⟩
      case measure => exact HM.out
set_option maxRecDepth 100000 in
set_option maxHeartbeats 1600000 in
theorem waiting_run {w : World} {b bm : Nat} {M : List (List UInt8 × Nat)} {c : Nat → Fl} {G : Nat → Nat → Prop} {m : Int} (h : DkD w b bm M c G m) (hb : wait (lay M c) ≤ 1000000000) :
    Calls Try.prog 17 #[.pointer (some ⟨b, 0, none⟩)] w fun e w' => e = .returned (.int .i64 (wait (lay M c) : Int)) ∧ w.grownBy w' none := by
  have hm := h.map
  have c0 := h.c0
  have H : Hid (DkD w b bm M c G m) := h
  clear h
  go_enter Try.func17, Try.ntmps17
  go_wp2_with (at_range; refine wpList_range_M _ rfl _ rfl rfl hm ?_; intro w2 cnt2 hrg2 hg2 hs2)
  go_frame
  obtain ⟨r, hr⟩ : ∃ r, r = w.heap.size := ⟨_, rfl⟩
  rw [← hr] at hrg2 ⊢
  have hr1 : Hid (w.heap.size ≤ r) := Nat.le_of_eq hr.symm
  clear hs2 hr hm c0
  go_loopw [3] (fun v wr => ∃ R cnt, ∃ n : Nat, v = Value.int .i64 (n : Int) ∧ Rng wr bm r M R cnt ∧ n + wait (lay R c) = wait (lay M c) ∧ w.grownBy wr none) (fun _ wr => wr.rangeLeft bm r)
  case atStart => exact ⟨M, cnt2, 0, rfl, hrg2, by omega, hg2⟩
  case round =>
    obtain ⟨R, cnt, n, rfl, hrg, hsum, hgw⟩ := hrel
    clear hrg2 hg2
    go_wp2_with (at_next; refine wpList_next_M _ rfl _ rfl rfl hrg ?_ ?_)
    · intro h0
      have hs0 : (n : Int) = wait (lay M c) := by subst h0; rw [← hsum]; simp [lay, wait]
      have HS : Hid ((n : Int) = wait (lay M c)) := hs0
      clear hs0
      clear hsum hrg hb
      go_wp2
      go_ret
      exact ⟨ret_int HS.out, hgw⟩
    · intro nm f R' w3 cnt1 hmem hperm hne hrg3 hlt hg3 hs3 hen
      have hgw3 := grown_more hgw hg3 (fun k e => .inr (by injection e with e; have := hr1.out; omega))
      obtain ⟨vb, vw, g1, _⟩ := ((H.out.grown hgw3).fil _ hmem)
      obtain ⟨ad, cp, rfl⟩ := Elm.form g1.rw
      have k0 := g1.c1
      have hp : wait (lay R c) = (c f).ws.length + wait (lay R' c) := by rw [wait_perm (lay_perm c hperm), lay_cons, wait_cons]
      have HP : Hid (wait (lay R c) = (c f).ws.length + wait (lay R' c)) := hp
      have hn1 : (n : Int) + ((c f).ws.length : Int) ≤ 1000000000 := by omega
      have hl1 : ((c f).ws.length : Int) ≤ 1000000000 := by omega
      have HS : Hid (n + wait (lay R c) = wait (lay M c)) := hsum
      have hrgm := hrg.left
      have hrgm3 := hrg3.left
      have HM : Hid (w3.rangeLeft bm r < wr.rangeLeft bm r) := by rw [hrgm, hrgm3]; exact hlt
      clear g1 hsum hp hperm hne hmem hrg hrgm hrgm3 hlt hb
      go_wp2
      go_roundw
      case rel => exact ⟨R', cnt1, n + (c f).ws.length, by go_num, hrg3, by have := HS.out; have := HP.out; omega, hgw3⟩
      case measure => exact HM.out
theorem waiting_any (b : Nat) (s : St) (F : Nat → Prop) (w : World) (h : Dk w b s F) (hm : s.m ≤ 1000000000) :
    Calls Try.prog 17 #[.pointer (some ⟨b, 0, none⟩)] w fun e w' => e = .returned (.int .i64 (wait s.l : Int)) ∧ w.grownBy w' none := by
  obtain ⟨bm, M, c, G, h1, h2, h3, h4⟩ := id h
  have := h3.wait
  rw [h2] at this ⊢
  exact waiting_run h1 (by omega)
/-- 'delete(m, name)'. -/
theorem wpList_delete_M (w : World) {ops : Array Oper} {rest : List Oper} {o : Oper} {a : Act} {Q : Exit → Act → World → Prop} (hg : o.guard = none) (mo x : Operand) (hop : o.op = Op.call { callee := Callee.builtin Builtin.delete, args := #[mo, x], argTypes := #[46, 9] })
    {bm : Nat} {M : List (List UInt8 × Nat)} (hm : a.eval mo = .map (some bm)) (h : MapOf w bm M) {s : ByteArray} (hs : s.size ≤ 140737488351232) {f : Nat} (hf : (s.data.toList, f) ∈ M) (hx : a.eval x = .string s)
    (hK : ∀ w', MapOf w' bm (M.filter fun p => p.1 != s.data.toList) → w.grownBy w' (some bm) → wpList Try.prog ops Q rest (a.put o.dst (.tuple #[])) w') : wpList Try.prog ops Q (o :: rest) a w := by
  obtain ⟨D, h1, T⟩ := h
  refine wpList_delete_own w hg mo x 46 9 hop 52 mapLaw Try.underlying46 pE bm _ D hm h1 _ _ hx (keyS hs) fun w' h2 h3 => hK w' ⟨_, owns_tight h2, T.del (h1.tidy mapLaw) hf⟩ h3.grown
set_option maxRecDepth 100000 in
set_option maxHeartbeats 800000 in
theorem remove_run (b bm f : Nat) (s : ByteArray) (hs : s.size ≤ 140737488351232) (M : List (List UInt8 × Nat)) (w : World) (FD : Calls Try.prog 28 #[.pointer (some ⟨b, 0, none⟩), .string s] w fun e w' => e = .returned (.tuple #[.pointer (some ⟨f, 0, none⟩), .bool true]) ∧ w' = w) (c0 : w.cell? ⟨b, 0, none⟩ = some (.map (some bm))) (hm : MapOf w bm M) (hf : (s.data.toList, f) ∈ M) :
    Calls Try.prog 27 #[.pointer (some ⟨b, 0, none⟩), .string s] w fun e w' => e = .returned (.int .i64 0) ∧ MapOf w' bm (M.filter fun p => p.1 != s.data.toList) ∧ w.grownBy w' (some bm) := by
  have HF : Hid ((s.data.toList, f) ∈ M) := hf
  clear hf
  go_enter Try.func27, Try.ntmps27
  go_wp2_with (first
    | (go_at_call 28; (with_reducible refine FD.mono ?_); rintro e w1 ⟨rfl, rfl⟩)
    | (at_delete; refine wpList_delete_M _ rfl _ _ rfl rfl hm hs HF.out rfl ?_; intro w2 hm2 hg2))
  go_ret
  exact ⟨rfl, hm2, hg2⟩
set_option maxRecDepth 100000 in
set_option maxHeartbeats 800000 in
theorem remove_not (b : Nat) (s : ByteArray) (w : World) (FD : Calls Try.prog 28 #[.pointer (some ⟨b, 0, none⟩), .string s] w fun e w' => e = .returned (.tuple #[.pointer none, .bool false]) ∧ w' = w) :
    Calls Try.prog 27 #[.pointer (some ⟨b, 0, none⟩), .string s] w fun e w' => e = .returned (.int .i64 80) ∧ w' = w := by
  go_enter Try.func27, Try.ntmps27
  go_wp2_with (go_at_call 28; (with_reducible refine FD.mono ?_); rintro e w1 ⟨rfl, rfl⟩)
  go_ret
  exact ⟨rfl, rfl⟩
theorem remove_any (b : Nat) (s : St) (F : Nat → Prop) (nm : ByteArray) (hs : nm.size ≤ 140737488351232) (w : World) (h : Dk w b s F) :
    Calls Try.prog 27 #[.pointer (some ⟨b, 0, none⟩), .string nm] w fun e w' => e = .returned (.int .i64 (hasE s.l nm.data.toList)) ∧ ∃ F', Dk w' b (remS s nm.data.toList) F' ∧ (∀ k, F' k → F k ∨ w.heap.size ≤ k) ∧ Chg F w w' := by
  obtain ⟨bm, M, c, G, h1, h2, h3, h4⟩ := id h
  have hh : has s.l nm.data.toList = M.any fun p => p.1 == nm.data.toList := by rw [h2, lay_has]
  have hl : (remS s nm.data.toList).l = lay (M.filter fun p => p.1 != nm.data.toList) c := by
    unfold remS lay
    rw [h2]
    unfold lay
    rw [List.filter_map]
    rfl
  cases ha : M.any fun p => p.1 == nm.data.toList with
  | true =>
    obtain ⟨f, hf⟩ := any_nm.1 ha
    refine (remove_run b bm f nm hs M w (find_yes h1 hs hf) h1.c0 h1.map hf).mono ?_
    rintro e w' ⟨rfl, hm, hg⟩
    have C : Chg (fun k => k = bm) w w' := Chg.of hg fun k hk => by injection hk with hk; exact hk.symm
    have sub : ∀ p ∈ (M.filter fun p => p.1 != nm.data.toList), p ∈ M := fun p hp => (List.mem_filter.1 hp).1
    have hb : b < w.heap.size := World.block_lt_of_cell? w _ h1.c0
    refine ⟨by unfold hasE; rw [hh, ha]; rfl, Foot b bm (M.filter fun p => p.1 != nm.data.toList) G, ⟨bm, _, c, G, ⟨C.cell h1.c0 h1.bb, C.cell h1.c1 h1.bb, fun i => (C.frozen (a := ⟨b, i, none⟩) hb h1.bb).trans (h1.fr i), hm, fun p hp => (h1.fil p (sub p hp)).kept C fun k hk e => (h1.base p (sub p hp) k hk).2 e, fun p hp q hq => h1.inj p (sub p hp) q (sub q hq), fun p hp q hq => h1.apart p (sub p hp) q (sub q hq), fun p hp => h1.base p (sub p hp), h1.bb⟩, hl, ok_rem h3 _, fun _ => Iff.rfl⟩, fun k hk => .inl ((h4 k).2 ?_), C.wide fun k hk => (h4 k).2 (.inr (.inl hk))⟩
    rcases hk with e | e | ⟨p, hp, e⟩
    · exact .inl e
    · exact .inr (.inl e)
    · exact .inr (.inr ⟨p, sub p hp, e⟩)
  | false =>
    refine (remove_not b nm w (find_no h1 hs ha)).mono ?_
    rintro e w' ⟨rfl, rfl⟩
    have e1 : remS s nm.data.toList = s := by
      unfold remS
      rw [List.filter_eq_self.2]
      intro p hp
      have := has_not (show has s.l nm.data.toList = false by rw [hh, ha]) p hp
      simpa using this
    exact ⟨by unfold hasE; rw [hh, ha]; rfl, F, by rw [e1]; exact h, fun k hk => .inl hk, Chg.refl _ _⟩
end Go.Proofs.Ythpeeldpalmakaa
