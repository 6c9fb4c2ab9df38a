/- Read: a file's bytes, in new memory. -/
import Derived.Test.YthpeeldpalmakaaQSize
namespace Go.Proofs.Ythpeeldpalmakaa
open Go.RowKit Dsk
set_option linter.unusedVariables false

set_option maxRecDepth 100000 in
theorem nil_is (w : World) : (binOp .eql 31 (.slice none 0 0) (.slice none 0 0)).run Try.prog w = .ok (.bool true) w := by kernel_rfl
set_option maxRecDepth 100000 in
theorem nil_not (a : Addr) (n c : Nat) (w : World) : (binOp .eql 31 (.slice (some a) n c) (.slice none 0 0)).run Try.prog w = .ok (.bool false) w := by kernel_rfl
set_option maxRecDepth 100000 in
set_option maxHeartbeats 800000 in
theorem clone_any (v : Value) (l : List UInt8) (w : World) (h : eB.Own w 0 v l) (hl : l.length ≤ 1048576) :
    Calls Try.prog 29 #[v] w fun e w' => ∃ ad c, e = .returned (.slice ad l.length c) ∧ eB.Own w' w.heap.size (.slice ad l.length c) l ∧ w.grownBy w' none := by
  have N1 := nil_is
  have N2 := nil_not
  rcases h.2 with ⟨e, h0⟩ | ⟨g, cap, cur, e, hg, hh, h1, h2, h3, h4⟩
  · have hL : l = [] := List.eq_nil_of_length_eq_zero h0
    subst hL e
    go_enter Try.func29, Try.ntmps29
    go_wp2
    go_ret
    exact ⟨none, 0, rfl, Elm.nil _ _, grown_refl _ _⟩
  · have hX := h.rx
    subst e
    have hX1 : ∀ o, eB.Rx (w.alloc o) (.slice (some ⟨g, 0, none⟩) l.length cap) l := fun o => hX.grown (World.grownBy_alloc w o none)
    have hM : eB.Own (w.alloc (.cells #[] 5)) w.heap.size (.slice (some ⟨w.heap.size, 0, none⟩) 0 0) [] := Elm.made (E := eB) w #[] 0 _ rfl (by unfold maxLen; omega) rfl
    clear h hX hh h4
    go_enter Try.func29, Try.ntmps29
    go_wp2_with (refine Elm.wpList_append (E := eB) rfl (.tmp 5) (.tmp 6) rfl w.heap.size _ [] rfl hM _ l rfl (hX1 _) (by simp; omega) (by simp [eB]; omega) (by simp) ?_; intro ad n c w2 hO2 hg2 hl2)
    go_ret
    obtain rfl : n = l.length := by have := hO2.len; simpa using this
    have gg : w.grownBy w2 none := grown_more (World.grownBy_alloc w _ none) hg2 (fun k hk => .inr (by injection hk with hk; exact Nat.le_of_eq hk))
    exact ⟨ad, c, rfl, hO2, gg⟩
set_option maxRecDepth 100000 in
set_option maxHeartbeats 800000 in
theorem read_run (b f : Nat) (s : ByteArray) (w : World) (FD : Calls Try.prog 28 #[.pointer (some ⟨b, 0, none⟩), .string s] w fun e w' => e = .returned (.tuple #[.pointer (some ⟨f, 0, none⟩), .bool true]) ∧ w' = w) (vb : Value) (l : List UInt8) (c0 : w.cell? ⟨f, 0, none⟩ = some vb) (hO : eB.Own w 0 vb l) (hl : l.length ≤ 1048576) :
    Calls Try.prog 15 #[.pointer (some ⟨b, 0, none⟩), .string s] w fun e w' => ∃ ad c, e = .returned (.tuple #[.slice ad l.length c, .int .i64 0]) ∧ eB.Own w' w.heap.size (.slice ad l.length c) l ∧ w.grownBy w' none := by
  have CL := clone_any vb l w hO hl
  clear hO
  go_enter Try.func15, Try.ntmps15
  go_wp2_with (first
    | (go_at_call 28; (with_reducible refine FD.mono ?_); rintro e w1 ⟨rfl, rfl⟩)
    | (go_at_call 29; (with_reducible refine CL.mono ?_); rintro e w2 ⟨ad, c, rfl, hO, hg⟩))
  go_ret2
  exact ⟨ad, c, rfl, hO, hg⟩
set_option maxRecDepth 100000 in
set_option maxHeartbeats 800000 in
theorem read_not (b : Nat) (s : ByteArray) (w : World) (FD : Calls Try.prog 28 #[.pointer (some ⟨b, 0, none⟩), .string s] w fun e w' => e = .returned (.tuple #[.pointer none, .bool false]) ∧ w' = w) :
    Calls Try.prog 15 #[.pointer (some ⟨b, 0, none⟩), .string s] w fun e w' => e = .returned (.tuple #[.slice none 0 0, .int .i64 80]) ∧ w' = w := by
  go_enter Try.func15, Try.ntmps15
  go_wp2_with (go_at_call 28; (with_reducible refine FD.mono ?_); rintro e w1 ⟨rfl, rfl⟩)
  go_ret2
  exact ⟨rfl, rfl⟩
theorem mem_tot {L : Ds} {p : List UInt8 × Fl} (h : p ∈ L) : p.2.by_.length ≤ tot L := by
  obtain ⟨A, B, rfl⟩ := List.append_of_mem h
  rw [tot_app, tot_cons]
  omega
theorem read_any (b : Nat) (s : St) (F : Nat → Prop) (nm : ByteArray) (hs : nm.size ≤ 140737488351232) (w : World) (h : Dk w b s F) :
    Calls Try.prog 15 #[.pointer (some ⟨b, 0, none⟩), .string nm] w fun e w' => ∃ ad c, e = .returned (.tuple #[.slice ad (rdB s.l nm.data.toList).length c, .int .i64 (hasE s.l nm.data.toList)]) ∧ eB.Own w' w.heap.size (.slice ad (rdB s.l nm.data.toList).length c) (rdB s.l nm.data.toList) ∧ w.grownBy w' none := by
  obtain ⟨bm, M, c, G, h1, h2, h3, h4⟩ := id h
  have hh : has s.l nm.data.toList = M.any fun p => p.1 == nm.data.toList := by rw [h2, lay_has]
  cases ha : M.any fun p => p.1 == nm.data.toList with
  | true =>
    obtain ⟨f, hf⟩ := any_nm.1 ha
    obtain ⟨vb, vw, g1, _⟩ := h1.fil _ hf
    have hmem : (nm.data.toList, c f) ∈ s.l := by rw [h2]; exact List.mem_map.2 ⟨_, hf, rfl⟩
    have e1 : rdB s.l nm.data.toList = (c f).by_ := rdB_mem h3.nd hmem
    have e2 : hasE s.l nm.data.toList = 0 := by unfold hasE; rw [hh, ha]; rfl
    have ht := mem_tot hmem
    have ht2 := h3.tot
    rw [e1, e2]
    exact read_run b f nm w (find_yes h1 hs hf) vb _ g1.c0 g1.rb (Nat.le_trans ht ht2)
  | false =>
    have hn : has s.l nm.data.toList = false := by rw [hh, ha]
    have e2 : hasE s.l nm.data.toList = 80 := by unfold hasE; rw [hn]; rfl
    rw [rdB_not hn, e2]
    refine (read_not b nm w (find_no h1 hs ha)).mono ?_
    rintro e w' ⟨rfl, rfl⟩
    exact ⟨none, 0, rfl, Elm.nil _ _, grown_refl _ _⟩
end Go.Proofs.Ythpeeldpalmakaa
