/- The names of a log's files, and the numbers in them. The numbers of a disk's logs. A log's file read: its frames, one behind the other. A log in memory; a record appended to a file, a file laid. A file laid with records. A log laid anew; a record appended to it; its sync. A log laid anew, where the disk takes it; a record appended; a sync; the log's name and count. A record appended to a log; its sync; the log's name and count. -/
import Derived.Test.YtapdhkgeolcogaaGreatDoorGq
import Derived.Test.YtapdhkgeolcogaaGreatDoorGr
import Derived.Test.YtapdhkgeolcogaaGreatDoorGp
namespace Go.Proofs.YtapdhkgeolcogaaGreatDoor
open Go.RowKit Dsk Lg
set_option linter.unusedVariables false

/-- The program's variables hold what their text lays. -/
structure Gv (w : World) : Prop where
  tab : Lib.TabIs Tryz.prog w "internal/strconv.uint64pow10" .u64 Lib.pow10Tab
  es : ∃ te pe, w.cell? ⟨1, 0, none⟩ = some (.iface te pe)
  er : ∃ te pe, w.cell? ⟨2, 0, none⟩ = some (.iface te pe)
theorem gnum : Tryz.prog.globalNamed "internal/strconv.uint64pow10" = some 0 := by kernel_rfl
theorem Gv.size {w : World} (h : Gv w) : 0 < w.heap.size ∧ 1 < w.heap.size ∧ 2 < w.heap.size := by
  obtain ⟨h1, ⟨a, b, h2⟩, ⟨c, d, h3⟩⟩ := h
  refine ⟨?_, World.block_lt_of_cell? w _ h2, World.block_lt_of_cell? w _ h3⟩
  unfold Lib.TabIs World.var? at h1
  rw [gnum] at h1
  simp only [Option.bind_some] at h1
  rcases Nat.lt_or_ge 0 w.heap.size with h' | h'
  · exact h'
  · rw [Array.getElem?_eq_none h'] at h1; simp at h1
theorem Gv.same {w w' : World} (h : Gv w) (hb : ∀ k, k < w.heap.size → k ≤ 4 → w'.heap[k]? = w.heap[k]?) : Gv w' := by
  obtain ⟨s1, s2, s3⟩ := h.size
  obtain ⟨h1, ⟨a, b, h2⟩, ⟨c, d, h3⟩⟩ := h
  refine ⟨?_, ⟨a, b, (World.cell?_of_block (hb _ s2 (by decide))).trans h2⟩, ⟨c, d, (World.cell?_of_block (hb _ s3 (by decide))).trans h3⟩⟩
  unfold Lib.TabIs World.var? at h1 ⊢
  rw [gnum] at h1 ⊢
  simp only [Option.bind_some] at h1 ⊢
  rw [hb _ s1 (by decide)]
  exact h1
theorem Gv.grown {w w' : World} (h : Gv w) (g : w.grownBy w' none) : Gv w' := h.same fun k hk _ => g.block k hk (by simp)
theorem Gv.below {W w : World} (h : Gv W) (b : Below W.heap.size W w) : Gv w := h.same fun k hk _ => b.block k hk

theorem cat_str (a b : By) : (⟨a.toArray⟩ : ByteArray) ++ ⟨b.toArray⟩ = ⟨(a ++ b).toArray⟩ := by
  apply ByteArray.ext
  simp
theorem grown_grow {w : World} (k : Nat) (os : Array Obj) : w.grownBy (Go.Sort.grow (w.drewN k) os) none :=
  ⟨rfl, rfl, rfl, by simp [Go.Sort.grow], fun i hi _ => by
    rw [Go.Sort.heap_grow_old _ _ (by simpa using hi)]
    simp⟩
theorem grown_bytes (w : World) (e : TypeId) (t : ByteArray) : w.grownBy (Lib.bytesWorld w e t) none :=
  ⟨rfl, rfl, rfl, by rw [Lib.bytesWorld_size]; omega, fun k hk _ => Lib.bytesWorld_at_old w e t k hk⟩
set_option maxRecDepth 100000 in
set_option maxHeartbeats 800000 in
theorem fileName_any (n : Nat) (hn : n < 1000000000000) (w : World) (G : Gv w) :
    Calls Tryz.prog 39 #[.int .i64 n] w fun e w' => e = .returned (.string ⟨(nm n).toArray⟩) ∧ w.grownBy w' none := by
  have IT : Calls Tryz.prog 62 #[.int .i64 n] w fun e w' => e = .returned (.string ⟨(Lib.decDigits n).toArray⟩) ∧ w.grownBy w' none :=
    (Tryz.strconv_Itoa (n : Int) (by omega) (by omega) w G.tab).mono fun e w' ⟨he, k, os, hw⟩ => by
      subst hw
      refine ⟨?_, grown_grow k os⟩
      rw [he]
      unfold Lib.itoa
      rw [if_neg (by omega)]
      simp
  have hc : (⟨#[108, 111, 103, 45]⟩ : ByteArray) ++ ⟨(Lib.decDigits n).toArray⟩ = ⟨(nm n).toArray⟩ := cat_str pre _
  have hD : (Lib.decDigits n).length ≤ 100 := by have := dec_len 11 n (by omega); omega
  generalize Lib.decDigits n = D at *
  go_enter Tryz.func39, Tryz.ntmps39
  go_wp2_with (go_at_call 62; (with_reducible refine IT.mono ?_); rintro e w1 ⟨rfl, hg1⟩)
  go_ret
  exact ⟨rfl, hg1⟩

def numV (s : By) : Int := match nOf s with | some n => (n : Int) | none => 0
theorem below_grown {w w' : World} (h : Below w.heap.size w w') : w.grownBy w' none := ⟨h.os, h.tape, h.output, h.size, fun k hk _ => h.block k hk⟩
set_option maxRecDepth 100000 in
set_option maxHeartbeats 1600000 in
theorem numberOf_any (s : By) (hs : s.length ≤ 1000) (w : World) (G : Gv w) :
    Calls Tryz.prog 70 #[.string ⟨s.toArray⟩] w fun e w' => e = .returned (.tuple #[.int .i64 (numV s), .bool (nOf s).isSome]) ∧ w.grownBy w' none := by
  have TP : Calls Tryz.prog 97 #[.string ⟨s.toArray⟩, .string ⟨#[108, 111, 103, 45]⟩] w fun e w' => e = .returned (.string ⟨(Lib.trimPrefix s pre).toArray⟩) ∧ w' = w :=
    (Tryz.strings_TrimPrefix ⟨s.toArray⟩ ⟨#[108, 111, 103, 45]⟩ w).mono fun e w' h => h
  have hT : (Lib.trimPrefix s pre).length ≤ 1000 := by
    unfold Lib.trimPrefix
    split
    · rw [List.length_drop]; omega
    · exact hs
  obtain ⟨T, eT⟩ : ∃ T, T = Lib.trimPrefix s pre := ⟨_, rfl⟩
  have hN : nOf s = match Lib.atoiAll T with | .ok v => if 1 ≤ v ∧ v ≤ 999999999 ∧ s = nm v.toNat then some v.toNat else none | _ => none := by rw [eT]; rfl
  rw [← eT] at TP hT
  clear eT
  have hTs : (⟨T.toArray⟩ : ByteArray).size = T.length := by simp [ByteArray.size]
  cases hA : Lib.atoiAll T with
  | «syntax» =>
    obtain ⟨te, pe, hc⟩ := G.es
    have AT := Tryz.strconv_Atoi_syntax ⟨T.toArray⟩ (by rw [hTs]; omega) (by simpa using hA) _ w hc (.inr ⟨_, _, rfl⟩)
    have hn : nOf s = none := by rw [hN, hA]
    have hv : numV s = 0 := by unfold numV; rw [hn]
    rw [hv, hn]
    clear hN hv hn hA G
    go_enter Tryz.func70, Tryz.ntmps70
    go_wp2_with (first
      | (go_at_call 97; (with_reducible refine TP.mono ?_); rintro e w1 ⟨rfl, rfl⟩)
      | (go_at_call 96; (with_reducible refine AT.mono ?_); rintro e w2 ⟨N, rfl, _, _, hb⟩))
    go_ret2
    exact ⟨rfl, below_grown hb⟩
  | range =>
    obtain ⟨te, pe, hc⟩ := G.er
    have AT := Tryz.strconv_Atoi_range ⟨T.toArray⟩ (by rw [hTs]; omega) (by simpa using hA) _ w hc (.inr ⟨_, _, rfl⟩)
    have hn : nOf s = none := by rw [hN, hA]
    have hv : numV s = 0 := by unfold numV; rw [hn]
    rw [hv, hn]
    generalize Lib.atoiSat _ = sat at AT
    clear hN hv hn hA G
    go_enter Tryz.func70, Tryz.ntmps70
    go_wp2_with (first
      | (go_at_call 97; (with_reducible refine TP.mono ?_); rintro e w1 ⟨rfl, rfl⟩)
      | (go_at_call 96; (with_reducible refine AT.mono ?_); rintro e w2 ⟨N, rfl, _, _, hb⟩))
    go_ret2
    exact ⟨rfl, below_grown hb⟩
  | ok v =>
    have AT : Calls Tryz.prog 96 #[.string ⟨T.toArray⟩] w fun e w' => e = .returned (.tuple #[.int .i64 v, .nilIface]) ∧ w.grownBy w' none :=
      (Tryz.strconv_Atoi_ok ⟨T.toArray⟩ (by rw [hTs]; omega) v (by simpa using hA) w).mono fun e w' ⟨he, hw⟩ => by
        refine ⟨he, ?_⟩
        rcases hw with rfl | ⟨t, rfl⟩
        · exact grown_refl _ _
        · exact grown_bytes _ _ _
    by_cases h1 : v < 1
    · have hn : nOf s = none := by rw [hN, hA]; simp only; rw [if_neg (by omega)]
      have hv : numV s = 0 := by unfold numV; rw [hn]
      rw [hv, hn]
      clear hN hv hn hA G
      go_enter Tryz.func70, Tryz.ntmps70
      go_wp2_with (first
        | (go_at_call 97; (with_reducible refine TP.mono ?_); rintro e w1 ⟨rfl, rfl⟩)
        | (go_at_call 96; (with_reducible refine AT.mono ?_); rintro e w2 ⟨rfl, hg2⟩))
      go_ret2
      exact ⟨rfl, hg2⟩
    · by_cases h2 : 999999999 < v
      · have hn : nOf s = none := by rw [hN, hA]; simp only; rw [if_neg (by omega)]
        have hv : numV s = 0 := by unfold numV; rw [hn]
        rw [hv, hn]
        have h1' : 1 ≤ v := by omega
        clear hN hv hn hA G h1
        go_enter Tryz.func70, Tryz.ntmps70
        go_wp2_with (first
          | (go_at_call 97; (with_reducible refine TP.mono ?_); rintro e w1 ⟨rfl, rfl⟩)
          | (go_at_call 96; (with_reducible refine AT.mono ?_); rintro e w2 ⟨rfl, hg2⟩))
        go_ret2
        exact ⟨rfl, hg2⟩
      · obtain ⟨n, rfl⟩ : ∃ n : Nat, v = (n : Int) := ⟨v.toNat, by omega⟩
        have FN : ∀ w2, w.grownBy w2 none → Calls Tryz.prog 39 #[.int .i64 n] w2 fun e w' => e = .returned (.string ⟨(nm n).toArray⟩) ∧ w2.grownBy w' none := fun w2 hg => fileName_any n (by omega) w2 (G.grown hg)
        have h1' : (1 : Int) ≤ (n : Int) := by omega
        have h2' : (n : Int) ≤ 999999999 := by omega
        have hN2 : nOf s = if s = nm n then some n else none := by
          rw [hN, hA]
          simp only [Int.toNat_natCast]
          by_cases hc : s = nm n
          · rw [if_pos ⟨h1', h2', hc⟩, if_pos hc]
          · rw [if_neg (fun h => hc h.2.2), if_neg hc]
        have hq : Hid (nOf s = if s = nm n then some n else none) := hN2
        generalize nm n = M at *
        generalize hV : numV s = V
        generalize hB : (nOf s).isSome = Bb
        have HV : Hid (numV s = V) := hV
        have HB : Hid ((nOf s).isSome = Bb) := hB
        clear hN hA G h1 h2 hN2 hV hB
        by_cases hc : s = M
        · have eV : V = n := by rw [← HV.out]; unfold numV; rw [hq.out, if_pos hc]
          have eB : Bb = true := by rw [← HB.out, hq.out, if_pos hc]; rfl
          clear hq HV HB
          subst eV eB hc
          go_enter Tryz.func70, Tryz.ntmps70
          go_wp2_with (first
            | (go_at_call 97; (with_reducible refine TP.mono ?_); rintro e w1 ⟨rfl, rfl⟩)
            | (go_at_call 96; (with_reducible refine AT.mono ?_); rintro e w2 ⟨rfl, hg2⟩)
            | (go_at_call 39; (with_reducible refine (FN _ hg2).mono ?_); rintro e w3 ⟨rfl, hg3⟩))
          go_ret2
          exact ⟨rfl, grown_more hg2 hg3 (by simp)⟩
        · have eV : V = 0 := by rw [← HV.out]; unfold numV; rw [hq.out, if_neg hc]
          have eB : Bb = false := by rw [← HB.out, hq.out, if_neg hc]; rfl
          have hc' : (M == s) = false := by simpa using fun e => hc e.symm
          clear hq HV HB
          subst eV eB
          go_enter Tryz.func70, Tryz.ntmps70
          go_wp2_with (first
            | (go_at_call 97; (with_reducible refine TP.mono ?_); rintro e w1 ⟨rfl, rfl⟩)
            | (go_at_call 96; (with_reducible refine AT.mono ?_); rintro e w2 ⟨rfl, hg2⟩)
            | (go_at_call 39; (with_reducible refine (FN _ hg2).mono ?_); rintro e w3 ⟨rfl, hg3⟩))
          go_ret2
          exact ⟨rfl, grown_more hg2 hg3 (by simp)⟩
end Go.Proofs.YtapdhkgeolcogaaGreatDoor
namespace Go.Proofs.YtapdhkgeolcogaaGreatDoor
open Go.RowKit Go.Sort Go.Shelf Dsk Lg
set_option linter.unusedVariables false

def eI : Elm Int where
  el := 3
  sl := 100
  size := 1
  bytes := 8
  zero := .int .i64 0
  enc := fun x => [.int .i64 x]
  hu := Tryz.underlying100
  hi := by kernel_rfl
  hz := rfl
  hs := by decide
  len := fun _ => rfl
  one := by intro x v hv; simp at hv; subst hv; rfl
  he := by kernel_rfl
  so := fun W => Tryz.sizeOf3 W
theorem eI_cells (l : List Int) : eI.cells l = l.map (Value.int .i64) := by
  unfold Elm.cells
  induction l with
  | nil => rfl
  | cons a l ih => rw [List.flatMap_cons, ih]; rfl
theorem sortI_any (base : Nat) (v : Value) (l : List Int) (w : World) (hl : l.length < 4611686018427387904) (hown : eI.Own w base v l) :
    Calls Tryz.prog 71 #[v] w fun e w' => e = .returned (.tuple #[]) ∧ eI.Own w' base v (sorted l) ∧ w.grownBy w' v.ownBlock := by
  rcases hown.2 with ⟨hv, h0⟩ | ⟨g, cap, cur, hv, hbase, hb, h1, h2, h3, h4⟩
  · have hL : l = [] := List.eq_nil_of_length_eq_zero h0
    subst hL hv
    refine Calls.mono (AnyM.slices_Sort_int_none (P := Tryz.prog) Tryz.sortI none 0 w) ?_
    rintro e w' ⟨rfl, rfl⟩
    exact ⟨rfl, by rw [show sorted [] = [] by simp [sorted]]; exact hown, grown_refl _ _⟩
  · subst hv
    have h4' : cur.toList.take l.length = l.map (Value.int .i64) := by
      rw [eI_cells] at h4
      have : eI.size = 1 := rfl
      rw [this, Nat.mul_one] at h4
      exact h4
    refine Calls.mono (AnyM.slices_Sort_int (P := Tryz.prog) Tryz.sortI g 0 cap l w (holds_block (Value.int .i64) hb h4') (Array.getElem?_eq_some_iff.1 hb).1 hl) ?_
    rintro e w' ⟨rfl, n, os, rfl⟩
    refine ⟨rfl, ?_, grown_put (Value.int .i64) _⟩
    show World.ownsRow _ base eI.el eI.size _ (sorted l).length (eI.cells (sorted l))
    refine ⟨by rw [eI.cells_len], .inr ⟨g, cap, _, by rw [sorted_len], hbase, heap_put (Value.int .i64) _ hb, by rw [sorted_len]; exact h1, h2, by simp [putCells, h3], ?_⟩⟩
    have : eI.size = 1 := rfl
    rw [this, Nat.mul_one, eI_cells]
    rw [this, Nat.mul_one] at h3
    exact take_put (Value.int .i64) cur (sorted l) (by rw [sorted_len, h3]; exact h1)
/-- The numbers in some names. -/
def numsOf (ns : List By) : List Int := ns.filterMap fun s => (nOf s).map fun n => (n : Int)
/-- Those of a disk's files, rising. -/
def numsS (L : Ds) : List Int := sorted (numsOf (srtS (L.map (·.1))))
theorem numsOf_snoc (a : List By) (s : By) : numsOf (a ++ [s]) = numsOf a ++ (match nOf s with | some n => [(n : Int)] | none => []) := by
  unfold numsOf
  rw [List.filterMap_append]
  cases h : nOf s <;> simp [List.filterMap, h]
theorem numsOf_len (a : List By) : (numsOf a).length ≤ a.length := List.length_filterMap_le _ _
theorem at_lt {α : Type} {l : List α} {i : Nat} {x : α} (h : l[i]? = some x) : i < l.length := (List.getElem?_eq_some_iff.1 h).1
set_option maxRecDepth 100000 in
set_option maxHeartbeats 1600000 in
theorem numbers_any (b : Nat) (s : St) (F : Nat → Prop) (w : World) (h : Dk w b s F) (G : Gv w) :
    Calls Tryz.prog 55 #[.pointer (some ⟨b, 0, none⟩)] w fun e w' => ∃ ad n c, e = .returned (.slice ad n c) ∧ eI.Own w' w.heap.size (.slice ad n c) (numsS s.l) ∧ w.grownBy w' none := by
  have NM := names_any b s F w h
  have hlen : (srtS (s.l.map (·.1))).length ≤ 64 := by rw [srtS_len, List.length_map]; exact h.ok.len
  have hnm : ∀ x ∈ srtS (s.l.map (·.1)), x.length ≤ 1000 := by
    intro x hx
    have hx2 := (List.mergeSort_perm _ _).mem_iff.1 hx
    obtain ⟨p, hp, rfl⟩ := List.mem_map.1 hx2
    have := h.ok.nm p hp
    unfold isNm at this
    simp at this
    omega
  have HS : Hid (numsS s.l = sorted (numsOf (srtS (s.l.map (·.1))))) := by show _ = _; rfl
  generalize srtS (s.l.map (·.1)) = ns at *
  generalize numsS s.l = R at *
  have HG : Hid (Gv w) := G
  clear h G
  go_enter Tryz.func55, Tryz.ntmps55
  go_wp2_with (go_at_call 28; (with_reducible refine NM.mono ?_); rintro e w1 ⟨ad, n, c, rfl, hO1, hg1⟩)
  obtain rfl : n = ns.length := hO1.len
  clear NM
  go_loopw [3, 11] (fun v i wr => ∃ (k : Nat) (ad' : Option Addr) (n' c' : Nat), k ≤ ns.length ∧ i = .int .i64 k ∧ v = Value.slice ad' n' c' ∧ eI.Own wr w1.heap.size (Value.slice ad' n' c') (numsOf (ns.take k)) ∧ w1.grownBy wr none) (fun _ i _ => ns.length - (intOf i).toNat)
  case atStart => exact ⟨0, none, 0, 0, Nat.zero_le _, rfl, rfl, Elm.nil _ _, grown_refl _ _⟩
  case round =>
    obtain ⟨k, ad', n', c', hk, rfl, rfl, hO, hg⟩ := hrel
    by_cases hlt : k < ns.length
    · obtain ⟨x, hx⟩ : ∃ x, ns[k]? = some x := ⟨_, List.getElem?_eq_getElem hlt⟩
      obtain ⟨g, cc, ev, hcell, _⟩ := hO1.at_ hx
      injection ev with e1 e2 e3
      subst e1 e3
      have hcx : wr.cell? ⟨g, k, none⟩ = some (.string ⟨x.toArray⟩) := by
        have := hcell 0 _ rfl
        have e : eS.size = 1 := rfl
        rw [e, Nat.mul_one, Nat.add_zero] at this
        exact hg.cell this (by simp)
      have NB := numberOf_any x (hnm x (List.mem_of_getElem? hx)) wr (HG.out.grown (grown_more hg1 hg (by simp)))
      have hk1 : ns.take (k + 1) = ns.take k ++ [x] := by rw [List.take_add_one, hx]; rfl
      have HK : Hid (ns.take (k + 1) = ns.take k ++ [x]) := hk1
      have hll : (numsOf (ns.take k)).length ≤ 64 := by
        have h1 := numsOf_len (ns.take k)
        rw [List.length_take] at h1
        omega
      generalize hq : numsOf (ns.take k) = Q at *
      have HQ : Hid (numsOf (ns.take k) = Q) := hq
      clear hq hk1 hcell hx hnm HS
      cases hn : nOf x with
      | none =>
        have hv : numV x = 0 := by unfold numV; rw [hn]
        rw [hv, hn] at NB
        have HN : Hid (nOf x = none) := hn
        clear hv hn
        simp only [Option.isSome_none] at NB
        go_wp2_with (go_at_call 70; (with_reducible refine NB.mono ?_); rintro e w2 ⟨rfl, hg2⟩)
        go_roundw
        case rel => exact ⟨k + 1, ad', n', c', by omega, by go_num, rfl, by rw [HK.out, numsOf_snoc, HQ.out, HN.out, List.append_nil]; exact hO.grown hg2, grown_more hg hg2 (by simp)⟩
        case measure => simp [intOf]; omega
      | some m =>
        have hv : numV x = m := by unfold numV; rw [hn]
        rw [hv, hn] at NB
        have HN : Hid (nOf x = some m) := hn
        clear hv hn
        simp only [Option.isSome_some] at NB
        have hz := hg.size
        go_wp2_with (first
          | (go_at_call 70; (with_reducible refine NB.mono ?_); rintro e w2 ⟨rfl, hg2⟩; have hz2 := hg2.size; have hO2 : ∀ o, eI.Own (w2.alloc o) w1.heap.size (.slice ad' n' c') Q := fun o => (hO.grown hg2).grown (World.grownBy_alloc w2 o none); have hX2 : ∀ o, o = Obj.cells #[.int .i64 (m : Int)] 3 → eI.Rx (w2.alloc o) (.slice (some ⟨w2.heap.size, 0, none⟩) 1 1) [(m : Int)] := fun o ho => Elm.rx_one fun j u hu => (by
              match j, hu with
              | 0, hu => injection hu with hu; rw [← hu, ho]; exact new_at w2 rfl rfl))
          | (at_builtin; refine Elm.wpList_append (E := eI) rfl (.tmp 21) (.tmp 23) rfl w1.heap.size _ Q rfl (hO2 _) _ [(m : Int)] rfl (hX2 _ rfl) (by simp; omega) (by show (Q.length + 1) * 8 ≤ _; omega) (by simp; omega) ?_; intro ad4 n4 c4 w4 hO4 hg4 hl4))
        go_roundw
        case rel =>
          refine ⟨k + 1, ad4, n4, c4, by omega, by go_num, rfl, by rw [HK.out, numsOf_snoc, HQ.out, HN.out]; exact hO4, ?_⟩
          exact grown_more (grown_more hg hg2 (by simp)) (grown_more ((World.grownBy_alloc w2 _ none).but _) hg4 (fun _ e => .inl e)) (fun kk hkk => .inr (((hO2 (Obj.cells #[] 0)).lt kk hkk).1))
        case measure => simp [intOf]; omega
    · obtain rfl : k = ns.length := by omega
      rw [List.take_length] at hO
      have hll := numsOf_len ns
      have SI := sortI_any w1.heap.size (.slice ad' n' c') (numsOf ns) wr (by omega) hO
      rw [← HS.out] at SI
      have hrow : ∀ kk, (Value.slice ad' n' c').ownBlock = some kk → w1.heap.size ≤ kk := fun kk hkk => (hO.lt kk hkk).1
      have hz1 := hg1.size
      clear hO hO1 HS hll
      go_wp2_with (go_at_call 71; (with_reducible refine SI.mono ?_); rintro e w3 ⟨rfl, hO3, hg3⟩)
      go_ret
      exact ⟨ad', n', c', rfl, hO3.low hz1, grown_more hg1 (grown_more hg hg3 fun kk hkk => .inr (hrow kk hkk)) (by simp)⟩
end Go.Proofs.YtapdhkgeolcogaaGreatDoor
namespace Go.Proofs.YtapdhkgeolcogaaGreatDoor
open Go.RowKit Dsk Lg
set_option linter.unusedVariables false

theorem unf_none {a : Option Addr} {c : Nat} {l : By} {w : World} (h : Cd.Sl w (.slice a l.length c) (bI l)) (hl : l.length ≤ 2000000) (hu : un l = none) :
    Calls Tryz.prog 72 #[.slice a l.length c] w fun e w' => ∃ x, (x == 0) = false ∧ e = .returned (.tuple #[.slice none 0 0, .int .i64 0, .int .i64 x]) ∧ w.grownBy w' none := by
  have hb := bI_len l
  have U := Cd.unframe_any a c (bI l) w (by rw [hb]; exact h) (by rw [hb]; exact hl)
  rw [hb] at U
  refine U.mono fun e w' ⟨h1, h2⟩ => ?_
  unfold un at hu
  cases hf : Cd.Code.unf (bI l) with
  | ok p => rw [hf] at hu; cases hu
  | error x =>
    rw [hf] at h2
    exact ⟨x, h2.1, h2.2, h1⟩
theorem unf_some {a : Option Addr} {c : Nat} {l y : By} {m : Nat} {w : World} (h : Cd.Sl w (.slice a l.length c) (bI l)) (hl : l.length ≤ 2000000) (hu : un l = some (y, m)) :
    Calls Tryz.prog 72 #[.slice a l.length c] w fun e w' => ∃ a' c', e = .returned (.tuple #[.slice a' y.length c', .int .i64 m, .int .i64 0]) ∧ eB.Own w' w.heap.size (.slice a' y.length c') y ∧ w.grownBy w' none := by
  have hb := bI_len l
  have U := Cd.unframe_any a c (bI l) w (by rw [hb]; exact h) (by rw [hb]; exact hl)
  rw [hb] at U
  refine U.mono fun e w' ⟨h1, h2⟩ => ?_
  unfold un at hu
  cases hf : Cd.Code.unf (bI l) with
  | error x => rw [hf] at hu; cases hu
  | ok p =>
    obtain ⟨z, k⟩ := p
    rw [hf] at hu h2
    simp only [Option.some.injEq, Prod.mk.injEq] at hu
    obtain ⟨rfl, rfl⟩ := hu
    obtain ⟨a', c', he, ho⟩ := h2
    have := cd_own ho
    refine ⟨a', c', ?_, ?_, h1⟩
    · rw [iB_len]; exact he
    · rw [iB_len]; exact this
def slen : Value → Nat
  | .slice _ n _ => n
  | _ => 0
theorem _root_.Go.Proofs.YtapdhkgeolcogaaGreatDoor.Cd.Sl.next {w w' : World} {v : Value} {l : List Int} (h : Cd.Sl w v l) (g : w.grownBy w' none) : Cd.Sl w' v l := h.grown g
set_option maxRecDepth 100000 in
theorem sl_from {w : World} {a : Option Addr} {c : Nat} {l : By} (h : Cd.Sl w (.slice a l.length c) (bI l)) {m : Nat} (hm : m ≤ l.length) :
    ∃ a' c', (∀ W : World, (Instr.slice 39 (.slice a l.length c) (some (.int .i64 (m : Int))) none none).run Tryz.prog W = .ok (.slice a' (l.drop m).length c') W) ∧ Cd.Sl w (.slice a' (l.drop m).length c') (bI (l.drop m)) := by
  have hb := bI_len l
  obtain ⟨a', c', e, hs⟩ := Cd.Sl.from (l := bI l) (by rw [hb]; exact h) m (by rw [hb]; exact hm)
  obtain ⟨_, _, e2, h1, h2⟩ := h.cap
  rw [hb] at e2 h1
  injection e2 with e3 e4 e5
  subst e5
  have hd : ((bI l).drop m).length = (l.drop m).length := by rw [← bI_drop, bI_len]
  rw [hb, hd] at e
  rw [hd, ← bI_drop] at hs
  refine ⟨a', c', fun W => ?_, hs⟩
  rw [run_slice_l (t := 39) (a := a) (len := l.length) (cap := c) (ht := Tryz.underlying39) (kl := .i64) (l := (m : Int)) (h0 := by omega) (h1 := by omega), ← e]
  rfl
/-- What 'recs' of a call holds so far, over blocks made since w. -/
def Gat (w wr : World) (v : Value) (done : List By) : Prop := Ro wr w.heap.size v done (fun k => w.heap.size ≤ k ∧ k < wr.heap.size ∧ v.ownBlock ≠ some k)
theorem Gat.grown {w wr w2 : World} {v : Value} {done : List By} (h : Gat w wr v done) (g : wr.grownBy w2 none) : Gat w w2 v done :=
  (Ro.grown h g).wide fun k hk => ⟨hk.1, Nat.lt_of_lt_of_le hk.2.1 g.size, hk.2.2⟩
set_option maxRecDepth 100000 in
set_option maxHeartbeats 1600000 in
theorem unframeAll_any (a0 : Option Addr) (c0 : Nat) (l : By) (w : World) (h : Cd.Sl w (.slice a0 l.length c0) (bI l)) (hl : l.length ≤ 2000000) :
    Calls Tryz.prog 74 #[.slice a0 l.length c0] w fun e w' => ∃ ad c, e = .returned (.tuple #[.slice ad (recs l).1.length c, .int .i64 ((recs l).2 : Int)]) ∧ Gat w w' (.slice ad (recs l).1.length c) (recs l).1 ∧ w.grownBy w' none := by
  obtain ⟨R, hR⟩ : ∃ R, R = recs l := ⟨_, rfl⟩
  have HR : Hid (R = recs l) := hR
  rw [← hR]
  clear hR
  go_enter Tryz.func74, Tryz.ntmps74
  go_wp2
  go_loopw [0, 4] (fun b v wr => ∃ (done : List By) (l' : By) (a : Option Addr) (c : Nat) (ad : Option Addr) (cd : Nat), b = .slice a l'.length c ∧ Cd.Sl w (.slice a l'.length c) (bI l') ∧ v = .slice ad done.length cd ∧ Gat w wr (.slice ad done.length cd) done ∧
    Hid (recs l = (done ++ (recs l').1, (recs l').2)) ∧ w.grownBy wr none ∧ done.length + l'.length ≤ l.length) (fun b _ _ => slen b)
  case atStart => exact ⟨[], l, a0, c0, none, 0, rfl, h, rfl, Ro.nil _ _ _, by show _ = _; simp, grown_refl _ _, by simp⟩
  case round =>
    obtain ⟨done, l', a, c, ad, cd, rfl, hS, rfl, hG, HD, hg, hlen⟩ := hrel
    have hl2 : l'.length ≤ 2000000 := by omega
    have hz := hg.size
    clear h
    cases hu : un l' with
    | none =>
      have UN := unf_none (hS.next hg) hl2 hu
      have hfin : R = (done, l'.length) := by rw [HR.out, HD.out, recs_none hu, List.append_nil]
      clear HD HR hu
      subst hfin
      go_wp2_with (go_at_call 72; (with_reducible refine UN.mono ?_); rintro e w2 ⟨x, hx, rfl, hg2⟩)
      go_ret2
      exact ⟨ad, cd, rfl, hG.grown hg2, grown_more hg hg2 (by simp)⟩
    | some p =>
      obtain ⟨y, m⟩ := p
      have US := unf_some (hS.next hg) hl2 hu
      obtain ⟨m1, m2⟩ := un_lt hu
      have HD2 : Hid (recs l = ((done ++ [y]) ++ (recs (l'.drop m)).1, (recs (l'.drop m)).2)) := by
        show _ = _
        rw [HD.out, recs_some hu]
        simp
      obtain ⟨a', c', hsl, hS'⟩ := sl_from hS m2
      have hdl : done.length < 2000000 := by omega
      have hml : (m : Int) ≤ (l'.length : Int) := by omega
      obtain ⟨vs, hO, hE⟩ := hG
      have hvl := hE.1
      have HE : Hid (Each wr vs done (fun k => w.heap.size ≤ k ∧ k < wr.heap.size ∧ (Value.slice ad done.length cd).ownBlock ≠ some k)) := hE
      have HL : Hid (done.length + l'.length ≤ l.length) := hlen
      clear HD hu hS hE hlen
      go_wp2_with (first
        | (go_at_call 72; (with_reducible refine US.mono ?_); rintro e w2 ⟨ay, cy, rfl, hY, hg2⟩; have hz2 := hg2.size; have hO2 : ∀ o, eL.Own (w2.alloc o) w.heap.size (.slice ad done.length cd) vs := fun o => (hO.grown hg2).grown (World.grownBy_alloc w2 o none); have hX2 : ∀ o, o = Obj.cells #[.slice ay y.length cy] 39 → eL.Rx (w2.alloc o) (.slice (some ⟨w2.heap.size, 0, none⟩) 1 1) [(ay, y.length, cy)] := fun o ho => Elm.rx_one fun j u hu => (by
              match j, hu with
              | 0, hu => injection hu with hu; rw [← hu, ho]; exact new_at w2 rfl rfl))
        | (at_builtin; refine Elm.wpList_append (E := eL) rfl (.tmp 19) (.tmp 21) rfl w.heap.size _ vs rfl (hO2 _) _ [(ay, y.length, cy)] rfl (hX2 _ rfl) (by simp; omega) (by show (vs.length + 1) * 24 ≤ _; omega) (by simp; omega) ?_; intro ad4 n4 c4 w4 hO4 hg4 hl4))
      obtain rfl : n4 = (done ++ [y]).length := by have := hO4.len; simp at this ⊢; omega
      have hg24 : w2.grownBy w4 (Value.slice ad done.length cd).ownBlock := grown_more ((World.grownBy_alloc w2 _ none).but _) hg4 (fun _ e => .inl e)
      have hz4 := hg24.size
      have hva : ∀ k, (Value.slice ad done.length cd).ownBlock = some k → w.heap.size ≤ k ∧ k < wr.heap.size := fun k hk => hO.lt k hk
      go_roundw
      case rel =>
        refine ⟨done ++ [y], l'.drop m, a', c', ad4, c4, by rw [List.length_drop], hS', rfl, ⟨_, hO4, ?_⟩, HD2, ?_, ?_⟩
        · refine Each.snoc ?_ ?_ ?_
          · refine ((HE.out.grown hg2).kept (F := fun k => (Value.slice ad done.length cd).ownBlock = some k) (Chg.of hg24 fun k hk => hk) fun k hk => hk.2.2).wide fun k hk => ⟨hk.1, by omega, fun e => ?_⟩
            rcases hl4 with h5 | h5
            · rw [h5] at e; exact hk.2.2 e
            · rw [h5] at e; injection e with e; simp at e; omega
          · exact (hY.kept (F := fun k => (Value.slice ad done.length cd).ownBlock = some k) (Chg.of hg24 fun k hk => hk) fun k hk e => by have h6 := (hY.lt k hk).1; have h7 := (hva k e).2; omega).rx
          · intro _ k hk
            have h6 := hY.lt k hk
            refine ⟨by omega, by omega, fun e => ?_⟩
            rcases hl4 with h5 | h5
            · rw [h5] at e; have h7 := (hva k e).2; omega
            · rw [h5] at e; injection e with e; simp at e; omega
        · exact grown_more (grown_more hg hg2 (by simp)) hg24 fun k hk => .inr (hva k hk).1
        · have := HL.out
          rw [List.length_append, List.length_drop]
          simp
          omega
      case measure => simp [slen]; omega

theorem ki_one (w : World) (q : Nat) (hq : q = w.heap.size) : Cd.Ki (w.alloc (.cells #[.int .i64 1] 3)) (.slice (some ⟨q, 0, none⟩) 1 1) [1] := by
  subst hq
  refine ⟨.inr ⟨w.heap.size, 0, 1, rfl, fun i hi => ?_⟩⟩
  have : i = 0 := by simp at hi; omega
  subst this
  exact new_at w rfl rfl
theorem ownF_one {w : World} {base : Nat} {v : Value} {f : Cd.Code.Fd} (h : Cd.OwnF w base v [f]) : ∃ g c, v = .slice (some ⟨g, 0, none⟩) 1 c ∧ w.cell? ⟨g, 1, none⟩ = some (.int .i64 f.n) := by
  have h1 := h
  rcases h.2 with ⟨e, h0⟩ | ⟨g, cap, cur, e, hg, hh, r⟩
  · simp at h0
  · refine ⟨g, cap, e, ?_⟩
    have := World.ownsRow.cells h1 (g := g) (by rw [e]; rfl) 1 (.int .i64 f.n) rfl
    rwa [Addr.add_lit] at this
set_option maxRecDepth 100000 in
set_option maxHeartbeats 3200000 in
theorem read_none (b wb : Nat) (s : St) (F : Nat → Prop) (nm : By) (hn : nm.length ≤ 1000) (w : World) (h : Dk w b s F) (c0 : w.cell? ⟨wb, 0, none⟩ = some (.pointer (some ⟨b, 0, none⟩))) (hr : rdF (rdB s.l nm) = none) :
    Calls Tryz.prog 56 #[.pointer (some ⟨wb, 0, none⟩), .string ⟨nm.toArray⟩] w fun e w' => ∃ ad n c x, e = .returned (.tuple #[.slice ad n c, .int .i64 x, .bool false]) ∧ w.grownBy w' none := by
  have RD := read_any b s F ⟨nm.toArray⟩ (by simp [ByteArray.size]; omega) w h
  simp only at RD
  have hlen : (rdB s.l nm).length ≤ 1048576 := by
    cases hh : has s.l nm with
    | false => rw [rdB_not hh]; simp
    | true =>
      obtain ⟨f, hf⟩ := has_iff.1 hh
      rw [rdB_mem h.ok.nd hf]
      exact Nat.le_trans (mem_tot hf) h.ok.tot
  generalize rdB s.l nm = B at *
  generalize hasE s.l nm = E at *
  clear h
  cases hu : un B with
  | none =>
    have UN : ∀ {a c w1}, eB.Own w1 w.heap.size (.slice a B.length c) B → Calls Tryz.prog 72 #[.slice a B.length c] w1 fun e w' => ∃ x, (x == 0) = false ∧ e = .returned (.tuple #[.slice none 0 0, .int .i64 0, .int .i64 x]) ∧ w1.grownBy w' none :=
      fun ho => unf_none ((own_cd ho).sl (by rw [bI_len]; omega)) (by omega) hu
    clear hr hu
    go_enter Tryz.func56, Tryz.ntmps56
    go_wp2_with (first
      | (go_at_call 23; (with_reducible refine RD.mono ?_); rintro e w1 ⟨ad, c, rfl, hO1, hg1⟩)
      | (go_at_call 72; (with_reducible refine (UN hO1).mono ?_); rintro e w2 ⟨x, hx, rfl, hg2⟩))
    go_ret3
    exact ⟨_, _, _, _, rfl, grown_more hg1 hg2 (by simp)⟩
  | some p =>
    obtain ⟨hd, m⟩ := p
    obtain ⟨m1, m2⟩ := un_lt hu
    obtain ⟨f1, f2, f3⟩ := un_form hu
    have US : ∀ {a c w1}, eB.Own w1 w.heap.size (.slice a B.length c) B → Calls Tryz.prog 72 #[.slice a B.length c] w1 fun e w' => ∃ a' c', e = .returned (.tuple #[.slice a' hd.length c', .int .i64 m, .int .i64 0]) ∧ eB.Own w' w1.heap.size (.slice a' hd.length c') hd ∧ w1.grownBy w' none :=
      fun ho => unf_some ((own_cd ho).sl (by rw [bI_len]; omega)) (by omega) hu
    unfold rdF at hr
    rw [hu] at hr
    simp only at hr
    clear f2 f3
    rcases dec_one (bI hd) with ⟨f, hf⟩ | ⟨x, hx⟩
    · have hN : hdN hd = some f.n := by unfold hdN; rw [hf]
      rw [hN] at hr
      simp only at hr
      have DC : ∀ {a' c' B0 w2}, eB.Own w2 B0 (.slice a' hd.length c') hd → Calls Tryz.prog 73 #[.slice (some ⟨w2.heap.size, 0, none⟩) 1 1, .slice a' hd.length c'] (w2.alloc (.cells #[.int .i64 1] 3)) fun e w' => ∃ g c, e = .returned (.tuple #[.slice (some ⟨g, 0, none⟩) 1 c, .int .i64 0]) ∧ w'.cell? ⟨g, 1, none⟩ = some (.int .i64 f.n) ∧ w2.grownBy w' none := fun {a' c' B0 w2} ho => by
        refine (Cd.decode_ok _ [1] _ (bI hd) _ (ki_one w2 _ rfl) (by simp) ((own_cd (ho.grown (World.grownBy_alloc w2 _ none))).sl (by rw [bI_len]; omega)) hf).mono ?_
        rintro e w' ⟨v', rfl, ho', hg'⟩
        obtain ⟨g, c, rfl, hc⟩ := ownF_one ho'
        exact ⟨g, c, rfl, hc, grown_more (World.grownBy_alloc w2 _ none) hg' (by simp)⟩
      have hc : ¬ f.n ≤ ((recs (B.drop m)).1.length : Int) := fun hc => by rw [if_pos hc] at hr; cases hr
      have UA : ∀ {a c w1 w3}, eB.Own w1 w.heap.size (.slice a B.length c) B → w1.grownBy w3 none → ∃ a' c', (∀ W : World, (Instr.slice 39 (.slice a B.length c) (some (.int .i64 (m : Int))) none none).run Tryz.prog W = .ok (.slice a' (B.drop m).length c') W) ∧ Calls Tryz.prog 74 #[.slice a' (B.drop m).length c'] w3 fun e w' => ∃ ad c, e = .returned (.tuple #[.slice ad (recs (B.drop m)).1.length c, .int .i64 ((recs (B.drop m)).2 : Int)]) ∧ w3.grownBy w' none := fun ho g => by
        obtain ⟨a', c', e1, hs⟩ := sl_from ((own_cd ho).sl (by rw [bI_len]; omega)) m2
        exact ⟨a', c', e1, (unframeAll_any a' c' (B.drop m) _ (hs.next g) (by rw [List.length_drop]; omega)).mono fun e w' ⟨x, y, h1, h2, h3⟩ => ⟨x, y, h1, h3⟩⟩
      generalize (B.drop m).length = LD at UA
      generalize (recs (B.drop m)).2 = LF at UA
      generalize (recs (B.drop m)).1.length = LR at UA hc
      have hc' : decide (f.n ≤ (LR : Int)) = false := by simpa using hc
      have hm1 : (m : Int) ≤ (B.length : Int) := by omega
      generalize f.n = fn at *
      clear hr hu hf hN
      go_enter Tryz.func56, Tryz.ntmps56
      go_wp2_with (first
        | (go_at_call 23; (with_reducible refine RD.mono ?_); rintro e w1 ⟨ad, c, rfl, hO1, hg1⟩)
        | (go_at_call 72; (with_reducible refine (US hO1).mono ?_); rintro e w2 ⟨a2, c2, rfl, hO2, hg2⟩)
        | (go_at_call 73; (with_reducible refine (DC hO2).mono ?_); rintro e w3 ⟨g3, c3, rfl, hc3, hg3⟩; obtain ⟨a5, c5, hsl, UA5⟩ := UA hO1 (grown_more hg2 hg3 (by simp)))
        | (go_at_call 74; (with_reducible refine UA5.mono ?_); rintro e w4 ⟨a4, c4, rfl, hg4⟩; have hc4 := hg4.cell hc3 (by simp)))
      go_region
      go_wp2
      go_ret3
      exact ⟨_, _, _, _, rfl, grown_drew (grown_more (grown_more (grown_more hg1 hg2 (by simp)) hg3 (by simp)) hg4 (by simp))⟩
    · have DC : ∀ {a' c' B0 w2}, eB.Own w2 B0 (.slice a' hd.length c') hd → Calls Tryz.prog 73 #[.slice (some ⟨w2.heap.size, 0, none⟩) 1 1, .slice a' hd.length c'] (w2.alloc (.cells #[.int .i64 1] 3)) fun e w' => e = .returned (.tuple #[.slice none 0 0, .int .i64 x]) ∧ (x == 0) = false ∧ w2.grownBy w' none := fun {a' c' B0 w2} ho => by
        refine (Cd.decode_err _ [1] _ (bI hd) _ (ki_one w2 _ rfl) (by simp) ((own_cd (ho.grown (World.grownBy_alloc w2 _ none))).sl (by rw [bI_len]; omega)) hx).mono ?_
        rintro e w' ⟨he, hx, hg'⟩
        exact ⟨he, hx, grown_more (World.grownBy_alloc w2 _ none) hg' (by simp)⟩
      clear hr hu hx
      go_enter Tryz.func56, Tryz.ntmps56
      go_wp2_with (first
        | (go_at_call 23; (with_reducible refine RD.mono ?_); rintro e w1 ⟨ad, c, rfl, hO1, hg1⟩)
        | (go_at_call 72; (with_reducible refine (US hO1).mono ?_); rintro e w2 ⟨a2, c2, rfl, hO2, hg2⟩)
        | (go_at_call 73; (with_reducible refine (DC hO2).mono ?_); rintro e w3 ⟨rfl, hx, hg3⟩))
      go_ret3
      exact ⟨_, _, _, _, rfl, grown_more (grown_more hg1 hg2 (by simp)) hg3 (by simp)⟩

set_option maxRecDepth 100000 in
set_option maxHeartbeats 3200000 in
theorem read_some (b wb : Nat) (s : St) (F : Nat → Prop) (nm : By) (hn : nm.length ≤ 1000) (w : World) (h : Dk w b s F) (c0 : w.cell? ⟨wb, 0, none⟩ = some (.pointer (some ⟨b, 0, none⟩))) {ls : List By} {r : Nat} (hr : rdF (rdB s.l nm) = some (ls, r)) :
    Calls Tryz.prog 56 #[.pointer (some ⟨wb, 0, none⟩), .string ⟨nm.toArray⟩] w fun e w' => ∃ ad c, e = .returned (.tuple #[.slice ad ls.length c, .int .i64 (r : Int), .bool true]) ∧ Gat w w' (.slice ad ls.length c) ls ∧ w.grownBy w' none := by
  have RD := read_any b s F ⟨nm.toArray⟩ (by simp [ByteArray.size]; omega) w h
  simp only at RD
  have hlen : (rdB s.l nm).length ≤ 1048576 := by
    cases hh : has s.l nm with
    | false => rw [rdB_not hh]; simp
    | true =>
      obtain ⟨f, hf⟩ := has_iff.1 hh
      rw [rdB_mem h.ok.nd hf]
      exact Nat.le_trans (mem_tot hf) h.ok.tot
  generalize rdB s.l nm = B at *
  generalize hasE s.l nm = E at *
  clear h
  cases hu : un B with
  | none => unfold rdF at hr; rw [hu] at hr; cases hr
  | some p =>
    obtain ⟨hd, m⟩ := p
    obtain ⟨m1, m2⟩ := un_lt hu
    obtain ⟨f1, f2, f3⟩ := un_form hu
    have US : ∀ {a c w1}, eB.Own w1 w.heap.size (.slice a B.length c) B → Calls Tryz.prog 72 #[.slice a B.length c] w1 fun e w' => ∃ a' c', e = .returned (.tuple #[.slice a' hd.length c', .int .i64 m, .int .i64 0]) ∧ eB.Own w' w1.heap.size (.slice a' hd.length c') hd ∧ w1.grownBy w' none :=
      fun ho => unf_some ((own_cd ho).sl (by rw [bI_len]; omega)) (by omega) hu
    unfold rdF at hr
    rw [hu] at hr
    simp only at hr
    clear f2 f3
    rcases dec_one (bI hd) with ⟨f, hf⟩ | ⟨x, hx⟩
    · have hN : hdN hd = some f.n := by unfold hdN; rw [hf]
      rw [hN] at hr
      simp only at hr
      have DC : ∀ {a' c' B0 w2}, eB.Own w2 B0 (.slice a' hd.length c') hd → Calls Tryz.prog 73 #[.slice (some ⟨w2.heap.size, 0, none⟩) 1 1, .slice a' hd.length c'] (w2.alloc (.cells #[.int .i64 1] 3)) fun e w' => ∃ g c, e = .returned (.tuple #[.slice (some ⟨g, 0, none⟩) 1 c, .int .i64 0]) ∧ w'.cell? ⟨g, 1, none⟩ = some (.int .i64 f.n) ∧ w2.grownBy w' none := fun {a' c' B0 w2} ho => by
        refine (Cd.decode_ok _ [1] _ (bI hd) _ (ki_one w2 _ rfl) (by simp) ((own_cd (ho.grown (World.grownBy_alloc w2 _ none))).sl (by rw [bI_len]; omega)) hf).mono ?_
        rintro e w' ⟨v', rfl, ho', hg'⟩
        obtain ⟨g, c, rfl, hc⟩ := ownF_one ho'
        exact ⟨g, c, rfl, hc, grown_more (World.grownBy_alloc w2 _ none) hg' (by simp)⟩
      have hc : f.n ≤ ((recs (B.drop m)).1.length : Int) := by
        split at hr
        · assumption
        · cases hr
      rw [if_pos hc] at hr
      injection hr with hr
      have UA : ∀ {a c w1 w3}, eB.Own w1 w.heap.size (.slice a B.length c) B → w1.grownBy w3 none → ∃ a' c', (∀ W : World, (Instr.slice 39 (.slice a B.length c) (some (.int .i64 (m : Int))) none none).run Tryz.prog W = .ok (.slice a' (B.drop m).length c') W) ∧ Calls Tryz.prog 74 #[.slice a' (B.drop m).length c'] w3 fun e w' => ∃ ad c, e = .returned (.tuple #[.slice ad ls.length c, .int .i64 (r : Int)]) ∧ Gat w3 w' (.slice ad ls.length c) ls ∧ w3.grownBy w' none := fun ho g => by
        obtain ⟨a', c', e1, hs⟩ := sl_from ((own_cd ho).sl (by rw [bI_len]; omega)) m2
        have := unframeAll_any a' c' (B.drop m) _ (hs.next g) (by rw [List.length_drop]; omega)
        rw [hr] at this
        exact ⟨a', c', e1, this⟩
      rw [hr] at hc
      generalize (B.drop m).length = LD at UA
      simp only at hc
      have hc' : decide (f.n ≤ (ls.length : Int)) = true := by simpa using hc
      have hm1 : (m : Int) ≤ (B.length : Int) := by omega
      generalize f.n = fn at *
      clear hr hu hf hN
      go_enter Tryz.func56, Tryz.ntmps56
      go_wp2_with (first
        | (go_at_call 23; (with_reducible refine RD.mono ?_); rintro e w1 ⟨ad, c, rfl, hO1, hg1⟩)
        | (go_at_call 72; (with_reducible refine (US hO1).mono ?_); rintro e w2 ⟨a2, c2, rfl, hO2, hg2⟩)
        | (go_at_call 73; (with_reducible refine (DC hO2).mono ?_); rintro e w3 ⟨g3, c3, rfl, hc3, hg3⟩; obtain ⟨a5, c5, hsl, UA5⟩ := UA hO1 (grown_more hg2 hg3 (by simp)))
        | (go_at_call 74; (with_reducible refine UA5.mono ?_); rintro e w4 ⟨a4, c4, rfl, hG4, hg4⟩; have hc4 := hg4.cell hc3 (by simp)))
      go_region
      go_wp2
      go_ret3
      have g13 := grown_more (grown_more hg1 hg2 (by simp)) hg3 (by simp)
      have hz := g13.size
      refine ⟨_, _, rfl, ?_, grown_drew (grown_more g13 hg4 (by simp))⟩
      exact ((Ro.low hG4 hz).grown (grown_drew (grown_refl w4 none))).wide fun k hk => ⟨by omega, hk.2.1, hk.2.2⟩
    · have hN : hdN hd = none := by unfold hdN; rw [hx]
      rw [hN] at hr
      cases hr
end Go.Proofs.YtapdhkgeolcogaaGreatDoor
namespace Go.Proofs.YtapdhkgeolcogaaGreatDoor
open Go.RowKit Dsk Lg
set_option linter.unusedVariables false

namespace Lg
def putE (s : St) (nm l : By) : Int := if 65536 < l.length then 1 else if appE s.l nm (fr l).length = 0 then 0 else 3
def putS (s : St) (nm l : By) : St := if 65536 < l.length then s else appS s nm (fr l)
def layF (s : St) (nm : By) : List By → St × Bool
  | [] => (s, true)
  | l :: ls => if putE s nm l = 0 then layF (putS s nm l) nm ls else (s, false)
def layS (s : St) (nm : By) (ls : List By) : St × Bool :=
  if (layF s nm (num ls.length :: ls)).2 = true then (syncS (layF s nm (num ls.length :: ls)).1 nm, decide (hasE (layF s nm (num ls.length :: ls)).1.l nm = 0)) else ((layF s nm (num ls.length :: ls)).1, false)
theorem putS_bad {s : St} {nm l : By} (h : putE s nm l ≠ 0) : putS s nm l = s := by
  unfold putE at h
  unfold putS
  split
  · rfl
  · rename_i h1
    rw [if_neg h1] at h
    unfold appS
    rw [if_neg fun c => h (by rw [if_pos c])]
theorem putS_m (s : St) (nm l : By) : (putS s nm l).m ≤ s.m + 1 := by
  unfold putS
  split
  · omega
  · unfold appS
    split
    · exact Int.le_refl _
    · omega
theorem putE_is (s : St) (nm l : By) : putE s nm l = 0 ∨ putE s nm l = 1 ∨ putE s nm l = 3 := by
  unfold putE
  split
  · exact .inr (.inl rfl)
  · split
    · exact .inl rfl
    · exact .inr (.inr rfl)
theorem layF_m (nm : By) : ∀ (ls : List By) (s : St), (layF s nm ls).1.m ≤ s.m + ls.length
  | [], s => by simp [layF]
  | l :: ls, s => by
    unfold layF
    split
    · have h1 := layF_m nm ls (putS s nm l)
      have h2 := putS_m s nm l
      simp only [List.length_cons]
      omega
    · simp only [List.length_cons]
      omega
end Lg

/-- A log at wb over the disk at b, both made since W. -/
structure Wl (W w : World) (b wb : Nat) (s : St) (F : Nat → Prop) (file : By) (n cnt : Int) : Prop where
  dk : Dk w b s F
  lo : ∀ k, F k → W.heap.size ≤ k
  bel : Below W.heap.size W w
  gv : Gv W
  c0 : w.cell? ⟨wb, 0, none⟩ = some (.pointer (some ⟨b, 0, none⟩))
  c1 : w.cell? ⟨wb, 1, none⟩ = some (.string ⟨file.toArray⟩)
  c2 : w.cell? ⟨wb, 2, none⟩ = some (.int .i64 n)
  c3 : w.cell? ⟨wb, 3, none⟩ = some (.int .i64 cnt)
  fr : ∀ i, w.frozen? ⟨wb, i, none⟩ = false
  nf : ¬ F wb
  wlo : W.heap.size ≤ wb
section
variable {W w w' : World} {b wb : Nat} {s s' : St} {F F' : Nat → Prop} {file : By} {n cnt : Int}
theorem Wl.lt (h : Wl W w b wb s F file n cnt) : wb < w.heap.size := World.block_lt_of_cell? w _ h.c0
theorem Wl.now (h : Wl W w b wb s F file n cnt) : Gv w := h.gv.below h.bel
/-- Behind a call on the disk. -/
theorem Wl.disk (h : Wl W w b wb s F file n cnt) (hd : Dk w' b s' F') (hF : ∀ k, F' k → F k ∨ w.heap.size ≤ k) (g : Chg F w w') : Wl W w' b wb s' F' file n cnt :=
  ⟨hd, fun k hk => (hF k hk).elim (h.lo k) fun e => Nat.le_trans h.bel.size e, g.low h.bel h.lo, h.gv, g.cell h.c0 h.nf, g.cell h.c1 h.nf, g.cell h.c2 h.nf, g.cell h.c3 h.nf,
    fun i => (g.frozen (a := ⟨wb, i, none⟩) h.lt h.nf).trans (h.fr i), fun e => (hF wb e).elim h.nf fun e => Nat.lt_irrefl _ (Nat.lt_of_lt_of_le h.lt e), h.wlo⟩
theorem Wl.grown (h : Wl W w b wb s F file n cnt) (g : w.grownBy w' none) : Wl W w' b wb s F file n cnt :=
  h.disk (h.dk.grown g) (fun k hk => .inl hk) (Chg.of g (by simp))
end
/-- What a call on a log leaves. -/
def WOut (W w w' : World) (b wb : Nat) (F : Nat → Prop) (s' : St) (file : By) (n cnt : Int) : Prop := ∃ F', Wl W w' b wb s' F' file n cnt ∧ (∀ k, F' k → F k ∨ w.heap.size ≤ k) ∧ Chg F w w'

set_option maxRecDepth 100000 in
set_option maxHeartbeats 1600000 in
theorem put_any {W w : World} {b wb : Nat} {s : St} {F : Nat → Prop} {file : By} {n cnt : Int} (h : Wl W w b wb s F file n cnt) (nm : By) (hn : nm.length ≤ 1000) (v : Value) (l : By) (hX : eB.Rx w v l) (hl : l.length ≤ 9223372036854775807) (m1 : s.m ≤ 1000000000) :
    Calls Tryz.prog 33 #[.pointer (some ⟨wb, 0, none⟩), .string ⟨nm.toArray⟩, v] w fun e w' => e = .returned (.int .i64 (putE s nm l)) ∧ WOut W w w' b wb F (putS s nm l) file n cnt := by
  obtain ⟨a, c, rfl⟩ := hX.form
  by_cases hb : 65536 < l.length
  · have FL := Cd.frame_long w a l.length c (by omega)
    have e1 : putE s nm l = 1 := by unfold putE; rw [if_pos hb]
    have e2 : putS s nm l = s := by unfold putS; rw [if_pos hb]
    rw [e1, e2]
    have HW : Hid (WOut W w w b wb F s file n cnt) := ⟨F, h, fun k hk => .inl hk, Chg.refl _ _⟩
    clear hX h
    go_enter Tryz.func33, Tryz.ntmps33
    go_wp2_with (go_at_call 59; (with_reducible refine FL.mono ?_); rintro e w1 ⟨rfl, rfl⟩)
    go_ret
    exact ⟨rfl, HW.out⟩
  · have hbl := bI_len l
    have FO := Cd.frame_ok w a c (bI l) (by rw [hbl]; exact rx_cd hX hl) (by rw [hbl]; omega)
    rw [hbl] at FO
    have FO2 : Calls Tryz.prog 59 #[.slice a l.length c] w fun e w' => ∃ v', e = .returned (.tuple #[v', .int .i64 0]) ∧ eB.Own w' w.heap.size v' (fr l) ∧ w.grownBy w' none :=
      FO.mono fun e w' ⟨v', h1, h2, h3⟩ => ⟨v', h1, cd_own h2, h3⟩
    have hfl := fr_le (l := l) (by omega)
    have AP : ∀ {w1 v1}, w.grownBy w1 none → eB.Own w1 w.heap.size v1 (fr l) → Calls Tryz.prog 21 #[.pointer (some ⟨b, 0, none⟩), .string ⟨nm.toArray⟩, v1] w1 fun e w' => e = .returned (.int .i64 (appE s.l nm (fr l).length)) ∧ WOut W w w' b wb F (appS s nm (fr l)) file n cnt := fun {w1 v1} g ho => by
      refine (append_any b s F ⟨nm.toArray⟩ (by simp [ByteArray.size]; omega) v1 (fr l) w1 (h.dk.grown g) m1 ho.rx (by omega) (fun _ k hk hF => ?_)).mono ?_
      · have h1 := (ho.lt k hk).1
        have h2 := h.dk.lt k hF
        omega
      · rintro e w' ⟨rfl, F', h1, h2, h3⟩
        have hz := g.size
        exact ⟨rfl, F', (h.grown g).disk h1 h2 h3, fun k hk => (h2 k hk).imp id (fun e => Nat.le_trans hz e), (Chg.of (F := F) g (by simp)).trans h3 fun k hk => .inl hk⟩
    have e1 : putE s nm l = if appE s.l nm (fr l).length = 0 then 0 else 3 := by unfold putE; rw [if_neg hb]
    have e2 : putS s nm l = appS s nm (fr l) := by unfold putS; rw [if_neg hb]
    rw [e1, e2]
    have hc0 : ∀ {w1}, w.grownBy w1 none → w1.cell? ⟨wb, 0, none⟩ = some (.pointer (some ⟨b, 0, none⟩)) := fun g => g.cell h.c0 (by simp)
    generalize appS s nm (fr l) = S' at *
    by_cases hE : appE s.l nm (fr l).length = 0
    · rw [if_pos hE]
      rw [hE] at AP
      clear FO e1 e2 h hX hE hfl
      go_enter Tryz.func33, Tryz.ntmps33
      go_wp2_with (first
        | (go_at_call 59; (with_reducible refine FO2.mono ?_); rintro e w1 ⟨v1, rfl, hO1, hg1⟩; have hc1 := hc0 hg1)
        | (go_at_call 21; (with_reducible refine (AP hg1 hO1).mono ?_); rintro e w2 ⟨rfl, hW⟩))
      go_ret
      exact ⟨rfl, hW⟩
    · rw [if_neg hE]
      have hE' : (appE s.l nm (fr l).length == 0) = false := by simpa using hE
      generalize appE s.l nm (fr l).length = E at *
      clear FO e1 e2 h hX hE hfl
      go_enter Tryz.func33, Tryz.ntmps33
      go_wp2_with (first
        | (go_at_call 59; (with_reducible refine FO2.mono ?_); rintro e w1 ⟨v1, rfl, hO1, hg1⟩; have hc1 := hc0 hg1)
        | (go_at_call 21; (with_reducible refine (AP hg1 hO1).mono ?_); rintro e w2 ⟨rfl, hW⟩))
      go_ret
      exact ⟨rfl, hW⟩
end Go.Proofs.YtapdhkgeolcogaaGreatDoor
namespace Go.Proofs.YtapdhkgeolcogaaGreatDoor
open Go.RowKit Dsk Lg
set_option linter.unusedVariables false

theorem fl_one (w : World) (n : Nat) (hn : n < 9223372036854775808) (q : Nat) (hq : q = w.heap.size) : Cd.Fl (w.alloc (.cells #[.int .i64 1, .int .i64 (n : Int), .string ⟨#[]⟩] 110)) (.slice (some ⟨q, 0, none⟩) 1 1) [⟨1, (n : Int), ⟨#[]⟩⟩] := by
  subst hq
  refine ⟨?_, .inr ⟨w.heap.size, 0, 1, rfl, fun i hi => ?_⟩⟩
  · intro f hf
    simp at hf
    subst hf
    show Cd.Code.In64 (n : Int)
    unfold Cd.Code.In64
    omega
  · have : i = 0 := by simp at hi; omega
    subst this
    exact ⟨new_at w rfl rfl, new_at w rfl rfl, new_at w rfl rfl⟩
theorem head_any (w : World) (n : Nat) (hn : n < 9223372036854775808) :
    Calls Tryz.prog 63 #[.slice (some ⟨w.heap.size, 0, none⟩) 1 1] (w.alloc (.cells #[.int .i64 1, .int .i64 (n : Int), .string ⟨#[]⟩] 110)) fun e w' => ∃ v', e = .returned (.tuple #[v', .int .i64 0]) ∧ eB.Own w' w.heap.size v' (num n) ∧ w.grownBy w' none := by
  refine (Cd.encode_fits _ [⟨1, (n : Int), ⟨#[]⟩⟩] _ (fl_one w n hn _ rfl) (by simp) ?_).mono ?_
  · intro f hf
    simp at hf
    subst hf
    exact .inl ⟨rfl, by show (0 : Int) ≤ (n : Int); omega⟩
  · rintro e w' ⟨v', rfl, ho, hg⟩
    have h1 := cd_own ho
    rw [num_enc, iB_bI] at h1
    exact ⟨v', rfl, h1.low (by simp), grown_more (World.grownBy_alloc w _ none) hg (by simp)⟩
/-- A step more of a call on a log. -/
theorem WOut.next {W w w1 w2 : World} {b wb : Nat} {F F1 : Nat → Prop} {s2 : St} {file : By} {n cnt : Int} (hF : ∀ k, F1 k → F k ∨ w.heap.size ≤ k) (g : Chg F w w1) (h : WOut W w1 w2 b wb F1 s2 file n cnt) : WOut W w w2 b wb F s2 file n cnt := by
  obtain ⟨F2, h1, h2, h3⟩ := h
  have hz := g.size
  exact ⟨F2, h1, fun k hk => (h2 k hk).elim (hF k) fun e => .inr (by omega), g.trans h3 hF⟩
theorem wsync_any {W w : World} {b wb : Nat} {s : St} {F : Nat → Prop} {file : By} {n cnt : Int} (h : Wl W w b wb s F file n cnt) (nm : By) (hn : nm.length ≤ 1000) :
    Calls Tryz.prog 35 #[.pointer (some ⟨b, 0, none⟩), .string ⟨nm.toArray⟩] w fun e w' => e = .returned (.int .i64 (hasE s.l nm)) ∧ WOut W w w' b wb F (syncS s nm) file n cnt :=
  (sync_any b s F ⟨nm.toArray⟩ (by simp [ByteArray.size]; omega) w h.dk).mono fun e w' ⟨h1, F', h2, h3, h4⟩ => ⟨h1, F', h.disk h2 h3 h4, h3, h4⟩
theorem wremove_any {W w : World} {b wb : Nat} {s : St} {F : Nat → Prop} {file : By} {n cnt : Int} (h : Wl W w b wb s F file n cnt) (nm : By) (hn : nm.length ≤ 1000) :
    Calls Tryz.prog 41 #[.pointer (some ⟨b, 0, none⟩), .string ⟨nm.toArray⟩] w fun e w' => e = .returned (.int .i64 (hasE s.l nm)) ∧ WOut W w w' b wb F (remS s nm) file n cnt :=
  (remove_any b s F ⟨nm.toArray⟩ (by simp [ByteArray.size]; omega) w h.dk).mono fun e w' ⟨h1, F', h2, h3, h4⟩ => ⟨h1, F', h.disk h2 h3 h4, h3, h4⟩
theorem Each.at_ {w : World} {vs : List S3} {ls : List By} {R : Nat → Prop} (h : Each w vs ls R) {i : Nat} (hi : i < ls.length) : ∃ p l, vs[i]? = some p ∧ ls[i]? = some l ∧ eB.Rx w (sv p) l := by
  have h1 : i < vs.length := by rw [h.1]; exact hi
  exact ⟨_, _, List.getElem?_eq_getElem h1, List.getElem?_eq_getElem hi, (h.2 i _ _ (List.getElem?_eq_getElem h1) (List.getElem?_eq_getElem hi)).1⟩
theorem layF_cons {s : St} {nm l : By} {ls : List By} (h : putE s nm l = 0) : layF s nm (l :: ls) = layF (putS s nm l) nm ls := by
  conv => lhs; unfold layF
  rw [if_pos h]
theorem layF_bad {s : St} {nm l : By} {ls : List By} (h : ¬ putE s nm l = 0) : layF s nm (l :: ls) = (s, false) := by
  conv => lhs; unfold layF
  rw [if_neg h]

set_option maxRecDepth 100000 in
set_option maxHeartbeats 3200000 in
theorem lay_any {W w : World} {b wb : Nat} {s : St} {F : Nat → Prop} {file : By} {n cnt : Int} (h : Wl W w b wb s F file n cnt) (nm : By) (hn : nm.length ≤ 1000) (v : Value) (ls : List By) {R : Nat → Prop} (hX : Rl w v ls R) (hR : ∀ k, R k → ¬ F k ∧ k < w.heap.size)
    (hl : ∀ l ∈ ls, l.length ≤ 9223372036854775807) (hll : ls.length ≤ 10000000) (m1 : s.m ≤ 900000000) :
    Calls Tryz.prog 40 #[.pointer (some ⟨wb, 0, none⟩), .string ⟨nm.toArray⟩, v] w fun e w' => e = .returned (.bool (layS s nm ls).2) ∧ WOut W w w' b wb F (layS s nm ls).1 file n cnt := by
  obtain ⟨ad, c, rfl⟩ := hX.form
  have HD := head_any w ls.length (by omega)
  have hlm : (ls.length : Int) ≤ 10000000 := by omega
  have PH : ∀ {w1 v1}, w.grownBy w1 none → eB.Own w1 w.heap.size v1 (num ls.length) → Calls Tryz.prog 33 #[.pointer (some ⟨wb, 0, none⟩), .string ⟨nm.toArray⟩, v1] w1 fun e w' => e = .returned (.int .i64 (putE s nm (num ls.length))) ∧ WOut W w w' b wb F (putS s nm (num ls.length)) file n cnt := fun {w1 v1} g ho => by
    have hnl := num_len (n := ls.length) (by omega)
    refine (put_any (h.grown g) nm hn v1 (num ls.length) ho.rx (by omega) (by omega)).mono ?_
    rintro e w' ⟨rfl, hW⟩
    exact ⟨rfl, hW.next (fun k hk => .inl hk) (Chg.of (F := F) g (by simp))⟩
  obtain ⟨L, hL⟩ : ∃ L, L = layS s nm ls := ⟨_, rfl⟩
  have HL : Hid (L = layS s nm ls) := hL
  rw [← hL]
  have hm2 := putS_m s nm (num ls.length)
  have HX : Hid (Rl w (.slice ad ls.length c) ls R) := hX
  have HR : Hid (∀ k, R k → ¬ F k ∧ k < w.heap.size) := hR
  have HLL : Hid (∀ l ∈ ls, l.length ≤ 9223372036854775807) := hl
  clear hL h hX hR hl
  by_cases hE : putE s nm (num ls.length) = 0
  · have HL2 : Hid (∀ r, layF (putS s nm (num ls.length)) nm ls = r → L = if r.2 = true then (syncS r.1 nm, decide (hasE r.1.l nm = 0)) else (r.1, false)) := by
      show ∀ _, _
      intro r hr
      rw [HL.out]
      unfold layS
      rw [layF_cons hE, hr]
    rw [hE] at PH
    generalize putS s nm (num ls.length) = S1 at *
    clear HL hE
    go_enter Tryz.func40, Tryz.ntmps40
    go_wp2_with (first
      | (go_at_call 63; (with_reducible refine HD.mono ?_); rintro e w1 ⟨v1, rfl, hO1, hg1⟩)
      | (go_at_call 33; (with_reducible refine (PH hg1 hO1).mono ?_); rintro e w2 ⟨rfl, hW2⟩))
    clear PH HD hO1
    go_loopw [26] (fun i wr => ∃ (k : Nat) (sk : St), k ≤ ls.length ∧ i = .int .i64 k ∧ WOut W w wr b wb F sk file n cnt ∧ sk.m ≤ s.m + 1 + k ∧ Hid (layF S1 nm ls = layF sk nm (ls.drop k))) (fun i _ => ls.length - (intOf i).toNat)
    case atStart => exact ⟨0, S1, Nat.zero_le _, rfl, hW2, by omega, by show _ = _; rw [List.drop_zero]⟩
    case round =>
      obtain ⟨k, sk, hk, rfl, ⟨Fk, hWk, hFk, hCk⟩, hmk, HK⟩ := hrel
      clear hW2
      by_cases hlt : k < ls.length
      · have hXr := HX.out.kept hCk fun k hk => (HR.out k hk).1
        obtain ⟨vs, hx1, hx2, hx3⟩ := hXr
        obtain ⟨p, l, hp, hl, hpl⟩ := hx2.at_ hlt
        obtain ⟨g, o, cc, ev, hcell⟩ := hx1.at_ hp
        injection ev with e1 e2 e3
        subst e1 e3
        clear e2
        have hcx : wr.cell? ⟨g, o + k, none⟩ = some (.slice p.1 p.2.1 p.2.2) := by
          have := hcell 0 _ rfl
          have e : eL.size = 1 := rfl
          rw [e, Nat.mul_one, Nat.add_zero] at this
          exact this
        have hdr : ls.drop k = l :: ls.drop (k + 1) := by rw [List.drop_eq_getElem_cons hlt]; congr 1; rw [List.getElem?_eq_getElem hlt] at hl; injection hl
        have PT := put_any hWk nm hn (sv p) l hpl (HLL.out l (List.mem_of_getElem? hl)) (by omega)
        obtain ⟨pa, pn, pc⟩ := p
        simp only at hcx
        have HK2 : Hid (layF S1 nm ls = layF sk nm (l :: ls.drop (k + 1))) := by show _ = _; rw [HK.out, hdr]
        have hmk2 := putS_m sk nm l
        clear HK hdr hcell hpl hx1 hx2 hx3 hp hl
        by_cases hE : putE sk nm l = 0
        · rw [hE] at PT
          have HK3 : Hid (layF S1 nm ls = layF (putS sk nm l) nm (ls.drop (k + 1))) := by show _ = _; rw [HK2.out, layF_cons hE]
          clear HK2 hE
          generalize putS sk nm l = S2 at *
          go_wp2_with (go_at_call 33; (with_reducible refine PT.mono ?_); rintro e w3 ⟨rfl, hW3⟩)
          go_roundw
          case rel => exact ⟨k + 1, S2, by omega, by go_num, hW3.next hFk hCk, by omega, HK3⟩
          case measure => simp [intOf]; omega
        · have hE' : (putE sk nm l == 0) = false := by simpa using hE
          have hL3 := HL2.out _ (by rw [HK2.out, layF_bad hE])
          simp only [Bool.false_eq_true, if_false] at hL3
          rw [putS_bad hE] at PT
          have HL3 : Hid (L = (sk, false)) := hL3
          clear HL2 HK2 hE hL3
          generalize putE sk nm l = E at *
          go_wp2_with (go_at_call 33; (with_reducible refine PT.mono ?_); rintro e w3 ⟨rfl, hW3⟩)
          go_ret
          rw [HL3.out]
          exact ⟨rfl, hW3.next hFk hCk⟩
      · obtain rfl : k = ls.length := by omega
        have hfin : layF S1 nm ls = (sk, true) := by rw [HK.out, List.drop_length]; rfl
        have hL3 := HL2.out _ hfin
        simp only [if_true] at hL3
        have HL3 : Hid (L = (syncS sk nm, decide (hasE sk.l nm = 0))) := hL3
        have SY := wsync_any hWk nm hn
        have hc0 := hWk.c0
        clear HL2 HK hL3 hfin
        have hdec : decide (hasE sk.l nm = 0) = (hasE sk.l nm == 0) := by cases h : (hasE sk.l nm == 0) <;> simp_all
        rw [hdec] at HL3
        generalize hasE sk.l nm = E at *
        generalize syncS sk nm = S2 at *
        go_wp2_with (go_at_call 35; (with_reducible refine SY.mono ?_); rintro e w3 ⟨rfl, hW3⟩)
        go_ret
        rw [HL3.out]
        exact ⟨rfl, hW3.next hFk hCk⟩
  · have hE' : (putE s nm (num ls.length) == 0) = false := by simpa using hE
    have hL3 : L = (s, false) := by
      rw [HL.out]
      unfold layS
      rw [layF_bad hE]
      rfl
    rw [putS_bad hE] at PH
    have HL3 : Hid (L = (s, false)) := hL3
    clear HL hE hL3 hm2
    generalize putE s nm (num ls.length) = E at *
    go_enter Tryz.func40, Tryz.ntmps40
    go_wp2_with (first
      | (go_at_call 63; (with_reducible refine HD.mono ?_); rintro e w1 ⟨v1, rfl, hO1, hg1⟩)
      | (go_at_call 33; (with_reducible refine (PH hg1 hO1).mono ?_); rintro e w2 ⟨rfl, hW2⟩))
    go_ret
    rw [HL3.out]
    exact ⟨rfl, hW2⟩
end Go.Proofs.YtapdhkgeolcogaaGreatDoor
namespace Go.Proofs.YtapdhkgeolcogaaGreatDoor
open Go.RowKit Dsk Lg
set_option linter.unusedVariables false

namespace Lg
def long (ls : List By) : Bool := ls.any fun l => decide (65536 < l.length)
theorem long_fit {ls : List By} (h : long ls = false) : Fit ls := by
  intro l hl
  unfold long at h
  rw [List.any_eq_false] at h
  have := h l hl
  simp at this
  exact this
theorem fit_long {ls : List By} (h : Fit ls) : long ls = false := by
  unfold long
  rw [List.any_eq_false]
  intro l hl
  have := h l hl
  simp
  omega
end Lg
section
variable {W w w' : World} {b wb : Nat} {s : St} {F : Nat → Prop} {file : By} {n cnt : Int}
theorem Wl.chg (h : Wl W w b wb s F file n cnt) (i : Nat) (v : Value) : Chg (fun k => F k ∨ k = wb) w (w.setCell ⟨wb, i, none⟩ v) := Chg.of (grown_set w ⟨wb, i, none⟩ v) fun k hk => .inr (by injection hk with hk; exact hk.symm)
theorem Wl.dset (h : Wl W w b wb s F file n cnt) (i : Nat) (v : Value) : Dk (w.setCell ⟨wb, i, none⟩ v) b s F :=
  h.dk.kept (T := fun k => k = wb) (Chg.of (grown_set w ⟨wb, i, none⟩ v) fun k hk => by injection hk with hk; exact hk.symm) fun k hk e => h.nf (by rw [← e]; exact hk)
theorem Wl.bset (h : Wl W w b wb s F file n cnt) (i : Nat) (v : Value) : Below W.heap.size W (w.setCell ⟨wb, i, none⟩ v) := h.bel.setCell (p := ⟨wb, i, none⟩) h.wlo v
theorem Wl.set1 (h : Wl W w b wb s F file n cnt) (f : By) : Wl W (w.setCell ⟨wb, 1, none⟩ (.string ⟨f.toArray⟩)) b wb s F f n cnt :=
  ⟨h.dset _ _, h.lo, h.bset _ _, h.gv, (set_other (by simp)).trans h.c0, set_same h.c1, (set_other (by simp)).trans h.c2, (set_other (by simp)).trans h.c3, fun i => (World.frozen?_setCell _ _ _ _).trans (h.fr i), h.nf, h.wlo⟩
theorem Wl.set2 (h : Wl W w b wb s F file n cnt) (m : Int) : Wl W (w.setCell ⟨wb, 2, none⟩ (.int .i64 m)) b wb s F file m cnt :=
  ⟨h.dset _ _, h.lo, h.bset _ _, h.gv, (set_other (by simp)).trans h.c0, (set_other (by simp)).trans h.c1, set_same h.c2, (set_other (by simp)).trans h.c3, fun i => (World.frozen?_setCell _ _ _ _).trans (h.fr i), h.nf, h.wlo⟩
theorem Wl.set3 (h : Wl W w b wb s F file n cnt) (m : Int) : Wl W (w.setCell ⟨wb, 3, none⟩ (.int .i64 m)) b wb s F file n m :=
  ⟨h.dset _ _, h.lo, h.bset _ _, h.gv, (set_other (by simp)).trans h.c0, (set_other (by simp)).trans h.c1, (set_other (by simp)).trans h.c2, set_same h.c3, fun i => (World.frozen?_setCell _ _ _ _).trans (h.fr i), h.nf, h.wlo⟩
end
/-- What a call that may turn the log itself leaves. -/
def WLeft (W w w' : World) (b wb : Nat) (F : Nat → Prop) (s' : St) (file : By) (n cnt : Int) : Prop := ∃ F', Wl W w' b wb s' F' file n cnt ∧ (∀ k, F' k → F k ∨ w.heap.size ≤ k) ∧ Chg (fun k => F k ∨ k = wb) w w'
theorem WOut.left {W w w' : World} {b wb : Nat} {F : Nat → Prop} {s' : St} {file : By} {n cnt : Int} (h : WOut W w w' b wb F s' file n cnt) : WLeft W w w' b wb F s' file n cnt := by
  obtain ⟨F', h1, h2, h3⟩ := h
  exact ⟨F', h1, h2, h3.wide fun k hk => .inl hk⟩
theorem WLeft.next {W w w1 w2 : World} {b wb : Nat} {F F1 : Nat → Prop} {s2 : St} {file : By} {n cnt : Int} (hF : ∀ k, F1 k → F k ∨ w.heap.size ≤ k) (g : Chg (fun k => F k ∨ k = wb) w w1) (h : WLeft W w1 w2 b wb F1 s2 file n cnt) : WLeft W w w2 b wb F s2 file n cnt := by
  obtain ⟨F2, h1, h2, h3⟩ := h
  have hz := g.size
  exact ⟨F2, h1, fun k hk => (h2 k hk).elim (hF k) fun e => .inr (by omega), g.trans h3 fun k hk => hk.elim (fun e => (hF k e).imp .inl id) fun e => .inl (.inr e)⟩
theorem WLeft.refl {W w : World} {b wb : Nat} {F : Nat → Prop} {s : St} {file : By} {n cnt : Int} (h : Wl W w b wb s F file n cnt) : WLeft W w w b wb F s file n cnt := ⟨F, h, fun _ hk => .inl hk, Chg.refl _ _⟩
theorem WLeft.of {W w w1 : World} {b wb : Nat} {F : Nat → Prop} {s : St} {file : By} {n cnt : Int} (h : Wl W w b wb s F file n cnt) (g : w.grownBy w1 none) : WLeft W w w1 b wb F s file n cnt := ⟨F, h.grown g, fun _ hk => .inl hk, Chg.of g (by simp)⟩

set_option maxRecDepth 100000 in
theorem isLong_any (a : Option Addr) (k c : Nat) (w : World) :
    Calls Tryz.prog 38 #[.slice a k c] w fun e w' => e = .returned (.bool (decide ((65536 : Int) < (k : Int)))) ∧ w' = w := by
  go_enter Tryz.func38, Tryz.ntmps38
  go_wp2
  go_ret
  exact ⟨rfl, rfl⟩
set_option maxRecDepth 100000 in
set_option maxHeartbeats 1600000 in
theorem indexLong_any (v : Value) (ls : List By) {R : Nat → Prop} (w : World) (h : Rl w v ls R) (hl : ls.length ≤ 9223372036854775807) :
    Calls Tryz.prog 61 #[v, .func (.func 38) #[] #[]] w fun e w' => ∃ i : Int, e = .returned (.int .i64 i) ∧ decide (0 ≤ i) = long ls ∧ w' = w := by
  obtain ⟨ad, c, rfl⟩ := h.form
  obtain ⟨vs, h1, h2, h3⟩ := h
  go_enter Tryz.func61, Tryz.ntmps61
  go_wp2
  go_loop [8] (fun i => ∃ k : Nat, k ≤ ls.length ∧ i = .int .i64 k ∧ Hid (long (ls.take k) = false)) (fun i => ls.length - (intOf i).toNat)
  case atStart => exact ⟨0, Nat.zero_le _, rfl, by show _ = _; rfl⟩
  case round =>
    obtain ⟨k, hk, rfl, HA⟩ := hrel
    by_cases hlt : k < ls.length
    · obtain ⟨p, l, hp, hl2, hpl⟩ := h2.at_ hlt
      obtain ⟨g, o, cc, ev, hcell⟩ := h1.at_ hp
      injection ev with e1 e2 e3
      subst e1 e3
      clear e2
      have hcx : w.cell? ⟨g, o + k, none⟩ = some (.slice p.1 p.2.1 p.2.2) := by
        have := hcell 0 _ rfl
        have e : eL.size = 1 := rfl
        rw [e, Nat.mul_one, Nat.add_zero] at this
        exact this
      have hpn : p.2.1 = l.length := by
        obtain ⟨a', c', e⟩ := hpl.form
        injection e with _ e _
      obtain ⟨pa, pn, pc⟩ := p
      simp only at hcx hpn
      have htk : ls.take (k + 1) = ls.take k ++ [l] := by rw [List.take_add_one, hl2]; rfl
      have HT : Hid (long (ls.take (k + 1)) = decide ((65536 : Int) < (pn : Int))) := by
        show _ = _
        rw [htk]
        unfold long
        have h0 := HA.out
        unfold long at h0
        rw [List.any_append, h0, hpn]
        simp
        constructor <;> omega
      have HM : Hid (l ∈ ls ∧ pn = l.length) := ⟨List.mem_of_getElem? hl2, hpn⟩
      clear htk hp hl2 hpl hcell h1 h2 h3 hpn
      by_cases hx : (65536 : Int) < (pn : Int)
      · have hd : decide ((65536 : Int) < (pn : Int)) = true := by simpa using hx
        go_wp2_with (go_at_call 38; refine (isLong_any pa pn pc _).mono ?_; rintro e w1 ⟨rfl, rfl⟩; rw [hd])
        go_ret
        refine ⟨k, rfl, ?_, rfl⟩
        have : long ls = true := by
          unfold long
          rw [List.any_eq_true]
          exact ⟨l, HM.out.1, by have := HM.out.2; simp; omega⟩
        rw [this]
        simp
      · have hd : decide ((65536 : Int) < (pn : Int)) = false := by simpa using hx
        go_wp2_with (go_at_call 38; refine (isLong_any pa pn pc _).mono ?_; rintro e w1 ⟨rfl, rfl⟩; rw [hd])
        go_round
        case rel => exact ⟨k + 1, by omega, by go_num, by show _ = _; rw [HT.out, hd]⟩
        case measure => simp [intOf]; omega
    · obtain rfl : k = ls.length := by omega
      have HA2 : Hid (long ls = false) := by have := HA.out; rw [List.take_length] at this; exact this
      clear HA h1 h2 h3
      go_wp2
      go_ret
      exact ⟨-1, rfl, by rw [HA2.out]; rfl, rfl⟩
set_option maxRecDepth 100000 in
theorem contains_any (v : Value) (ls : List By) {R : Nat → Prop} (w : World) (h : Rl w v ls R) (hl : ls.length ≤ 9223372036854775807) :
    Calls Tryz.prog 37 #[v, .func (.func 38) #[] #[]] w fun e w' => e = .returned (.bool (long ls)) ∧ w' = w := by
  have IX := indexLong_any v ls w h hl
  obtain ⟨ad, c, rfl⟩ := h.form
  clear h
  go_enter Tryz.func37, Tryz.ntmps37
  go_wp2_with (go_at_call 61; (with_reducible refine IX.mono ?_); rintro e w1 ⟨i, rfl, hi, rfl⟩)
  go_ret
  exact ⟨rfl, rfl⟩
set_option maxRecDepth 100000 in
set_option maxHeartbeats 1600000 in
theorem reset_long {W w : World} {b wb : Nat} {s : St} {F : Nat → Prop} {file : By} {n cnt : Int} (h : Wl W w b wb s F file n cnt) (v : Value) (ls : List By) {R : Nat → Prop} (hX : Rl w v ls R) (hl : ls.length ≤ 9223372036854775807) (hL : long ls = true) :
    Calls Tryz.prog 16 #[.pointer (some ⟨wb, 0, none⟩), v] w fun e w' => e = .returned (.int .i64 1) ∧ w' = w := by
  have CF := contains_any v ls w hX hl
  rw [hL] at CF
  obtain ⟨ad, c, rfl⟩ := hX.form
  clear hX h
  go_enter Tryz.func16, Tryz.ntmps16
  go_wp2_with (go_at_call 37; (with_reducible refine CF.mono ?_); rintro e w1 ⟨rfl, rfl⟩)
  go_ret
  exact ⟨rfl, rfl⟩
set_option maxRecDepth 100000 in
set_option maxHeartbeats 1600000 in
theorem reset_full {W w : World} {b wb : Nat} {s : St} {F : Nat → Prop} {file : By} {cnt : Int} (h : Wl W w b wb s F file 999999999 cnt) (v : Value) (ls : List By) {R : Nat → Prop} (hX : Rl w v ls R) (hl : ls.length ≤ 9223372036854775807) (hL : long ls = false) :
    Calls Tryz.prog 16 #[.pointer (some ⟨wb, 0, none⟩), v] w fun e w' => e = .returned (.int .i64 3) ∧ w' = w := by
  have CF := contains_any v ls w hX hl
  rw [hL] at CF
  obtain ⟨ad, c, rfl⟩ := hX.form
  have c2 := h.c2
  clear hX h
  go_enter Tryz.func16, Tryz.ntmps16
  go_wp2_with (go_at_call 37; (with_reducible refine CF.mono ?_); rintro e w1 ⟨rfl, rfl⟩)
  go_ret
  exact ⟨rfl, rfl⟩
set_option maxRecDepth 100000 in
set_option maxHeartbeats 1600000 in
theorem reset_bad {W w : World} {b wb : Nat} {s : St} {F : Nat → Prop} {file : By} {n : Nat} {cnt : Int} (h : Wl W w b wb s F file (n : Int) cnt) (v : Value) (ls : List By) {R : Nat → Prop} (hX : Rl w v ls R) (hR : ∀ k, R k → ¬ F k ∧ k < w.heap.size)
    (hll : ls.length ≤ 10000000) (m1 : s.m ≤ 900000000) (hL : long ls = false) (hn : n < 999999999) (hS : (layS s (nm (n + 1)) ls).2 = false) :
    Calls Tryz.prog 16 #[.pointer (some ⟨wb, 0, none⟩), v] w fun e w' => e = .returned (.int .i64 3) ∧ WOut W w w' b wb F (remS (layS s (nm (n + 1)) ls).1 (nm (n + 1))) file (n : Int) cnt := by
  have hfit := long_fit hL
  have CF := contains_any v ls w hX (by omega)
  rw [hL] at CF
  have hnl := nm_len (n := n + 1) (by omega)
  have FN := fileName_any (n + 1) (by omega) w h.now
  rw [show ((n + 1 : Nat) : Int) = (n : Int) + 1 from by omega] at FN
  have LY : ∀ {w1}, w.grownBy w1 none → Calls Tryz.prog 40 #[.pointer (some ⟨wb, 0, none⟩), .string ⟨(nm (n + 1)).toArray⟩, v] w1 fun e w' => e = .returned (.bool (layS s (nm (n + 1)) ls).2) ∧ WOut W w1 w' b wb F (layS s (nm (n + 1)) ls).1 file (n : Int) cnt :=
    fun {w1} g => lay_any (h.grown g) (nm (n + 1)) (by omega) v ls (hX.grown g) (fun k hk => ⟨(hR k hk).1, Nat.lt_of_lt_of_le (hR k hk).2 g.size⟩) (fun l hl => by have := hfit l hl; omega) hll m1
  rw [hS] at LY
  generalize (layS s (nm (n + 1)) ls).1 = S1 at *
  have RM : ∀ {w2 F2}, Wl W w2 b wb S1 F2 file (n : Int) cnt → Calls Tryz.prog 41 #[.pointer (some ⟨b, 0, none⟩), .string ⟨(nm (n + 1)).toArray⟩] w2 fun e w' => ∃ E, e = .returned (.int .i64 E) ∧ WOut W w2 w' b wb F2 (remS S1 (nm (n + 1))) file (n : Int) cnt :=
    fun {w2 F2} h2 => (wremove_any h2 (nm (n + 1)) (by omega)).mono fun e w' ⟨h1, h2⟩ => ⟨_, h1, h2⟩
  obtain ⟨ad, c, rfl⟩ := hX.form
  have c2 := h.c2
  have hneq : ((n : Int) == 999999999) = false := by simp; omega
  have hnx : (n : Int) < 999999999 := by omega
  generalize nm (n + 1) = M at *
  have g0 : w.grownBy w none := grown_refl _ _
  clear hX h hS hnl
  go_enter Tryz.func16, Tryz.ntmps16
  go_wp2_with (first
    | (go_at_call 37; (with_reducible refine CF.mono ?_); rintro e w1 ⟨rfl, e1⟩; obtain rfl := e1.symm)
    | (go_at_call 39; (with_reducible refine FN.mono ?_); rintro e w1 ⟨rfl, hg1⟩)
    | (go_at_call 40; (with_reducible refine (LY hg1).mono ?_); rintro e w2 ⟨rfl, F2, hW2, hF2, hC2⟩; have hc0 := hW2.c0)
    | (go_at_call 41; (with_reducible refine (RM hW2).mono ?_); rintro e w3 ⟨E, rfl, hW3⟩))
  go_ret
  refine ⟨rfl, (hW3.next hF2 hC2).next (fun k hk => .inl hk) (Chg.of (F := F) hg1 (by simp))⟩
end Go.Proofs.YtapdhkgeolcogaaGreatDoor
namespace Go.Proofs.YtapdhkgeolcogaaGreatDoor
open Go.RowKit Dsk Lg
set_option linter.unusedVariables false

set_option maxRecDepth 100000 in
set_option maxHeartbeats 1600000 in
theorem reset_ok {W w : World} {b wb : Nat} {s : St} {F : Nat → Prop} {file : By} {n : Nat} {cnt : Int} (h : Wl W w b wb s F file (n : Int) cnt) (hfl : file.length ≤ 1000) (v : Value) (ls : List By) {R : Nat → Prop} (hX : Rl w v ls R) (hR : ∀ k, R k → ¬ F k ∧ k < w.heap.size)
    (hll : ls.length ≤ 10000000) (m1 : s.m ≤ 900000000) (hL : long ls = false) (hn : n < 999999999) (hS : (layS s (nm (n + 1)) ls).2 = true) :
    Calls Tryz.prog 16 #[.pointer (some ⟨wb, 0, none⟩), v] w fun e w' => e = .returned (.int .i64 0) ∧ WLeft W w w' b wb F (remS (layS s (nm (n + 1)) ls).1 file) (nm (n + 1)) ((n + 1 : Nat) : Int) (ls.length : Int) := by
  have hfit := long_fit hL
  have CF := contains_any v ls w hX (by omega)
  rw [hL] at CF
  have hnl := nm_len (n := n + 1) (by omega)
  have FN := fileName_any (n + 1) (by omega) w h.now
  rw [show ((n + 1 : Nat) : Int) = (n : Int) + 1 from by omega] at FN
  have LY : ∀ {w1}, w.grownBy w1 none → Calls Tryz.prog 40 #[.pointer (some ⟨wb, 0, none⟩), .string ⟨(nm (n + 1)).toArray⟩, v] w1 fun e w' => e = .returned (.bool (layS s (nm (n + 1)) ls).2) ∧ WOut W w1 w' b wb F (layS s (nm (n + 1)) ls).1 file (n : Int) cnt :=
    fun {w1} g => lay_any (h.grown g) (nm (n + 1)) (by omega) v ls (hX.grown g) (fun k hk => ⟨(hR k hk).1, Nat.lt_of_lt_of_le (hR k hk).2 g.size⟩) (fun l hl => by have := hfit l hl; omega) hll m1
  rw [hS] at LY
  generalize (layS s (nm (n + 1)) ls).1 = S1 at *
  have RM : ∀ {w2 F2}, Wl W w2 b wb S1 F2 file (n : Int) cnt → Calls Tryz.prog 41 #[.pointer (some ⟨b, 0, none⟩), .string ⟨file.toArray⟩] w2 fun e w' => ∃ E, e = .returned (.int .i64 E) ∧ WOut W w2 w' b wb F2 (remS S1 file) file (n : Int) cnt :=
    fun {w2 F2} h2 => (wremove_any h2 file hfl).mono fun e w' ⟨h1, h2⟩ => ⟨_, h1, h2⟩
  obtain ⟨ad, c, rfl⟩ := hX.form
  have c2 := h.c2
  have hneq : ((n : Int) == 999999999) = false := by simp; omega
  have hnx : (n : Int) < 999999999 := by omega
  have HF : Hid ((nm (n + 1)).length ≤ 1000) := by show _ ≤ _; omega
  generalize nm (n + 1) = M at *
  clear hX h hS hnl
  go_enter Tryz.func16, Tryz.ntmps16
  go_wp2_with (first
    | (go_at_call 37; (with_reducible refine CF.mono ?_); rintro e w1 ⟨rfl, e1⟩; obtain rfl := e1.symm)
    | (go_at_call 39; (with_reducible refine FN.mono ?_); rintro e w1 ⟨rfl, hg1⟩)
    | (go_at_call 40; (with_reducible refine (LY hg1).mono ?_); rintro e w2 ⟨rfl, F2, hW2, hF2, hC2⟩; have hc0 := hW2.c0; have hc1 := hW2.c1))
  have hWd := hW2.grown (grown_drew (grown_refl w2 none))
  refine region_tail 8 (by kernel_rfl) (by kernel_rfl) ?_
  simp only [List.take_succ_cons, List.take_zero, List.drop_succ_cons, List.drop_zero]
  iterate 8 still_step
  refine wpStill_nil ?_
  go_wp2_with (go_at_call 41; (with_reducible refine (RM hWd).mono ?_); rintro e w3 ⟨E, rfl, F3, hW3, hF3, hC3⟩; have k0 := hW3.c0; have k1 := hW3.c1; have k2 := hW3.c2; have k3 := hW3.c3; have kf := hW3.fr)
  go_ret
  have hS1 := (hW3.set1 M).set2 ((n : Int) + 1)
  have hS2 := hS1.set3 (ls.length : Int)
  have hn1 : ((n + 1 : Nat) : Int) = (n : Int) + 1 := by omega
  rw [hn1]
  refine ⟨rfl, WLeft.next (F1 := F) (fun k hk => .inl hk) (Chg.of (F := fun k => F k ∨ k = wb) hg1 (by simp)) (WLeft.next hF2 (hC2.wide fun k hk => .inl hk) ?_)⟩
  have hz := hC3.size
  refine ⟨F3, hS2, fun k hk => (hF3 k hk).imp id fun e => by simpa using e, ?_⟩
  have hC4 : Chg F2 w2 w3 := (Chg.of (F := F2) (grown_drew (grown_refl w2 none)) (by simp)).trans hC3 fun k hk => .inl hk
  have d1 := Chg.of (F := fun k => F2 k ∨ k = wb) (grown_set w3 ⟨wb, 1, none⟩ (.string ⟨M.toArray⟩)) fun k hk => .inr (by injection hk with hk; exact hk.symm)
  have d2 := Chg.of (F := fun k => F2 k ∨ k = wb) (grown_set (w3.setCell ⟨wb, 1, none⟩ (.string ⟨M.toArray⟩)) ⟨wb, 2, none⟩ (.int .i64 ((n : Int) + 1))) fun k hk => .inr (by injection hk with hk; exact hk.symm)
  have d3 := Chg.of (F := fun k => F2 k ∨ k = wb) (grown_set ((w3.setCell ⟨wb, 1, none⟩ (.string ⟨M.toArray⟩)).setCell ⟨wb, 2, none⟩ (.int .i64 ((n : Int) + 1))) ⟨wb, 3, none⟩ (.int .i64 (ls.length : Int))) fun k hk => .inr (by injection hk with hk; exact hk.symm)
  exact (((hC4.wide fun k hk => .inl hk).trans d1 fun k hk => .inl hk).trans d2 fun k hk => .inl hk).trans d3 fun k hk => .inl hk
end Go.Proofs.YtapdhkgeolcogaaGreatDoor
namespace Go.Proofs.YtapdhkgeolcogaaGreatDoor
open Go.RowKit Dsk Lg
set_option linter.unusedVariables false

set_option maxRecDepth 100000 in
set_option maxHeartbeats 1600000 in
theorem wappend_any {W w : World} {b wb : Nat} {s : St} {F : Nat → Prop} {file : By} {n : Int} {cnt : Nat} (h : Wl W w b wb s F file n (cnt : Int)) (hfl : file.length ≤ 1000) (v : Value) (l : By) (hX : eB.Rx w v l) (hl : l.length ≤ 9223372036854775807) (hc : cnt ≤ 1000000000) (m1 : s.m ≤ 1000000000) :
    Calls Tryz.prog 12 #[.pointer (some ⟨wb, 0, none⟩), v] w fun e w' => e = .returned (.int .i64 (putE s file l)) ∧ WLeft W w w' b wb F (putS s file l) file n ((if putE s file l = 0 then cnt + 1 else cnt : Nat) : Int) := by
  have PT := put_any h file hfl v l hX hl m1
  have c1 := h.c1
  obtain ⟨a, c, rfl⟩ := hX.form
  have hci : (cnt : Int) ≤ 1000000000 := by omega
  clear h hX
  by_cases hE : putE s file l = 0
  · rw [hE] at PT
    rw [if_pos hE, hE]
    generalize putS s file l = S1 at *
    clear hE
    go_enter Tryz.func12, Tryz.ntmps12
    go_wp2_with (go_at_call 33; (with_reducible refine PT.mono ?_); rintro e w1 ⟨rfl, F1, hW1, hF1, hC1⟩; have k3 := hW1.c3; have kf := hW1.fr)
    go_ret
    refine ⟨rfl, F1, ?_, hF1, ?_⟩
    · have := hW1.set3 ((cnt : Int) + 1)
      rw [show ((cnt + 1 : Nat) : Int) = (cnt : Int) + 1 from by omega]
      exact this
    · exact (hC1.wide fun k hk => .inl hk).trans (Chg.of (F := fun k => F k ∨ k = wb) (grown_set w1 ⟨wb, 3, none⟩ _) fun k hk => .inr (by injection hk with hk; exact hk.symm)) fun k hk => .inl hk
  · have hE' : (putE s file l == 0) = false := by simpa using hE
    rw [if_neg hE]
    generalize putE s file l = E at *
    generalize putS s file l = S1 at *
    clear hE
    go_enter Tryz.func12, Tryz.ntmps12
    go_wp2_with (go_at_call 33; (with_reducible refine PT.mono ?_); rintro e w1 ⟨rfl, hW1⟩)
    go_ret
    exact ⟨rfl, hW1.left⟩
set_option maxRecDepth 100000 in
set_option maxHeartbeats 1600000 in
theorem wsyn_any {W w : World} {b wb : Nat} {s : St} {F : Nat → Prop} {file : By} {n cnt : Int} (h : Wl W w b wb s F file n cnt) (hfl : file.length ≤ 1000) :
    Calls Tryz.prog 14 #[.pointer (some ⟨wb, 0, none⟩)] w fun e w' => e = .returned (.int .i64 (if hasE s.l file = 0 then 0 else 3)) ∧ WOut W w w' b wb F (syncS s file) file n cnt := by
  have hd := h.grown (grown_drew (grown_refl w none))
  have SY := wsync_any hd file hfl
  have c0 := h.c0
  have c1 := h.c1
  generalize syncS s file = S1 at *
  clear h hd
  have G0 : Chg F w w.drew := Chg.of (grown_drew (grown_refl w none)) (by simp)
  by_cases hE : hasE s.l file = 0
  · rw [hE] at SY
    rw [if_pos hE]
    clear hE
    go_enter Tryz.func14, Tryz.ntmps14
    go_wp2
    refine region_tail 8 (by kernel_rfl) (by kernel_rfl) ?_
    simp only [List.take_succ_cons, List.take_zero, List.drop_succ_cons, List.drop_zero]
    iterate 8 still_step
    refine wpStill_nil ?_
    go_wp2_with (go_at_call 35; (with_reducible refine SY.mono ?_); rintro e w1 ⟨rfl, hW1⟩)
    go_ret
    exact ⟨rfl, hW1.next (fun k hk => .inl hk) G0⟩
  · have hE' : (hasE s.l file == 0) = false := by simpa using hE
    rw [if_neg hE]
    generalize hasE s.l file = E at *
    clear hE
    go_enter Tryz.func14, Tryz.ntmps14
    go_wp2
    refine region_tail 8 (by kernel_rfl) (by kernel_rfl) ?_
    simp only [List.take_succ_cons, List.take_zero, List.drop_succ_cons, List.drop_zero]
    iterate 8 still_step
    refine wpStill_nil ?_
    go_wp2_with (go_at_call 35; (with_reducible refine SY.mono ?_); rintro e w1 ⟨rfl, hW1⟩)
    go_ret
    exact ⟨rfl, hW1.next (fun k hk => .inl hk) G0⟩
set_option maxRecDepth 100000 in
theorem file_any {W w : World} {b wb : Nat} {s : St} {F : Nat → Prop} {file : By} {n cnt : Int} (h : Wl W w b wb s F file n cnt) :
    Calls Tryz.prog 24 #[.pointer (some ⟨wb, 0, none⟩)] w fun e w' => e = .returned (.string ⟨file.toArray⟩) ∧ w' = w := by
  have c1 := h.c1
  clear h
  go_enter Tryz.func24, Tryz.ntmps24
  go_wp2
  go_ret
  exact ⟨rfl, rfl⟩
set_option maxRecDepth 100000 in
theorem count_any {W w : World} {b wb : Nat} {s : St} {F : Nat → Prop} {file : By} {n cnt : Int} (h : Wl W w b wb s F file n cnt) :
    Calls Tryz.prog 27 #[.pointer (some ⟨wb, 0, none⟩)] w fun e w' => e = .returned (.int .i64 cnt) ∧ w' = w := by
  have c3 := h.c3
  clear h
  go_enter Tryz.func27, Tryz.ntmps27
  go_wp2
  go_ret
  exact ⟨rfl, rfl⟩
end Go.Proofs.YtapdhkgeolcogaaGreatDoor
