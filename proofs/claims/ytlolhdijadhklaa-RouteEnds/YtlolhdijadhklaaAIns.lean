/- slices.Insert of one span. -/
import Derived.Test.YtlolhdijadhklaaARow
import Derived.Lib.AppendZerosOnto
import Derived.Lib.SliceRun
import Derived.Lib.Overlaps
import Derived.Laws.Externs
import Derived.Deep.RegionLaw
namespace Go.Proofs.Ytlolhdijadhklaa
open Go.RowKit Atl
set_option linter.unusedVariables false
set_option maxRecDepth 10000

theorem uS : Try.prog.underlying 22 = some (.slice (Try.prog.elem 22)) := by rw [show Try.prog.elem 22 = 29 from eS.he]; exact eS.hu
theorem zSz (W : World) : (sizeOf (Try.prog.elem 22)).run Try.prog W = .ok 5 W := by rw [show Try.prog.elem 22 = 29 from eS.he]; exact eS.so W
/-- 's[i:]', where i is below the capacity. -/
theorem from_run (W : World) (g n cap i : Nat) (hi : i ≤ n) (hc : i < cap) : (Instr.slice 22 (.slice (some ⟨g, 0, none⟩) n cap) (some (.int .i64 (i : Int))) none none).run Try.prog W = .ok (.slice (some ⟨g, i * 5, none⟩) (n - i) (cap - i)) W := by
  rw [run_slice_l W 22 _ _ _ uS .i64 (i : Int) (by omega) (by omega), zSz W]
  show Result.ok (sliced _ ((i : Int)).toNat _ cap 5) W = _
  rw [Int.toNat_natCast]
  unfold sliced
  rw [if_neg (by omega)]
  show Result.ok (Value.slice (some ((⟨g, 0, none⟩ : Addr).add (i * 5))) _ _) W = _
  rw [Addr.add_lit, Nat.zero_add]
theorem from_any (W : World) (a : Option Addr) (n cap i : Nat) (hi : i ≤ n) : ∃ V, ∀ W, (Instr.slice 22 (.slice a n cap) (some (.int .i64 (i : Int))) none none).run Try.prog W = .ok V W :=
  ⟨_, fun W => by rw [run_slice_l W 22 _ _ _ uS .i64 (i : Int) (by omega) (by omega), zSz W]; rfl⟩
theorem upto_run (W : World) (g n cap i : Nat) (hi : i ≤ cap) : (Instr.slice 22 (.slice (some ⟨g, 0, none⟩) n cap) none (some (.int .i64 (i : Int))) none).run Try.prog W = .ok (.slice (some ⟨g, 0, none⟩) i cap) W := by
  rw [run_slice_h W 22 _ _ _ uS .i64 (i : Int) (by omega) (by omega), zSz W]
  show Result.ok (sliced _ 0 (i : Int).toNat cap 5) W = _
  rw [Int.toNat_natCast]
  unfold sliced
  simp [Addr.add]
/-- What Insert leaves. -/
def InsA (w : World) (base : Nat) (v : Value) (l : List Sp) (e : Ending) (w' : World) : Prop :=
  ∃ u : S3, e = .returned (.slice u.a u.n u.c) ∧ eS.Own w' base (.slice u.a u.n u.c) l ∧ w.grownBy w' v.ownBlock ∧ ((Value.slice u.a u.n u.c).ownBlock = v.ownBlock ∨ (Value.slice u.a u.n u.c).ownBlock = some w.heap.size)
set_option maxRecDepth 100000 in
set_option maxHeartbeats 1600000 in
/-- Behind the last one. -/
theorem insert_end (v : Value) (l : List Sp) (x : Sp) (w : World) (base vb : Nat) (hO : eS.Own w base v l) (hb : base ≤ w.heap.size) (hl : l.length ≤ 4096) (hx : ∀ j u, (sc x)[j]? = some u → w.cell? ⟨vb, j, none⟩ = some u) :
    Calls Try.prog 109 #[v, .int .i64 (l.length : Int), .slice (some ⟨vb, 0, none⟩) 1 1] w fun e w' => InsA w base v (l ++ [x]) e w' := by
  obtain ⟨ad, cp, hv⟩ := Elm.form hO
  subst hv
  obtain ⟨V, hV⟩ := from_any w ad l.length cp l.length (Nat.le_refl _)
  have X1 : eS.Rx w (.slice (some ⟨vb, 0, none⟩) 1 1) [x] := Elm.rx_one hx
  obtain ⟨N, hN⟩ : ∃ N, l.length = N := ⟨_, rfl⟩
  have NL : Hid (l.length = N) := hN
  rw [hN] at hO hl hV ⊢
  have HO : Hid (eS.Own w base (.slice ad N cp) l) := hO
  have HX : Hid (eS.Rx w (.slice (some ⟨vb, 0, none⟩) 1 1) [x]) := X1
  clear hx hO hN X1
  go_enter Try.func109, Try.ntmps109
  go_wp2_with (refine Elm.wpList_append (E := eS) rfl (.tmp 23) (.tmp 24) rfl base _ l rfl HO.out _ [x] rfl HX.out (by rw [NL.out]; simp; omega) (by rw [NL.out]; show (N + 1) * 56 ≤ _; omega) hb ?_; intro ad2 n2 c2 w2 hO2 hg2 hl2)
  go_ret
  exact ⟨⟨ad2, n2, c2⟩, rfl, hO2, hg2, hl2⟩
theorem step_copy {ops : Array Oper} {o : Oper} {a : Act} {w : World} {K : Act → World → Prop} {Q : Exit → Act → World → Prop} {E : Prop}
    (hg : o.guard = none) (d x : Operand) (dT sT : TypeId) (hop : o.op = Op.call { callee := Callee.builtin Builtin.copy, args := #[d, x], argTypes := #[dT, sT] })
    (v u : Value) (hd : a.eval d = v) (hx : a.eval x = u) {v' : Value} {w' : World} (hr : (Builtin.copy_ #[dT, sT] o.type #[v, u]).run Try.prog w = .ok v' w') (hK : K (a.put o.dst v') w') :
    if Region.wanted o (yielded ops a.tmps) = true then Oper.wp Try.prog o a w K Q else E := step_of hg (wp_copy_run w d x dT sT hop v u hd hx hr hK)
theorem szS : (Try.prog.info? 29).map (·.size) = some 5 := by kernel_rfl
set_option maxRecDepth 100000 in
set_option maxHeartbeats 1600000 in
/-- Ahead of others, where there is room. -/
theorem insert_shift (g cap : Nat) (l : List Sp) (i : Nat) (x : Sp) (w : World) (base vb : Nat) (CB : Array Value) (N : Nat) (hN : l.length = N) (hO : eS.Own w base (.slice (some ⟨g, 0, none⟩) N cap) l) (hb : base ≤ w.heap.size) (hi : i < N) (hl : N ≤ 4096) (hr : N + 1 ≤ cap) (hx : ∀ j u, (sc x)[j]? = some u → w.cell? ⟨vb, j, none⟩ = some u) (hne : vb ≠ g) (hvb : w.heap[vb]? = some (.cells CB 29)) :
    Calls Try.prog 109 #[.slice (some ⟨g, 0, none⟩) N cap, .int .i64 (i : Int), .slice (some ⟨vb, 0, none⟩) 1 1] w fun e w' => InsA w base (.slice (some ⟨g, 0, none⟩) N cap) (l.take i ++ x :: l.drop i) e w' := by
  have NL : Hid (l.length = N) := hN
  rcases id hO.2 with ⟨e, h0⟩ | ⟨g', cap', cur, e, hg, hh, h1, h2, h3, h4⟩
  · omega
  injection e with e1 e2 e3
  injection e1 with e1
  injection e1 with e1 _ _
  subst e1 e3
  replace h3 : cur.size = cap * 5 := h3
  have hmax : cap ≤ 9223372036854775807 := h2
  have cells : ∀ k, k < cap * 5 → (w.cell? ⟨g, k, none⟩).isSome = true ∧ w.frozen? ⟨g, k, none⟩ = false := fun k hk => by
    constructor
    · have hk' : k < cur.size := by rw [h3]; exact hk
      simp [World.cell?, hh, hk']
    · simp [World.frozen?, hh]
  have S0 := fun W => from_run W g N cap i (by omega) (by omega)
  have S1 : ∀ W, (Instr.slice 22 (.slice (some ⟨g, 0, none⟩) N cap) none (some (.int .i64 ((N : Int) + 1))) none).run Try.prog W = .ok (.slice (some ⟨g, 0, none⟩) (N + 1) cap) W := fun W => upto_run W g N cap (N + 1) (by omega)
  have S2 : ∀ W, (Instr.slice 22 (.slice (some ⟨g, 0, none⟩) (N + 1) cap) (some (.int .i64 ((i : Int) + 1))) none none).run Try.prog W = .ok (.slice (some ⟨g, (i + 1) * 5, none⟩) (N - i) (cap - (i + 1))) W := fun W => by
    have := from_run W g (N + 1) cap (i + 1) (by omega) (by omega)
    rwa [show N + 1 - (i + 1) = N - i by omega] at this
  have S3 := fun W => from_run W g (N + 1) cap i (by omega) (by omega)
  have hov : ∀ lb cb, (callFunc 111 #[.slice (some ⟨vb, 0, none⟩) 1 1, .slice (some ⟨g, (i + 1) * 5, none⟩) lb cb]).run Try.prog w = .ok (.value (.bool false)) w := fun lb cb => by
    have shA : w.shape? vb = some (29, CB.size) := by simp [World.shape?, hvb]
    have shB : w.shape? g = some (29, cur.size) := by simp [World.shape?, hh]; rfl
    rw [run_callFunc_extern Try.func111 (by kernel_rfl) (by kernel_rfl) (by kernel_rfl) (e := Extern.SlicesOverlaps.overlaps #[22, 22] #[4]) (by kernel_rfl),
      Lib.run_overlaps_apart w 22 4 29 Try.underlying22 5 (fun W => eS.so W) ⟨vb, 0, none⟩ ⟨g, (i + 1) * 5, none⟩ 1 1 lb cb hne _ _ _ _ shA shB (by omega) (by simp [World.frozen?, hvb]) (by simp [World.frozen?, hvb])]
    rfl
  obtain ⟨news, hn⟩ : ∃ news, news = eS.cells (l.drop i) := ⟨_, rfl⟩
  have hnl : news.length = (N - i) * 5 := by rw [hn, Elm.cells_len, List.length_drop, hN]; rfl
  have hnone : ∀ u ∈ news, u.oneCell' = true := by rw [hn]; exact eS.cells_one _
  have hcp1 : Hid (∀ ty dc scp, (Builtin.copy_ #[22, 22] ty #[.slice (some ⟨g, (i + 1) * 5, none⟩) (N - i) dc, .slice (some ⟨g, i * 5, none⟩) (N + 1 - i) scp]).run Try.prog w.drew = .ok (goInt (Nat.min (N + 1 - i) (N - i))) (w.drew.setCells g ((i + 1) * 5) news)) := fun ty dc scp =>
    run_copy_rows w.drew _ _ ty 29 g ((i + 1) * 5) (N - i) dc ⟨g, i * 5, none⟩ (N + 1 - i) scp 5 news Try.underlying22 szS (by rw [hnl]; congr 1; simp only [Nat.min_def]; split <;> omega)
      (fun j v hj => by
        rw [hn, Elm.cells_drop, List.getElem?_drop] at hj
        have := World.ownsRow.cells hO (g := g) rfl _ v hj
        rw [Addr.add_lit] at this ⊢
        rw [Nat.zero_add] at this
        exact this)
      (fun j hj => (cells _ (by omega)).1) (fun j hj => (cells _ (by omega)).2) hnone
  obtain ⟨cur1, hh1, hs1, hq1⟩ := heap_set g 29 (0, 0) news ((i + 1) * 5) cur w.drew hh (by rw [hnl, h3]; omega)
  obtain ⟨W1, hW1⟩ : ∃ W1, W1 = w.drew.setCells g ((i + 1) * 5) news := ⟨_, rfl⟩
  rw [← hW1] at hh1
  have g1 : w.grownBy W1 (some g) := by rw [hW1]; exact grown_more (World.grownBy.but (grown_drew (grown_refl w none)) _) (grown_setCells g news _ _) (fun _ e => .inl e)
  have hcp2 : Hid (∀ ty dc, (Builtin.copy_ #[22, 22] ty #[.slice (some ⟨g, i * 5, none⟩) (N + 1 - i) dc, .slice (some ⟨vb, 0, none⟩) 1 1]).run Try.prog W1 = .ok (goInt (Nat.min 1 (N + 1 - i))) (W1.setCells g (i * 5) (sc x))) := fun ty dc =>
    run_copy_rows W1 _ _ ty 29 g (i * 5) (N + 1 - i) dc ⟨vb, 0, none⟩ 1 1 5 (sc x) Try.underlying22 szS (by show 5 = min 1 (N + 1 - i) * 5; rw [Nat.min_eq_left (by omega)])
      (fun j v hj => by
        rw [Addr.add_lit, Nat.zero_add]
        exact g1.cell (hx j v hj) (by simp; exact hne))
      (fun j hj => by have : i * 5 + j < cur1.size := by rw [hs1, h3]; have : j < 5 := hj; omega
                      simp [World.cell?, hh1, this]) (fun j hj => by simp [World.frozen?, hh1]) (eS.one x)
  have HW1 : Hid (W1 = w.drew.setCells g ((i + 1) * 5) news) := hW1
  obtain ⟨cur2, hh2, hs2, hq2⟩ := heap_set g 29 (0, 0) (sc x) (i * 5) cur1 W1 hh1 (by rw [hs1, h3]; show _ + 5 ≤ _; omega)
  have FIN : Hid (InsA w base (.slice (some ⟨g, 0, none⟩) N cap) (l.take i ++ x :: l.drop i) (.returned (.slice (some ⟨g, 0, none⟩) (N + 1) cap)) (W1.setCells g (i * 5) (sc x))) := by
    have el : (l.take i ++ x :: l.drop i).length = N + 1 := by simp [hN]; omega
    refine ⟨⟨some ⟨g, 0, none⟩, N + 1, cap⟩, rfl, ?_, grown_more g1 (grown_setCells g _ _ _) (fun _ e => .inl e), .inl rfl⟩
    have := Elm.own_of (E := eS) (base := base) (l := l.take i ++ x :: l.drop i) hg hh2 (by rw [el]; exact hr) h2 (by rw [hs2, hs1, h3]; rfl) (fun t u hu => by
      rw [Elm.cells_ins l i (by omega)] at hu
      change (if t < i * 5 then _ else if t < (i + 1) * 5 then _ else _) = _ at hu
      rw [hq2 t]
      change (if i * 5 ≤ t ∧ t < i * 5 + 5 then _ else _) = _
      by_cases t1 : t < i * 5
      · rw [if_pos t1] at hu
        rw [if_neg (by omega), hq1 t, if_neg (by omega)]
        have hlt : t < N * 5 := by omega
        rw [← h4, List.getElem?_take_of_lt (by rw [hN]; exact hlt)] at hu
        simpa using hu
      · rw [if_neg t1] at hu
        by_cases t2 : t < (i + 1) * 5
        · rw [if_pos t2] at hu
          rw [if_pos (by omega)]
          exact hu
        · rw [if_neg t2] at hu
          have hlt : t - (i + 1) * 5 < news.length := by rw [hn]; exact (List.getElem?_eq_some_iff.1 hu).1
          rw [if_neg (by omega), hq1 t, if_pos (by omega), hn]
          exact hu)
    rwa [el] at this
  have hiN : (i : Int) < (N : Int) := by omega
  have dE : ((i : Int) == (N : Int)) = false := by simp; omega
  have hw1 : IntKind.i64.wrap ((i : Int) + 1) = (i : Int) + 1 := by rw [IntKind.wrap_i64]; omega
  have dR : decide ((cap : Int) < (N : Int) + 1) = false := decide_eq_false (by omega)
  clear hO hh h3 h4 hh1 hs1 hh2 hs2 hq1 hq2 hn cells h1 hx hvb hnl hnone hW1 g1 e2 hN hg h2
  go_enter Try.func109, Try.ntmps109
  go_wp2_with (simp only [hov])
  go_region_law (refine step_copy rfl (.tmp 73) (.tmp 76) 22 22 rfl _ _ (by simp [Act.eval, Act.put]; rfl) (by simp [Act.eval, Act.put]; rfl) (hcp1.out _ _ _) ?_; rw [← HW1.out])
  go_wp2_with (refine wpList_copy_run _ rfl _ _ 22 22 rfl _ _ rfl rfl (hcp2.out _ _) ?_)
  go_ret
  exact FIN.out
set_option maxRecDepth 100000 in
set_option maxHeartbeats 1600000 in
/-- Ahead of others, where there is no room. -/
theorem insert_grow (g cap : Nat) (l : List Sp) (i : Nat) (x : Sp) (w : World) (base vb : Nat) (N : Nat) (hN : l.length = N) (hO : eS.Own w base (.slice (some ⟨g, 0, none⟩) N cap) l) (hb : base ≤ w.heap.size) (hi : i < N) (hl : N ≤ 4096) (hr : cap < N + 1) (hx : ∀ j u, (sc x)[j]? = some u → w.cell? ⟨vb, j, none⟩ = some u) :
    Calls Try.prog 109 #[.slice (some ⟨g, 0, none⟩) N cap, .int .i64 (i : Int), .slice (some ⟨vb, 0, none⟩) 1 1] w fun e w' => InsA w base (.slice (some ⟨g, 0, none⟩) N cap) (l.take i ++ x :: l.drop i) e w' := by
  rcases id hO.2 with ⟨e, h0⟩ | ⟨g', cap', cur, e, hg, hh, h1, h2, h3, h4⟩
  · omega
  injection e with e1 e2 e3
  injection e1 with e1
  injection e1 with e1 _ _
  subst e1 e3
  rw [hN] at h1
  have hgs : g < w.heap.size := (Array.getElem?_eq_some_iff.1 hh).1
  have hvs : vb < w.heap.size := World.block_lt_of_cell? w ⟨vb, 0, none⟩ (hx 0 _ rfl)
  obtain ⟨ii, hi0, hz0, hz1, hz2⟩ := info_parts eS.hi
  have z1 : ii.size = 5 := hz1
  have z2 : ii.bytes = 56 := hz2
  obtain ⟨olds, hol⟩ : ∃ olds, olds = eS.cells (l.take i) := ⟨_, rfl⟩
  have holl : olds.length = i * 5 := by rw [hol, Elm.cells_len, List.length_take, hN, Nat.min_eq_left (by omega)]; rfl
  have hold : (Builtin.firstCells ii.size i (.slice (some ⟨g, 0, none⟩) i cap)).run Try.prog w.drew = .ok olds.toArray w.drew := by
    rw [z1]
    refine run_firstCells_some w.drew 5 i _ i cap olds holl (fun j v hj => ?_)
    rw [hol, Elm.cells_take] at hj
    have hjl : j < i * 5 := by rw [← holl, hol, Elm.cells_take]; exact (List.getElem?_eq_some_iff.1 hj).1
    rw [List.getElem?_take_of_lt (show j < i * eS.size from hjl)] at hj
    exact World.ownsRow.cells hO (g := g) rfl _ v hj
  obtain ⟨C2, hC2⟩ : ∃ C2, C2 = grownCap w (i + (N + 1 - i)) cap 29 := ⟨_, rfl⟩
  have hge : N + 1 ≤ C2 := by rw [hC2]; have := grownCap_ge w (i + (N + 1 - i)) cap 29; omega
  have hmx : C2 ≤ maxLen := by rw [hC2]; exact grownCap_le_maxLen w _ cap 29 (by unfold maxLen; omega)
  have hmx' : C2 ≤ 9223372036854775807 := hmx
  obtain ⟨D, hD⟩ : ∃ D, D = olds.toArray ++ Builtin.zeroCells (Value.cells eS.zero) (N + 1 - i) ++ Builtin.zeroCells (Value.cells eS.zero) (C2 - (i + (N + 1 - i))) := ⟨_, rfl⟩
  obtain ⟨W1, hW1⟩ : ∃ W1, W1 = w.drew.alloc (.cells D 29) := ⟨_, rfl⟩
  have hDs : D.size = C2 * 5 := by
    rw [hD, Array.size_append, Array.size_append, size_zeroCells, size_zeroCells]
    show olds.toArray.size + (N + 1 - i) * 5 + (C2 - (i + (N + 1 - i))) * 5 = _
    rw [List.size_toArray, holl]
    omega
  have AP : Hid (∀ ty, (Builtin.append_ #[22, 3] ty #[.slice (some ⟨g, 0, none⟩) i cap, .int .i64 ((N : Int) + 1 - (i : Int))]).run Try.prog w = .ok (.slice (some ⟨w.heap.size, 0, none⟩) (N + 1) C2) W1) := fun ty => by
    have := Lib.run_append_grow_zeros (P := Try.prog) w 22 3 ty 29 ii eS.zero .i64 .i64 Try.underlying22 Try.underlying3 hi0 hz0 (some ⟨g, 0, none⟩) i cap olds hold (N + 1 - i) (by omega) (by omega) (by omega) (by omega) (by rw [z2]; omega) (by rw [z2]; exact growslice_fits (by omega) (by omega))
    rw [← hC2, ← hD, ← hW1, show i + (N + 1 - i) = N + 1 by omega, show ((N + 1 - i : Nat) : Int) = (N : Int) + 1 - (i : Int) by omega] at this
    exact this
  obtain ⟨q, hq⟩ : ∃ q, q = w.heap.size := ⟨_, rfl⟩
  have hh1 : W1.heap[q]? = some (.cells D 29) := by rw [hW1, hq]; show (w.drew.heap.push _)[w.drew.heap.size]? = _; exact Array.getElem?_push_size
  have g1 : w.grownBy W1 none := by rw [hW1]; exact grown_alloc (grown_drew (grown_refl w none)) _
  have S0 := fun W => from_run W g N cap i (by omega) (by omega)
  have S1 := fun W => upto_run W g N cap i (by omega)
  have S2 := fun W => from_run W q (N + 1) C2 i (by omega) (by omega)
  have S3 : ∀ W, (Instr.slice 22 (.slice (some ⟨q, 0, none⟩) (N + 1) C2) (some (.int .i64 ((i : Int) + 1))) none none).run Try.prog W = .ok (.slice (some ⟨q, (i + 1) * 5, none⟩) (N - i) (C2 - (i + 1))) W := fun W => by
    have := from_run W q (N + 1) C2 (i + 1) (by omega) (by omega)
    rwa [show N + 1 - (i + 1) = N - i by omega] at this
  have hcp1 : Hid (∀ ty dc, (Builtin.copy_ #[22, 22] ty #[.slice (some ⟨q, i * 5, none⟩) (N + 1 - i) dc, .slice (some ⟨vb, 0, none⟩) 1 1]).run Try.prog W1 = .ok (goInt (Nat.min 1 (N + 1 - i))) (W1.setCells q (i * 5) (sc x))) := fun ty dc =>
    run_copy_rows W1 _ _ ty 29 q (i * 5) (N + 1 - i) dc ⟨vb, 0, none⟩ 1 1 5 (sc x) Try.underlying22 szS (by show 5 = min 1 (N + 1 - i) * 5; rw [Nat.min_eq_left (by omega)])
      (fun j v hj => by
        rw [Addr.add_lit, Nat.zero_add]
        exact g1.cell (hx j v hj) (by simp))
      (fun j hj => by have : i * 5 + j < D.size := by rw [hDs]; have : j < 5 := hj; omega
                      simp [World.cell?, hh1, this]) (fun j hj => by simp [World.frozen?, hh1]) (eS.one x)
  obtain ⟨cur1, hh2, hs1, hq1⟩ := heap_set q 29 (0, 0) (sc x) (i * 5) D W1 hh1 (by rw [hDs]; show _ + 5 ≤ _; omega)
  obtain ⟨W2, hW2⟩ : ∃ W2, W2 = W1.setCells q (i * 5) (sc x) := ⟨_, rfl⟩
  rw [← hW2] at hh2 hcp1
  have g2 : w.grownBy W2 none := by rw [hW2]; exact grown_more g1 (grown_setCells q _ _ _) (fun k e => .inr (by injection e with e; omega))
  obtain ⟨news, hn⟩ : ∃ news, news = eS.cells (l.drop i) := ⟨_, rfl⟩
  have hnl : news.length = (N - i) * 5 := by rw [hn, Elm.cells_len, List.length_drop, hN]; rfl
  have hcp2 : Hid (∀ ty dc scp, (Builtin.copy_ #[22, 22] ty #[.slice (some ⟨q, (i + 1) * 5, none⟩) (N - i) dc, .slice (some ⟨g, i * 5, none⟩) (N - i) scp]).run Try.prog W2.drew = .ok (goInt (Nat.min (N - i) (N - i))) (W2.drew.setCells q ((i + 1) * 5) news)) := fun ty dc scp =>
    run_copy_rows W2.drew _ _ ty 29 q ((i + 1) * 5) (N - i) dc ⟨g, i * 5, none⟩ (N - i) scp 5 news Try.underlying22 szS (by rw [hnl]; congr 1; exact (Nat.min_self _).symm)
      (fun j v hj => by
        rw [hn, Elm.cells_drop, List.getElem?_drop] at hj
        have := World.ownsRow.cells hO (g := g) rfl _ v hj
        rw [Addr.add_lit] at this ⊢
        rw [Nat.zero_add] at this
        exact g2.cell this (by simp))
      (fun j hj => by have : (i + 1) * 5 + j < cur1.size := by rw [hs1, hDs]; omega
                      have hh2' : W2.drew.heap[q]? = some (.cells cur1 29) := hh2
                      simp [World.cell?, hh2', this]) (fun j hj => by have hh2' : W2.drew.heap[q]? = some (.cells cur1 29) := hh2
                                                                      simp [World.frozen?, hh2']) (by rw [hn]; exact eS.cells_one _)
  obtain ⟨cur2, hh3, hs2, hq2⟩ := heap_set q 29 (0, 0) news ((i + 1) * 5) cur1 W2.drew hh2 (by rw [hs1, hDs, hnl]; omega)
  have FIN : Hid (InsA w base (.slice (some ⟨g, 0, none⟩) N cap) (l.take i ++ x :: l.drop i) (.returned (.slice (some ⟨q, 0, none⟩) (N + 1) C2)) (W2.drew.setCells q ((i + 1) * 5) news)) := by
    have el : (l.take i ++ x :: l.drop i).length = N + 1 := by simp [hN]; omega
    refine ⟨⟨some ⟨q, 0, none⟩, N + 1, C2⟩, rfl, ?_, World.grownBy.but (grown_more (grown_drew g2) (grown_setCells q _ _ _) (fun k e => .inr (by injection e with e; omega))) _, .inr (by rw [hq]; rfl)⟩
    have := Elm.own_of (E := eS) (base := base) (l := l.take i ++ x :: l.drop i) (show base ≤ q by omega) hh3 (by rw [el]; exact hge) hmx (by rw [hs2, hs1, hDs]; rfl) (fun t u hu => by
      rw [Elm.cells_ins l i (by omega)] at hu
      change (if t < i * 5 then _ else if t < (i + 1) * 5 then _ else _) = _ at hu
      rw [hq2 t]
      by_cases t1 : t < i * 5
      · rw [if_pos t1] at hu
        rw [if_neg (by omega), hq1 t]
        change (if i * 5 ≤ t ∧ t < i * 5 + 5 then _ else _) = _
        rw [if_neg (by omega), hD, Array.append_assoc, Array.getElem?_append_left (by rw [List.size_toArray, holl]; exact t1), List.getElem?_toArray, hol, Elm.cells_take, List.getElem?_take_of_lt (show t < i * eS.size from t1)]
        exact hu
      · rw [if_neg t1] at hu
        by_cases t2 : t < (i + 1) * 5
        · rw [if_pos t2] at hu
          rw [if_neg (by omega), hq1 t]
          change (if i * 5 ≤ t ∧ t < i * 5 + 5 then _ else _) = _
          rw [if_pos (by omega)]
          exact hu
        · rw [if_neg t2] at hu
          have hlt : t - (i + 1) * 5 < news.length := by rw [hn]; exact (List.getElem?_eq_some_iff.1 hu).1
          rw [if_pos (by omega), hn]
          exact hu)
    rwa [el] at this
  have HW2 : Hid (W2 = W1.setCells q (i * 5) (sc x)) := hW2
  have hiN : (i : Int) < (N : Int) := by omega
  have dE : ((i : Int) == (N : Int)) = false := by simp; omega
  have hw1 : IntKind.i64.wrap ((i : Int) + 1) = (i : Int) + 1 := by rw [IntKind.wrap_i64]; omega
  have dR : decide ((cap : Int) < (N : Int) + 1) = true := decide_eq_true (by omega)
  rw [← hq] at AP
  clear hO hh h3 h4 hh1 hh2 hh3 hs1 hs2 hq1 hq2 hn h1 hx hnl hW1 hW2 g1 g2 e2 hN hg h2 hold hol holl hC2 hD hDs hi0 hz0 hz1 hz2 z1 z2 hq hmx hgs hvs
  go_enter Try.func109, Try.ntmps109
  go_wp2_with (first
    | (refine Lib.wpList_append_run _ rfl _ _ _ _ rfl _ _ rfl rfl _ _ (AP.out _) ?_)
    | (refine wpList_copy_run _ rfl _ _ 22 22 rfl _ _ rfl rfl (hcp1.out _ _) ?_))
  go_region_law (refine step_copy rfl (.tmp 50) (.tmp 53) 22 22 rfl _ _ (by simp [Act.eval, Act.put]; rfl) (by simp [Act.eval, Act.put]; rfl) (hcp2.out _ _ _) ?_)
  go_wp2_with fail
  go_ret
  exact FIN.out
theorem insert_any (v : Value) (l : List Sp) (i : Nat) (x : Sp) (w : World) (base vb : Nat) (CB : Array Value) (hO : eS.Own w base v l) (hb : base ≤ w.heap.size) (hi : i ≤ l.length) (hl : l.length ≤ 4096) (hx : ∀ j u, (sc x)[j]? = some u → w.cell? ⟨vb, j, none⟩ = some u) (hne : ∀ k, v.ownBlock = some k → vb ≠ k) (hvb : w.heap[vb]? = some (.cells CB 29)) :
    Calls Try.prog 109 #[v, .int .i64 (i : Int), .slice (some ⟨vb, 0, none⟩) 1 1] w fun e w' => InsA w base v (l.take i ++ x :: l.drop i) e w' := by
  by_cases h : i < l.length
  · rcases id hO.2 with ⟨e, h0⟩ | ⟨g', cap', cur, e, _⟩
    · omega
    subst e
    by_cases hr : l.length + 1 ≤ cap'
    · exact insert_shift g' cap' l i x w base vb CB l.length rfl hO hb h hl hr hx (hne g' rfl) hvb
    · exact insert_grow g' cap' l i x w base vb l.length rfl hO hb h hl (by omega) hx
  · obtain rfl : i = l.length := by omega
    have := insert_end v l x w base vb hO hb hl hx
    rwa [List.take_of_length_le (Nat.le_refl _), List.drop_of_length_le (Nat.le_refl _)]
end Go.Proofs.Ytlolhdijadhklaa
