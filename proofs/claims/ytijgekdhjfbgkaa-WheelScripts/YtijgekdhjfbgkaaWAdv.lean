/- 'Advance'. -/
import Derived.Test.YtijgekdhjfbgkaaWAdvI
namespace Go.Proofs.Ytijgekdhjfbgkaa
open Go.RowKit Go.Sort Whl
set_option linter.unusedVariables false

set_option maxRecDepth 100000 in
set_option maxHeartbeats 800000 in
theorem adv_bad (b : Nat) (now to : Int) (h : to < now ∨ 226157759 < to) (w : World) (c0 : w.cell? ⟨b, 0, none⟩ = some (.int .i64 now)) :
    Calls Try.prog 14 #[.pointer (some ⟨b, 0, none⟩), .int .i64 to] w fun e w' => e = .returned (.tuple #[.slice none 0 0, .int .i64 30]) ∧ w' = w := by
  by_cases h1 : to < now
  · go_enter Try.func14, Try.ntmps14
    go_wp2
    go_ret2
    exact ⟨rfl, rfl⟩
  · have d1 : decide (to < now) = false := decide_eq_false h1
    have h2 : 226157759 < to := by omega
    clear h
    go_enter Try.func14, Try.ntmps14
    go_wp2
    go_ret2
    exact ⟨rfl, rfl⟩
theorem idx_row {w : World} {base : Nat} {ad : Option Addr} {n cc : Nat} {l : List Int} (h : w.ownsRow base 3 1 (.slice ad n cc) l.length (l.map (Value.int .i64))) {j : Nat} {x : Int} (hj : l[j]? = some x) :
    ∃ A : Addr, (∀ W, (Instr.indexAt 44 (.slice ad n cc) (.int .i64 (j : Int))).run Try.prog W = .ok (.pointer (some A)) W) ∧ ∀ W, World.ownsRow W base 3 1 (.slice ad n cc) l.length (l.map (Value.int .i64)) → W.cell? A = some (.int .i64 x) := by
  obtain ⟨hlt, hx⟩ := List.getElem?_eq_some_iff.1 hj
  rcases h.2 with ⟨e, h0⟩ | ⟨g, cap, cur, e, _⟩
  · omega
  · injection e with e1 e2 e3
    subst e1 e2 e3
    refine ⟨⟨g, j, none⟩, fun W => ?_, fun W hW => ?_⟩
    · rw [run_indexAt_slice (P := Try.prog) W 44 ⟨g, 0, none⟩ l.length cc .i64 (j : Int) (by kernel_rfl), if_pos ⟨by omega, by omega⟩, show Try.prog.elem 44 = 3 by kernel_rfl, Try.sizeOf3 W]
      show Result.ok (Value.pointer (some ((⟨g, 0, none⟩ : Addr).add ((j : Int).toNat * 1)))) W = _
      rw [Addr.add_lit]
      simp
    · rw [World.ownsRow.cellAt hW j (by omega)]
      simp [hlt, hx]
theorem owns_len {w : World} {base : Nat} {e : TypeId} {size : Nat} {ad : Option Addr} {m c n : Nat} {xs : List Value} (h : w.ownsRow base e size (.slice ad m c) n xs) : m = n := by
  rcases h.2 with ⟨e, h0⟩ | ⟨g, cap, cur, e, _⟩
  · injection e with _ e _; omega
  · injection e with _ e _

set_option maxRecDepth 100000 in
set_option maxHeartbeats 6400000 in
theorem adv_ok (b bm n m : Nat) (D : DataW Unit) (v : Nat → Value) (ls : Nat → List Int) (L aa : List It) (F : Nat → Prop) (h1 : n ≤ m) (h2 : m ≤ 226157759) (w : World) (hW : WhD w b n bm D v ls) (hF : Foot w b bm v F) (hT : Tells D L) (hH : Held n L ls) (hO : Ok n L) (hA : Upto n L ls (plc n m) aa) :
    Calls Try.prog 14 #[.pointer (some ⟨b, 0, none⟩), .int .i64 m] w fun e w' => ∃ ad m2 c D' v' ls', e = .returned (.tuple #[.slice ad m2 c, .int .i64 0]) ∧ WhD w' b m bm D' v' ls' ∧ Tells D' (restL m L) ∧ Held m (restL m L) ls' ∧ (∀ p, p < 193 → ∀ k, (v' p).ownBlock = some k → (F k ∨ w.heap.size ≤ k) ∧ (Value.slice ad m2 c).ownBlock ≠ some k) ∧ Chg F w w' ∧ w'.ownsRow w.heap.size 33 2 (.slice ad m2 c) (dueL m L).length (cells (dueL m L)) := by
  have PL := place_any n m (by omega) h2
  have hp := plc_lt n m
  have hlen := hO.len
  have hal := hA.len
  have TK := take_any b n bm D v ls (plc n m) hp (by rw [hA.cat]; omega) w hW
  rw [← hA.ids] at TK
  have c0 := hW.c0
  have d1 : decide ((m : Int) < n) = false := decide_eq_false (by omega)
  have d2 : decide (226157759 < (m : Int)) = false := decide_eq_false (by omega)
  have hb : b < w.heap.size := World.block_lt_of_cell? w _ hW.c0
  have hbm : bm < w.heap.size := hW.map.lt
  have ST : Hid (∀ w1 ad mm cc, w1.ownsRow w.heap.size 3 1 (.slice ad mm cc) (aa.map Prod.fst).length ((aa.map Prod.fst).map (Value.int .i64)) → WhD w1 b n bm D (cutv v (plc n m)) (cutl ls (plc n m)) → w.grownBy w1 (some b) → AdvI w b bm m L aa F (.slice ad mm cc) (w1.setCell ⟨b, 0, none⟩ (.int .i64 m)) 0 D (cutv v (plc n m)) (cutl ls (plc n m)) (.slice none 0 0)) := by
    intro w1 ad mm cc hr hw hg
    have gs := grown_set w1 ⟨b, 0, none⟩ (.int .i64 (m : Int))
    refine ⟨hw.now m, by rw [lf_zero]; exact hT, HeldJ.start hH hA hO (by omega) rfl, World.ownsRow_nil _ _ _ _, kept_ne hr gs (fun k hk e => by have := (hr.lt k hk).1; injection e with e; have e : b = k := e; omega), fun p hp' k hk => ?_, fun k hk e => (by cases e), (Chg.of hg fun k e => by injection e with e; rw [← e]; exact hF.fb).grown gs fun k e => .inl (by injection e with e; rw [← e]; exact hF.fb)⟩
    obtain ⟨_, hk⟩ := cutv_own hk
    refine ⟨.inl (hF.fv p hp' k hk), fun e => ?_, fun e => by cases e⟩
    have := (hr.lt k e).1
    have := hF.lt k (hF.fv p hp' k hk)
    omega
  have HA : Hid (Upto n L ls (plc n m) aa) := hA
  have HO : Hid (Ok n L) := hO
  have HF : Hid (F b ∧ F bm) := ⟨hF.fb, hF.fm⟩
  clear hW hF hT hH hA hO
  go_enter Try.func14, Try.ntmps14
  go_wp2_with (first
    | (go_at_call 21; (with_reducible refine (PL _).mono ?_); rintro e w0 ⟨rfl, e0⟩; have e1 := e0.symm; clear e0; subst e1)
    | (go_at_call 24; (with_reducible refine TK.mono ?_); rintro e w1 ⟨ad, mm, cc, rfl, hO1, hW1, hg1⟩; have c1 := hW1.c0; have f1 := hW1.fr 0; have hI := ST.out w1 ad mm cc hO1 hW1 hg1; have hmm := owns_len hO1; rw [List.length_map] at hmm; subst hmm; have r1 := hI.rsr; clear hW1 hO1))
  have HI : Hid (AdvI w b bm m L aa F (.slice ad aa.length cc) (w1.setCell ⟨b, 0, none⟩ (.int .i64 m)) 0 D (cutv v (plc n m)) (cutl ls (plc n m)) (.slice none 0 0)) := hI
  have RS : Hid ((w1.setCell ⟨b, 0, none⟩ (.int .i64 m)).ownsRow w.heap.size 3 1 (.slice ad aa.length cc) (aa.map Prod.fst).length ((aa.map Prod.fst).map (Value.int .i64))) := r1
  clear hI r1 c1 f1 TK PL c0 ST hg1
  generalize w1.setCell ⟨b, 0, none⟩ (.int .i64 m) = w2 at HI RS ⊢
  go_loopw [7, 37] (fun du i wr => ∃ (j : Nat) (ad2 : Option Addr) (m2 c2 : Nat) (D' : DataW Unit) (v' : Nat → Value) (ls' : Nat → List Int), j ≤ aa.length ∧ i = .int .i64 j ∧ du = .slice ad2 m2 c2 ∧ AdvI w b bm m L aa F (.slice ad aa.length cc) wr j D' v' ls' (.slice ad2 m2 c2)) (fun _ i _ => (5000 - intOf i).toNat)
  case atStart => exact ⟨0, _, _, _, _, _, _, by omega, rfl, rfl, HI.out⟩
  case round =>
    obtain ⟨j, ad2, m2, c2, D', v', ls', hj, rfl, rfl, hI⟩ := hrel
    by_cases hlt : j < aa.length
    · obtain ⟨a, haj⟩ : ∃ a, aa[j]? = some a := ⟨aa[j], List.getElem?_eq_getElem hlt⟩
      have haL := HA.out.sub a (List.mem_of_getElem? haj)
      have hlo := HO.out.lo a haL
      have hhi := HO.out.hi a haL
      have hid := HO.out.ids a haL
      obtain ⟨A, hix, hcA⟩ := idx_row RS.out (j := j) (x := a.1) (by rw [List.getElem?_map, haj]; rfl)
      have hcA := hcA wr hI.rsr
      have c1 := hI.wh.c1
      have hlk := look_at hI.wh.map hI.tl (lf_has haL (not_yet HA.out.nd haj)) hid
      obtain ⟨x, y⟩ := a
      obtain ⟨t, rfl⟩ : ∃ t : Nat, y = t := ⟨y.toNat, by omega⟩
      by_cases ht : (m : Int) < (t : Int)
      · have PT : ∀ o, Calls Try.prog 20 #[.pointer (some ⟨b, 0, none⟩), .agg #[.int .i64 x, .int .i64 t]] (wr.alloc o) fun e w' => e = .returned (.tuple #[]) ∧ ∃ v2 ls2, AdvI w b bm m L aa F (.slice ad aa.length cc) w' (j + 1) D' v2 ls2 (.slice ad2 m2 c2) := fun o => by
          refine (put_any b m bm D' v' ls' x t (by omega) (by have hhi : (t : Int) ≤ 226157759 := hhi; omega) (wr.alloc o) (hI.alloc o).wh (by have := hI.held.len (plc_lt m t); omega)).mono ?_
          rintro e w' ⟨rfl, v2, hW2, hv2, hC2⟩
          exact ⟨rfl, (hI.alloc o).late HF.out.1 hb HO.out.uni HA.out.nd haL haj ht hW2 hv2 hC2⟩
        have hs1 := hI.chg.size
        clear hI RS haj haL hid hlo hhi
        go_wp2_with (go_at_call 20; (with_reducible refine (PT _).mono ?_); rintro e w3 ⟨rfl, v2, ls2, hI3⟩)
        go_roundw
        case rel => exact ⟨j + 1, ad2, m2, c2, D', v2, ls2, by omega, by go_num, rfl, hI3⟩
        case measure => simp [intOf]; omega
      · have hdt : decide ((m : Int) < (t : Int)) = false := decide_eq_false ht
        have hm2 : Hid (∀ o, (wr.alloc o).ownsMap Try.prog 3 (plainElem Try.prog 2) bm (Maps.size D') D') := fun o => (hI.alloc o).wh.map
        have c1a : ∀ o, (wr.alloc o).cell? ⟨b, 1, none⟩ = some (.map (some bm)) := fun o => (hI.alloc o).wh.c1
        have hdl : (dueJ aa m j).length ≤ 100000 := by have := due_len (aa := aa) (to := m) (j := j); omega
        have hxk : Hid (keyOf Try.prog 3 (.int .i64 x) = some (.int .i64 x)) := key64 hid
        have hbmr : bm < wr.heap.size := hI.wh.map.lt
        have DU : Hid (∀ o w3, (wr.alloc o).grownBy w3 (some bm) → ∀ o2, (w3.alloc o2).ownsRow w.heap.size 33 2 (.slice ad2 m2 c2) (dueJ aa m j).length (cells (dueJ aa m j))) := fun o w3 g o2 => (kept_ne (hI.alloc o).due g fun k hk e => by have := (hI.due.lt k hk).1; injection e with e; omega).alloc o2
        have SN : Hid (∀ o w3 o2 w4 ad4 m4 c4, w3.ownsMap Try.prog 3 (plainElem Try.prog 2) bm (Maps.size D') (D'.del (.int .i64 x)) → (wr.alloc o).grownBy w3 (some bm) → w4.ownsRow w.heap.size 33 2 (.slice ad4 m4 c4) (dueJ aa m j ++ [(x, (t : Int))]).length (cells (dueJ aa m j ++ [(x, (t : Int))])) → (w3.alloc o2).grownBy w4 (Value.slice ad2 m2 c2).ownBlock → ((Value.slice ad4 m4 c4).ownBlock = (Value.slice ad2 m2 c2).ownBlock ∨ (Value.slice ad4 m4 c4).ownBlock = some (w3.alloc o2).heap.size) → AdvI w b bm m L aa F (.slice ad aa.length cc) w4 (j + 1) (D'.del (.int .i64 x)) v' ls' (.slice ad4 m4 c4)) :=
          fun o w3 o2 w4 ad4 m4 c4 hM hg hO4 hg4 hl4 => (hI.alloc o).soon HF.out.2 hb hbm HO.out.uni (srt_nodup HO.out.srt) HA.out.nd haL haj ht hM hg hO4 hg4 hl4
        have hs1 : Hid (w.heap.size ≤ wr.heap.size) := hI.chg.size
        clear hI RS haj haL hid hlo hhi
        go_wp2_with (first
          | (at_delete; refine wpList_delete_own _ rfl _ _ 51 3 rfl 2 mapLaw Try.underlying51 _ bm (Maps.size D') D' rfl (hm2.out _) _ _ rfl hxk.out ?_; intro w3 hM3 ht3; have g3 := ht3.grown; have x0 := g3.cell (a := ⟨wr.heap.size, 0, none⟩) (new_at wr rfl rfl) (fun e => by injection e with e; have e : wr.heap.size = bm := e; omega); have x1 := g3.cell (a := ⟨wr.heap.size, 1, none⟩) (new_at wr rfl rfl) (fun e => by injection e with e; have e : wr.heap.size = bm := e; omega); have D2 := DU.out _ _ g3; have hs3 := g3.size; clear ht3)
          | (refine wpList_append_item rfl (.tmp 61) (.tmp 63) rfl w.heap.size _ (dueJ aa m j) rfl (D2 _) _ (x, (t : Int)) rfl (new_at w3 rfl rfl) (new_at w3 rfl rfl) hdl (by have := hs1.out; simp at hs3 ⊢; omega) ?_; intro ad4 m4 c4 w4 hO4 hg4 hl4))
        go_roundw
        case rel => exact ⟨j + 1, ad4, m4, c4, _, v', ls', by omega, by go_num, rfl, SN.out _ _ _ _ _ _ _ hM3 g3 hO4 hg4 hl4⟩
        case measure => simp [intOf]; omega
    · have e : j = aa.length := by omega
      have hd : decide ((j : Int) < aa.length) = false := decide_eq_false (by omega)
      have OD := order_any w.heap.size (.slice ad2 m2 c2) (dueJ aa m j) wr (by have := due_len (aa := aa) (to := m) (j := j); omega) hI.due
      rw [due_end HA.out HO.out (by omega) rfl (by omega)] at OD
      have el : (dueJ aa m j).length = (dueL m L).length := by rw [← srtL_len, due_end HA.out HO.out (by omega) rfl (by omega)]
      rw [el] at OD
      have hI' : Hid (AdvI w b bm m L aa F (.slice ad aa.length cc) wr j D' v' ls' (.slice ad2 m2 c2)) := hI
      clear hI RS
      go_wp2_with (go_at_call 25; (with_reducible refine OD.mono ?_); rintro e w3 ⟨rfl, hO3, hg3⟩)
      go_ret2
      have hI := hI'.out
      have hdu : ∀ k, (Value.slice ad2 m2 c2).ownBlock = some k → w.heap.size ≤ k := fun k hk => (hI.due.lt k hk).1
      refine ⟨ad2, m2, c2, D', v', ls', rfl, hI.wh.kept (F := fun k => (Value.slice ad2 m2 c2).ownBlock = some k) (Chg.of hg3 fun _ e => e) (fun c => ?_) (fun c => ?_) (fun p hp k hk => (hI.fv p hp k hk).2.2), ?_, hI.held.done (by omega), fun p hp k hk => ⟨(hI.fv p hp k hk).1, (hI.fv p hp k hk).2.2⟩, hI.chg.grown hg3 fun k e => .inr (hdu k e), hO3⟩
      · have := hdu b c; omega
      · have := hdu bm c; omega
      · have := hI.tl
        rw [lf_end HA.out HO.out (by omega) rfl (by omega)] at this
        exact this
theorem advance_ok (b : Nat) (now to : Int) (L : List It) (F : Nat → Prop) (h1 : now ≤ to) (h2 : to ≤ 226157759) (w : World) (h : Wh w b now L F) :
    Calls Try.prog 14 #[.pointer (some ⟨b, 0, none⟩), .int .i64 to] w fun e w' => ∃ ad m c, e = .returned (.tuple #[.slice ad m c, .int .i64 0]) ∧ w'.ownsRow w.heap.size 33 2 (.slice ad m c) (dueL to L).length (cells (dueL to L)) ∧ ∃ F', Wh w' b to (restL to L) F' ∧ (∀ k, F' k → F k ∨ w.heap.size ≤ k) ∧ (∀ k, (Value.slice ad m c).ownBlock = some k → ¬ F' k) ∧ Chg F w w' := by
  obtain ⟨bm, D, v, ls, hW, hF, hT, hH, hO⟩ := h
  have n0 := hO.n0
  obtain ⟨n, rfl⟩ : ∃ n : Nat, now = n := ⟨now.toNat, by omega⟩
  obtain ⟨m, rfl⟩ : ∃ m : Nat, to = m := ⟨to.toNat, by omega⟩
  obtain ⟨aa, hA⟩ := hH.upto hO.uni (plc_lt n m)
  refine (adv_ok b bm n m D v ls L aa F (by omega) (by omega) w hW hF hT hH hO hA).mono ?_
  rintro e w' ⟨ad, m2, c, D', v', ls', rfl, hW', hT', hH', hv', hC, hO'⟩
  have hb : b < w.heap.size := World.block_lt_of_cell? w _ hW.c0
  have hbm : bm < w.heap.size := hW.map.lt
  refine ⟨ad, m2, c, rfl, hO', fun k => k = b ∨ k = bm ∨ ∃ p, p < 193 ∧ (v' p).ownBlock = some k, ⟨bm, D', v', ls', hW', ⟨.inl rfl, .inr (.inl rfl), fun p hp k hk => .inr (.inr ⟨p, hp, hk⟩), fun k hk => ?_⟩, hT', hH', hO.adv (by omega) (by omega)⟩, fun k hk => ?_, fun k hk c' => ?_, hC⟩
  · rcases hk with rfl | rfl | ⟨p, hp, hk⟩
    · exact World.block_lt_of_cell? w' _ hW'.c0
    · exact hW'.map.lt
    · exact ((hW'.row p hp).lt k hk).2
  · rcases hk with rfl | rfl | ⟨p, hp, hk⟩
    · exact .inl hF.fb
    · exact .inl hF.fm
    · exact (hv' p hp k hk).1
  · have := (hO'.lt k hk).1
    rcases c' with rfl | rfl | ⟨p, hp, c'⟩
    · omega
    · omega
    · exact (hv' p hp k c').2 hk
theorem advance_bad (b : Nat) (now to : Int) (L : List It) (F : Nat → Prop) (h0 : to < now ∨ 226157759 < to) (w : World) (h : Wh w b now L F) :
    Calls Try.prog 14 #[.pointer (some ⟨b, 0, none⟩), .int .i64 to] w fun e w' => e = .returned (.tuple #[.slice none 0 0, .int .i64 30]) ∧ w' = w := by
  obtain ⟨bm, D, v, ls, hW, _⟩ := h
  exact adv_bad b now to h0 w hW.c0
end Go.Proofs.Ytijgekdhjfbgkaa
