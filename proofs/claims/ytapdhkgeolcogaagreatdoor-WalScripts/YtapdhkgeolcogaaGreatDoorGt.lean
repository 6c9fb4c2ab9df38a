/- 'slices.Backward' over numbers: what comes, and what a round must keep. Which file is the log's; the others go. A log opened. The plain mathematics of a log on a disk: what laying, appending, syncing, crashing and opening make of it. The plain mathematics of opening: a crashed log, a log once more, any disk, a new one. Two lists of records compared. The plain mathematics of the statements' first look. -/
import Derived.Test.YtapdhkgeolcogaaGreatDoorGs
import Derived.RangeFuncNested
import Derived.RangeFuncBound
import Derived.RangeFuncCalls
import Derived.RangeFuncLeaves
import Derived.Shelf.Abstract
import Derived.Shelf.RegionOpen
import Derived.OwnWalkIn
import Derived.TacticsInMore
import Derived.LoopNIn
import Derived.LoopIn
import Derived.Deep.QuietTactic
import Derived.BigQuiet
namespace Go.Proofs.YtapdhkgeolcogaaGreatDoor
open Go.RowKit Go.Shelf Dsk Lg
set_option linter.unusedVariables false
attribute [local go_sem] Oper.semAt_some

/-- A log's number. -/
abbrev NN := { n : Nat // 1 ≤ n ∧ n ≤ 999999999 }
/-- What a round gets: a place and a number. -/
abbrev Pl := Int × NN
def enP (x : Pl) : Array Value := #[.int .i64 x.1, .int .i64 (x.2.1 : Int)]
/-- A round keeps the slice and its box. -/
def Kp2 (p q : Nat) (A B : World) : Prop := B.heap[p]? = A.heap[p]? ∧ B.heap[q]? = A.heap[q]?
theorem kp2_t {p q : Nat} {A B C : World} (h : Kp2 p q A B) (k : Kp2 p q B C) : Kp2 p q A C := ⟨k.1.trans h.1, k.2.trans h.2⟩
theorem kp2_b {p q : Nat} {w : World} (hp : p < w.heap.size) (hq : q < w.heap.size) (W : World) (l : Nat) (o o' : Obj) (hl : w.heap.size ≤ l) (h : W.heap[l]? = some o) (_ : o.isCells = false) (_ : o.isWalk = false) : Kp2 p q W (W.putObj l o') :=
  ⟨World.putObj_heap_other (by omega), World.putObj_heap_other (by omega)⟩
/-- What has come behind k rounds. -/
def cameB (zs : List NN) (k : Nat) : List Pl := (zs.reverse.take k).mapIdx fun j z => (((zs.length - 1 - j : Nat) : Int), z)
theorem cameB_len (zs : List NN) {k : Nat} (h : k ≤ zs.length) : (cameB zs k).length = k := by simp [cameB]; omega
theorem cameB_snd (zs : List NN) (k : Nat) : (cameB zs k).map (·.2) = zs.reverse.take k := by
  unfold cameB
  apply List.ext_getElem?
  intro i
  rw [List.getElem?_map, List.getElem?_mapIdx, Option.map_map]
  cases (zs.reverse.take k)[i]? <;> rfl
theorem cameB_succ (zs : List NN) {k : Nat} {z : NN} (h : zs.reverse[k]? = some z) : cameB zs (k + 1) = cameB zs k ++ [(((zs.length - 1 - k : Nat) : Int), z)] := by
  unfold cameB
  have hk : k < zs.reverse.length := (List.getElem?_eq_some_iff.1 h).1
  rw [List.take_add_one, h, Option.toList_some, List.mapIdx_append]
  congr 1
  simp at hk
  simp
  omega
set_option maxRecDepth 100000 in
set_option maxHeartbeats 2000000 in
theorem back1_in (F : Fence) (n : Nat) (h69 : F.fn 69) (hro : F.round = none) (hn : 1 ≤ n) (l Bs g cap : Nat) (zs : List NN) (hreach : zs.length ≤ 1000) (J Jx : List Pl → World → Prop)
    (hY : ∀ pre x W, J pre W → pre.length < zs.length → YieldAt F (n - 1) Tryz.prog l (enP x) W fun e W' =>
      (e = .returned (.bool true) ∧ J (pre ++ [x]) W' ∧ Kp2 Bs g W W') ∨ (e = .returned (.bool false) ∧ Jx (pre ++ [x]) W'))
    (W : World) (hBs : W.cell? ⟨Bs, 0, none⟩ = some (.slice (some ⟨g, 0, none⟩) zs.length cap)) (hc : ∀ j z, zs[j]? = some z → W.cell? ⟨g, j, none⟩ = some (.int .i64 (z.1 : Int))) (h0 : J [] W) :
    CallsIn F n Tryz.prog 69 #[.func (.yield l) #[] #[], .pointer (some ⟨Bs, 0, none⟩)] W fun e W' => (∃ v, e = .returned v) ∧
      ((∃ ys : List Pl, ys.map (·.2) = zs.reverse ∧ J ys W') ∨ (∃ pre : List Pl, True ∧ Jx pre W')) := by
  refine callsIn_of_wp Tryz.func69 rfl h69 ?_ hro
  simp only [Tryz.ntmps69, List.size_toArray, List.length_cons, List.length_nil, Nat.reduceAdd, Nat.reduceSub, Array.replicate_succ, Array.replicate_zero, List.push_toArray, List.append_toArray, List.nil_append, List.cons_append]
  have hrl : (zs.length : Int) ≤ 1000 := by omega
  gi_wp2
  gi_loopw [3] (fun i wr => ∃ k : Nat, k ≤ zs.length ∧ i = .int .i64 ((zs.length : Int) - 1 - k) ∧ J (cameB zs k) wr ∧ Kp2 Bs g W wr)
    (fun i _ => ((intOf i) + 1).toNat)
  case atStart => exact ⟨0, Nat.zero_le _, by simp, h0, rfl, rfl⟩
  case round =>
    obtain ⟨k, hk, rfl, hJs, hkp⟩ := hrel
    have hBs2 : wr.cell? ⟨Bs, 0, none⟩ = some (.slice (some ⟨g, 0, none⟩) zs.length cap) := (World.cell?_of_block hkp.1).trans hBs
    by_cases hlt : k < zs.length
    · obtain ⟨z, hz⟩ : ∃ z, zs[zs.length - 1 - k]? = some z := ⟨_, List.getElem?_eq_getElem (by omega)⟩
      have hzr : zs.reverse[k]? = some z := by rw [List.getElem?_reverse hlt]; exact hz
      have hcx : wr.cell? ⟨g, zs.length - 1 - k, none⟩ = some (.int .i64 (z.1 : Int)) := (World.cell?_of_block hkp.2).trans (hc _ _ hz)
      obtain ⟨fn, tmps, assign, body, hy, hR⟩ := hY _ (((zs.length - 1 - k : Nat) : Int), z) wr hJs (by rw [cameB_len zs (by omega)]; exact hlt)
      unfold enP at hy
      dsimp only at hy
      have hi : ((zs.length - 1 - k : Nat) : Int) = (zs.length : Int) - 1 - k := by omega
      rw [← hi]
      have HZ : Hid (zs.reverse[k]? = some z) := hzr
      have hil : ((zs.length - 1 - k : Nat) : Int) < (zs.length : Int) := by omega
      have HI : Hid (((zs.length - 1 - k : Nat) : Int) = (zs.length : Int) - 1 - k) := hi
      have HC : Hid (cameB zs (k + 1) = cameB zs k ++ [(((zs.length - 1 - k : Nat) : Int), z)]) := cameB_succ zs hzr
      generalize zs.length - 1 - k = i at *
      clear hz hzr hi hc
      gi_wp2
      refine hR.mono ?_
      rintro e W3 (⟨rfl, hJ3, hk3⟩ | ⟨rfl, hJx3⟩)
      · gi_wp2
        go_roundw
        case rel => exact ⟨k + 1, by omega, by have := HI.out; congr 1 <;> omega, by rw [HC.out]; exact hJ3, kp2_t hkp hk3⟩
        case measure => simp [intOf]
      · gi_wp2
        refine bodyPost_ret (results_none rfl _ _ _) rfl ?_
        exact ⟨⟨_, rfl⟩, .inr ⟨_, trivial, hJx3⟩⟩
    · obtain rfl : k = zs.length := by omega
      have hneg : (zs.length : Int) - 1 - (zs.length : Int) = -1 := by omega
      rw [hneg]
      gi_wp2
      go_end0
      refine ⟨⟨_, rfl⟩, .inl ⟨_, ?_, hJs⟩⟩
      rw [cameB_snd, List.take_of_length_le (by simp)]
set_option maxRecDepth 100000 in
set_option maxHeartbeats 1000000 in
theorem back1_nil (F : Fence) (n : Nat) (h69 : F.fn 69) (hro : F.round = none) (l Bs : Nat) (J : List Pl → World → Prop) (W : World) (hBs : W.cell? ⟨Bs, 0, none⟩ = some (.slice none 0 0)) (h0 : J [] W) :
    CallsIn F n Tryz.prog 69 #[.func (.yield l) #[] #[], .pointer (some ⟨Bs, 0, none⟩)] W fun e W' => (∃ v, e = .returned v) ∧ J [] W' := by
  refine callsIn_of_wp Tryz.func69 rfl h69 ?_ hro
  simp only [Tryz.ntmps69, List.size_toArray, List.length_cons, List.length_nil, Nat.reduceAdd, Nat.reduceSub, Array.replicate_succ, Array.replicate_zero, List.push_toArray, List.append_toArray, List.nil_append, List.cons_append]
  gi_wp2
  gi_loopw [3] (fun i wr => i = .int .i64 (-1) ∧ J [] wr) (fun _ _ => 0)
  case atStart => exact ⟨by simp, h0⟩
  case round =>
    obtain ⟨rfl, hJs⟩ := hrel
    gi_wp2
    go_end0
    exact ⟨⟨_, rfl⟩, hJs⟩
set_option maxHeartbeats 1000000 in
theorem backward_in (F : Fence) (n : Nat) (h54 : F.fn 54) (hro : F.round = none) (a : Option Addr) (len cap : Nat) (w : World) :
    CallsIn F n Tryz.prog 54 #[.slice a len cap] w fun e w' => e = .returned (.func (.func 69) #[] #[.pointer (some ⟨w.heap.size, 0, none⟩)]) ∧ w' = w.alloc (.cells #[.slice a len cap] 100) := by
  refine callsIn_of_wp Tryz.func54 rfl h54 ?_ hro
  simp only [Tryz.ntmps54, List.size_toArray, List.length_cons, List.length_nil, Nat.reduceAdd, Nat.reduceSub, Array.replicate_succ, Array.replicate_zero, List.push_toArray, List.append_toArray, List.nil_append, List.cons_append]
  gi_wp2
  go_ret
  exact ⟨rfl, rfl⟩
/-- The numbers in memory: a row of its own. -/
def Rows (w : World) (base : Nat) (v : Value) (zs : List NN) : Prop := eI.Own w base v (zs.map fun z => (z.1 : Int))
/-- Where a row of numbers lies (any block, if there is none). -/
def rowAt (d : Nat) (v : Value) : Nat := match v.ownBlock with | some g => g | none => d
theorem back_stops (F : Fence) (n : Nat) (h69 : F.fn 69) (hro : F.round = none) (hn : 1 ≤ n) (Bs base : Nat) (v : Value) (zs : List NN) (hreach : zs.length ≤ 1000) (w : World) (hBs : Bs < w.heap.size) (hc : w.cell? ⟨Bs, 0, none⟩ = some v) (hO : Rows w base v zs) :
    SeqStopsK F n Tryz.prog 69 #[.pointer (some ⟨Bs, 0, none⟩)] enP (Kp2 Bs (rowAt Bs v)) (fun ys => ys.map (·.2) = zs.reverse) (fun _ => True) zs.length w := fun l J Jx W hW _ _ hY h0 => by
  have hc' := (hW.cell (p := ⟨Bs, 0, none⟩) hBs).trans hc
  have hlen : (zs.map fun z => (z.1 : Int)).length = zs.length := List.length_map _
  have hO2 := hO
  rcases hO.2 with ⟨e, h00⟩ | ⟨g, cap, cur, e, hg, hh, r⟩
  · have : zs = [] := by rw [hlen] at h00; exact List.eq_nil_of_length_eq_zero h00
    subst this
    rw [e] at hc'
    exact (back1_nil F n h69 hro l Bs J W hc' h0).mono fun e W' ⟨he, hj⟩ => ⟨he, .inl ⟨_, rfl, hj⟩⟩
  · rw [e, hlen] at hc'
    have hrow : rowAt Bs v = g := by rw [e]; rfl
    rw [hrow] at hY
    have hgl : g < w.heap.size := (Array.getElem?_eq_some_iff.1 hh).1
    refine back1_in F n h69 hro hn l Bs g cap zs hreach J Jx hY W hc' (fun j z hz => ?_) h0
    have hz2 : (zs.map fun z => (z.1 : Int))[j]? = some (z.1 : Int) := by rw [List.getElem?_map, hz]; rfl
    obtain ⟨g', c', e', hcell, _⟩ := Elm.Own.at_ hO2 hz2
    rw [e] at e'
    injection e' with e1 e2 e3
    injection e1 with e1
    injection e1 with e1
    subst e1
    have := hcell 0 _ rfl
    have es : eI.size = 1 := rfl
    rw [es, Nat.mul_one, Nat.add_zero] at this
    exact (hW.cell (p := ⟨g, j, none⟩) hgl).trans this
end Go.Proofs.YtapdhkgeolcogaaGreatDoor
namespace Go.Proofs.YtapdhkgeolcogaaGreatDoor
open Go.RowKit Go.Shelf Dsk Lg
set_option linter.unusedVariables false
attribute [local go_sem] Oper.semAt_some

namespace Lg
/-- Where the choice stands. -/
structure Ch where
  s : St
  file : By
  num : Nat
  ls : List By
  left : Nat
def stepC (c : Ch) (n : Nat) : Ch :=
  if c.file = [] then
    match rdF (rdB c.s.l (nm n)) with
    | some (ls, r) => ⟨c.s, nm n, max c.num n, ls, r⟩
    | none => ⟨remS c.s (nm n), c.file, max c.num n, c.ls, c.left⟩
  else ⟨remS c.s (nm n), c.file, max c.num n, c.ls, c.left⟩
def startC (s : St) : Ch := ⟨s, [], 0, [], 0⟩
def natsS (L : Ds) : List Nat := (numsS L).map Int.toNat
def chooseC (s : St) : Ch := (natsS s.l).reverse.foldl stepC (startC s)
end Lg
/-- The disk's numbers are numbers of logs. -/
theorem nums_nn (L : Ds) : ∃ zs : List NN, numsS L = zs.map (fun z => (z.1 : Int)) ∧ natsS L = zs.map (·.1) := by
  have h : ∀ x ∈ numsS L, ∃ n : NN, x = (n.1 : Int) := by
    intro x hx
    have hx2 := (List.mergeSort_perm _ _).mem_iff.1 hx
    unfold numsOf at hx2
    obtain ⟨s, _, hs⟩ := List.mem_filterMap.1 hx2
    cases hn : nOf s with
    | none => rw [hn] at hs; cases hs
    | some n =>
      rw [hn] at hs
      simp at hs
      obtain ⟨h1, h2, _⟩ := nOf_some hn
      exact ⟨⟨n, h1, h2⟩, hs.symm⟩
  unfold natsS
  generalize numsS L = l at h ⊢
  induction l with
  | nil => exact ⟨[], rfl, rfl⟩
  | cons a l ih =>
    obtain ⟨n, hn⟩ := h a (by simp)
    obtain ⟨zs, h1, h2⟩ := ih fun x hx => h x (by simp [hx])
    exact ⟨n :: zs, by rw [List.map_cons, ← h1, hn], by rw [List.map_cons, List.map_cons, ← h2, hn]; simp⟩
/-- Remove, and which blocks are left. -/
theorem remove_sub (b : Nat) (s : St) (F : Nat → Prop) (nm : By) (hn : nm.length ≤ 1000) (w : World) (h : Dk w b s F) :
    Calls Tryz.prog 41 #[.pointer (some ⟨b, 0, none⟩), .string ⟨nm.toArray⟩] w fun e w' => e = .returned (.int .i64 (hasE s.l nm)) ∧ ∃ F', Dk w' b (remS s nm) F' ∧ (∀ k, F' k → F k) ∧ Chg F w w' := by
  have hs : (⟨nm.toArray⟩ : ByteArray).size ≤ 140737488351232 := by simp [ByteArray.size]; omega
  obtain ⟨bm, M, c, G, h1, h2, h3, h4⟩ := id h
  have hh : has s.l nm = M.any fun p => p.1 == nm := by rw [h2, lay_has]
  have hl : (remS s nm).l = lay (M.filter fun p => p.1 != nm) c := by
    unfold remS lay
    rw [h2]
    unfold lay
    rw [List.filter_map]
    rfl
  cases ha : M.any fun p => p.1 == nm with
  | true =>
    obtain ⟨f, hf⟩ := any_nm.1 ha
    refine (remove_run b bm f ⟨nm.toArray⟩ hs M w (find_yes h1 hs hf) h1.c0 h1.map hf).mono ?_
    rintro e w' ⟨rfl, hm, hg⟩
    have C : Chg (fun k => k = bm) w w' := Chg.of hg fun k hk => by injection hk with hk; exact hk.symm
    have sub : ∀ p ∈ (M.filter fun p => p.1 != nm), p ∈ M := fun p hp => (List.mem_filter.1 hp).1
    have hb : b < w.heap.size := World.block_lt_of_cell? w _ h1.c0
    refine ⟨by unfold hasE; rw [hh, ha]; rfl, Foot b bm (M.filter fun p => p.1 != nm) G, ⟨bm, _, c, G, ⟨C.cell h1.c0 h1.bb, C.cell h1.c1 h1.bb, fun i => (C.frozen (a := ⟨b, i, none⟩) hb h1.bb).trans (h1.fr i), hm, fun p hp => (h1.fil p (sub p hp)).kept C fun k hk e => (h1.base p (sub p hp) k hk).2 e, fun p hp q hq => h1.inj p (sub p hp) q (sub q hq), fun p hp q hq => h1.apart p (sub p hp) q (sub q hq), fun p hp => h1.base p (sub p hp), h1.bb⟩, hl, ok_rem h3 _, fun _ => Iff.rfl⟩, fun k hk => (h4 k).2 ?_, C.wide fun k hk => (h4 k).2 (.inr (.inl hk))⟩
    rcases hk with e | e | ⟨p, hp, e⟩
    · exact .inl e
    · exact .inr (.inl e)
    · exact .inr (.inr ⟨p, sub p hp, e⟩)
  | false =>
    refine (remove_not b ⟨nm.toArray⟩ w (find_no h1 hs ha)).mono ?_
    rintro e w' ⟨rfl, rfl⟩
    have e1 : remS s nm = s := by
      unfold remS
      rw [List.filter_eq_self.2]
      intro p hp
      have := has_not (show has s.l nm = false by rw [hh, ha]) p hp
      simpa using this
    exact ⟨by unfold hasE; rw [hh, ha]; rfl, F, by rw [e1]; exact h, fun k hk => hk, Chg.refl _ _⟩

/-- What a choice under way has in memory: the boxes B0 .. B0 + 2, the log, what was read. -/
structure ChD (W w W1 : World) (b wb B0 : Nat) (F F' : Nat → Prop) (v : Value) (c : Ch) : Prop where
  wl : Wl W W1 b wb c.s F' c.file (c.num : Int) 0
  sub : ∀ k, F' k → F k
  b0 : Boxed W1 B0 31 (.pointer (some ⟨wb, 0, none⟩))
  b1 : Boxed W1 (B0 + 1) 32 v
  b2 : Boxed W1 (B0 + 2) 3 (.int .i64 (c.left : Int))
  ro : Ro W1 (B0 + 3) v c.ls (fun k => B0 + 3 ≤ k)
  chg : Chg (fun k => F k ∨ k = wb) w W1
def ChI (W w W1 : World) (b wb B0 : Nat) (F : Nat → Prop) (c : Ch) : Prop := ∃ F' v, ChD W w W1 b wb B0 F F' v c
theorem Rx.all {α : Type} {E : Elm α} {W W' : World} {v : Value} {l : List α} (h : E.Rx W v l) (ha : ∀ a x, W.cell? a = some x → W'.cell? a = some x) : E.Rx W' v l := by
  rcases h with h | ⟨a, c, e, hs, h1⟩
  · exact .inl h
  · exact .inr ⟨a, c, e, hs, fun t x hx => ha _ _ (h1 t x hx)⟩
/-- It abides the turn of a block that holds no cells and lies beyond. -/
theorem ChI.own {W w : World} {b wb B0 B : Nat} {F : Nat → Prop} {β : Type} (f : β → Ch) (hF : ∀ k, F k → k < B) (hW : W.heap.size ≤ B) (hw : w.heap.size ≤ B) : OwnFrom B (fun (x : β) W1 => ChI W w W1 b wb B0 F (f x)) := by
  rintro x X Y row ⟨F', v, h⟩ hg hr
  have hr' : ∀ r, row = some r → ∃ o : Obj, X.heap[r]? = some o ∧ o.isCells = false := fun r e => (hr r e).2
  have all : ∀ a u, X.cell? a = some u → Y.cell? a = some u := fun a u hu => _root_.Go.cell_kept hu hg hr'
  have nb : ∀ {B1 : Nat} {t : TypeId} {u : Value}, Boxed X B1 t u → some B1 ≠ row := fun {B1 t u} hb e => by
    obtain ⟨o, ho, hc⟩ := hr' B1 e.symm
    rw [show X.heap[B1]? = _ from hb] at ho
    cases ho
    cases hc
  have nc : ∀ {a : Addr} {u : Value}, X.cell? a = some u → some a.block ≠ row := fun {a u} hu e => by
    obtain ⟨o, ho, hc⟩ := hr' a.block e.symm
    unfold World.cell? at hu
    rw [ho] at hu
    cases o <;> simp_all [Obj.isCells]
  have cC : ∀ {F0 : Nat → Prop}, Chg F0 w X → Chg F0 w Y := fun {F0} hc => hc.trans (Chg.of (F := fun k => row = some k) hg fun k hk => hk) fun k hk => .inr (Nat.le_trans hw (hr k hk).1)
  refine ⟨F', v, ⟨?_, h.sub, h.b0.kept hg (nb h.b0), h.b1.kept hg (nb h.b1), h.b2.kept hg (nb h.b2), ?_, cC h.chg⟩⟩
  · have := h.wl
    refine ⟨this.dk.kept (T := fun k => row = some k) (Chg.of hg fun k hk => hk) (fun k hk e => ?_), this.lo, ?_, this.gv, all _ _ this.c0, all _ _ this.c1, all _ _ this.c2, all _ _ this.c3, fun i => (World.frozen?_of_block (w := X) (hg.block wb this.lt (nc this.c0))).trans (this.fr i), this.nf, this.wlo⟩
    · have h1 := hF k (h.sub k hk)
      have h2 := (hr k e).1
      omega
    · exact this.bel.grown hg this.bel.size fun k e => Nat.le_trans hW (hr k e).1
  · obtain ⟨vs, h1, h2⟩ := h.ro
    refine ⟨vs, ?_, h2.1, fun i p l hp hl => ⟨Rx.all (h2.2 i p l hp hl).1 all, (h2.2 i p l hp hl).2⟩⟩
    rcases h1.2 with e | ⟨g, cap, cur, e, hg2, hh, rr⟩
    · exact ⟨h1.1, .inl e⟩
    · refine ⟨h1.1, .inr ⟨g, cap, cur, e, hg2, ?_, rr⟩⟩
      refine (hg.block g (Array.getElem?_eq_some_iff.1 hh).1 fun e2 => ?_).trans hh
      obtain ⟨o, ho, hc⟩ := hr' g e2.symm
      rw [hh] at ho
      cases ho
      cases hc
theorem keeps_chg {T : Nat → Prop} {A B : World} {n : Nat} (g : Chg T A B) (hT : ∀ k, T k → k < n) : KeepsFrom n A B :=
  ⟨g.size, fun k o hB hk _ => (g.block k (Array.getElem?_eq_some_iff.1 hk).1 fun e => by have := hT k e; omega).trans hk⟩
theorem boxed_chg {T : Nat → Prop} {A B : World} {q : Nat} {t : TypeId} {v : Value} (h : Boxed A q t v) (g : Chg T A B) (hq : ¬ T q) : Boxed B q t v := (g.block q h.lt hq).trans h
theorem chg_set (w : World) (p : Addr) (u : Value) : Chg (fun k => k = p.block) w (w.setCell p u) := Chg.of (grown_set w p u) fun k hk => by injection hk with hk; exact hk.symm
section
variable {W w W1 W2 : World} {b wb B0 : Nat} {F F' F2 : Nat → Prop} {v : Value} {c : Ch}
/-- Behind a step that turns nothing but the log and the disk. -/
theorem ChD.turn (h : ChD W w W1 b wb B0 F F' v c) {T : Nat → Prop} (g : Chg T W1 W2) (hT : ∀ k, T k → F k ∨ k = wb) (hF : ∀ k, F k → k < B0) (hwb : wb < B0) {c2 : Ch} (hl : c2.ls = c.ls) (hf : c2.left = c.left) (hw : Wl W W2 b wb c2.s F2 c2.file (c2.num : Int) 0) (hs : ∀ k, F2 k → F k) : ChD W w W2 b wb B0 F F2 v c2 := by
  have lt : ∀ k, T k → k < B0 := fun k hk => (hT k hk).elim (hF k) fun e => by omega
  have nT : ∀ k, B0 ≤ k → ¬ T k := fun k hk e => by have := lt k e; omega
  refine ⟨hw, hs, boxed_chg h.b0 g (nT _ (Nat.le_refl _)), boxed_chg h.b1 g (nT _ (by omega)), by rw [hf]; exact boxed_chg h.b2 g (nT _ (by omega)), ?_, h.chg.trans g fun k hk => .inl (hT k hk)⟩
  rw [hl]
  exact h.ro.kept g (fun k hk => nT k (by have := (h.ro.lt k hk).1; omega)) fun k hk => nT k (by omega)
theorem ChD.num (h : ChD W w W1 b wb B0 F F' v c) (hF : ∀ k, F k → k < B0) (hwb : wb < B0) (m : Nat) : ChD W w ((W1.setCell ⟨wb, 2, none⟩ (.int .i64 (m : Int))).drew) b wb B0 F F' v ⟨c.s, c.file, m, c.ls, c.left⟩ :=
  h.turn (T := fun k => k = wb) ((chg_set W1 ⟨wb, 2, none⟩ (.int .i64 (m : Int))).trans (Chg.of (F := fun _ => False) (grown_drew (grown_refl _ none)) (by simp)) (by simp)) (fun k hk => .inr hk) hF hwb rfl rfl ((h.wl.set2 (m : Int)).grown (grown_drew (grown_refl _ none))) h.sub
theorem Wl.apart {w w' : World} {s : St} {F : Nat → Prop} {file : By} {n cnt : Int} (h : Wl W w b wb s F file n cnt) {T : Nat → Prop} (g : Chg T w w') (hT : ∀ k, T k → ¬ F k ∧ k ≠ wb ∧ W.heap.size ≤ k) : Wl W w' b wb s F file n cnt := by
  have nT : ¬ T wb := fun e => (hT wb e).2.1 rfl
  exact ⟨h.dk.kept g fun k hk e => (hT k e).1 hk, h.lo, g.low h.bel fun k hk => (hT k hk).2.2, h.gv, g.cell h.c0 nT, g.cell h.c1 nT, g.cell h.c2 nT, g.cell h.c3 nT, fun i => (g.frozen (a := ⟨wb, i, none⟩) h.lt nT).trans (h.fr i), h.nf, h.wlo⟩
/-- The log's file is found. -/
theorem ChD.take (h : ChD W w W1 b wb B0 F F' v c) (hF : ∀ k, F k → k < B0) (hwb : wb < B0) (hWB : W.heap.size ≤ B0) (hwB : w.heap.size ≤ B0) (M : By) {v2 : Value} {ls : List By} {r : Nat} (ho : Ro W1 (B0 + 3) v2 ls (fun k => B0 + 3 ≤ k)) :
    ChD W w (((W1.setCell ⟨wb, 1, none⟩ (.string ⟨M.toArray⟩)).setCell ⟨B0 + 1, 0, none⟩ v2).setCell ⟨B0 + 2, 0, none⟩ (.int .i64 (r : Int))) b wb B0 F F' v2 ⟨c.s, M, c.num, ls, r⟩ ∧
      Chg (fun k => k < B0 + 3) W1 (((W1.setCell ⟨wb, 1, none⟩ (.string ⟨M.toArray⟩)).setCell ⟨B0 + 1, 0, none⟩ v2).setCell ⟨B0 + 2, 0, none⟩ (.int .i64 (r : Int))) := by
  have g1 := chg_set W1 ⟨wb, 1, none⟩ (.string ⟨M.toArray⟩)
  have hw1 := h.wl.set1 M
  have b0 := boxed_chg h.b0 g1 (by simp; omega)
  have b1 := boxed_chg h.b1 g1 (by simp; omega)
  have b2 := boxed_chg h.b2 g1 (by simp; omega)
  generalize W1.setCell ⟨wb, 1, none⟩ (.string ⟨M.toArray⟩) = X1 at *
  have g2 := chg_set X1 ⟨B0 + 1, 0, none⟩ v2
  have hw2 := hw1.apart g2 fun k hk => by simp at hk; subst hk; exact ⟨fun e => by have := hF _ (h.sub _ e); omega, by omega, by omega⟩
  have c0 := boxed_chg b0 g2 (by simp)
  have c1 := b1.set v2
  have c2 := boxed_chg b2 g2 (by simp)
  generalize X1.setCell ⟨B0 + 1, 0, none⟩ v2 = X2 at *
  have g3 := chg_set X2 ⟨B0 + 2, 0, none⟩ (.int .i64 (r : Int))
  have hw3 := hw2.apart g3 fun k hk => by simp at hk; subst hk; exact ⟨fun e => by have := hF _ (h.sub _ e); omega, by omega, by omega⟩
  have d0 := boxed_chg c0 g3 (by simp)
  have d1 := boxed_chg c1 g3 (by simp)
  have d2 := c2.set (.int .i64 (r : Int))
  have G : Chg (fun k => k = wb ∨ k = B0 + 1 ∨ k = B0 + 2) W1 (X2.setCell ⟨B0 + 2, 0, none⟩ (.int .i64 (r : Int))) :=
    ((g1.wide fun k hk => .inl hk).trans (g2.wide fun k hk => .inr (.inl hk)) fun k hk => .inl hk).trans (g3.wide fun k hk => .inr (.inr hk)) fun k hk => .inl hk
  refine ⟨⟨hw3, h.sub, d0, d1, d2, ho.kept G (fun k hk e => by have := (ho.lt k hk).1; rcases e with e | e | e <;> omega) (fun k hk e => by rcases e with e | e | e <;> omega), ?_⟩, G.wide fun k hk => by rcases hk with e | e | e <;> omega⟩
  exact h.chg.trans G fun k hk => by
    rcases hk with e | e | e
    · exact .inl (.inr e)
    · exact .inr (by omega)
    · exact .inr (by omega)
theorem ChD.grown (h : ChD W w W1 b wb B0 F F' v c) (hF : ∀ k, F k → k < B0) (hwb : wb < B0) (g : W1.grownBy W2 none) : ChD W w W2 b wb B0 F F' v c :=
  h.turn (T := fun _ => False) (Chg.of g (by simp)) (fun _ hk => hk.elim) hF hwb rfl rfl (h.wl.grown g) h.sub
end
set_option maxRecDepth 100000 in
set_option maxHeartbeats 8000000 in
theorem choose_any {W w : World} {b wb : Nat} {s : St} {F : Nat → Prop} (h : Wl W w b wb s F [] 0 0) :
    Calls Tryz.prog 29 #[.pointer (some ⟨wb, 0, none⟩)] w fun e w' => ∃ ad n c F', e = .returned (.tuple #[.slice ad n c, .int .i64 ((chooseC s).left : Int)]) ∧ Wl W w' b wb (chooseC s).s F' (chooseC s).file ((chooseC s).num : Int) 0 ∧ (∀ k, F' k → F k) ∧ Chg (fun k => F k ∨ k = wb) w w' ∧ Ro w' w.heap.size (.slice ad n c) (chooseC s).ls (fun k => w.heap.size ≤ k) := by
  refine (callsIn_wide (n := 5)).1 ?_
  obtain ⟨zs, hz1, hz2⟩ := nums_nn s.l
  refine callsIn_of_wp_marks Tryz.func29 rfl trivial ?_ rfl
  simp only [Tryz.ntmps29, List.size_toArray, List.length_cons, List.length_nil, Nat.reduceAdd, Nat.reduceSub, Array.replicate_succ, Array.replicate_zero, List.push_toArray, List.append_toArray, List.nil_append, List.cons_append]
  have c0 := h.c0
  have hlz : zs.length ≤ 1000 := by
    have h1 : (numsS s.l).length ≤ 64 := by
      unfold numsS
      rw [sorted_len]
      refine Nat.le_trans (numsOf_len _) ?_
      rw [srtS_len, List.length_map]
      exact h.dk.ok.len
    rw [hz1, List.length_map] at h1
    omega
  have NU : ∀ {w1}, w.grownBy w1 none → Calls Tryz.prog 55 #[.pointer (some ⟨b, 0, none⟩)] w1 fun e w' => ∃ ad c, e = .returned (.slice ad zs.length c) ∧ Rows w' w1.heap.size (.slice ad zs.length c) zs ∧ w1.grownBy w' none := fun {w1} g => by
    refine (numbers_any b s F w1 (h.dk.grown g) (h.grown g).now).mono ?_
    rintro e w' ⟨ad, n, c, rfl, ho, hg⟩
    rw [hz1] at ho
    have hl := ho.len
    rw [List.length_map] at hl
    subst hl
    exact ⟨ad, c, rfl, ho, hg⟩
  have c0a : (((w.alloc (Obj.cells #[.pointer (some ⟨wb, 0, none⟩)] 31)).alloc (Obj.cells #[.slice none 0 0] 32)).alloc (Obj.cells #[.int .i64 0] 3)).cell? ⟨wb, 0, none⟩ = some (.pointer (some ⟨b, 0, none⟩)) :=
    (grown_alloc (grown_alloc (World.grownBy_alloc w _ none) _) _).cell c0 (by simp)
  have HH : Hid (Wl W w b wb s F [] 0 0) := h
  clear h hz1
  gi_wp2_with (first
    | (refine ⟨trivial, ?_⟩; gi_at_call 55; refine (callsIn_wide.2 (NU (grown_alloc (grown_alloc (World.grownBy_alloc w _ none) _) _))).mono ?_; rintro e w1 ⟨ad, c, rfl, hO1, hg1⟩)
    | (refine ⟨trivial, ?_⟩; gi_at_call 54; refine (backward_in Fence.wide _ trivial rfl _ _ _ _).mono ?_; rintro e w2 ⟨rfl, rfl⟩))
  have hgA := grown_more (grown_alloc (grown_alloc (World.grownBy_alloc w (Obj.cells #[.pointer (some ⟨wb, 0, none⟩)] 31) none) (Obj.cells #[.slice none 0 0] 32)) (Obj.cells #[.int .i64 0] 3)) hg1 (by simp)
  have hgL := grown_alloc hgA (Obj.cells #[.slice ad zs.length c] 100)
  have hsz1 : w.heap.size + 3 ≤ w1.heap.size := by have := hg1.size; simpa using this
  have hwl := HH.out
  have hsF : ∀ k, F k → k < w.heap.size := hwl.dk.lt
  have hrow : rowAt w1.heap.size (.slice ad zs.length c) < w1.heap.size + 1 ∧ w.heap.size + 3 ≤ rowAt w1.heap.size (.slice ad zs.length c) := by
    unfold rowAt
    cases hv : (Value.slice ad zs.length c).ownBlock with
    | none => simp; omega
    | some g => have h1 := (Elm.Own.lt hO1 g hv).2; have h2 := (Elm.Own.lt hO1 g hv).1; simp at h2 ⊢; omega
  have bx0 : Boxed w1 w.heap.size 31 (.pointer (some ⟨wb, 0, none⟩)) := (((Boxed.new w _ _).alloc _).alloc _).kept hg1 (by simp)
  have bx1 : Boxed w1 (w.heap.size + 1) 32 (.slice none 0 0) := by
    have := ((Boxed.new (w.alloc (Obj.cells #[.pointer (some ⟨wb, 0, none⟩)] 31)) 32 (.slice none 0 0)).alloc (Obj.cells #[.int .i64 0] 3)).kept hg1 (by simp)
    simpa using this
  have bx2 : Boxed w1 (w.heap.size + 2) 3 (.int .i64 0) := by
    have := (Boxed.new ((w.alloc (Obj.cells #[.pointer (some ⟨wb, 0, none⟩)] 31)).alloc (Obj.cells #[.slice none 0 0] 32)) 3 (.int .i64 0)).kept hg1 (by simp)
    simpa using this
  refine wpIn_rangeFunc_ownG rfl (by decide) (gf := 69) (lb := #[.pointer (some ⟨w1.heap.size, 0, none⟩)]) rfl trivial (enters_of Tryz.func69 (by kernel_rfl) rfl)
    (back_stops Fence.wide _ trivial rfl (by decide) w1.heap.size _ (.slice ad zs.length c) zs hlz (w1.alloc (Obj.cells #[.slice ad zs.length c] 100)) (by simp) (new_at w1 rfl rfl) (Elm.Own.grown hO1 (World.grownBy_alloc w1 _ none))) kp2_t (kp2_b (by simp) (by simpa using hrow.1)) (Below.refl _ _) (fun _ => rfl)
    (fun pre W1 => ChI W w W1 b wb w.heap.size F ((pre.map fun x => x.2.1).foldl stepC (startC s)) ∧ w1.heap.size + 1 ≤ W1.heap.size)
    (fun _ _ _ => False)
    (OwnFrom.and (ChI.own _ (fun k hk => Nat.lt_of_lt_of_le (hsF k hk) hgL.size) (Nat.le_trans hwl.bel.size hgL.size) hgL.size) (fun _ _ _ _ hs hg _ => Nat.le_trans hs hg.size))
    (fun _ _ _ _ _ hs _ _ => hs)
    ⟨⟨F, .slice none 0 0, ⟨hwl.grown hgL, fun _ hk => hk, bx0.alloc _, bx1.alloc _, bx2.alloc _, Ro.nil _ _ _, Chg.of hgL (by simp)⟩⟩, by simp⟩
    (fun x => { tmps := #[.pointer (some ⟨wb, 0, none⟩), .pointer (some ⟨w.heap.size, 0, none⟩), .slice none 0 0, .int .i64 0, .pointer (some ⟨w.heap.size + 1, 0, none⟩), .pointer (some ⟨w.heap.size + 1 + 1, 0, none⟩), undef, .int .i64 (x.2.1 : Int), undef, undef, undef, undef, .pointer (some ⟨wb, 0, none⟩), .pointer (some ⟨wb, 0, none⟩), .pointer (some ⟨wb, 0, none⟩), .pointer (some ⟨b, 0, none⟩), .slice ad zs.length c, .func (.func 69) #[] #[.pointer (some ⟨w1.heap.size, 0, none⟩)], .int .i64 x.1, .int .i64 (x.2.1 : Int), undef, undef, undef, undef, undef, undef, undef, undef, undef, undef, undef, undef, undef, undef, undef, undef, undef, undef, undef, undef, undef, undef, undef, undef, undef, undef, undef, undef, undef, undef, undef, undef, undef, undef, undef, undef, undef, undef], defers := [] }) ?assign ?body ?done ?stop
  case assign =>
    intro l x W1 K hK
    unfold enP
    gi_wp2
    exact hK
  case body =>
    rintro l pre x W1 ⟨⟨F1, v, hC⟩, hszW⟩ _
    have hfold : ((pre ++ [x]).map fun x => x.2.1).foldl stepC (startC s) = stepC ((pre.map fun x => x.2.1).foldl stepC (startC s)) x.2.1 := by simp [List.foldl_append]
    have hsW1 : w1.heap.size < W1.heap.size ∧ rowAt w1.heap.size (.slice ad zs.length c) < W1.heap.size := by have := hrow.1; omega
    obtain ⟨ch, hch⟩ : ∃ ch, ch = (pre.map fun x => x.2.1).foldl stepC (startC s) := ⟨_, rfl⟩
    rw [← hch] at hfold
    have hC : ChD W w W1 b wb w.heap.size F F1 v ch := by rw [hch]; exact hC
    have HF : Hid (((pre ++ [x]).map fun x => x.2.1).foldl stepC (startC s) = stepC ch x.2.1) := hfold
    clear hch hfold
    generalize pre ++ [x] = px at *
    obtain ⟨xi, n, hn1, hn2⟩ := x
    simp only at HF ⊢
    have k0 := hC.b0.cell
    have c0' := hC.wl.c0
    have c1' := hC.wl.c1
    have c2' := hC.wl.c2
    have fr' := hC.wl.fr
    have mixed : Tryz.prog.follows .mixedOrders = true := by kernel_rfl
    have hwb : wb < w.heap.size := hwl.lt
    have hmx : ((max ch.num n : Nat) : Int) = max (ch.num : Int) (n : Int) := by omega
    have hC2 := hC.num hsF hwb (max ch.num n)
    rw [hmx] at hC2
    have G2 : Chg (fun k => k < w.heap.size + 3) W1 ((W1.setCell ⟨wb, 2, none⟩ (.int .i64 (max (ch.num : Int) (n : Int)))).drew) :=
      ((chg_set W1 ⟨wb, 2, none⟩ _).wide fun k hk => by simp at hk; omega).trans (Chg.of (F := fun _ => False) (grown_drew (grown_refl _ none)) (by simp)) (by simp)
    gi_wp2
    refine wpIn_mono (Q := fun e a' W' => e = Exit.normal ∧ a' = { tmps := #[.pointer (some ⟨wb, 0, none⟩), .pointer (some ⟨w.heap.size, 0, none⟩), .slice none 0 0, .int .i64 0, .pointer (some ⟨w.heap.size + 1, 0, none⟩), .pointer (some ⟨w.heap.size + 1 + 1, 0, none⟩), undef, .int .i64 (n : Int), undef, undef, undef, undef, .pointer (some ⟨wb, 0, none⟩), .pointer (some ⟨wb, 0, none⟩), .pointer (some ⟨wb, 0, none⟩), .pointer (some ⟨b, 0, none⟩), .slice ad zs.length c, .func (.func 69) #[] #[.pointer (some ⟨w1.heap.size, 0, none⟩)], .int .i64 xi, .int .i64 (n : Int), .pointer (some ⟨wb, 0, none⟩), .pointer (some ⟨wb, 0, none⟩), .pointer (some ⟨wb, 0, none⟩), .pointer (some ⟨wb, 2, none⟩), .int .i64 (ch.num : Int), .int .i64 (n : Int), .int .i64 (max (ch.num : Int) (n : Int)), .pointer (some ⟨wb, 0, none⟩), .pointer (some ⟨wb, 2, none⟩), undef, undef, undef, undef, undef, undef, undef, undef, undef, undef, undef, undef, undef, undef, undef, undef, undef, undef, undef, undef, undef, undef, undef, undef, undef, undef, undef, undef, undef], defers := [] } ∧ W' = (W1.setCell ⟨wb, 2, none⟩ (.int .i64 (max (ch.num : Int) (n : Int)))).drew) ?_ ?_
    · clear hC2 G2 hC HF hO1 hg1 bx0 bx1 bx2 hgA hgL hwl c1' c0' NU c0a HH hsF
      gi_region_with_o (fail)
      all_goals exact ⟨rfl, rfl, rfl⟩
    rintro e a' W' ⟨rfl, rfl, rfl⟩
    generalize hW2 : (W1.setCell ⟨wb, 2, none⟩ (.int .i64 (max (ch.num : Int) (n : Int)))).drew = W2 at hC2 G2 ⊢
    clear hW2 c1' c2' fr' k0 c0' hC
    have k0 := hC2.b0.cell
    have c1' := hC2.wl.c1
    have HZ : Hid (w1.heap.size < W1.heap.size ∧ rowAt w1.heap.size (.slice ad zs.length c) < W1.heap.size) := hsW1
    have FN := fileName_any n (by omega) W2 hC2.wl.now
    have hnl := nm_len (n := n) (by omega)
    have fin : ∀ {F2 v2 W3 c2}, ChD W w W3 b wb w.heap.size F F2 v2 c2 → Chg (fun k => k < w.heap.size + 3) W2 W3 → c2 = stepC ch n → KeepsFrom (w1.alloc (Obj.cells #[.slice ad zs.length c] 100)).heap.size W1 W3 ∧ Kp2 w1.heap.size (rowAt w1.heap.size (.slice ad zs.length c)) W1 W3 ∧ (ChI W w W3 b wb w.heap.size F ((px.map fun x => x.2.1).foldl stepC (startC s)) ∧ w1.heap.size + 1 ≤ W3.heap.size) := fun {F2 v2 W3 c2} h1 h2 h3 => by
      have g13 : Chg (fun k => k < w.heap.size + 3) W1 W3 := G2.trans h2 fun k hk => .inl hk
      refine ⟨keeps_chg g13 fun k hk => ?_, ⟨?_, ?_⟩, ⟨F2, v2, by rw [HF.out, ← h3]; exact h1⟩, by have := HZ.out; have := g13.size; omega⟩
      · simp; omega
      · exact g13.block _ (by have := HZ.out; omega) (by omega)
      · exact g13.block _ (by have := HZ.out; omega) (by omega)
    have RM : ∀ {W3 F2 v2 c2}, ChD W w W3 b wb w.heap.size F F2 v2 c2 → Calls Tryz.prog 41 #[.pointer (some ⟨b, 0, none⟩), .string ⟨(nm n).toArray⟩] W3 fun e W4 => ∃ E F4, e = .returned (.int .i64 E) ∧ ChD W w W4 b wb w.heap.size F F4 v2 ⟨remS c2.s (nm n), c2.file, c2.num, c2.ls, c2.left⟩ ∧ Chg (fun k => k < w.heap.size + 3) W3 W4 := fun {W3 F2 v2 c2} h1 =>
      (remove_sub b c2.s F2 (nm n) (by omega) W3 h1.wl.dk).mono fun e W4 ⟨he, F4, g1, g2, g3⟩ => ⟨_, F4, he, h1.turn g3 (fun k hk => .inl (h1.sub k hk)) hsF hwb rfl rfl (h1.wl.disk g1 (fun k hk => .inl (g2 k hk)) g3) (fun k hk => h1.sub k (g2 k hk)), g3.wide fun k hk => by have := hsF k (h1.sub k hk); omega⟩
    by_cases hf : ch.file = []
    · have hf' : (ch.file == []) = true := by simpa using hf
      cases hr : rdF (rdB ch.s.l (nm n)) with
      | none =>
        have hst : stepC ch n = ⟨remS ch.s (nm n), ch.file, max ch.num n, ch.ls, ch.left⟩ := by unfold stepC; rw [if_pos hf, hr]
        have HST : Hid (stepC ch n = ⟨remS ch.s (nm n), ch.file, max ch.num n, ch.ls, ch.left⟩) := hst
        have RN : ∀ {W3}, W2.grownBy W3 none → Calls Tryz.prog 56 #[.pointer (some ⟨wb, 0, none⟩), .string ⟨(nm n).toArray⟩] W3 fun e w' => ∃ ad n c x, e = .returned (.tuple #[.slice ad n c, .int .i64 x, .bool false]) ∧ W3.grownBy w' none := fun g =>
          read_none b wb ch.s F1 (nm n) (by omega) _ (hC2.wl.dk.grown g) (hC2.wl.grown g).c0 hr
        rw [hf] at c1'
        clear hst hf hr hf'
        generalize nm n = M at *
        gi_wp2_with (first
          | (refine ⟨trivial, ?_⟩; gi_at_call 39; refine (CallsIn.inRound l (callsIn_wide.2 FN)).mono ?_; rintro e W3 ⟨rfl, hg3⟩; have k03 := hg3.cell k0 (by simp); have k13 := hg3.cell c1' (by simp))
          | (refine ⟨trivial, ?_⟩; gi_at_call 56; refine (CallsIn.inRound l (callsIn_wide.2 (RN hg3))).mono ?_; rintro e W4 ⟨va, vn, vc, vx, rfl, hg4⟩; have hg24 := grown_more hg3 hg4 (by simp); have hC4 := hC2.grown hsF hwb hg24; have k04 := hg24.cell k0 (by simp); have k14 := hg24.cell hC2.wl.c0 (by simp))
          | (refine ⟨trivial, ?_⟩; gi_at_call 41; refine (CallsIn.inRound l (callsIn_wide.2 (RM hC4))).mono ?_; rintro e W5 ⟨E5, F5, rfl, hC5, G5⟩))
        exact fin hC5 ((Chg.of hg24 (by simp)).trans G5 fun k hk => .inl hk) HST.out.symm
      | some p =>
        obtain ⟨ls, r⟩ := p
        have hst : stepC ch n = ⟨ch.s, nm n, max ch.num n, ls, r⟩ := by unfold stepC; rw [if_pos hf, hr]
        have HST : Hid (stepC ch n = ⟨ch.s, nm n, max ch.num n, ls, r⟩) := hst
        have RS : ∀ {W3}, W2.grownBy W3 none → Calls Tryz.prog 56 #[.pointer (some ⟨wb, 0, none⟩), .string ⟨(nm n).toArray⟩] W3 fun e w' => ∃ ad c, e = .returned (.tuple #[.slice ad ls.length c, .int .i64 (r : Int), .bool true]) ∧ Gat W3 w' (.slice ad ls.length c) ls ∧ W3.grownBy w' none := fun g =>
          read_some b wb ch.s F1 (nm n) (by omega) _ (hC2.wl.dk.grown g) (hC2.wl.grown g).c0 hr
        rw [hf] at c1'
        clear hst hf hr hf'
        generalize nm n = M at *
        gi_wp2_with (first
          | (refine ⟨trivial, ?_⟩; gi_at_call 39; refine (CallsIn.inRound l (callsIn_wide.2 FN)).mono ?_; rintro e W3 ⟨rfl, hg3⟩; have k03 := hg3.cell k0 (by simp); have k13 := hg3.cell c1' (by simp))
          | (refine ⟨trivial, ?_⟩; gi_at_call 56; refine (CallsIn.inRound l (callsIn_wide.2 (RS hg3))).mono ?_; rintro e W4 ⟨va, vc, rfl, hG4, hg4⟩; have hg24 := grown_more hg3 hg4 (by simp); have hC4 := hC2.grown hsF hwb hg24; have k04 := hg24.cell k0 (by simp); have k14 := hC4.wl.c1; have k15 := hC4.b1.cell; have k16 := hC4.b2.cell; have f14 := hC4.wl.fr; have f15 := hC4.b1.frozen; have f16 := hC4.b2.frozen))
        have hz3 := hg3.size
        have hz2 := G2.size
        have hT := hC4.take hsF hwb hwl.bel.size (Nat.le_refl _) M (v2 := .slice va ls.length vc) (ls := ls) (r := r) ((Ro.low hG4 (by have := HZ.out; omega)).wide fun k hk => by have := HZ.out; have := hk.1; omega)
        exact fin hT.1 ((Chg.of hg24 (by simp)).trans hT.2 fun k hk => .inl hk) HST.out.symm
    · have hf' : (ch.file == []) = false := by simpa using hf
      have hst : stepC ch n = ⟨remS ch.s (nm n), ch.file, max ch.num n, ch.ls, ch.left⟩ := by unfold stepC; rw [if_neg hf]
      have HST : Hid (stepC ch n = ⟨remS ch.s (nm n), ch.file, max ch.num n, ch.ls, ch.left⟩) := hst
      clear hst
      generalize nm n = M at *
      gi_wp2_with (first
        | (refine ⟨trivial, ?_⟩; gi_at_call 39; refine (CallsIn.inRound l (callsIn_wide.2 FN)).mono ?_; rintro e W3 ⟨rfl, hg3⟩; have hC4 := hC2.grown hsF hwb hg3; have k03 := hg3.cell k0 (by simp); have k13 := hg3.cell c1' (by simp); have k14 := hg3.cell hC2.wl.c0 (by simp))
        | (refine ⟨trivial, ?_⟩; gi_at_call 41; refine (CallsIn.inRound l (callsIn_wide.2 (RM hC4))).mono ?_; rintro e W5 ⟨E5, F5, rfl, hC5, G5⟩))
      exact fin hC5 ((Chg.of hg3 (by simp)).trans G5 fun k hk => .inl hk) HST.out.symm
  case done =>
    rintro D ys W1 hD hys ⟨hCI, _⟩ hK
    have hch : (ys.map fun x => x.2.1).foldl stepC (startC s) = chooseC s := by
      have e1 : (ys.map fun x => x.2.1) = (ys.map (·.2)).map (·.1) := by rw [List.map_map]; rfl
      rw [e1, hys]
      unfold chooseC
      rw [hz2, List.map_reverse]
    rw [hch] at hCI
    have hOw := ChI.own (W := W) (w := w) (b := b) (wb := wb) (B0 := w.heap.size) (F := F) (B := (w1.alloc (Obj.cells #[.slice ad zs.length c] 100)).heap.size) (fun _ : Unit => chooseC s) (fun k hk => Nat.lt_of_lt_of_le (hsF k hk) hgL.size) (Nat.le_trans hwl.bel.size hgL.size) hgL.size
    have hCd : ChI W w W1.drew b wb w.heap.size F (chooseC s) := hOw () _ _ none hCI (grown_drew (grown_refl W1 none)) (by simp)
    have hCf := hOw.putObj (s := ()) (.deferred none) hCd hD hK rfl
    obtain ⟨F1, v, hC⟩ := hCI
    obtain ⟨va, vc, rfl⟩ := hC.ro.form
    have k1 := hC.b1.cell
    have k2 := hC.b2.cell
    have mixed : Tryz.prog.follows .mixedOrders = true := by kernel_rfl
    obtain ⟨F9, v9, hC9⟩ := hCf
    have hv9 : v9 = .slice va (chooseC s).ls.length vc := by
      have e1 := (boxed_chg (T := fun k => k = D) (boxed_chg (T := fun _ => False) hC.b1 (Chg.of (grown_drew (grown_refl W1 none)) (by simp)) id) (Chg.of (grownBy_putObj' W1.drew D (.deferred none)) fun k hk => by injection hk with hk; exact hk.symm) (by have := hD; simp at this; omega)).cell
      have e2 := hC9.b1.cell
      rw [e1] at e2
      injection e2 with e2
      exact e2.symm
    subst hv9
    gi_wp2
    gi_region
    gi_wp2
    refine ⟨by simp, .inl ⟨_, _, rfl, run_takeDeferred (w := W1.drew) hK, ?_⟩⟩
    refine ⟨_, results_tmp2 rfl _ _ _, va, _, vc, F9, rfl, hC9.wl, hC9.sub, hC9.chg, (hC9.ro.low (by omega)).wide fun k hk => by omega⟩
  case stop =>
    rintro D c pre W1 _ _ hf _
    exact hf.elim
end Go.Proofs.YtapdhkgeolcogaaGreatDoor
namespace Go.Proofs.YtapdhkgeolcogaaGreatDoor
open Go.RowKit Dsk Lg
set_option linter.unusedVariables false

namespace Lg
/-- What holds of a choice at every time. -/
structure ChOk (m : Int) (c : Ch) : Prop where
  fit : Fit c.ls
  len : c.ls.length ≤ 1048576
  num : c.num ≤ 999999999
  m : c.s.m = m
  ok : Ok c.s
  file : c.file.length ≤ 1000
theorem rd_len {s : St} (h : Ok s) (nm : By) : (rdB s.l nm).length ≤ 1048576 := by
  cases hh : has s.l nm with
  | false => rw [rdB_not hh]; simp
  | true =>
    obtain ⟨f, hf⟩ := has_iff.1 hh
    rw [rdB_mem h.nd hf]
    exact Nat.le_trans (mem_tot hf) h.tot
theorem ChOk.step {m : Int} {c : Ch} (h : ChOk m c) {n : Nat} (hn : n ≤ 999999999) : ChOk m (stepC c n) := by
  have h1 : max c.num n ≤ 999999999 := by have := h.num; omega
  have hR : ChOk m ⟨remS c.s (nm n), c.file, max c.num n, c.ls, c.left⟩ := ⟨h.fit, h.len, h1, h.m, ok_rem h.ok _, h.file⟩
  unfold stepC
  split
  · split
    · rename_i ls r hr
      obtain ⟨k1, k2, _⟩ := rdF_fit hr
      have k3 := rd_len h.ok (nm n)
      have k4 := nm_len (n := n) (by omega)
      exact ⟨k1, by show ls.length ≤ _; omega, h1, h.m, h.ok, by show (nm n).length ≤ _; omega⟩
    · exact hR
  · exact hR
theorem ChOk.steps {m : Int} (zs : List Nat) : ∀ (c : Ch), ChOk m c → (∀ n ∈ zs, n ≤ 999999999) → ChOk m (zs.foldl stepC c) := by
  induction zs with
  | nil => intro c h _; exact h
  | cons z zs ih => intro c h hz; exact ih _ (h.step (hz z (by simp))) fun n hn => hz n (by simp [hn])
/-- The outcome of opening: the disk, the file, its number, the records; none: refused. -/
def openR (s : St) : Option (St × By × Nat × List By) :=
  if (chooseC s).file ≠ [] ∧ (chooseC s).left = 0 then some ((chooseC s).s, (chooseC s).file, (chooseC s).num, (chooseC s).ls)
  else if (chooseC s).num = 999999999 then none
  else if (layS (chooseC s).s (nm ((chooseC s).num + 1)) (chooseC s).ls).2 = true then some (remS (layS (chooseC s).s (nm ((chooseC s).num + 1)) (chooseC s).ls).1 (chooseC s).file, nm ((chooseC s).num + 1), (chooseC s).num + 1, (chooseC s).ls)
  else none
end Lg
theorem choose_ok {s : St} (h : Ok s) : ChOk s.m (chooseC s) := by
  refine ChOk.steps _ _ ⟨by simp [startC, Fit], by simp [startC], by simp [startC], rfl, h, by simp [startC]⟩ fun n hn => ?_
  obtain ⟨zs, _, h2⟩ := nums_nn s.l
  rw [h2, ← List.map_reverse] at hn
  obtain ⟨z, _, rfl⟩ := List.mem_map.1 hn
  exact z.2.2
theorem wl_new {W w : World} {b : Nat} {s : St} {F : Nat → Prop} (hd : Dk w b s F) (lo : ∀ k, F k → W.heap.size ≤ k) (bel : Below W.heap.size W w) (gv : Gv W) :
    Wl W (w.alloc (.cells #[.pointer (some ⟨b, 0, none⟩), .string ⟨#[]⟩, .int .i64 0, .int .i64 0] 68)) b w.heap.size s F [] 0 0 :=
  ⟨hd.grown (World.grownBy_alloc w _ none), lo, grown_low bel (World.grownBy_alloc w _ none), gv, new_at w rfl rfl, new_at w rfl rfl, new_at w rfl rfl, new_at w rfl rfl, fun i => World.frozen?_alloc_new _ _ _ _, fun e => Nat.lt_irrefl _ (hd.lt _ e), bel.size⟩
theorem Ro.tight {R : Nat → Prop} {w : World} {base : Nat} {v : Value} {ls : List By} (h : Ro w base v ls R) : Ro w base v ls (fun k => R k ∧ k < w.heap.size) := by
  obtain ⟨vs, h1, h2⟩ := h
  exact ⟨vs, h1, h2.1, fun i p l hp hl => ⟨(h2.2 i p l hp hl).1, fun h0 k hk => ⟨(h2.2 i p l hp hl).2 h0 k hk, (h2.2 i p l hp hl).1.lt h0 k hk⟩⟩⟩
set_option maxRecDepth 100000 in
set_option maxHeartbeats 3200000 in
theorem open_keep {W w : World} {b : Nat} {s : St} {F : Nat → Prop} (hd : Dk w b s F) (lo : ∀ k, F k → W.heap.size ≤ k) (bel : Below W.heap.size W w) (gv : Gv W) (h1 : (chooseC s).file ≠ []) (h2 : (chooseC s).left = 0) :
    Calls Tryz.prog 10 #[.pointer (some ⟨b, 0, none⟩)] w fun e w' => ∃ ad c F', e = .returned (.tuple #[.pointer (some ⟨w.heap.size, 0, none⟩), .slice ad (chooseC s).ls.length c, .int .i64 0]) ∧ Wl W w' b w.heap.size (chooseC s).s F' (chooseC s).file ((chooseC s).num : Int) ((chooseC s).ls.length : Int) ∧ (∀ k, F' k → F k ∨ w.heap.size ≤ k) ∧ Chg F w w' ∧ Ro w' (w.heap.size + 1) (.slice ad (chooseC s).ls.length c) (chooseC s).ls (fun k => w.heap.size + 1 ≤ k) := by
  have CH := choose_any (wl_new hd lo bel gv)
  have hlt := hd.lt
  rw [h2] at CH
  have hf' : ((chooseC s).file == []) = false := by simpa using h1
  have hll := (choose_ok hd.ok).len
  generalize chooseC s = cc at *
  have hli : (cc.ls.length : Int) ≤ 1048576 := by omega
  clear hd lo bel gv h1
  go_enter Tryz.func10, Tryz.ntmps10
  go_wp2_with (go_at_call 29; (with_reducible refine CH.mono ?_); rintro e w1 ⟨ad, n, c, F1, rfl, hW1, hF1, hC1, hR1⟩; obtain rfl : n = cc.ls.length := (by obtain ⟨ad2, c2, e2⟩ := hR1.form; injection e2); have k1 := hW1.c1; have k3 := hW1.c3; have kf := hW1.fr)
  go_ret3
  have hz : w.heap.size < w1.heap.size := hW1.lt
  have hs3 := chg_set w1 ⟨w.heap.size, 3, none⟩ (.int .i64 (cc.ls.length : Int))
  refine ⟨ad, c, F1, rfl, hW1.set3 _, fun k hk => .inl (hF1 k hk), ?_, ?_⟩
  · refine ((Chg.of (F := F) (World.grownBy_alloc w _ none) (by simp)).trans hC1 fun k hk => ?_).trans hs3 fun k hk => .inr (Nat.le_of_eq (by simpa using hk.symm))
    rcases hk with e | e
    · exact .inl e
    · exact .inr (by omega)
  · have hR2 : Ro w1 (w.heap.size + 1) (.slice ad cc.ls.length c) cc.ls (fun k => w.heap.size + 1 ≤ k) := by simpa using hR1
    exact hR2.kept hs3 (fun k hk e => by have := (hR2.lt k hk).1; simp at e; omega) fun k hk e => by simp at e; omega
set_option maxRecDepth 100000 in
set_option maxHeartbeats 3200000 in
theorem open_laid {W w : World} {b : Nat} {s : St} {F : Nat → Prop} (hd : Dk w b s F) (lo : ∀ k, F k → W.heap.size ≤ k) (bel : Below W.heap.size W w) (gv : Gv W) (h1 : ¬ ((chooseC s).file ≠ [] ∧ (chooseC s).left = 0)) (m1 : s.m ≤ 900000000) (h2 : (chooseC s).num ≠ 999999999) (h3 : (layS (chooseC s).s (nm ((chooseC s).num + 1)) (chooseC s).ls).2 = true) :
    Calls Tryz.prog 10 #[.pointer (some ⟨b, 0, none⟩)] w fun e w' => ∃ ad c F', e = .returned (.tuple #[.pointer (some ⟨w.heap.size, 0, none⟩), .slice ad (chooseC s).ls.length c, .int .i64 0]) ∧ Wl W w' b w.heap.size (remS (layS (chooseC s).s (nm ((chooseC s).num + 1)) (chooseC s).ls).1 (chooseC s).file) F' (nm ((chooseC s).num + 1)) (((chooseC s).num + 1 : Nat) : Int) ((chooseC s).ls.length : Int) ∧ (∀ k, F' k → F k ∨ w.heap.size ≤ k) ∧ Chg F w w' ∧ Ro w' (w.heap.size + 1) (.slice ad (chooseC s).ls.length c) (chooseC s).ls (fun k => w.heap.size + 1 ≤ k) := by
  have CH := choose_any (wl_new hd lo bel gv)
  have hlt := hd.lt
  have hok := choose_ok hd.ok
  have hm2 : (chooseC s).s.m ≤ 900000000 := by rw [hok.m]; exact m1
  have RS : ∀ {w1 ad c F1}, Wl W w1 b w.heap.size (chooseC s).s F1 (chooseC s).file ((chooseC s).num : Int) ((chooseC s).ls.length : Int) → (∀ k, F1 k → F k) → Ro w1 (w.heap.size + 1) (.slice ad (chooseC s).ls.length c) (chooseC s).ls (fun k => w.heap.size + 1 ≤ k ∧ k < w1.heap.size) → Calls Tryz.prog 16 #[.pointer (some ⟨w.heap.size, 0, none⟩), .slice ad (chooseC s).ls.length c] w1 fun e w' => e = .returned (.int .i64 0) ∧ WLeft W w1 w' b w.heap.size F1 (remS (layS (chooseC s).s (nm ((chooseC s).num + 1)) (chooseC s).ls).1 (chooseC s).file) (nm ((chooseC s).num + 1)) (((chooseC s).num + 1 : Nat) : Int) ((chooseC s).ls.length : Int) := fun {w1 ad c F1} hW hF hR =>
    reset_ok hW hok.file _ _ (hR.rl (R' := fun k => w.heap.size + 1 ≤ k ∧ k < w1.heap.size) (fun k hk => hk) fun k a b => ⟨a, b⟩) (fun k hk => ⟨fun e => by have := hlt k (hF k e); omega, hk.2⟩) (by have := hok.len; omega) hm2 (fit_long hok.fit) (by have := hok.num; omega) h3
  have hcond : (chooseC s).file ≠ [] → 0 < (chooseC s).left := fun e => by
    have : (chooseC s).left ≠ 0 := fun e2 => h1 ⟨e, e2⟩
    omega
  have hll := hok.len
  generalize remS (layS (chooseC s).s (nm ((chooseC s).num + 1)) (chooseC s).ls).1 (chooseC s).file = S9 at *
  generalize nm ((chooseC s).num + 1) = M9 at *
  generalize (((chooseC s).num + 1 : Nat) : Int) = N9 at *
  clear h2 h3 hok hm2 h1
  generalize chooseC s = cc at *
  have hli : (cc.ls.length : Int) ≤ 1048576 := by omega
  clear hd lo bel gv
  have key : ∀ {w1 ad c F1}, Wl W w1 b w.heap.size cc.s F1 cc.file (cc.num : Int) 0 → (∀ k, F1 k → F k) → Ro w1 (w.heap.size + 1) (.slice ad cc.ls.length c) cc.ls (fun k => w.heap.size + 1 ≤ k) → Calls Tryz.prog 16 #[.pointer (some ⟨w.heap.size, 0, none⟩), .slice ad cc.ls.length c] (w1.setCell ⟨w.heap.size, 3, none⟩ (.int .i64 (cc.ls.length : Int))) fun e w' => e = .returned (.int .i64 0) ∧ WLeft W w1 w' b w.heap.size F1 S9 M9 N9 (cc.ls.length : Int) ∧ Ro w' (w.heap.size + 1) (.slice ad cc.ls.length c) cc.ls (fun k => w.heap.size + 1 ≤ k) := fun {w1 ad c F1} hW hF hR => by
    have hs3 := chg_set w1 ⟨w.heap.size, 3, none⟩ (.int .i64 (cc.ls.length : Int))
    have hR2 : Ro (w1.setCell ⟨w.heap.size, 3, none⟩ (.int .i64 (cc.ls.length : Int))) (w.heap.size + 1) (.slice ad cc.ls.length c) cc.ls (fun k => w.heap.size + 1 ≤ k) := hR.kept hs3 (fun k hk e => by have := (hR.lt k hk).1; simp at e; omega) fun k hk e => by simp at e; omega
    refine (RS (hW.set3 _) hF hR2.tight).mono ?_
    rintro e w' ⟨rfl, hL⟩
    refine ⟨rfl, hL.next (fun k hk => .inl hk) (hs3.wide fun k hk => .inr hk), ?_⟩
    obtain ⟨F9, _, _, hC9⟩ := hL
    have nT : ∀ k, w.heap.size + 1 ≤ k → ¬ (F1 k ∨ k = w.heap.size) := fun k hk e => by
      rcases e with e | e
      · have := hlt k (hF k e); omega
      · omega
    exact hR2.kept hC9 (fun k hk => nT k (hR2.lt k hk).1) nT
  have key2 : ∀ {w1 w' : World} {F1 : Nat → Prop}, Chg (fun k => F k ∨ k = w.heap.size) (w.alloc (.cells #[.pointer (some ⟨b, 0, none⟩), .string ⟨#[]⟩, .int .i64 0, .int .i64 0] 68)) w1 → (∀ k, F1 k → F k) → WLeft W w1 w' b w.heap.size F1 S9 M9 N9 (cc.ls.length : Int) → ∃ F', Wl W w' b w.heap.size S9 F' M9 N9 (cc.ls.length : Int) ∧ (∀ k, F' k → F k ∨ w.heap.size ≤ k) ∧ Chg F w w' := fun {w1 w' F1} hC hF hL => by
    obtain ⟨F9, h1, h2, h3⟩ := hL
    have hz : w.heap.size + 1 ≤ w1.heap.size := by have := hC.size; simpa using this
    refine ⟨F9, h1, fun k hk => (h2 k hk).elim (fun e => .inl (hF k e)) fun e => .inr (by omega), ?_⟩
    refine ((Chg.of (F := F) (World.grownBy_alloc w _ none) (by simp)).trans hC fun k hk => ?_).trans h3 fun k hk => ?_
    · rcases hk with e | e
      · exact .inl e
      · exact .inr (by omega)
    · rcases hk with e | e
      · exact .inl (hF k e)
      · exact .inr (by omega)
  by_cases hfe : cc.file = []
  · have hf' : (cc.file == []) = true := by simpa using hfe
    go_enter Tryz.func10, Tryz.ntmps10
    go_wp2_with (first
      | (go_at_call 29; (with_reducible refine CH.mono ?_); rintro e w1 ⟨ad, n, c, F1, rfl, hW1, hF1, hC1, hR1⟩; obtain rfl : n = cc.ls.length := (by obtain ⟨ad2, c2, e2⟩ := hR1.form; injection e2); have k1 := hW1.c1; have k3 := hW1.c3; have kf := hW1.fr)
      | (go_at_call 16; (with_reducible refine (key hW1 hF1 (by simpa using hR1)).mono ?_); rintro e w2 ⟨rfl, hL2, hR2⟩))
    go_ret3
    obtain ⟨F9, j1, j2, j3⟩ := key2 hC1 hF1 hL2
    exact ⟨ad, c, F9, rfl, j1, j2, j3, hR2⟩
  · have hf' : (cc.file == []) = false := by simpa using hfe
    have hle : (0 : Int) < (cc.left : Int) := by have := hcond hfe; omega
    go_enter Tryz.func10, Tryz.ntmps10
    go_wp2_with (first
      | (go_at_call 29; (with_reducible refine CH.mono ?_); rintro e w1 ⟨ad, n, c, F1, rfl, hW1, hF1, hC1, hR1⟩; obtain rfl : n = cc.ls.length := (by obtain ⟨ad2, c2, e2⟩ := hR1.form; injection e2); have k1 := hW1.c1; have k3 := hW1.c3; have kf := hW1.fr)
      | (go_at_call 16; (with_reducible refine (key hW1 hF1 (by simpa using hR1)).mono ?_); rintro e w2 ⟨rfl, hL2, hR2⟩))
    go_ret3
    obtain ⟨F9, j1, j2, j3⟩ := key2 hC1 hF1 hL2
    exact ⟨ad, c, F9, rfl, j1, j2, j3, hR2⟩
set_option maxRecDepth 100000 in
set_option maxHeartbeats 3200000 in
theorem open_bad {W w : World} {b : Nat} {s : St} {F : Nat → Prop} (hd : Dk w b s F) (lo : ∀ k, F k → W.heap.size ≤ k) (bel : Below W.heap.size W w) (gv : Gv W) (h1 : ¬ ((chooseC s).file ≠ [] ∧ (chooseC s).left = 0)) (m1 : s.m ≤ 900000000) (h2 : (chooseC s).num = 999999999 ∨ (layS (chooseC s).s (nm ((chooseC s).num + 1)) (chooseC s).ls).2 = false) :
    Calls Tryz.prog 10 #[.pointer (some ⟨b, 0, none⟩)] w fun e w' => e = .returned (.tuple #[.pointer none, .slice none 0 0, .int .i64 3]) ∧ Below W.heap.size W w' := by
  have CH := choose_any (wl_new hd lo bel gv)
  have hlt := hd.lt
  have hok := choose_ok hd.ok
  have hm2 : (chooseC s).s.m ≤ 900000000 := by rw [hok.m]; exact m1
  have hcond : (chooseC s).file ≠ [] → 0 < (chooseC s).left := fun e => by
    have : (chooseC s).left ≠ 0 := fun e2 => h1 ⟨e, e2⟩
    omega
  have RS : ∀ {w1 ad c F1}, Wl W w1 b w.heap.size (chooseC s).s F1 (chooseC s).file ((chooseC s).num : Int) ((chooseC s).ls.length : Int) → (∀ k, F1 k → F k) → Ro w1 (w.heap.size + 1) (.slice ad (chooseC s).ls.length c) (chooseC s).ls (fun k => w.heap.size + 1 ≤ k ∧ k < w1.heap.size) → Calls Tryz.prog 16 #[.pointer (some ⟨w.heap.size, 0, none⟩), .slice ad (chooseC s).ls.length c] w1 fun e w' => e = .returned (.int .i64 3) ∧ Below W.heap.size W w' := fun {w1 ad c F1} hW hF hR => by
    have hX : Rl w1 (.slice ad (chooseC s).ls.length c) (chooseC s).ls (fun k => w.heap.size + 1 ≤ k ∧ k < w1.heap.size) := hR.rl (fun k hk => hk) fun k a b => ⟨a, b⟩
    by_cases e : (chooseC s).num = 999999999
    · rw [e] at hW
      refine (reset_full hW _ _ hX (by have := hok.len; omega) (fit_long hok.fit)).mono ?_
      rintro e w' ⟨rfl, rfl⟩
      exact ⟨rfl, hW.bel⟩
    · refine (reset_bad hW _ _ hX (fun k hk => ⟨fun e => by have := hlt k (hF k e); omega, hk.2⟩) (by have := hok.len; omega) hm2 (fit_long hok.fit) (by have := hok.num; omega) (h2.resolve_left e)).mono ?_
      rintro e w' ⟨rfl, F9, h9, _⟩
      exact ⟨rfl, h9.bel⟩
  have hll := hok.len
  clear h2 hok hm2 h1
  generalize chooseC s = cc at *
  have hli : (cc.ls.length : Int) ≤ 1048576 := by omega
  clear hd lo bel gv
  have key : ∀ {w1 ad c F1}, Wl W w1 b w.heap.size cc.s F1 cc.file (cc.num : Int) 0 → (∀ k, F1 k → F k) → Ro w1 (w.heap.size + 1) (.slice ad cc.ls.length c) cc.ls (fun k => w.heap.size + 1 ≤ k) → Calls Tryz.prog 16 #[.pointer (some ⟨w.heap.size, 0, none⟩), .slice ad cc.ls.length c] (w1.setCell ⟨w.heap.size, 3, none⟩ (.int .i64 (cc.ls.length : Int))) fun e w' => e = .returned (.int .i64 3) ∧ Below W.heap.size W w' := fun {w1 ad c F1} hW hF hR => by
    have hs3 := chg_set w1 ⟨w.heap.size, 3, none⟩ (.int .i64 (cc.ls.length : Int))
    have hR2 : Ro (w1.setCell ⟨w.heap.size, 3, none⟩ (.int .i64 (cc.ls.length : Int))) (w.heap.size + 1) (.slice ad cc.ls.length c) cc.ls (fun k => w.heap.size + 1 ≤ k) := hR.kept hs3 (fun k hk e => by have := (hR.lt k hk).1; simp at e; omega) fun k hk e => by simp at e; omega
    exact RS (hW.set3 _) hF hR2.tight
  by_cases hfe : cc.file = []
  · have hf' : (cc.file == []) = true := by simpa using hfe
    go_enter Tryz.func10, Tryz.ntmps10
    go_wp2_with (first
      | (go_at_call 29; (with_reducible refine CH.mono ?_); rintro e w1 ⟨ad, n, c, F1, rfl, hW1, hF1, hC1, hR1⟩; obtain rfl : n = cc.ls.length := (by obtain ⟨ad2, c2, e2⟩ := hR1.form; injection e2); have k1 := hW1.c1; have k3 := hW1.c3; have kf := hW1.fr)
      | (go_at_call 16; (with_reducible refine (key hW1 hF1 (by simpa using hR1)).mono ?_); rintro e w2 ⟨rfl, hL2⟩))
    go_ret3
    exact ⟨rfl, hL2⟩
  · have hf' : (cc.file == []) = false := by simpa using hfe
    have hle : (0 : Int) < (cc.left : Int) := by have := hcond hfe; omega
    go_enter Tryz.func10, Tryz.ntmps10
    go_wp2_with (first
      | (go_at_call 29; (with_reducible refine CH.mono ?_); rintro e w1 ⟨ad, n, c, F1, rfl, hW1, hF1, hC1, hR1⟩; obtain rfl : n = cc.ls.length := (by obtain ⟨ad2, c2, e2⟩ := hR1.form; injection e2); have k1 := hW1.c1; have k3 := hW1.c3; have kf := hW1.fr)
      | (go_at_call 16; (with_reducible refine (key hW1 hF1 (by simpa using hR1)).mono ?_); rintro e w2 ⟨rfl, hL2⟩))
    go_ret3
    exact ⟨rfl, hL2⟩
/-- Open, where it answers a log. -/
theorem open_some {W w : World} {b : Nat} {s : St} {F : Nat → Prop} (hd : Dk w b s F) (lo : ∀ k, F k → W.heap.size ≤ k) (bel : Below W.heap.size W w) (gv : Gv W) (m1 : s.m ≤ 900000000) {s' : St} {file : By} {n : Nat} {ls : List By} (h : openR s = some (s', file, n, ls)) :
    Calls Tryz.prog 10 #[.pointer (some ⟨b, 0, none⟩)] w fun e w' => ∃ ad c F', e = .returned (.tuple #[.pointer (some ⟨w.heap.size, 0, none⟩), .slice ad ls.length c, .int .i64 0]) ∧ Wl W w' b w.heap.size s' F' file (n : Int) (ls.length : Int) ∧ (∀ k, F' k → F k ∨ w.heap.size ≤ k) ∧ Chg F w w' ∧ Ro w' (w.heap.size + 1) (.slice ad ls.length c) ls (fun k => w.heap.size + 1 ≤ k) := by
  unfold openR at h
  split at h
  · rename_i hc
    simp only [Option.some.injEq, Prod.mk.injEq] at h
    obtain ⟨rfl, rfl, rfl, rfl⟩ := h
    exact open_keep hd lo bel gv hc.1 hc.2
  · rename_i hc
    split at h
    · cases h
    · rename_i hn
      split at h
      · rename_i hl
        simp only [Option.some.injEq, Prod.mk.injEq] at h
        obtain ⟨rfl, rfl, rfl, rfl⟩ := h
        exact open_laid hd lo bel gv hc m1 hn hl
      · cases h
theorem open_none {W w : World} {b : Nat} {s : St} {F : Nat → Prop} (hd : Dk w b s F) (lo : ∀ k, F k → W.heap.size ≤ k) (bel : Below W.heap.size W w) (gv : Gv W) (m1 : s.m ≤ 900000000) (h : openR s = none) :
    Calls Tryz.prog 10 #[.pointer (some ⟨b, 0, none⟩)] w fun e w' => e = .returned (.tuple #[.pointer none, .slice none 0 0, .int .i64 3]) ∧ Below W.heap.size W w' := by
  unfold openR at h
  split at h
  · cases h
  · rename_i hc
    refine open_bad hd lo bel gv hc m1 ?_
    split at h
    · rename_i hn; exact .inl hn
    · split at h
      · cases h
      · rename_i hl; exact .inr (by simpa using hl)
end Go.Proofs.YtapdhkgeolcogaaGreatDoor
namespace Go.Proofs.YtapdhkgeolcogaaGreatDoor.Lg
open Dsk
set_option linter.unusedVariables false

theorem has_app (A B : Ds) (M : By) : has (A ++ B) M = (has A M || has B M) := by unfold has; rw [List.any_append]
theorem has_one (M : By) (f : Fl) : has [(M, f)] M = true := by simp [has]
theorem setF_app (A B : Ds) (M : By) (g : Fl → Fl) : setF (A ++ B) M g = setF A M g ++ setF B M g := by simp [setF]
theorem setF_last {A : Ds} {M : By} (h : has A M = false) (f : Fl) (g : Fl → Fl) : setF (A ++ [(M, f)]) M g = A ++ [(M, g f)] := by
  rw [setF_app, setF_not g h]
  simp [setF]
theorem putE_zero {s : St} {nm l : By} (h : putE s nm l = 0) : l.length ≤ 65536 ∧ appE s.l nm (fr l).length = 0 := by
  unfold putE at h
  split at h
  · cases h
  · split at h
    · rename_i h1 h2; exact ⟨by omega, h2⟩
    · cases h
theorem putS_zero {s : St} {nm l : By} (h : putE s nm l = 0) : putS s nm l = ⟨if has s.l nm = true then setF s.l nm (appF s.m (fr l)) else s.l ++ [(nm, appF s.m (fr l) ⟨[], []⟩)], s.m + 1⟩ := by
  obtain ⟨h1, h2⟩ := putE_zero h
  unfold putS
  rw [if_neg (by omega)]
  unfold appS
  rw [if_pos h2]
theorem layF_has {A : Ds} {M : By} (hA : has A M = false) : ∀ (ls : List By) (f : Fl) (m : Int), (layF ⟨A ++ [(M, f)], m⟩ M ls).2 = true → Fit ls ∧ ∃ ws, (layF ⟨A ++ [(M, f)], m⟩ M ls).1 = ⟨A ++ [(M, ⟨f.by_ ++ frs ls, ws⟩)], m + ls.length⟩
  | [], f, m, _ => ⟨by simp [Fit], f.ws, by simp [layF]⟩
  | l :: ls, f, m, h => by
    by_cases hE : putE ⟨A ++ [(M, f)], m⟩ M l = 0
    · rw [layF_cons hE] at h ⊢
      have hp := putS_zero hE
      have hh : has (A ++ [(M, f)]) M = true := by rw [has_app, has_one]; simp
      simp only at hp
      rw [if_pos hh, setF_last hA] at hp
      rw [hp] at h ⊢
      obtain ⟨k1, ws, k2⟩ := layF_has hA ls _ _ h
      refine ⟨fun x hx => ?_, ws, ?_⟩
      · rcases List.mem_cons.1 hx with rfl | hx
        · exact (putE_zero hE).1
        · exact k1 x hx
      · rw [k2]
        simp only [appF, List.flatMap_cons, List.append_assoc, List.length_cons]
        congr 1
        omega
    · rw [layF_bad hE] at h
      cases h
/-- A file laid where there was none. -/
theorem layS_new {s : St} {M : By} {ls : List By} (hM : has s.l M = false) (h : (layS s M ls).2 = true) : Fit ls ∧ (layS s M ls).1 = ⟨s.l ++ [(M, ⟨lf ls, []⟩)], s.m + ls.length + 1⟩ := by
  unfold layS at h ⊢
  by_cases hL : (layF s M (num ls.length :: ls)).2 = true
  · rw [if_pos hL] at h ⊢
    by_cases hE : putE s M (num ls.length) = 0
    · rw [layF_cons hE] at hL ⊢
      have hp := putS_zero hE
      rw [if_neg (by rw [hM]; simp)] at hp
      rw [hp] at hL ⊢
      obtain ⟨k1, ws, k2⟩ := layF_has hM ls _ _ hL
      refine ⟨k1, ?_⟩
      simp only [k2]
      unfold syncS
      simp only [setF_last hM, appF, List.nil_append]
      congr 1
      omega
    · rw [layF_bad hE] at hL
      cases hL
  · rw [if_neg hL] at h
    cases h
theorem rem_split {s : St} {nm : By} : (remS s nm).l = s.l.filter fun p => p.1 != nm := rfl
theorem has_rem {s : St} {nm n : By} (h : n ≠ nm) : has (remS s nm).l n = has s.l n := by
  cases hh : has s.l n with
  | true =>
    obtain ⟨f, hf⟩ := has_iff.1 hh
    exact has_iff.2 ⟨f, List.mem_filter.2 ⟨hf, by simpa using h⟩⟩
  | false =>
    cases hk : has (remS s nm).l n with
    | false => rfl
    | true =>
      obtain ⟨f, hf⟩ := has_iff.1 hk
      have := has_iff.2 ⟨f, (List.mem_filter.1 hf).1⟩
      rw [hh] at this
      cases this
theorem rdB_rem {s : St} (ho : Ok s) {nm n : By} (h : n ≠ nm) : rdB (remS s nm).l n = rdB s.l n := by
  cases hh : has s.l n with
  | true =>
    obtain ⟨f, hf⟩ := has_iff.1 hh
    rw [rdB_mem ho.nd hf, rdB_mem (ok_rem ho nm).nd (List.mem_filter.2 ⟨hf, by simpa using h⟩)]
  | false => rw [rdB_not hh, rdB_not (by rw [has_rem h]; exact hh)]

/-- A log on a disk: its number, its synced records, those behind them; how many files there are. -/
structure Lo (s : St) (n : Nat) (m1 m2 : List By) (c : Nat) : Prop where
  ok : Ok s
  file : ∃ f b1, (nm n, f) ∈ s.l ∧ f.by_ = b1 ++ frs m2 ∧ Wh b1 m1 ∧ sz f ≤ (frs m2).length
  fit : Fit m2
  only : ∀ p ∈ s.l, ∀ k, nOf p.1 = some k → k = n
  n1 : 1 ≤ n
  n2 : n ≤ 999999999
  cnt : s.l.length = c
theorem Lo.has {s : St} {n : Nat} {m1 m2 : List By} {c : Nat} (h : Lo s n m1 m2 c) : has s.l (nm n) = true := by
  obtain ⟨f, b1, h1, _⟩ := h.file
  exact has_iff.2 ⟨f, h1⟩
theorem Lo.hasE {s : St} {n : Nat} {m1 m2 : List By} {c : Nat} (h : Lo s n m1 m2 c) : hasE s.l (nm n) = 0 := by unfold Dsk.hasE; rw [if_pos h.has]
theorem Lo.fit1 {s : St} {n : Nat} {m1 m2 : List By} {c : Nat} (h : Lo s n m1 m2 c) : Fit m1 := by
  obtain ⟨f, b1, _, _, h1, _⟩ := h.file
  exact h1.fit
/-- A file in its place. -/
theorem mem_setF {L : Ds} {nm : By} {f : Fl} (hn : (L.map (·.1)).Nodup) (h : (nm, f) ∈ L) (g : Fl → Fl) : (nm, g f) ∈ setF L nm g := by
  obtain ⟨A, B, _, h2⟩ := split_at hn h
  rw [h2 g]
  simp
theorem only_setF {L : Ds} {nm : By} {g : Fl → Fl} {P : By → Prop} (h : ∀ p ∈ L, P p.1) : ∀ p ∈ setF L nm g, P p.1 := by
  intro p hp
  have : p.1 ∈ (setF L nm g).map (·.1) := List.mem_map.2 ⟨p, hp, rfl⟩
  rw [setF_keys] at this
  obtain ⟨q, hq, e⟩ := List.mem_map.1 this
  rw [← e]
  exact h q hq
theorem Lo.app {s : St} {n : Nat} {m1 m2 : List By} {c : Nat} (h : Lo s n m1 m2 c) {l : By} (hE : putE s (nm n) l = 0) : Lo (putS s (nm n) l) n m1 (m2 ++ [l]) c := by
  obtain ⟨f, b1, h1, h2, h3, h4⟩ := h.file
  have hl := (putE_zero hE).1
  have hok : Ok (putS s (nm n) l) := by
    unfold putS
    rw [if_neg (by omega)]
    exact ok_app h.ok _ _
  have hp := putS_zero hE
  rw [if_pos h.has] at hp
  rw [hp] at hok ⊢
  refine ⟨hok, ⟨appF s.m (fr l) f, b1, mem_setF h.ok.nd h1 _, ?_, h3, ?_⟩, ?_, fun p hp => only_setF (P := fun x => ∀ k, nOf x = some k → k = n) (fun p hp => h.only p hp) p hp, h.n1, h.n2, by simp only [setF_len]; exact h.cnt⟩
  · simp [appF, h2, List.append_assoc]
  · unfold sz appF at *
    simp at *
    omega
  · intro x hx
    rcases List.mem_append.1 hx with hx | hx
    · exact h.fit x hx
    · simp at hx; subst hx; exact hl
theorem Lo.sync {s : St} {n : Nat} {m1 m2 : List By} {c : Nat} (h : Lo s n m1 m2 c) : Lo (syncS s (nm n)) n (m1 ++ m2) [] c := by
  obtain ⟨f, b1, h1, h2, h3, h4⟩ := h.file
  have e : (syncS s (nm n)).l = setF s.l (nm n) (fun f => ⟨f.by_, []⟩) := rfl
  refine ⟨ok_sync h.ok _, ⟨⟨f.by_, []⟩, b1 ++ frs m2, ?_, ?_, h3.more h.fit, ?_⟩, ?_, ?_, h.n1, h.n2, ?_⟩
  · rw [e]; exact mem_setF h.ok.nd h1 (fun f => ⟨f.by_, []⟩)
  · simp [h2]
  · simp [sz]
  · simp [Fit]
  · rw [e]; exact fun p hp => only_setF (P := fun x => ∀ k, nOf x = some k → k = n) (fun p hp => h.only p hp) p hp
  · rw [e, setF_len]; exact h.cnt
theorem lost_le (nx torn : Int) (ws : List (Int × Nat)) : lost nx torn ws ≤ (ws.map (·.2)).sum := by
  unfold lost
  induction ws with
  | nil => simp
  | cons p ws ih => simp only [List.map_cons, List.sum_cons]; omega
/-- A crash keeps what was synced, and of the rest a beginning. -/
theorem Lo.crash {s : St} {n : Nat} {m1 m2 : List By} {c : Nat} (h : Lo s n m1 m2 c) (keep torn : Int) : ∃ b1 k, Ok (crashS s keep torn) ∧ (nm n, (⟨b1 ++ (frs m2).take k, []⟩ : Fl)) ∈ (crashS s keep torn).l ∧ Wh b1 m1 ∧ (∀ p ∈ (crashS s keep torn).l, ∀ k, nOf p.1 = some k → k = n) ∧ (crashS s keep torn).l.length = c ∧ (crashS s keep torn).m = s.m := by
  obtain ⟨f, b1, h1, h2, h3, h4⟩ := h.file
  refine ⟨b1, (frs m2).length - lost (behind s keep.toNat) torn f.ws, ok_crash h.ok _ _, ?_, h3, ?_, ?_, rfl⟩
  · refine List.mem_map.2 ⟨_, h1, ?_⟩
    unfold Fl.crash
    have hl := lost_le (behind s keep.toNat) torn f.ws
    have hz : (f.ws.map (·.2)).sum ≤ (frs m2).length := h4
    simp only [h2]
    congr 2
    rw [List.take_append, List.length_append, List.take_of_length_le (by omega)]
    congr 2
    omega
  · intro p hp k hk
    obtain ⟨q, hq, rfl⟩ := List.mem_map.1 hp
    exact h.only q hq k hk
  · show (List.map _ _).length = _
    rw [List.length_map]
    exact h.cnt

theorem srtS_one (x : By) : srtS [x] = [x] := by simp [srtS]
theorem sorted_one (x : Int) : sorted [x] = [x] := by simp [sorted]
theorem nums_only {n : Nat} : ∀ {l : List By}, l.Nodup → nm n ∈ l → (∀ x ∈ l, ∀ k, nOf x = some k → k = n) → 1 ≤ n → n ≤ 999999999 → numsOf l = [(n : Int)]
  | [], _, h, _, _, _ => by simp at h
  | x :: l, hn, hm, ho, h1, h2 => by
    rw [List.nodup_cons] at hn
    have hno : ∀ l : List By, nm n ∉ l → (∀ x ∈ l, ∀ k, nOf x = some k → k = n) → numsOf l = [] := by
      intro l hl ho
      unfold numsOf
      rw [List.filterMap_eq_nil_iff]
      intro y hy
      cases hk : nOf y with
      | none => rfl
      | some k =>
        have e := ho y hy k hk
        have := (nOf_some hk).2.2
        rw [e] at this
        rw [this] at hy
        exact absurd hy hl
    by_cases e : x = nm n
    · subst e
      have : numsOf (nm n :: l) = (n : Int) :: numsOf l := by unfold numsOf; rw [List.filterMap_cons, nOf_nm h1 h2]; rfl
      rw [this, hno l hn.1 fun y hy => ho y (by simp [hy])]
    · have hx : nOf x = none := by
        cases hk : nOf x with
        | none => rfl
        | some k =>
          have e2 := ho x (by simp) k hk
          have := (nOf_some hk).2.2
          rw [e2] at this
          exact absurd this e
      have : numsOf (x :: l) = numsOf l := by unfold numsOf; rw [List.filterMap_cons, hx]; rfl
      rw [this]
      refine nums_only hn.2 ?_ (fun y hy => ho y (by simp [hy])) h1 h2
      rcases List.mem_cons.1 hm with e2 | e2
      · exact absurd e2.symm e
      · exact e2
theorem nats_only {s : St} (ho : Ok s) {n : Nat} {f : Fl} (hf : (nm n, f) ∈ s.l) (only : ∀ p ∈ s.l, ∀ k, nOf p.1 = some k → k = n) (h1 : 1 ≤ n) (h2 : n ≤ 999999999) : natsS s.l = [n] := by
  unfold natsS numsS
  have hp := List.mergeSort_perm (s.l.map (·.1)) (fun x y => decide (x ≤ y))
  have e : numsOf (srtS (s.l.map (·.1))) = [(n : Int)] := by
    refine nums_only (hp.nodup_iff.2 ho.nd) (hp.mem_iff.2 (List.mem_map.2 ⟨_, hf, rfl⟩)) (fun x hx k hk => ?_) h1 h2
    obtain ⟨p, hp2, rfl⟩ := List.mem_map.1 (hp.mem_iff.1 hx)
    exact only p hp2 k hk
  rw [e, sorted_one]
  rfl
/-- Opening a disk with one log. -/
theorem choose_one {s : St} (ho : Ok s) {n : Nat} {f : Fl} (hf : (nm n, f) ∈ s.l) (only : ∀ p ∈ s.l, ∀ k, nOf p.1 = some k → k = n) (h1 : 1 ≤ n) (h2 : n ≤ 999999999) {ls : List By} {r : Nat} (hr : rdF f.by_ = some (ls, r)) : chooseC s = ⟨s, nm n, n, ls, r⟩ := by
  unfold chooseC
  rw [nats_only ho hf only h1 h2]
  have e : stepC (startC s) n = ⟨s, nm n, n, ls, r⟩ := by
    unfold stepC startC
    rw [if_pos rfl]
    simp only
    rw [rdB_mem ho.nd hf, hr]
    simp
  exact e
/-- What was laid anew beside an old file, with that removed. -/
theorem Lo.laid {s : St} (ho : Ok s) {n : Nat} {f : Fl} (hf : (nm n, f) ∈ s.l) (only : ∀ p ∈ s.l, ∀ k, nOf p.1 = some k → k = n) (h1 : 1 ≤ n) (h2 : n < 999999999) {ls : List By} (h : (layS s (nm (n + 1)) ls).2 = true) (hOk : Ok (remS (layS s (nm (n + 1)) ls).1 (nm n))) :
    Lo (remS (layS s (nm (n + 1)) ls).1 (nm n)) (n + 1) ls [] s.l.length ∧ (remS (layS s (nm (n + 1)) ls).1 (nm n)).m = s.m + ls.length + 1 := by
  have hne : ¬ nm (n + 1) = nm n := fun e => by have := nm_inj e; omega
  have hM : Dsk.has s.l (nm (n + 1)) = false := by
    cases hh : Dsk.has s.l (nm (n + 1)) with
    | false => rfl
    | true =>
      obtain ⟨g, hg⟩ := has_iff.1 hh
      have := only _ hg (n + 1) (nOf_nm (by omega) (by omega))
      omega
  obtain ⟨k1, k2⟩ := layS_new hM h
  have hlen : ls.length < 9223372036854775808 := by
    have ht := hOk.tot
    have hmem : (nm (n + 1), (⟨lf ls, []⟩ : Fl)) ∈ (remS (layS s (nm (n + 1)) ls).1 (nm n)).l := by
      rw [k2]
      exact List.mem_filter.2 ⟨by simp, by simpa using hne⟩
    have h3 := mem_tot hmem
    have h4 : ls.length ≤ (lf ls).length := by
      unfold lf
      rw [List.length_append]
      have : ∀ l : List By, l.length ≤ (frs l).length := by
        intro l
        induction l with
        | nil => simp
        | cons a l ih =>
          have := fr_pos a
          have e : frs (a :: l) = fr a ++ frs l := by simp
          rw [e, List.length_append, List.length_cons]
          omega
      have := this ls
      omega
    simp only at h3
    omega
  have hl : (remS (layS s (nm (n + 1)) ls).1 (nm n)).l = s.l.filter (fun p => p.1 != nm n) ++ [(nm (n + 1), ⟨lf ls, []⟩)] := by
    rw [k2]
    unfold remS
    simp only [List.filter_append]
    congr 1
    rw [List.filter_cons, if_pos (by simpa using hne)]
    rfl
  refine ⟨⟨hOk, ⟨⟨lf ls, []⟩, lf ls, by rw [hl]; simp, by simp, wh_lf k1 hlen, by simp [sz]⟩, by simp [Fit], fun p hp k hk => ?_, by omega, by omega, ?_⟩, by rw [k2]; rfl⟩
  · rw [hl] at hp
    rcases List.mem_append.1 hp with hp | hp
    · obtain ⟨q1, q2⟩ := List.mem_filter.1 hp
      have e := only p q1 k hk
      have e2 := (nOf_some hk).2.2
      rw [e] at e2
      simp [e2] at q2
    · simp at hp
      subst hp
      rw [nOf_nm (by omega) (by omega)] at hk
      injection hk with hk
      exact hk.symm
  · rw [hl, List.length_append]
    obtain ⟨A, B, e, _⟩ := split_at ho.nd hf
    have hnd := ho.nd
    rw [e] at hnd ⊢
    rw [List.map_append, List.map_cons, List.nodup_append] at hnd
    obtain ⟨n1, n2, n3⟩ := hnd
    rw [List.nodup_cons] at n2
    have hA : A.filter (fun p => p.1 != nm n) = A := List.filter_eq_self.2 fun p hp => by
      have := n3 p.1 (List.mem_map.2 ⟨p, hp, rfl⟩) (nm n) (by simp)
      simpa using this
    have hB : B.filter (fun p => p.1 != nm n) = B := List.filter_eq_self.2 fun p hp => by
      have : p.1 ≠ nm n := fun e => n2.1 (List.mem_map.2 ⟨p, hp, e⟩)
      simpa using this
    rw [List.filter_append, List.filter_cons, hA, hB]
    simp
    omega
end Go.Proofs.YtapdhkgeolcogaaGreatDoor.Lg
namespace Go.Proofs.YtapdhkgeolcogaaGreatDoor.Lg
open Dsk
set_option linter.unusedVariables false

theorem putS_ok {s : St} (h : Ok s) (nm l : By) : Ok (putS s nm l) := by
  unfold putS
  split
  · exact h
  · exact ok_app h _ _
theorem layF_ok (nm : By) : ∀ (ls : List By) {s : St}, Ok s → Ok (layF s nm ls).1
  | [], s, h => h
  | l :: ls, s, h => by
    by_cases hE : putE s nm l = 0
    · rw [layF_cons hE]; exact layF_ok nm ls (putS_ok h nm l)
    · rw [layF_bad hE]; exact h
theorem layS_ok {s : St} (h : Ok s) (nm : By) (ls : List By) : Ok (layS s nm ls).1 := by
  unfold layS
  split
  · exact ok_sync (layF_ok nm _ h) _
  · exact layF_ok nm _ h
theorem openR_keep {s : St} {n : Nat} {ls : List By} (h : chooseC s = ⟨s, nm n, n, ls, 0⟩) : openR s = some (s, nm n, n, ls) := by
  unfold openR
  rw [h]
  rw [if_pos ⟨nm_ne n, rfl⟩]
/-- Opening a log that was synced, once more. -/
theorem Lo.again {s : St} {n : Nat} {m1 : List By} {c : Nat} (h : Lo s n m1 [] c) : openR s = some (s, nm n, n, m1) := by
  obtain ⟨f, b1, h1, h2, h3, h4⟩ := h.file
  refine openR_keep (choose_one h.ok h1 h.only h.n1 h.n2 ?_)
  have : f.by_ = b1 := by simpa using h2
  rw [this]
  exact rdF_wh h3
/-- Opening a log in which nothing was appended since its sync. -/
theorem Lo.all {s : St} {n : Nat} {m1 m2 : List By} {c : Nat} (h : Lo s n m1 m2 c) : openR s = some (s, nm n, n, m1 ++ m2) := by
  obtain ⟨f, b1, h1, h2, h3, h4⟩ := h.file
  refine openR_keep (choose_one h.ok h1 h.only h.n1 h.n2 ?_)
  rw [h2]
  exact rdF_wh (h3.more h.fit)
/-- Opening behind a crash: all synced records, and of the rest a beginning. -/
theorem Lo.back {s : St} {n : Nat} {m1 m2 : List By} {c : Nat} (h : Lo s n m1 m2 c) (keep torn : Int) : ∃ j, j ≤ m2.length ∧
    (openR (crashS s keep torn) = none ∨ ∃ s2 n2, openR (crashS s keep torn) = some (s2, nm n2, n2, m1 ++ m2.take j) ∧ Lo s2 n2 (m1 ++ m2.take j) [] c ∧ s2.m ≤ s.m + (m1 ++ m2.take j).length + 1) := by
  obtain ⟨b1, k, o1, o2, o3, o4, o5, o6⟩ := h.crash keep torn
  obtain ⟨j, r, j1, j2, j3⟩ := o3.cut h.fit k
  have hc := choose_one o1 o2 o4 h.n1 h.n2 (ls := m1 ++ m2.take j) (r := r) j2
  refine ⟨j, j1, ?_⟩
  by_cases hr : r = 0
  · subst hr
    refine .inr ⟨_, n, openR_keep hc, ⟨o1, ⟨_, b1 ++ (frs m2).take k, o2, by simp, j3 rfl, by simp [sz]⟩, by simp [Fit], o4, h.n1, h.n2, o5⟩, by omega⟩
  · generalize crashS s keep torn = s1 at *
    by_cases hn : n = 999999999
    · left
      unfold openR
      rw [hc]
      rw [if_neg (fun e => hr e.2), if_pos hn]
    · by_cases hl : (layS s1 (nm (n + 1)) (m1 ++ m2.take j)).2 = true
      · right
        have h2 := h.n2
        have hL := Lo.laid o1 o2 o4 h.n1 (by omega) hl (ok_rem (layS_ok o1 _ _) _)
        rw [o5] at hL
        refine ⟨_, n + 1, ?_, hL.1, by rw [hL.2]; omega⟩
        unfold openR
        rw [hc]
        rw [if_neg (fun e => hr e.2), if_neg hn, if_pos hl]
      · left
        unfold openR
        rw [hc]
        rw [if_neg (fun e => hr e.2), if_neg hn, if_neg hl]
theorem Lo.firm {s : St} {n : Nat} {m1 : List By} {c : Nat} (h : Lo s n m1 [] c) (keep torn : Int) : Lo (crashS s keep torn) n m1 [] c ∧ (crashS s keep torn).m = s.m := by
  obtain ⟨b1, k, o1, o2, o3, o4, o5, o6⟩ := h.crash keep torn
  exact ⟨⟨o1, ⟨_, b1, o2, by simp, o3, by simp [sz]⟩, by simp [Fit], o4, h.n1, h.n2, o5⟩, o6⟩
/-- Laid anew by hand. -/
theorem Lo.reset {s : St} {n : Nat} {m1 m2 : List By} {c : Nat} (h : Lo s n m1 m2 c) {ls : List By} (hn : n < 999999999) (hl : (layS s (nm (n + 1)) ls).2 = true) : Lo (remS (layS s (nm (n + 1)) ls).1 (nm n)) (n + 1) ls [] c ∧ (remS (layS s (nm (n + 1)) ls).1 (nm n)).m = s.m + ls.length + 1 := by
  obtain ⟨f, b1, h1, h2, h3, h4⟩ := h.file
  have hL := Lo.laid h.ok h1 h.only h.n1 hn hl (ok_rem (layS_ok h.ok _ _) _)
  rw [h.cnt] at hL
  exact hL

/-! Any disk. -/
/-- Where the choice stands behind the numbers P. -/
structure ChP (s : St) (P : List Nat) (c : Ch) : Prop where
  ok : Ok c.s
  m : c.s.m = s.m
  sub : ∀ p ∈ c.s.l, p ∈ s.l ∧ ∀ k ∈ P, p.1 = nm k → nm k = c.file
  top : ∀ k ∈ P, k ≤ c.num
  none_ : c.file = [] → c.ls = [] ∧ c.left = 0
  some_ : c.file ≠ [] → ∃ k ∈ P, c.file = nm k ∧ ∃ f, (nm k, f) ∈ c.s.l ∧ rdF f.by_ = some (c.ls, c.left)
  num : c.num ≤ 999999999
theorem ChP.step {s : St} {P : List Nat} {c : Ch} (h : ChP s P c) {n : Nat} (h2 : n ≤ 999999999) (hn : n ∉ P) : ChP s (P ++ [n]) (stepC c n) := by
  have hrem : c.file ≠ nm n → ChP s (P ++ [n]) ⟨remS c.s (nm n), c.file, max c.num n, c.ls, c.left⟩ := fun hf => by
    refine ⟨ok_rem h.ok _, h.m, fun p hp => ?_, fun k hk => ?_, h.none_, fun hne => ?_, by show max c.num n ≤ _; have := h.num; omega⟩
    · obtain ⟨p1, p2⟩ := List.mem_filter.1 hp
      obtain ⟨q1, q2⟩ := h.sub p p1
      refine ⟨q1, fun k hk e => ?_⟩
      rcases List.mem_append.1 hk with hk | hk
      · exact q2 k hk e
      · simp at hk
        subst hk
        simp [e] at p2
    · show k ≤ max c.num n
      rcases List.mem_append.1 hk with hk | hk
      · have := h.top k hk; omega
      · simp at hk; omega
    · obtain ⟨k, k1, k2, f, k3, k4⟩ := h.some_ hne
      refine ⟨k, List.mem_append.2 (.inl k1), k2, f, List.mem_filter.2 ⟨k3, ?_⟩, k4⟩
      have : nm k ≠ nm n := fun e => hf (by rw [k2, e])
      simpa using this
  have hfn : c.file ≠ [] → c.file ≠ nm n := fun hne e => by
    obtain ⟨k, k1, k2, _⟩ := h.some_ hne
    have := nm_inj (k2.symm.trans e)
    rw [this] at k1
    exact hn k1
  unfold stepC
  by_cases hf : c.file = []
  · rw [if_pos hf]
    cases hr : rdF (rdB c.s.l (nm n)) with
    | none => exact hrem (by rw [hf]; exact (nm_ne n).symm)
    | some p =>
      obtain ⟨ls, r⟩ := p
      simp only
      have hhas : has c.s.l (nm n) = true := by
        cases hk : has c.s.l (nm n) with
        | true => rfl
        | false =>
          rw [rdB_not hk] at hr
          unfold rdF at hr
          rw [un_nil] at hr
          cases hr
      obtain ⟨f, hff⟩ := has_iff.1 hhas
      refine ⟨h.ok, h.m, fun p hp => ?_, fun k hk => ?_, fun e => absurd e (nm_ne n), fun _ => ⟨n, by simp, rfl, f, hff, by rw [← rdB_mem h.ok.nd hff]; exact hr⟩, by show max c.num n ≤ _; have := h.num; omega⟩
      · obtain ⟨q1, q2⟩ := h.sub p hp
        refine ⟨q1, fun k hk e => ?_⟩
        rcases List.mem_append.1 hk with hk | hk
        · have := q2 k hk e
          rw [hf] at this
          exact absurd this (nm_ne k)
        · simp at hk; rw [hk]
      · show k ≤ max c.num n
        rcases List.mem_append.1 hk with hk | hk
        · have := h.top k hk; omega
        · simp at hk; omega
  · rw [if_neg hf]
    exact hrem (hfn hf)
theorem ChP.steps {s : St} : ∀ (zs P : List Nat) (c : Ch), ChP s P c → (P ++ zs).Nodup → (∀ n ∈ zs, n ≤ 999999999) → ChP s (P ++ zs) (zs.foldl stepC c)
  | [], P, c, h, _, _ => by simpa using h
  | z :: zs, P, c, h, hn, hz => by
    have e : P ++ z :: zs = (P ++ [z]) ++ zs := by simp
    rw [e] at hn ⊢
    rw [List.foldl_cons]
    refine ChP.steps zs (P ++ [z]) _ ?_ hn fun n hk => hz n (by simp [hk])
    have hzP : z ∉ P := by
      have h1 := (List.nodup_append.1 hn).1
      intro hc
      exact (List.nodup_append.1 h1).2.2 z hc z (by simp) rfl
    exact ChP.step h (hz z (by simp)) hzP

theorem numsOf_nodup : ∀ {l : List By}, l.Nodup → (numsOf l).Nodup
  | [], _ => by simp [numsOf]
  | x :: l, h => by
    rw [List.nodup_cons] at h
    have ih := numsOf_nodup h.2
    cases hk : nOf x with
    | none =>
      have : numsOf (x :: l) = numsOf l := by unfold numsOf; rw [List.filterMap_cons, hk]; rfl
      rw [this]
      exact ih
    | some k =>
      have : numsOf (x :: l) = (k : Int) :: numsOf l := by unfold numsOf; rw [List.filterMap_cons, hk]; rfl
      rw [this, List.nodup_cons]
      refine ⟨fun hc => ?_, ih⟩
      unfold numsOf at hc
      obtain ⟨y, hy, e⟩ := List.mem_filterMap.1 hc
      cases hj : nOf y with
      | none => rw [hj] at e; cases e
      | some j =>
        rw [hj] at e
        simp at e
        have ejk : j = k := by omega
        have e1 := (nOf_some hk).2.2
        have e2 := (nOf_some hj).2.2
        rw [ejk, ← e1] at e2
        rw [e2] at hy
        exact h.1 hy
theorem nats_nodup {s : St} (ho : Ok s) : (natsS s.l).Nodup := by
  obtain ⟨zs, h1, h2⟩ := nums_nn s.l
  have hp := List.mergeSort_perm (s.l.map (·.1)) (fun x y => decide (x ≤ y))
  have hn : (numsS s.l).Nodup := (List.mergeSort_perm _ _).nodup_iff.2 (numsOf_nodup (hp.nodup_iff.2 ho.nd))
  rw [h1] at hn
  rw [h2]
  unfold List.Nodup at *
  rw [List.pairwise_map] at *
  exact hn.imp fun {a b} hab e => hab (by rw [e])
theorem mem_nats {s : St} {p : By × Fl} (hp : p ∈ s.l) {k : Nat} (hk : nOf p.1 = some k) : k ∈ natsS s.l := by
  unfold natsS
  refine List.mem_map.2 ⟨(k : Int), ?_, by simp⟩
  unfold numsS
  refine (List.mergeSort_perm _ _).mem_iff.2 ?_
  unfold numsOf
  refine List.mem_filterMap.2 ⟨p.1, (List.mergeSort_perm _ _).mem_iff.2 (List.mem_map.2 ⟨p, hp, rfl⟩), ?_⟩
  rw [hk]
  rfl
theorem nats_le {s : St} : ∀ n ∈ natsS s.l, n ≤ 999999999 := by
  intro n hn
  obtain ⟨zs, _, h2⟩ := nums_nn s.l
  rw [h2] at hn
  obtain ⟨z, _, rfl⟩ := List.mem_map.1 hn
  exact z.2.2
theorem choose_P {s : St} (ho : Ok s) : ChP s (natsS s.l).reverse (chooseC s) := by
  have h := ChP.steps (s := s) (natsS s.l).reverse [] (startC s) ⟨ho, rfl, fun p hp => ⟨hp, by simp⟩, by simp, fun _ => ⟨rfl, rfl⟩, fun e => absurd rfl e, by simp [startC]⟩ (by rw [List.nil_append]; exact (List.reverse_perm _).nodup_iff.2 (nats_nodup ho)) (fun n hn => nats_le n (by simpa using hn))
  rw [List.nil_append] at h
  exact h
/-- A log on a disk, whatever waits. -/
structure Lk (s : St) (n : Nat) (ls : List By) : Prop where
  ok : Ok s
  file : ∃ f, (nm n, f) ∈ s.l ∧ Wh f.by_ ls
  only : ∀ p ∈ s.l, ∀ k, nOf p.1 = some k → k = n
  n1 : 1 ≤ n
  n2 : n ≤ 999999999
theorem Lk.has {s : St} {n : Nat} {ls : List By} (h : Lk s n ls) : Dsk.has s.l (nm n) = true := by
  obtain ⟨f, h1, _⟩ := h.file
  exact has_iff.2 ⟨f, h1⟩
theorem Lk.again {s : St} {n : Nat} {ls : List By} (h : Lk s n ls) : openR s = some (s, nm n, n, ls) := by
  obtain ⟨f, h1, h2⟩ := h.file
  exact openR_keep (choose_one h.ok h1 h.only h.n1 h.n2 (rdF_wh h2))
theorem Lk.app {s : St} {n : Nat} {ls : List By} (h : Lk s n ls) {l : By} (hE : putE s (nm n) l = 0) : Lk (putS s (nm n) l) n (ls ++ [l]) ∧ rdB (putS s (nm n) l).l (nm n) = rdB s.l (nm n) ++ fr l := by
  obtain ⟨f, h1, h2⟩ := h.file
  have hl := (putE_zero hE).1
  have hok := putS_ok h.ok (nm n) l
  have hp := putS_zero hE
  rw [if_pos h.has] at hp
  rw [hp] at hok ⊢
  have hm := mem_setF h.ok.nd h1 (appF s.m (fr l))
  refine ⟨⟨hok, ⟨appF s.m (fr l) f, hm, h2.app hl⟩, fun p hp => only_setF (P := fun x => ∀ k, nOf x = some k → k = n) (fun p hp => h.only p hp) p hp, h.n1, h.n2⟩, ?_⟩
  rw [rdB_mem hok.nd hm, rdB_mem h.ok.nd h1]
  rfl
theorem Lo.lk {s : St} {n : Nat} {m1 m2 : List By} {c : Nat} (h : Lo s n m1 m2 c) : Lk s n (m1 ++ m2) := by
  obtain ⟨f, b1, h1, h2, h3, h4⟩ := h.file
  exact ⟨h.ok, ⟨f, h1, by rw [h2]; exact h3.more h.fit⟩, h.only, h.n1, h.n2⟩
/-- What opening any disk leaves. -/
theorem open_any {s : St} (ho : Ok s) {s' : St} {file : By} {n : Nat} {ls : List By} (h : openR s = some (s', file, n, ls)) : ∃ k, file = nm k ∧ k ≤ n ∧ n ≤ 999999999 ∧ Lk s' k ls ∧ s'.m ≤ s.m + ls.length + 1 := by
  have hP := choose_P ho
  have hall : ∀ {p : By × Fl} {k : Nat}, p ∈ s.l → nOf p.1 = some k → k ∈ (natsS s.l).reverse := fun hp hk => by
    rw [List.mem_reverse]
    exact mem_nats hp hk
  unfold openR at h
  split at h
  · rename_i hc
    simp only [Option.some.injEq, Prod.mk.injEq] at h
    obtain ⟨rfl, rfl, rfl, rfl⟩ := h
    obtain ⟨k, k1, k2, f, k3, k4⟩ := hP.some_ hc.1
    rw [hc.2] at k4
    have hk1 : k ≤ 999999999 := nats_le k (by simpa using k1)
    have hk0 : 1 ≤ k := by
      obtain ⟨zs, _, h2⟩ := nums_nn s.l
      rw [List.mem_reverse, h2] at k1
      obtain ⟨z, _, rfl⟩ := List.mem_map.1 k1
      exact z.2.1
    refine ⟨k, k2, hP.top k k1, hP.num, ⟨hP.ok, ⟨f, k3, wh_rdF k4⟩, fun p hp j hj => ?_, hk0, hk1⟩, by rw [hP.m]; omega⟩
    obtain ⟨q1, q2⟩ := hP.sub p hp
    have e1 := (nOf_some hj).2.2
    have e2 := q2 j (hall q1 hj) e1
    rw [k2] at e2
    exact nm_inj e2
  · rename_i hc
    split at h
    · cases h
    · rename_i hn
      split at h
      · rename_i hl
        simp only [Option.some.injEq, Prod.mk.injEq] at h
        obtain ⟨rfl, rfl, rfl, rfl⟩ := h
        have hnum := hP.num
        generalize chooseC s = cc at *
        have hM : Dsk.has cc.s.l (nm (cc.num + 1)) = false := by
          cases hh : Dsk.has cc.s.l (nm (cc.num + 1)) with
          | false => rfl
          | true =>
            obtain ⟨g, hg⟩ := has_iff.1 hh
            have := hP.top _ (hall (hP.sub _ hg).1 (nOf_nm (n := cc.num + 1) (by omega) (by omega)))
            omega
        obtain ⟨k1, k2⟩ := layS_new hM hl
        have hOk : Ok (remS (layS cc.s (nm (cc.num + 1)) cc.ls).1 cc.file) := ok_rem (layS_ok hP.ok _ _) _
        have hne : nm (cc.num + 1) ≠ cc.file := fun e => by
          have hf : cc.file ≠ [] := by rw [← e]; exact nm_ne _
          obtain ⟨k, j1, j2, _⟩ := hP.some_ hf
          have := hP.top k j1
          have := nm_inj (e.trans j2)
          omega
        have hlen : cc.ls.length < 9223372036854775808 := by
          by_cases hf : cc.file = []
          · rw [(hP.none_ hf).1]; simp
          · obtain ⟨k, _, _, f, j3, j4⟩ := hP.some_ hf
            have h1 := (rdF_fit j4).2.1
            have h2 := mem_tot j3
            have h3 := hP.ok.tot
            simp only at h2
            omega
        have hL : (remS (layS cc.s (nm (cc.num + 1)) cc.ls).1 cc.file).l = cc.s.l.filter (fun p => p.1 != cc.file) ++ [(nm (cc.num + 1), ⟨lf cc.ls, []⟩)] := by
          rw [k2]
          unfold remS
          simp only [List.filter_append]
          congr 1
          rw [List.filter_cons, if_pos (by simpa using hne)]
          rfl
        refine ⟨cc.num + 1, rfl, Nat.le_refl _, by omega, ⟨hOk, ⟨⟨lf cc.ls, []⟩, by rw [hL]; simp, wh_lf k1 hlen⟩, fun p hp j hj => ?_, by omega, by omega⟩, by rw [k2]; show cc.s.m + _ + 1 ≤ _; rw [hP.m]; omega⟩
        rw [hL] at hp
        rcases List.mem_append.1 hp with hp | hp
        · obtain ⟨q1, q2⟩ := List.mem_filter.1 hp
          obtain ⟨r1, r2⟩ := hP.sub p q1
          have e1 := (nOf_some hj).2.2
          have e2 := r2 j (hall r1 hj) e1
          rw [e1, e2] at q2
          simp at q2
        · simp at hp
          subst hp
          rw [nOf_nm (by omega) (by omega)] at hj
          injection hj with hj
          exact hj.symm
      · cases h

/-! A new disk. -/
theorem isNm_nm {n : Nat} (h : n < 10000000000) : isNm (nm n) = true := by
  have hl := nm_len h
  have hp : 1 ≤ (nm n).length := by simp [nm, pre]
  unfold isNm
  simp only [Bool.and_eq_true, decide_eq_true_eq]
  refine ⟨⟨hp, by omega⟩, ?_⟩
  rw [List.all_eq_true]
  intro c hc
  unfold nm at hc
  rcases List.mem_append.1 hc with hc | hc
  · have : ∀ c ∈ pre, isB c = true := by decide
    exact this c hc
  · obtain ⟨h1, h2⟩ := dec_byte n c hc
    unfold isB
    simp [h1, h2]
theorem open_new : ∃ s1, openR newS = some (s1, nm 1, 1, []) ∧ Lo s1 1 [] [] 1 ∧ s1.m = 1 := by
  have hc : chooseC newS = startC newS := by
    unfold chooseC natsS numsS newS numsOf
    simp [srtS, sorted]
  have hE : putE newS (nm 1) (num 0) = 0 := by
    unfold putE
    have h0 := num_len (n := 0) (by omega)
    have h1 := fr_le (l := num 0) (by omega)
    rw [if_neg (by omega)]
    have : appE newS.l (nm 1) (fr (num 0)).length = 0 := by
      unfold appE
      rw [if_neg (by rw [isNm_nm (by omega)]; simp)]
      rw [if_neg (by simp [newS, tot]; omega)]
    rw [if_pos this]
  have hM : has newS.l (nm 1) = false := rfl
  have hl : (layS newS (nm 1) []).2 = true := by
    unfold layS
    have e : layF newS (nm 1) [num 0] = (putS newS (nm 1) (num 0), true) := by rw [layF_cons hE]; rfl
    simp only [List.length_nil, e, if_true]
    have hp := putS_zero hE
    rw [if_neg (by rw [hM]; simp)] at hp
    rw [hp]
    unfold hasE
    rw [has_app, has_one]
    simp
  obtain ⟨k1, k2⟩ := layS_new hM hl
  have e0 : openR newS = some (remS (layS newS (nm 1) []).1 [], nm 1, 1, []) := by
    unfold openR
    rw [hc]
    simp only [startC, Nat.zero_add]
    simp [hl]
  have hr : remS (layS newS (nm 1) []).1 [] = ⟨[(nm 1, ⟨lf [], []⟩)], 1⟩ := by
    rw [k2]
    unfold remS newS
    simp only [List.nil_append]
    rw [List.filter_cons, if_pos (by simpa using nm_ne 1)]
    rfl
  rw [hr] at e0
  have hok : Ok (remS (layS newS (nm 1) []).1 []) := ok_rem (layS_ok ok_new _ _) _
  rw [hr] at hok
  refine ⟨_, e0, ⟨hok, ⟨⟨lf [], []⟩, lf [], by simp, by simp, wh_lf (by simp [Fit]) (by simp), by simp [sz]⟩, by simp [Fit], fun p hp k hk => ?_, by omega, by omega, rfl⟩, rfl⟩
  simp at hp
  subst hp
  rw [nOf_nm (by omega) (by omega)] at hk
  injection hk with hk
  exact hk.symm
end Go.Proofs.YtapdhkgeolcogaaGreatDoor.Lg
namespace Go.Proofs.YtapdhkgeolcogaaGreatDoor
open Go.RowKit Dsk Lg
set_option linter.unusedVariables false

theorem bI_eq {a b : By} : decide (bI a = bI b) = decide (a = b) := by
  by_cases h : a = b
  · simp [h]
  · have : ¬ bI a = bI b := fun e => h (bI_inj e)
    simp [h, this]
theorem str_run {w : World} {p : S3} {l : By} (h : eB.Rx w (sv p) l) (hl : l.length ≤ 9223372036854775807) : (convert 39 9 (.slice p.1 p.2.1 p.2.2)).run Tryz.prog w = .ok (.string (Cd.Code.ofB (bI l))) w := Cd.run_string (rx_cd h hl)
theorem str_same (a b : By) : ((Cd.Code.ofB (bI a)).toList == (Cd.Code.ofB (bI b)).toList) = decide (a = b) := by rw [Cd.str_eq (bI_bytes a) (bI_bytes b), bI_eq]
set_option maxRecDepth 100000 in
set_option maxHeartbeats 3200000 in
theorem lists_any (v1 v2 : Value) (l1 l2 : List By) {R1 R2 : Nat → Prop} (w : World) (h1 : Rl w v1 l1 R1) (h2 : Rl w v2 l2 R2) (n1 : l1.length ≤ 100000000) (n2 : l2.length ≤ 100000000) (f1 : ∀ l ∈ l1, l.length ≤ 9223372036854775807) (f2 : ∀ l ∈ l2, l.length ≤ 9223372036854775807) :
    Calls Tryz.prog 20 #[v1, v2] w fun e w' => e = .returned (.bool (decide (l1 = l2))) ∧ w.grownBy w' none := by
  obtain ⟨a1, c1, rfl⟩ := h1.form
  obtain ⟨a2, c2, rfl⟩ := h2.form
  by_cases hn : l1.length = l2.length
  · have HN : Hid (l1.length = l2.length) := hn
    have hni : ((l1.length : Int) != (l2.length : Int)) = false := by simp; omega
    have H1 : Hid (Rl w (.slice a1 l1.length c1) l1 R1) := h1
    have H2 : Hid (Rl w (.slice a2 l2.length c2) l2 R2) := h2
    have F1 : Hid (∀ l ∈ l1, l.length ≤ 9223372036854775807) := f1
    have F2 : Hid (∀ l ∈ l2, l.length ≤ 9223372036854775807) := f2
    clear h1 h2 hn f1 f2
    go_enter Tryz.func20, Tryz.ntmps20
    go_wp2
    go_loopw [5] (fun i wr => ∃ k : Nat, k ≤ l1.length ∧ i = .int .i64 k ∧ Hid (l1.take k = l2.take k) ∧ w.grownBy wr none) (fun i _ => l1.length - (intOf i).toNat)
    case atStart => exact ⟨0, Nat.zero_le _, rfl, by show _ = _; simp, grown_refl _ _⟩
    case round =>
      obtain ⟨k, hk, rfl, HT, hg⟩ := hrel
      by_cases hlt : k < l1.length
      · have hlt2 : k < l2.length := by have := HN.out; omega
        obtain ⟨vs, x1, x2, x3⟩ := H1.out.grown (grown_drew hg)
        obtain ⟨us, y1, y2, y3⟩ := H2.out.grown (grown_drew hg)
        obtain ⟨p, l, hp, hl, hpl⟩ := x2.at_ hlt
        obtain ⟨q, m, hq, hm, hqm⟩ := y2.at_ hlt2
        obtain ⟨g, o, cc, ev, hcell⟩ := x1.at_ hp
        obtain ⟨g', o', cc', ev', hcell'⟩ := y1.at_ hq
        injection ev with e1 e2 e3
        injection ev' with e1' e2' e3'
        subst e1 e1' e3 e3'
        clear e2 e2'
        have hcx : wr.drew.cell? ⟨g, o + k, none⟩ = some (.slice p.1 p.2.1 p.2.2) := by
          have := hcell 0 _ rfl
          have e : eL.size = 1 := rfl
          rw [e, Nat.mul_one, Nat.add_zero] at this
          exact this
        have hcy : wr.drew.cell? ⟨g', o' + k, none⟩ = some (.slice q.1 q.2.1 q.2.2) := by
          have := hcell' 0 _ rfl
          have e : eL.size = 1 := rfl
          rw [e, Nat.mul_one, Nat.add_zero] at this
          exact this
        have s1 := str_run hpl (F1.out l (List.mem_of_getElem? hl))
        have s2 := str_run hqm (F2.out m (List.mem_of_getElem? hm))
        have hse := str_same l m
        have HA : Hid (l1[k]? = some l ∧ l2[k]? = some m) := ⟨hl, hm⟩
        clear hp hq hl hm hpl hqm hcell hcell' x1 x2 x3 y1 y2 y3
        obtain ⟨pa, pn, pc⟩ := p
        obtain ⟨qa, qn, qc⟩ := q
        simp only at hcx hcy s1 s2
        generalize Cd.Code.ofB (bI l) = X at *
        generalize Cd.Code.ofB (bI m) = Y at *
        have hki : (k : Int) < (l1.length : Int) := by omega
        have hki2 : (k : Int) < (l2.length : Int) := by omega
        by_cases hlm : l = m
        · have hd : decide (l = m) = true := by simpa using hlm
          rw [hd] at hse
          have HT2 : Hid (l1.take (k + 1) = l2.take (k + 1)) := by
            show _ = _
            rw [List.take_add_one, List.take_add_one, HT.out, HA.out.1, HA.out.2, hlm]
          clear hd hlm HA HT
          go_wp2
          refine region_still (by kernel_rfl) (by kernel_rfl) ?_
          iterate 11 still_step
          refine wpStill_nil ?_
          go_wp2
          go_roundw
          case rel => exact ⟨k + 1, by omega, by go_num, HT2, grown_drew hg⟩
          case measure => simp [intOf]; omega
        · have hd : decide (l = m) = false := by simpa using hlm
          rw [hd] at hse
          have hne : ¬ l1 = l2 := fun e => by
            have := HA.out.1
            rw [e, HA.out.2] at this
            injection this with this
            exact hlm this.symm
          have HNE : Hid (decide (l1 = l2) = false) := by show _ = _; simpa using hne
          clear hd hlm HA HT hne
          go_wp2
          refine region_still (by kernel_rfl) (by kernel_rfl) ?_
          iterate 11 still_step
          refine wpStill_nil ?_
          go_wp2
          go_ret
          exact ⟨by rw [HNE.out]; rfl, grown_drew hg⟩
      · obtain rfl : k = l1.length := by omega
        have heq : l1 = l2 := by
          have := HT.out
          rw [List.take_length] at this
          rw [this, HN.out, List.take_length]
        have HE : Hid (decide (l1 = l2) = true) := by show _ = _; simpa using heq
        clear HT heq
        go_wp2
        go_ret
        exact ⟨by rw [HE.out]; rfl, hg⟩
  · have hni : ((l1.length : Int) == (l2.length : Int)) = false := by simp; omega
    have hd : decide (l1 = l2) = false := by simp; exact fun e => hn (by rw [e])
    rw [hd]
    clear h1 h2 f1 f2
    go_enter Tryz.func20, Tryz.ntmps20
    go_wp2
    go_ret
    exact ⟨rfl, grown_refl _ _⟩
end Go.Proofs.YtapdhkgeolcogaaGreatDoor
namespace Go.Proofs.YtapdhkgeolcogaaGreatDoor.Lg
open Dsk
set_option linter.unusedVariables false

theorem nm1 : nm 1 = [108, 111, 103, 45, 49] := by unfold nm; rw [Lib.decDigits]; rfl
theorem nm2 : nm 2 = [108, 111, 103, 45, 50] := by unfold nm; rw [Lib.decDigits]; rfl
theorem putE_fits {s : St} {M l : By} (hl : l.length ≤ 65536) (hM : isNm M = true) (hh : has s.l M = true ∨ s.l.length < 64) (ht : tot s.l + (fr l).length ≤ 1048576) : putE s M l = 0 := by
  unfold putE
  rw [if_neg (by omega)]
  have : appE s.l M (fr l).length = 0 := by
    unfold appE
    rw [if_neg (by rw [hM]; simp), if_neg]
    rintro (⟨h1, h2⟩ | h)
    · rcases hh with e | e
      · rw [e] at h1; cases h1
      · omega
    · omega
  rw [if_pos this]
theorem tot_last (A : Ds) (M : By) (f : Fl) : tot (A ++ [(M, f)]) = tot A + f.by_.length := by rw [tot_app, tot_cons]; simp [tot]
theorem layF_fits {A : Ds} {M : By} (hA : has A M = false) (hM : isNm M = true) : ∀ (ls : List By) (f : Fl) (m : Int), Fit ls → tot A + f.by_.length + (frs ls).length ≤ 1048576 → (layF ⟨A ++ [(M, f)], m⟩ M ls).2 = true
  | [], f, m, _, _ => rfl
  | l :: ls, f, m, hF, ht => by
    have e : frs (l :: ls) = fr l ++ frs ls := by simp
    rw [e, List.length_append] at ht
    have hh : has (A ++ [(M, f)]) M = true := by rw [has_app, has_one]; simp
    have hE : putE ⟨A ++ [(M, f)], m⟩ M l = 0 := putE_fits (hF l (by simp)) hM (.inl hh) (by simp only [tot_last]; omega)
    rw [layF_cons hE]
    have hp := putS_zero hE
    simp only at hp
    rw [if_pos hh, setF_last hA] at hp
    rw [hp]
    exact layF_fits hA hM ls _ _ (fun x hx => hF x (by simp [hx])) (by simp only [appF, List.length_append]; omega)
theorem layS_fits {s : St} {M : By} {ls : List By} (hA : has s.l M = false) (hM : isNm M = true) (hn : s.l.length < 64) (hF : Fit ls) (hl : ls.length < 9223372036854775808) (ht : tot s.l + (lf ls).length ≤ 1048576) : (layS s M ls).2 = true := by
  unfold lf at ht
  rw [List.length_append] at ht
  have hE : putE s M (num ls.length) = 0 := putE_fits (by have := num_len hl; omega) hM (.inr hn) (by omega)
  have hp := putS_zero hE
  rw [if_neg (by rw [hA]; simp)] at hp
  have hL : (layF s M (num ls.length :: ls)).2 = true := by
    rw [layF_cons hE, hp]
    exact layF_fits hA hM ls _ _ hF (by simp only [appF, List.length_append, List.length_nil]; omega)
  unfold layS
  rw [if_pos hL]
  have hL2 : (layF ⟨s.l ++ [(M, appF s.m (fr (num ls.length)) ⟨[], []⟩)], s.m + 1⟩ M ls).2 = true := by rw [layF_cons hE, hp] at hL; exact hL
  obtain ⟨_, ws, k⟩ := layF_has hA ls _ _ hL2
  simp only [layF_cons hE, hp, k]
  unfold hasE
  rw [has_app, has_one]
  simp
/-- The disk that the first look makes, step by step. -/
def aS (n : Nat) (b : By) (ws : List (Int × Nat)) (m : Int) : St := ⟨[(nm n, ⟨b, ws⟩)], m⟩
theorem aS_put {b : By} {ws : List (Int × Nat)} {m : Int} {l : By} (hl : l.length ≤ 1000) (hb : b.length ≤ 1000) : putE (aS 1 b ws m) (nm 1) l = 0 ∧ putS (aS 1 b ws m) (nm 1) l = aS 1 (b ++ fr l) (ws ++ [(m, (fr l).length)]) (m + 1) := by
  have hfl := fr_le (l := l) (by omega)
  have hE : putE (aS 1 b ws m) (nm 1) l = 0 := putE_fits (by omega) (isNm_nm (by omega)) (.inl (has_one _ _)) (by simp [aS, tot]; omega)
  refine ⟨hE, ?_⟩
  rw [putS_zero hE]
  unfold aS
  simp only
  rw [if_pos (has_one _ _)]
  have := setF_last (A := []) (M := nm 1) rfl ⟨b, ws⟩ (appF m (fr l))
  rw [List.nil_append, List.nil_append] at this
  rw [this]
  rfl
theorem aS_sync (b : By) (ws : List (Int × Nat)) (m : Int) : syncS (aS 1 b ws m) (nm 1) = aS 1 b [] m := by
  unfold aS syncS
  have := setF_last (A := []) (M := nm 1) rfl ⟨b, ws⟩ (fun f => ⟨f.by_, []⟩)
  rw [List.nil_append, List.nil_append] at this
  rw [this]
theorem aS_crash (b l : By) (m : Int) (hl : 3 ≤ l.length) : crashS (aS 1 (b ++ l) [(m, l.length)] (m + 1)) 0 3 = aS 1 (b ++ l.take 3) [] (m + 1) := by
  have hb : behind (aS 1 (b ++ l) [(m, l.length)] (m + 1)) 0 = m := by
    unfold behind aS nums
    simp [sorted]
  have h0 : (0 : Int).toNat = 0 := rfl
  unfold crashS
  rw [h0, hb]
  unfold aS Fl.crash lost stays
  simp only [List.map_cons, List.map_nil, List.sum_cons, List.sum_nil]
  have h3 : (3 : Int).toNat = 3 := rfl
  rw [if_neg (by omega), if_neg (by omega), h3, Nat.min_eq_left hl]
  congr 3
  congr 1
  rw [List.length_append, List.take_append, List.take_of_length_le (by omega)]
  congr 2
  omega
theorem open_new' : openR newS = some (aS 1 (lf []) [] 1, nm 1, 1, []) := by
  obtain ⟨s1, h1, h2, h3⟩ := open_new
  have hl : (layS newS (nm 1) []).2 = true := layS_fits rfl (isNm_nm (by omega)) (by simp [newS]) (by simp [Fit]) (by simp) (by
    have h0 := num_len (n := 0) (by omega)
    have h1 := fr_le (l := num 0) (by omega)
    simp [newS, tot, lf]
    omega)
  have hc : chooseC newS = startC newS := by
    unfold chooseC natsS numsS newS numsOf
    simp [srtS, sorted]
  obtain ⟨_, k2⟩ := layS_new (s := newS) (M := nm 1) (ls := []) rfl hl
  have hr : remS (layS newS (nm 1) []).1 [] = aS 1 (lf []) [] 1 := by
    rw [k2]
    unfold remS newS aS
    simp only [List.nil_append]
    rw [List.filter_cons, if_pos (by simpa using nm_ne 1)]
    rfl
  unfold openR
  rw [hc]
  simp only [startC, Nat.zero_add]
  simp [hl, hr]
/-- The first look: a record, a sync, a record, a crash in that; opened again. -/
theorem awake_open : openR (aS 1 (lf [] ++ fr [97] ++ (fr [98, 99]).take 3) [] 3) = some (aS 2 (lf [[97]]) [] 5, nm 2, 2, [[97]]) := by
  have f1 := fr_le (l := [97]) (by simp)
  have f2 := fr_pos [98, 99]
  have h0 := num_len (n := 0) (by omega)
  have h1 := fr_le (l := num 0) (by omega)
  have h10 := num_len (n := 1) (by omega)
  have h11 := fr_le (l := num 1) (by omega)
  have hB : (lf []).length ≤ 100 := by unfold lf; simp; omega
  have hok : Ok (aS 1 (lf [] ++ fr [97] ++ (fr [98, 99]).take 3) [] 3) := by
    refine ⟨by simp [aS], by simp [aS], ?_, by simp [aS, sz], by simp [aS, nums], by simp [aS, nums], by simp [aS], ?_⟩
    · unfold aS tot
      simp only [List.map_cons, List.map_nil, List.sum_cons, List.sum_nil, List.length_append, List.length_take]
      have f1' : ([97] : By).length = 1 := rfl
      omega
    · intro p hp
      simp [aS] at hp
      subst hp
      exact isNm_nm (by omega)
  have hW : Wh (lf [] ++ fr [97]) [[97]] := (wh_lf (ls := []) (by simp [Fit]) (by simp)).app (l := [97]) (by simp)
  have hrc : recs ((fr [98, 99]).take 3) = ([], 3) := by
    have : ([98, 99] : By).length = 2 := rfl
    rw [recs_none (un_cut (by simp) (by omega)), List.length_take]
    congr 1
    omega
  have hrd : rdF (lf [] ++ fr [97] ++ (fr [98, 99]).take 3) = some ([[97]], 3) := by
    obtain ⟨hh, c, g1, g2, g3, g4, g5⟩ := hW
    rw [g4]
    have e : recs (frs [[97]] ++ (fr [98, 99]).take 3) = ([[97]], 3) := by rw [recs_frs g5, hrc]; rfl
    unfold rdF
    rw [List.append_assoc, un_fr g1]
    simp only [g2, List.drop_left, e]
    rw [if_pos g3]
  have hc := choose_one (s := aS 1 (lf [] ++ fr [97] ++ (fr [98, 99]).take 3) [] 3) hok (n := 1) (f := ⟨_, []⟩) (by simp [aS]) (fun p hp k hk => by
    simp [aS] at hp
    subst hp
    rw [nOf_nm (by omega) (by omega)] at hk
    injection hk with hk
    exact hk.symm) (by omega) (by omega) hrd
  have hne : ¬ nm 1 = nm 2 := fun e => by have := nm_inj e; omega
  have hhas : has (aS 1 (lf [] ++ fr [97] ++ (fr [98, 99]).take 3) [] 3).l (nm 2) = false := by simp [aS, has, hne]
  have hl : (layS (aS 1 (lf [] ++ fr [97] ++ (fr [98, 99]).take 3) [] 3) (nm 2) [[97]]).2 = true := by
    refine layS_fits hhas (isNm_nm (by omega)) (by simp [aS]) (by simp [Fit]) (by simp) ?_
    unfold aS tot
    have e : (lf [[97]]).length = (fr (num 1)).length + (fr [97]).length := by simp [lf]
    rw [e]
    simp only [List.map_cons, List.map_nil, List.sum_cons, List.sum_nil, List.length_append, List.length_take]
    have f1' : ([97] : By).length = 1 := rfl
    omega
  obtain ⟨_, k2⟩ := layS_new hhas hl
  unfold openR
  rw [hc]
  simp only
  rw [if_neg (by simp), if_neg (by omega), if_pos hl]
  congr 2
  rw [k2]
  unfold remS aS
  simp only [List.filter_append, List.filter_cons, List.filter_nil]
  simp
  exact fun e => hne e.symm
end Go.Proofs.YtapdhkgeolcogaaGreatDoor.Lg
