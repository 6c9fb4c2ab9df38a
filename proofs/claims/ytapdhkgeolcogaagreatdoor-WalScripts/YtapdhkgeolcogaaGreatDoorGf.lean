/- Bytes that the call gathers, and where they lie: what is appended, byte by byte, slice by slice, string by string. What the writing of a number, of a field answers. -/
import Derived.Test.YtapdhkgeolcogaaGreatDoorGe
import Derived.Test.YtapdhkgeolcogaaGreatDoorGa
import Derived.Lib.AppendStr
namespace Go.Proofs.YtapdhkgeolcogaaGreatDoor.Cd
open Go.RowKit

theorem grown_more {w w1 w2 : World} {r r1 : Option Nat} (h : w.grownBy w1 r) (k : w1.grownBy w2 r1) (hr : ∀ b, r1 = some b → r = some b ∨ w.heap.size ≤ b) : w.grownBy w2 r :=
  ⟨k.os.trans h.os, k.tape.trans h.tape, k.output.trans h.output, Nat.le_trans h.size k.size, fun i hi hne =>
    (k.block i (Nat.lt_of_lt_of_le hi h.size) (fun e => by
      rcases hr i e.symm with e' | e'
      · exact hne e'.symm
      · omega)).trans (h.block i hi hne)⟩
theorem grown_alloc {w w1 : World} {r : Option Nat} (h : w.grownBy w1 r) (o : Obj) : w.grownBy (w1.alloc o) r :=
  grown_more h (World.grownBy_alloc w1 o none) (by simp)
theorem grown_set_new {w w1 : World} {r : Option Nat} (h : w.grownBy w1 r) (p : Addr) (hp : w.heap.size ≤ p.block) (u : Value) : w.grownBy (w1.setCell p u) r :=
  grown_more h (grown_set w1 p u) (fun b e => .inr (by injection e with e; omega))
theorem grown_below {w w1 : World} (h : w.grownBy w1 none) : Below w.heap.size w w1 :=
  ⟨h.os, h.tape, h.output, h.size, fun k hk => h.block k hk (by simp)⟩

/-- The slice v holds the bytes l, is the call's own; since w, in which it was v0, nothing else has turned. -/
structure Ext (w : World) (base : Nat) (v0 : Value) (w' : World) (v : Value) (l : List Int) : Prop where
  own : Own w' base v l
  grown : w.grownBy w' v0.ownBlock
  at_ : ∀ k, v.ownBlock = some k → v0.ownBlock = some k ∨ w.heap.size ≤ k

theorem Ext.refl {w : World} {base : Nat} {v : Value} {l : List Int} (h : Own w base v l) : Ext w base v w v l := ⟨h, grown_refl _ _, fun _ h => .inl h⟩

theorem own_alloc {w : World} {base : Nat} {v : Value} {l : List Int} (h : Own w base v l) (o : Obj) : Own (w.alloc o) base v l :=
  h.grown (World.grownBy_alloc w o none) (by cases v.ownBlock <;> simp)

theorem Ext.alloc {w w1 : World} {base : Nat} {v0 v : Value} {l : List Int} (h : Ext w base v0 w1 v l) (o : Obj) : Ext w base v0 (w1.alloc o) v l :=
  ⟨own_alloc h.own o, grown_alloc h.grown o, h.at_⟩

theorem own_drew {w : World} {base : Nat} {v : Value} {l : List Int} (h : Own w base v l) : Own w.drew base v l :=
  h.grown (grown_drew (grown_refl w none)) (by cases v.ownBlock <;> simp)
theorem Ext.drew {w w1 : World} {base : Nat} {v0 v : Value} {l : List Int} (h : Ext w base v0 w1 v l) : Ext w base v0 w1.drew v l :=
  ⟨own_drew h.own, grown_drew h.grown, h.at_⟩

theorem Ext.next {w w1 w2 : World} {base : Nat} {v0 v v2 : Value} {l l2 : List Int} (h : Ext w base v0 w1 v l) (ho : Own w2 base v2 l2) (g : w1.grownBy w2 v.ownBlock)
    (hat : ∀ k, v2.ownBlock = some k → v.ownBlock = some k ∨ w1.heap.size ≤ k) : Ext w base v0 w2 v2 l2 :=
  ⟨ho, grown_more h.grown g h.at_, fun k hk => by
    rcases hat k hk with e | e
    · exact h.at_ k e
    · exact .inr (Nat.le_trans h.grown.size e)⟩

theorem Ext.trans {w w1 w2 : World} {base : Nat} {v0 v v2 : Value} {l l2 : List Int} (h : Ext w base v0 w1 v l) (k : Ext w1 base v w2 v2 l2) : Ext w base v0 w2 v2 l2 :=
  h.next k.own k.grown k.at_

/-- 'append(v, x)', v the call's own bytes, x one byte that lies in the newest block. -/
theorem wpList_append_one {w : World} {ops : Array Oper} {rest : List Oper} {o : Oper} {a : Act} {Q : Exit → Act → World → Prop} (hgd : o.guard = none) (s x : Operand)
    (ho : o.op = .call { callee := .builtin .append, args := #[s, x], argTypes := #[39, 39] })
    (base : Nat) (v : Value) (l0 : List Int) (hs : a.eval s = v) (hown : Own w base v l0) (z : Int) (hz : Crc.Byte z)
    (hx : a.eval x = .slice (some ⟨w.heap.size, 0, none⟩) 1 1)
    (hb : l0.length + 1 ≤ 140737488351232) (hbase : base ≤ w.heap.size)
    (h : ∀ v' w', Ext w base v w' v' (l0 ++ [z]) → wpList Tryz.prog ops Q rest (a.put o.dst v') w') : wpList Tryz.prog ops Q (o :: rest) a (w.alloc (.cells #[.int .u8 z] 5)) := by
  obtain ⟨i, hi, hz0, hz1, hz2⟩ := info_parts info5
  refine wpList_append_own_at _ hgd s x 39 ho base 5 i (.int .u8 0) 1 1 Tryz.underlying39 hi hz0 hz1 hz2 rfl (by decide) v l0.length (l0.map (Value.int .u8)) hs (own_alloc hown _).row ⟨w.heap.size, 0, none⟩ 1 1 [.int .u8 z] hx (by simp)
    (cell_one_new _ _ _) (by intro u hu; simp at hu; subst hu; rfl) (by unfold maxLen; omega) (by omega) (by simp; omega) ?_
  intro v' w' hown' hg _ hat
  refine h v' w' (((Ext.refl hown).alloc _).next ⟨?_, hown.bytes.append (fun y hy => by simp at hy; subst hy; exact hz)⟩ hg fun k hk => ?_)
  · simpa using hown'
  · rcases hat with e | e
    · exact .inl (by rw [← e]; exact hk)
    · rw [e] at hk; injection hk with hk; exact .inr (by omega)

/-- A step of a region that draws, by what the operation does. -/
theorem step_of {ops : Array Oper} {o : Oper} {a : Act} {w : World} {K : Act → World → Prop} {Q : Exit → Act → World → Prop} {E : Prop} (hg : o.guard = none) (h : o.wp Tryz.prog a w K Q) :
    if Region.wanted o (yielded ops a.tmps) = true then o.wp Tryz.prog a w K Q else E := by
  rw [if_pos (by simp [Region.wanted, hg])]
  exact h

/-- 'append(v, s...)', v the call's own bytes, s any string. -/
theorem wp_append_str {w : World} {o : Oper} {a : Act} {K : Act → World → Prop} {Q : Exit → Act → World → Prop} (s x : Operand)
    (ho : o.op = .call { callee := .builtin .append, args := #[s, x], argTypes := #[39, 9] })
    (base : Nat) (v : Value) (l0 : List Int) (hs : a.eval s = v) (hown : Own w base v l0) (t : ByteArray) (hx : a.eval x = .string t)
    (hb : l0.length + t.size ≤ 140737488351232) (hbase : base ≤ w.heap.size)
    (h : ∀ v' w', Own w' base v' (l0 ++ Code.toB t) → w.grownBy w' v.ownBlock → K (a.put o.dst v') w') : o.wp Tryz.prog a w K Q := by
  obtain ⟨i, hi, hz0, hz1, hz2⟩ := info_parts info5
  obtain ⟨v', w', hr, h2, h3, h4⟩ := Go.Lib.run_append_own_string (P := Tryz.prog) w base 39 9 o.type 5 i Tryz.underlying39 Tryz.underlying9 hi hz0 hz1 hz2 v l0.length (l0.map (Value.int .u8)) hown.row t (by unfold maxLen; omega) (by omega) hbase
  unfold Oper.wp execOp
  simp only [ho, resolve, invoke, builtin, Sem.run_bind, Sem.run_pure, Result.andThen_ok, List.map_toArray, List.map_cons, List.map_nil, hs, hx, hr]
  refine h v' w' ⟨?_, hown.bytes.append (Code.toB_bytes t)⟩ h3
  have e : (l0 ++ Code.toB t).map (Value.int .u8) = l0.map (Value.int .u8) ++ Go.Lib.strCells t := by
    simp [Code.toB, Go.Lib.strCells, List.map_map, Function.comp_def]
  rw [e, List.length_append, Code.toB_len]
  exact h2
end Go.Proofs.YtapdhkgeolcogaaGreatDoor.Cd
namespace Go.Proofs.YtapdhkgeolcogaaGreatDoor.Cd
open Go.RowKit

theorem or_128 : ∀ x : Fin 256, bits .or .u8 (x.val : Int) 128 = ((x.val % 128 + 128 : Nat) : Int) := by decide +kernel
theorem or_byte (m : Nat) : bits .or .u8 ((m : Int) % 256) 128 = ((m % 128 + 128 : Nat) : Int) := by
  have h := or_128 ⟨m % 256, Nat.mod_lt _ (by decide)⟩
  simp only at h
  have e : ((m % 256 : Nat) : Int) = (m : Int) % 256 := by omega
  rw [e] at h
  rw [h]
  omega

set_option maxRecDepth 100000 in
set_option maxHeartbeats 400000 in
theorem number_any (v : Value) (l0 : List Int) (n : Nat) (hn : n < 18446744073709551616) (base : Nat) (w : World) (hown : Own w base v l0) (hbase : base ≤ w.heap.size) (hb : l0.length ≤ 140737488351220) :
    Calls Tryz.prog 76 #[v, .int .u64 n] w fun e w' => ∃ v', e = .returned v' ∧ Ext w base v w' v' (l0 ++ Code.put n) := by
  go_enter Tryz.func76, Tryz.ntmps76
  go_wp2
  go_loopw [0, 1] (fun b x wr => ∃ (m : Nat) (l : List Int), x = .int .u64 m ∧ m ≤ n ∧ Hid (l0 ++ Code.put n = l ++ Code.put m) ∧ Ext w base v wr b l) (fun _ x _ => (intOf x).toNat)
  case atStart => exact ⟨n, l0, rfl, Nat.le_refl _, rfl, Ext.refl hown⟩
  case round =>
    obtain ⟨m, l, rfl, hm, HL, hE⟩ := hrel
    have hlen : l.length ≤ 140737488351230 := by
      have h1 := congrArg List.length HL.out
      have h2 := Code.put_len10 hn
      simp at h1
      omega
    have hsz := hE.grown.size
    by_cases h : m < 128
    · have HE2 : Hid (l0 ++ Code.put n = l ++ [(m : Int)]) := by show _ = _; rw [HL.out, Code.put_small h]
      have hby : Crc.Byte (m : Int) := by unfold Crc.Byte; omega
      have hmod : (m : Int) % 256 = m := by omega
      go_wp2_with (at_builtin; go_must (refine wpList_append_one rfl (.tmp 15) (.tmp 18) rfl base _ l rfl hE.own m hby rfl (by omega) (by omega) ?_); intro v2 w2 hE2)
      go_ret
      exact ⟨_, rfl, by rw [HE2.out]; exact hE.trans hE2⟩
    · have HE2 : Hid (l0 ++ Code.put n = (l ++ [((m % 128 + 128 : Nat) : Int)]) ++ Code.put (m / 128)) := by show _ = _; rw [HL.out, Code.put_big (by omega), List.append_assoc]; rfl
      have hby : Crc.Byte ((m % 128 + 128 : Nat) : Int) := by unfold Crc.Byte; omega
      have hor := or_byte m
      obtain ⟨q, hq⟩ : ∃ q, q = m % 128 + 128 := ⟨_, rfl⟩
      rw [← hq] at hby hor HE2
      clear hq
      go_wp2_with (at_builtin; go_must (refine wpList_append_one rfl (.tmp 9) (.tmp 13) rfl base _ l rfl hE.own q hby rfl (by omega) (by omega) ?_); intro v2 w2 hE2)
      go_roundw
      case rel => exact ⟨m / 128, _, by go_num, by omega, HE2, hE.trans hE2⟩
      case measure => simp [intOf]; omega
end Go.Proofs.YtapdhkgeolcogaaGreatDoor.Cd
