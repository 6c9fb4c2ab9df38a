/- What the document's own Encode and Frame answer. -/
import Derived.Test.YtmolldednpdicaaCRef
namespace Go.Proofs.Ytmolldednpdicaa
open Go.RowKit

theorem fits_num {n : Int} {s : ByteArray} : Code.Fits ⟨1, n, s⟩ ↔ 0 ≤ n := by unfold Code.Fits; simp
theorem fits_text {n : Int} {s : ByteArray} : Code.Fits ⟨3, n, s⟩ ↔ s.size ≤ 65536 := by unfold Code.Fits; simp

/-- 'append(v, s...)' in the walk. -/
theorem wpList_append_str {w : World} {ops : Array Oper} {rest : List Oper} {o : Oper} {a : Act} {Q : Exit → Act → World → Prop} (hgd : o.guard = none) (s x : Operand)
    (ho : o.op = .call { callee := .builtin .append, args := #[s, x], argTypes := #[23, 9] })
    (base : Nat) (v : Value) (l0 : List Int) (hs : a.eval s = v) (hown : Own w base v l0) (t : ByteArray) (hx : a.eval x = .string t)
    (hb : l0.length + t.size ≤ 140737488351232) (hbase : base ≤ w.heap.size)
    (h : ∀ v' w', Own w' base v' (l0 ++ Code.toB t) → w.grownBy w' v.ownBlock → wpList Try.prog ops Q rest (a.put o.dst v') w') : wpList Try.prog ops Q (o :: rest) a w :=
  wpList_plain hgd fun _ hK => wp_append_str s x ho base v l0 hs hown t hx hb hbase fun v' w' h2 h3 => hK _ _ (h v' w' h2 h3)

set_option maxRecDepth 100000 in
set_option maxHeartbeats 1600000 in
theorem refEnc_some (b off cap : Nat) (fs : List Code.Fd) (h64 : ∀ f ∈ fs, Code.In64 f.n) (hl : fs.length ≤ 1000000000) (w : World) (hc : ∀ i (hi : i < fs.length), At w b (off + i * 3) fs[i]) :
    Calls Try.prog 11 #[.slice (some ⟨b, off, none⟩) fs.length cap] w fun e w' => w.grownBy w' none ∧
      (((∀ f ∈ fs, Code.Fits f) ∧ ∃ v', e = .returned (.tuple #[v', .int .i64 0]) ∧ Own w' w.heap.size v' (Code.enc fs)) ∨ (¬ (∀ f ∈ fs, Code.Fits f) ∧ e = .returned (.tuple #[.slice none 0 0, .int .i64 1]))) := by
  go_enter Try.func11, Try.ntmps11
  go_wp2
  go_loopw [4, 5] (fun v i wr => ∃ k : Nat, k ≤ fs.length ∧ i = .int .i64 k ∧ Hid (∀ f ∈ fs.take k, Code.Fits f) ∧ Own wr w.heap.size v (Code.enc (fs.take k)) ∧ w.grownBy wr none) (fun _ i _ => fs.length - (intOf i).toNat)
  case atStart => exact ⟨0, Nat.zero_le _, rfl, fun _ h => by simp at h, own_nil w, grown_refl _ _⟩
  case round =>
    obtain ⟨k, hk, rfl, HF, hO, hg⟩ := hrel
    by_cases hlk : k < fs.length
    · have hA := (hc k hlk).grown hg (by simp)
      have hmem : fs[k] ∈ fs := List.getElem_mem hlk
      have hin := h64 _ hmem
      have HL : Hid ((Code.enc (fs.take k)).length ≤ 140737488280000) := by
        have h1 := Code.enc_len (fs := fs.take k) (k := k) (fun f hf => ⟨HF.out f hf, h64 f (List.mem_of_mem_take hf)⟩) (by simp; omega)
        show _ ≤ _
        omega
      have NEXT : Hid (Code.Fits fs[k] → (∀ f ∈ fs.take (k + 1), Code.Fits f) ∧ Code.enc (fs.take (k + 1)) = Code.enc (fs.take k) ++ Code.fb fs[k]) := by
        intro hf
        rw [List.take_succ_eq_append_getElem hlk]
        refine ⟨fun g hg' => ?_, ?_⟩
        · rcases List.mem_append.1 hg' with h | h
          · exact HF.out g h
          · simp at h; rw [h]; exact hf
        · rw [Code.enc_append]; simp [Code.enc]
      have HX : Hid (¬ Code.Fits fs[k] → ¬ ∀ f ∈ fs, Code.Fits f) := fun h h' => h (h' _ hmem)
      clear hmem HF
      generalize fs[k] = f at *
      obtain ⟨l, hl0⟩ : ∃ l, l = Code.enc (fs.take k) := ⟨_, rfl⟩
      rw [← hl0] at hO HL NEXT
      clear hl0 hc h64
      have h1 := hA.k
      have h2 := hA.n
      have h3 := hA.s
      have hz := hg.size
      clear hA
      obtain ⟨fk, fn, fst⟩ := f
      simp only at h1 h2 h3 hin
      have hOA := own_alloc hO (.cells #[.int .i64 fk, .int .i64 fn, .string fst] 38)
      have hgA := grown_alloc hg (.cells #[.int .i64 fk, .int .i64 fn, .string fst] 38)
      have hzA : w.heap.size ≤ (wr.alloc (.cells #[.int .i64 fk, .int .i64 fn, .string fst] 38)).heap.size := by simp; omega
      have FIN : ∀ w2 (r : Option Nat), (wr.alloc (.cells #[.int .i64 fk, .int .i64 fn, .string fst] 38)).grownBy w2 r → (∀ b, r = some b → w.heap.size ≤ b) → w.grownBy w2 none := fun w2 r h h' => grown_more hgA h (fun b e => .inr (h' b e))
      by_cases k1 : fk = 1
      · subst k1
        by_cases hn : fn < 0
        · go_wp2
          go_ret2
          exact ⟨hgA, .inr ⟨HX.out (fun h => by rw [fits_num] at h; omega), rfl⟩⟩
        · obtain ⟨m, rfl⟩ := Int.eq_ofNat_of_zero_le (show 0 ≤ fn by omega)
          have hu : IntKind.u64.wrap (m : Int) = (m : Int) := by unfold Code.In64 at hin; rw [IntKind.wrap_u64]; omega
          have hm : m < 18446744073709551616 := by unfold Code.In64 at hin; omega
          have HFB : Hid (Code.fb ⟨1, (m : Int), fst⟩ = Code.put m) := by show _ = _; simp [Code.fb]
          have NX := NEXT.out (fits_num.2 (by omega))
          rw [HFB.out] at NX
          have HNX : Hid ((∀ f ∈ fs.take (k + 1), Code.Fits f) ∧ Code.enc (fs.take (k + 1)) = l ++ Code.put m) := NX
          clear NX NEXT HX hn hin HFB
          have HM : Hid (m < 18446744073709551616) := hm
          clear hm
          go_wp2_with (go_at_call 21; go_must (refine (put_any _ l m HM.out w.heap.size _ hOA hzA (by have := HL.out; omega)).mono ?_); rintro e w2 ⟨v2, rfl, hE2⟩)
          go_roundw
          case rel => exact ⟨k + 1, by omega, by go_num, HNX.out.1, by rw [HNX.out.2]; exact hE2.own, FIN _ _ hE2.grown (fun b e => (hO.row.lt b e).1)⟩
          case measure => simp [intOf]; omega
      by_cases k2 : fk = 2
      · subst k2
        have NX := NEXT.out (.inr (.inl rfl))
        have HFB : Hid (Code.fb ⟨2, fn, fst⟩ = Code.put (Code.fold fn)) := by show _ = _; simp [Code.fb]
        rw [HFB.out] at NX
        have HNX : Hid ((∀ f ∈ fs.take (k + 1), Code.Fits f) ∧ Code.enc (fs.take (k + 1)) = l ++ Code.put (Code.fold fn)) := NX
        have HFL : Hid (Code.fold fn < 18446744073709551616) := Code.fold_lt hin
        clear NX NEXT HX HFB k1
        by_cases hn : fn < 0
        · have hfo : 2 * -(fn + 1) + 1 = ((Code.fold fn : Nat) : Int) := by
            unfold Code.fold Code.In64 at *; rw [if_pos hn]; omega
          obtain ⟨m, hm⟩ : ∃ m, m = Code.fold fn := ⟨_, rfl⟩
          rw [← hm] at hfo HNX HFL
          unfold Code.In64 at hin
          clear hm
          go_wp2_with (go_at_call 21; go_must (refine (put_any _ l m HFL.out w.heap.size _ hOA hzA (by have := HL.out; omega)).mono ?_); rintro e w2 ⟨v2, rfl, hE2⟩)
          go_roundw
          case rel => exact ⟨k + 1, by omega, by go_num, HNX.out.1, by rw [HNX.out.2]; exact hE2.own, FIN _ _ hE2.grown (fun b e => (hO.row.lt b e).1)⟩
          case measure => simp [intOf]; omega
        · have hfo : 2 * fn = ((Code.fold fn : Nat) : Int) := by
            unfold Code.fold Code.In64 at *; rw [if_neg hn]; omega
          obtain ⟨m, hm⟩ : ∃ m, m = Code.fold fn := ⟨_, rfl⟩
          rw [← hm] at hfo HNX HFL
          unfold Code.In64 at hin
          have hn0 : 0 ≤ fn := by omega
          clear hm hn
          go_wp2_with (go_at_call 21; go_must (refine (put_any _ l m HFL.out w.heap.size _ hOA hzA (by have := HL.out; omega)).mono ?_); rintro e w2 ⟨v2, rfl, hE2⟩)
          go_roundw
          case rel => exact ⟨k + 1, by omega, by go_num, HNX.out.1, by rw [HNX.out.2]; exact hE2.own, FIN _ _ hE2.grown (fun b e => (hO.row.lt b e).1)⟩
          case measure => simp [intOf]; omega
      by_cases k3 : fk = 3
      · subst k3
        clear k1 k2
        by_cases hn : (65536 : Int) < (fst.size : Int)
        · go_wp2
          go_ret2
          exact ⟨hgA, .inr ⟨HX.out (fun h => by rw [fits_text] at h; omega), rfl⟩⟩
        · have NX := NEXT.out (fits_text.2 (by omega))
          have HFB : Hid (Code.fb ⟨3, fn, fst⟩ = Code.put fst.size ++ Code.toB fst) := by show _ = _; simp [Code.fb]
          rw [HFB.out, ← List.append_assoc] at NX
          have HNX : Hid ((∀ f ∈ fs.take (k + 1), Code.Fits f) ∧ Code.enc (fs.take (k + 1)) = l ++ Code.put fst.size ++ Code.toB fst) := NX
          have hu : IntKind.u64.wrap (fst.size : Int) = (fst.size : Int) := by rw [IntKind.wrap_u64]; omega
          have hn' : (fst.size : Int) ≤ 65536 := by omega
          have H3 : Hid ((l ++ Code.put fst.size).length ≤ 140737488280010) := by show _ ≤ _; have h1 := HL.out; have h2 := Code.put_len3 (n := fst.size) (by omega); rw [List.length_append]; omega
          have hne : some wr.heap.size ≠ u4.ownBlock := fun e => by { have := hO.lt e.symm; omega }
          have hcell : (wr.alloc (.cells #[.int .i64 3, .int .i64 fn, .string fst] 38)).cell? ⟨wr.heap.size, 2, none⟩ = some (.string fst) := by rw [World.cell?_alloc_new]; rfl
          clear NX NEXT HX HFB hn
          go_wp2_with (first
            | (go_at_call 21; go_must (refine (put_any _ l fst.size (by omega) w.heap.size _ hOA hzA (by have := HL.out; omega)).mono ?_); rintro e w2 ⟨v2, rfl, hE2⟩; have hc2 := hE2.grown.cell (a := ⟨wr.heap.size, 2, none⟩) hcell hne; have hz2 := hE2.grown.size)
            | (at_builtin; go_must (refine wpList_append_str rfl (.tmp 61) (.tmp 63) rfl w.heap.size _ _ rfl hE2.own fst rfl (by have := H3.out; omega) (by omega) ?_); intro v3 w3 hO3 hg3))
          go_roundw
          case rel => exact ⟨k + 1, by omega, by go_num, HNX.out.1, by rw [HNX.out.2]; exact hO3, grown_more (FIN _ _ hE2.grown (fun b e => (hO.row.lt b e).1)) hg3 (fun b e => .inr (hE2.own.row.lt b e).1)⟩
          case measure => simp [intOf]; omega
      · have e1 : (fk == 1) = false := by simpa using k1
        have e2 : (fk == 2) = false := by simpa using k2
        have e3 : (fk == 3) = false := by simpa using k3
        have HXX : Hid (¬ ∀ f ∈ fs, Code.Fits f) := HX.out (fun h => by unfold Code.Fits at h; simp only at h; omega)
        clear k1 k2 k3 HX NEXT
        go_wp2
        go_ret2
        exact ⟨hgA, .inr ⟨HXX.out, rfl⟩⟩
    · obtain rfl : k = fs.length := by omega
      have HF' := HF.out
      rw [List.take_length] at hO HF'
      have HF2 : Hid (∀ f ∈ fs, Code.Fits f) := HF'
      clear HF' HF
      go_wp2
      go_ret2
      exact ⟨hg, .inl ⟨HF2.out, _, rfl, hO⟩⟩
end Go.Proofs.Ytmolldednpdicaa
