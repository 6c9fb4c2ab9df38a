/- What 'Decode' answers. -/
import Derived.Test.YtmolldednpdicaaCFieldRead
namespace Go.Proofs.Ytmolldednpdicaa
open Go.RowKit

theorem infoField : (Try.prog.info? 38).map (fun i => (i.zero, i.size, i.bytes)) = some (some (.agg #[.int .i64 0, .int .i64 0, .string ⟨#[]⟩]), 3, 32) := by kernel_rfl

/-- The cells of a list of fields. -/
def fcs (fs : List Code.Fd) : List Value := fs.flatMap fun f => (fc f).toList
theorem fcs_len (fs : List Code.Fd) : (fcs fs).length = fs.length * 3 := by
  induction fs with
  | nil => rfl
  | cons f fs ih => simp [fcs, fc] at ih ⊢; omega
theorem fcs_append (a b : List Code.Fd) : fcs (a ++ b) = fcs a ++ fcs b := by simp [fcs]

/-- The slice v is the call's own, from block 'base' on, and holds the fields fs. -/
def OwnF (w : World) (base : Nat) (v : Value) (fs : List Code.Fd) : Prop := w.ownsRow base 38 3 v fs.length (fcs fs)

theorem ownF_nil (w : World) : OwnF w w.heap.size (.slice none 0 0) [] := World.ownsRow_nil w _ _ _
theorem OwnF.grown {w w' : World} {base : Nat} {v : Value} {fs : List Code.Fd} {row : Option Nat} (h : OwnF w base v fs) (g : w.grownBy w' row) (hne : v.ownBlock = none ∨ v.ownBlock ≠ row) : OwnF w' base v fs :=
  h.kept g hne
theorem OwnF.next {w w' : World} {base : Nat} {v : Value} {fs : List Code.Fd} (h : OwnF w base v fs) (g : w.grownBy w' none) : OwnF w' base v fs :=
  h.grown g (by cases v.ownBlock <;> simp)

theorem fcs_get (fs : List Code.Fd) (i : Nat) (hi : i < fs.length) : (fcs fs)[i * 3]? = some (.int .i64 fs[i].k) ∧ (fcs fs)[i * 3 + 1]? = some (.int .i64 fs[i].n) ∧ (fcs fs)[i * 3 + 2]? = some (.string fs[i].s) := by
  induction fs generalizing i with
  | nil => simp at hi
  | cons f fs ih =>
    have e : fcs (f :: fs) = [.int .i64 f.k, .int .i64 f.n, .string f.s] ++ fcs fs := rfl
    cases i with
    | zero => rw [e]; simp
    | succ i =>
      have := ih i (by simpa using hi)
      rw [e, Nat.add_mul, Nat.one_mul]
      refine ⟨?_, ?_, ?_⟩
      · rw [List.getElem?_append_right (by simp)]; simpa using this.1
      · rw [List.getElem?_append_right (by simp <;> omega)]
        rw [show i * 3 + 3 + 1 - List.length [Value.int IntKind.i64 f.k, Value.int IntKind.i64 f.n, Value.string f.s] = i * 3 + 1 from by simp <;> omega]
        simpa using this.2.1
      · rw [List.getElem?_append_right (by simp <;> omega)]
        rw [show i * 3 + 3 + 2 - List.length [Value.int IntKind.i64 f.k, Value.int IntKind.i64 f.n, Value.string f.s] = i * 3 + 2 from by simp <;> omega]
        simpa using this.2.2

theorem OwnF.fl {w : World} {base : Nat} {v : Value} {fs : List Code.Fd} (h : OwnF w base v fs) (h64 : ∀ f ∈ fs, Code.In64 f.n) : Fl w v fs := by
  refine ⟨h64, ?_⟩
  rcases h.2 with ⟨rfl, h0⟩ | ⟨g, cap, cur, rfl, hg, hh, h1, h2, h3, h4⟩
  · exact .inl ⟨List.eq_nil_of_length_eq_zero h0, .inl rfl⟩
  · refine .inr ⟨g, 0, cap, rfl, fun i hi => ?_⟩
    obtain ⟨c1, c2, c3⟩ := fcs_get fs i hi
    have d1 := World.ownsRow.cells h (g := g) rfl _ _ c1
    have d2 := World.ownsRow.cells h (g := g) rfl _ _ c2
    have d3 := World.ownsRow.cells h (g := g) rfl _ _ c3
    rw [Addr.add_lit] at d1 d2 d3
    exact ⟨d1, by rw [Nat.add_assoc]; exact d2, by rw [Nat.add_assoc]; exact d3⟩

/-- The value v is a slice whose elements are the numbers ks. -/
structure Ki (w : World) (v : Value) (ks : List Int) : Prop where
  val : (ks = [] ∧ ∃ a cap, v = .slice a 0 cap) ∨ ∃ b off cap, v = .slice (some ⟨b, off, none⟩) ks.length cap ∧ ∀ i, i < ks.length → w.cell? ⟨b, off + i, none⟩ = some (.int .i64 (ks.getD i 0))

/-- 'append(v, f)', v the call's own fields, f one field that lies in the newest block. -/
theorem wpList_append_field {w : World} {ops : Array Oper} {rest : List Oper} {o : Oper} {a : Act} {Q : Exit → Act → World → Prop} (hgd : o.guard = none) (s x : Operand)
    (ho : o.op = .call { callee := .builtin .append, args := #[s, x], argTypes := #[22, 22] })
    (base : Nat) (v : Value) (fs : List Code.Fd) (hs : a.eval s = v) (hown : OwnF w base v fs) (f : Code.Fd)
    {n : Nat} (hx : a.eval x = .slice (some ⟨n, 0, none⟩) 1 1) (hn : n = w.heap.size)
    (hb : fs.length + 1 ≤ 4398046511000) (hbase : base ≤ w.heap.size)
    (h : ∀ v' w', OwnF w' base v' (fs ++ [f]) → w.grownBy w' v.ownBlock → wpList Try.prog ops Q rest (a.put o.dst v') w') : wpList Try.prog ops Q (o :: rest) a (w.alloc (.cells #[.int .i64 f.k, .int .i64 f.n, .string f.s] 38)) := by
  subst hn
  obtain ⟨i, hi, hz0, hz1, hz2⟩ := info_parts infoField
  refine wpList_append_own _ hgd s x 22 ho base 38 i _ 3 32 Try.underlying22 hi hz0 hz1 hz2 rfl (by decide) v fs.length (fcs fs) hs (hown.next (World.grownBy_alloc w _ none)) ⟨w.heap.size, 0, none⟩ 1 1 (fcs [f]) hx (by rw [fcs_len]; rfl)
    ?_ (by intro u hu; simp [fcs, fc] at hu; rcases hu with rfl | rfl | rfl <;> rfl) (by unfold maxLen; omega) (by omega) (by simp; omega) ?_
  · intro j u hj
    rw [Addr.add_lit, Nat.zero_add, World.cell?_alloc_new]
    simpa [fcs, fc] using hj
  · intro v' w' hown' hg _
    refine h v' w' ?_ (grown_more (World.grownBy_alloc w _ _) hg (fun b e => .inl e))
    unfold OwnF
    rw [fcs_append, List.length_append]
    exact hown'

theorem Ki.grown {w w' : World} {v : Value} {ks : List Int} {row : Option Nat} (h : Ki w v ks) (g : w.grownBy w' row) (hr : v.ownBlock = none ∨ v.ownBlock ≠ row) : Ki w' v ks := by
  refine ⟨?_⟩
  rcases h.val with hn | ⟨b, off, cap, rfl, hc⟩
  · exact .inl hn
  · exact .inr ⟨b, off, cap, rfl, fun i hi => g.cell (hc i hi) (by simpa [Value.ownBlock] using hr)⟩

theorem Sl.grown {w w' : World} {v : Value} {l : List Int} (h : Sl w v l) (g : w.grownBy w' none) : Sl w' v l :=
  ⟨h.rd.grown g (by cases v.ownBlock <;> simp), h.cap⟩

theorem Sl.from {w : World} {a : Option Addr} {c : Nat} {l : List Int} (h : Sl w (.slice a l.length c) l) (lo : Nat) (h1 : lo ≤ l.length) : ∃ a' c', sliced a lo l.length c 1 = .slice a' (l.drop lo).length c' ∧ Sl w (.slice a' (l.drop lo).length c') (l.drop lo) := by
  have := h.sub lo l.length h1 (Nat.le_refl _)
  rw [List.take_of_length_le (by simp)] at this
  obtain ⟨a', c', e, _, _⟩ := this.cap
  exact ⟨a', c', e, by rw [← e]; exact this⟩

theorem map_map_ex {ε α β γ : Type} (f : α → β) (g : β → γ) (x : Except ε α) : (x.map f).map g = x.map (fun y => g (f y)) := by cases x <;> rfl

theorem map_id_ex {ε α : Type} (x : Except ε (List α)) : x.map (([] : List α) ++ ·) = x := by cases x <;> rfl

def DecOut (w w' : World) (r : Except Int (List Code.Fd)) (e : Ending) : Prop :=
  match r with
  | .ok fs => ∃ v', e = .returned (.tuple #[v', .int .i64 0]) ∧ OwnF w' w.heap.size v' fs
  | .error x => (x == 0) = false ∧ e = .returned (.tuple #[.slice none 0 0, .int .i64 x])

set_option maxRecDepth 100000 in
set_option maxHeartbeats 800000 in
theorem decode_any (vk : Value) (ks : List Int) (a0 : Option Addr) (c0 : Nat) (l : List Int) (w : World) (hk : Ki w vk ks) (hlk : ks.length ≤ 1000000000) (hs : Sl w (.slice a0 l.length c0) l) :
    Calls Try.prog 14 #[vk, .slice a0 l.length c0] w fun e w' => w.grownBy w' none ∧ DecOut w w' (Code.dec ks l) e := by
  obtain ⟨ak, ck, rfl⟩ : ∃ ak ck, vk = .slice ak ks.length ck := by
    rcases hk.val with ⟨rfl, a, cap, rfl⟩ | ⟨b, off, cap, rfl, hc⟩
    · exact ⟨a, cap, rfl⟩
    · exact ⟨_, _, rfl⟩
  go_enter Try.func14, Try.ntmps14
  go_wp2
  go_loopw [1, 6, 14] (fun b v i wr => ∃ (k : Nat) (done : List Code.Fd) (l' : List Int) (a : Option Addr) (c : Nat), k ≤ ks.length ∧ i = .int .i64 k ∧ b = .slice a l'.length c ∧ Sl w (.slice a l'.length c) l' ∧ OwnF wr w.heap.size v done ∧ done.length = k ∧
    Hid (Code.dec ks l = (Code.dec (ks.drop k) l').map (done ++ ·)) ∧ w.grownBy wr none) (fun _ _ i _ => ks.length - (intOf i).toNat)
  case atStart => exact ⟨0, [], l, a0, c0, Nat.zero_le _, rfl, rfl, hs, ownF_nil w, rfl, by show _ = _; rw [List.drop_zero, map_id_ex], grown_refl _ _⟩
  case round =>
    obtain ⟨k, done, l', a, c, hkl, rfl, rfl, hS, hO, hd, HD, hg⟩ := hrel
    have hz := hg.size
    by_cases hlt : k < ks.length
    · obtain ⟨b, off, rfl, hck⟩ : ∃ b off, ak = some ⟨b, off, none⟩ ∧ wr.cell? ⟨b, off + k, none⟩ = some (.int .i64 (ks.getD k 0)) := by
        rcases (hk.grown hg (by cases (Value.ownBlock (.slice ak ks.length ck)) <;> simp)).val with ⟨rfl, _⟩ | ⟨b, off, cap, e, hc⟩
        · simp at hlt
        · injection e with e1 e2 e3
          exact ⟨b, off, e1, hc k hlt⟩
      have HDS : Hid (ks.drop k = ks.getD k 0 :: ks.drop (k + 1)) := by show _ = _; rw [List.drop_eq_getElem_cons hlt]; simp [hlt]
      obtain ⟨q, hq⟩ : ∃ q, q = ks.getD k 0 := ⟨_, rfl⟩
      rw [← hq] at hck HDS
      clear hq hk hs
      have hread := readField_any q a c l' wr (hS.grown hg)
      cases hr : Code.rField q l' with
      | error x =>
        rw [hr] at hread
        simp only [fc] at hread
        go_wp2_with (go_at_call 27; refine hread.mono ?_; rintro e w1 ⟨hg1, hx, y, z, rfl⟩)
        go_ret2
        refine ⟨grown_alloc (grown_more hg hg1 (by simp)) _, ?_⟩
        rw [HD.out, HDS.out, Code.dec, hr]
        exact ⟨hx, rfl⟩
      | ok p =>
        obtain ⟨f, s⟩ := p
        rw [hr] at hread
        simp only [fc] at hread
        obtain ⟨g1, g2, g3, g4, g5, g6⟩ := Code.rField_ok hS.rd.bytes hr
        obtain ⟨a', c', eV, hS'⟩ := hS.from s g5
        have hc2 : l'.length ≤ c ∧ c ≤ 9223372036854775807 := by
          obtain ⟨_, _, e, h1, h2⟩ := hS.cap
          injection e with e1 e2 e3
          subst e3
          exact ⟨h1, h2⟩
        have hsl : ∀ w : World, (Instr.slice 23 (.slice a l'.length c) (some (.int .i64 s)) none none).run Try.prog w = .ok (.slice a' (l'.drop s).length c') w := by
          intro w
          rw [run_slice_l (t := 23) (a := a) (len := l'.length) (cap := c) (ht := Try.underlying23) (kl := .i64) (l := (s : Int)) (h0 := by omega) (h1 := by omega), ← eV]
          rfl
        clear g6 eV g1 g4
        go_wp2_with (first
          | (go_at_call 27; refine hread.mono ?_; rintro e w1 ⟨hg1, rfl⟩; have hz1 := hg1.size; have hO1 := hO.next hg1)
          | (at_builtin; go_must (refine wpList_append_field rfl (.tmp 28) (.tmp 30) rfl w.heap.size _ done rfl (hO1.next (World.grownBy_alloc _ _ none)) f rfl (by simp) (by omega) (Nat.le_trans (Nat.le_trans hz hz1) (World.grownBy_alloc w1 _ none).size) ?_); intro v2 w2 hO2 hg2))
        go_roundw
        case rel =>
          refine ⟨k + 1, done ++ [f], l'.drop s, a', c', by omega, by go_num, by simp, ?_, hO2, by simp [hd], ?_, ?_⟩
          · exact hS'
          · show _ = _
            rw [HD.out, HDS.out, Code.dec, hr]
            simp only
            rw [map_map_ex]
            simp
          · exact grown_more (grown_alloc (grown_more hg hg1 (by simp)) _) hg2 (fun b e => .inr (hO1.lt b e).1)
        case measure => simp [intOf]; omega
    · obtain rfl : k = ks.length := by omega
      have hD2 : Code.dec ks l = (Code.dec [] l').map (done ++ ·) := by rw [HD.out, List.drop_length]
      have HD2 : Hid (Code.dec ks l = (Code.dec [] l').map (done ++ ·)) := hD2
      clear hD2
      by_cases hl0 : l' = []
      · subst hl0
        go_wp2
        go_ret2
        refine ⟨hg, ?_⟩
        rw [HD2.out]
        refine ⟨_, rfl, ?_⟩
        simpa using hO
      · have hpos : (0 : Int) < (l'.length : Int) := by have := List.length_pos_iff.2 hl0; omega
        go_wp2
        go_ret2
        refine ⟨hg, ?_⟩
        rw [HD2.out, Code.dec, if_neg hl0]
        exact ⟨rfl, rfl⟩

theorem encode_fits (v : Value) (fs : List Code.Fd) (w : World) (hv : Fl w v fs) (hl : fs.length ≤ 1000000000) (hf : ∀ f ∈ fs, Code.Fits f) :
    Calls Try.prog 10 #[v] w fun e w' => ∃ v', e = .returned (.tuple #[v', .int .i64 0]) ∧ Own w' w.heap.size v' (Code.enc fs) ∧ w.grownBy w' none :=
  (encode_any v fs w hv hl).mono fun e w' ⟨h1, h⟩ => by
    rcases h with ⟨_, v', h2, h3⟩ | ⟨h2, _⟩
    · exact ⟨v', h2, h3, h1⟩
    · exact absurd hf h2
theorem encode_bad (v : Value) (fs : List Code.Fd) (w : World) (hv : Fl w v fs) (hl : fs.length ≤ 1000000000) (hf : ¬ ∀ f ∈ fs, Code.Fits f) :
    Calls Try.prog 10 #[v] w fun e w' => e = .returned (.tuple #[.slice none 0 0, .int .i64 1]) ∧ w.grownBy w' none :=
  (encode_any v fs w hv hl).mono fun e w' ⟨h1, h⟩ => by
    rcases h with ⟨h2, _⟩ | ⟨_, h2⟩
    · exact absurd h2 hf
    · exact ⟨h2, h1⟩
theorem decode_ok (vk : Value) (ks : List Int) (v : Value) (l : List Int) (w : World) (hk : Ki w vk ks) (hlk : ks.length ≤ 1000000000) (hs : Sl w v l) {fs : List Code.Fd} (hd : Code.dec ks l = .ok fs) :
    Calls Try.prog 14 #[vk, v] w fun e w' => ∃ v', e = .returned (.tuple #[v', .int .i64 0]) ∧ OwnF w' w.heap.size v' fs ∧ w.grownBy w' none := by
  obtain ⟨a, c, rfl, _, _⟩ := hs.cap
  refine (decode_any vk ks a c l w hk hlk hs).mono fun e w' ⟨h1, h⟩ => ?_
  rw [hd] at h
  obtain ⟨v', h2, h3⟩ := h
  exact ⟨v', h2, h3, h1⟩
theorem decode_err (vk : Value) (ks : List Int) (v : Value) (l : List Int) (w : World) (hk : Ki w vk ks) (hlk : ks.length ≤ 1000000000) (hs : Sl w v l) {x : Int} (hd : Code.dec ks l = .error x) :
    Calls Try.prog 14 #[vk, v] w fun e w' => e = .returned (.tuple #[.slice none 0 0, .int .i64 x]) ∧ (x == 0) = false ∧ w.grownBy w' none := by
  obtain ⟨a, c, rfl, _, _⟩ := hs.cap
  refine (decode_any vk ks a c l w hk hlk hs).mono fun e w' ⟨h1, h⟩ => ?_
  rw [hd] at h
  exact ⟨h.2, h.1, h1⟩

theorem Own.sl {w : World} {base : Nat} {v : Value} {l : List Int} (h : Own w base v l) (hl : l.length ≤ 9223372036854775807) : Sl w v l := by
  refine ⟨h.rd hl, ?_⟩
  rcases h.row.2 with ⟨rfl, h0⟩ | ⟨g, cap, cur, rfl, hg, hh, h1, h2, h3, h4⟩
  · rw [h0]; exact ⟨none, 0, rfl, Nat.le_refl _, by decide⟩
  · exact ⟨_, cap, rfl, h1, h2⟩
end Go.Proofs.Ytmolldednpdicaa
