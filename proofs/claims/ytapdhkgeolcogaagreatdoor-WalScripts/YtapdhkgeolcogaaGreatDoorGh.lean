/- What the reading of a field answers. What 'Decode' answers. Fields that the call gathers: slices of fields appended; strings held against one another. What the writing of a sum, of a frame answers. The plain mathematics of frames that are read: whole, cut, and with one byte turned. -/
import Derived.Test.YtapdhkgeolcogaaGreatDoorGg
import Derived.Laws.IdiomStrings
import Derived.Handy
import Derived.Test.YtapdhkgeolcogaaGreatDoorGa
namespace Go.Proofs.YtapdhkgeolcogaaGreatDoor.Cd
open Go.RowKit

set_option maxRecDepth 100000 in
theorem unfold_any (m : Nat) (hm : m < 18446744073709551616) (w : World) :
    Calls Tryz.prog 134 #[.int .u64 m] w fun e w' => e = .returned (.int .i64 (Code.unfold m)) ∧ w' = w := by
  have hwr : IntKind.i64.wrap ((m : Int) / 2) = ((m / 2 : Nat) : Int) := by rw [IntKind.wrap_i64]; omega
  have hnot := not_any ((m / 2 : Nat) : Int) ⟨by omega, by omega⟩
  obtain ⟨h, hh⟩ : ∃ h, h = m / 2 := ⟨_, rfl⟩
  rw [← hh] at hwr hnot
  have HH : Hid (h = m / 2) := hh
  clear hh
  go_enter Tryz.func134, Tryz.ntmps134
  go_wp2
  all_goals
    go_ret
    refine ⟨ret_int ?_, rfl⟩
    unfold Code.unfold
    rw [← HH.out]
    first
      | (rw [if_pos (by simp at *; omega)]; omega)
      | (rw [if_neg (by simp at *; omega)])

/-- 'string(b)', of any bytes. -/
theorem run_string {w : World} {v : Value} {l : List Int} (h : Rd w v l) : (convert 39 9 v).run Tryz.prog w = .ok (.string (Code.ofB l)) w := by
  have hnil : ∀ a cap, (convert 39 9 (.slice a 0 cap)).run Tryz.prog w = .ok (.string (Code.ofB [])) w := by
    intro a cap
    rw [run_convert_bytes_string w 39 9 5 a 0 cap Tryz.underlying39 Tryz.underlying5 Tryz.underlying9]
    cases a with
    | none => rfl
    | some a =>
      have := run_convert_bytes_back (P := Tryz.prog) w 39 9 5 a cap [] Tryz.underlying39 Tryz.underlying5 Tryz.underlying9 (fun j hj => by simp at hj)
      rw [run_convert_bytes_string w 39 9 5 (some a) _ cap Tryz.underlying39 Tryz.underlying5 Tryz.underlying9] at this
      exact this
  rcases h.val with ⟨rfl, rfl | ⟨a, cap, rfl⟩⟩ | ⟨b, off, cap, rfl, hc⟩
  · exact hnil none 0
  · exact hnil (some a) cap
  · have := run_convert_bytes_back (P := Tryz.prog) w 39 9 5 ⟨b, off, none⟩ cap (l.map fun x => UInt8.ofNat x.toNat) Tryz.underlying39 Tryz.underlying5 Tryz.underlying9 (fun j hj => by
      have hj' : j < l.length := by simpa using hj
      rw [Addr.add_lit, hc j hj']
      have := h.bytes (l.getD j 0) (by simp [hj'])
      unfold Crc.Byte at this
      simp [hj'] at this ⊢
      omega)
    simpa [Code.ofB] using this

theorem rd_nil (w : World) : Rd w (.slice none 0 0) [] := ⟨fun _ h => (List.not_mem_nil h).elim, Nat.zero_le _, .inl ⟨rfl, .inl rfl⟩⟩

theorem numOut_err {l : List Int} {x : Int} (hr : Code.rNum l = .error x) : (x == 0) = false ∧ numOut l = .tuple #[.int .u64 0, .int .i64 0, .int .i64 x] := by
  refine ⟨?_, by unfold numOut; rw [hr]⟩
  unfold Code.rNum at hr
  cases hi : Code.idx l with
  | none => rw [hi] at hr; injection hr with hr; subst hr; rfl
  | some k => rw [hi] at hr; simp only at hr; split at hr <;> cases hr; rfl
theorem textOut_err {l : List Int} {x : Int} {a : Option Addr} {c : Nat} (hr : Code.rText l = .error x) : (x == 0) = false ∧ textOut l a c = .tuple #[.slice none 0 0, .int .i64 0, .int .i64 x] := by
  refine ⟨?_, by unfold textOut; rw [hr]⟩
  unfold Code.rText at hr
  cases hn : Code.rNum l with
  | error y => rw [hn] at hr; injection hr with hr; subst hr; exact (numOut_err hn).1
  | ok p =>
    obtain ⟨n, s⟩ := p
    rw [hn] at hr
    simp only at hr
    split at hr
    · injection hr with hr; subst hr; rfl
    · split at hr
      · injection hr with hr; subst hr; rfl
      · cases hr

set_option maxRecDepth 100000 in
set_option maxHeartbeats 400000 in
theorem readField_any (k : Int) (a : Option Addr) (c : Nat) (l : List Int) (w : World) (h : Sl w (.slice a l.length c) l) :
    Calls Tryz.prog 102 #[.int .i64 k, .slice a l.length c] w fun e w' => w.grownBy w' none ∧
      match Code.rField k l with
      | .ok (f, s) => e = .returned (.tuple #[.agg (fc f), .int .i64 s, .int .i64 0])
      | .error x => (x == 0) = false ∧ ∃ y z, e = .returned (.tuple #[.agg (fc y), z, .int .i64 x]) := by
  have hnum := readNumber_any _ l (w.alloc (.cells #[.int .i64 0, .int .i64 0, .string ⟨#[]⟩] 110)) (h.rd.grown (World.grownBy_alloc w _ none) (by cases (Value.ownBlock (.slice a l.length c)) <;> simp))
  have hS1 : Sl (w.alloc (.cells #[.int .i64 0, .int .i64 0, .string ⟨#[]⟩] 110)) (.slice a l.length c) l := ⟨h.rd.grown (World.grownBy_alloc w _ none) (by cases (Value.ownBlock (.slice a l.length c)) <;> simp), h.cap⟩
  have hdone : ∀ o, w.grownBy (w.alloc o) none := fun o => World.grownBy_alloc w o none
  by_cases h1 : k = 1
  · subst h1
    unfold Code.rField
    rw [if_pos rfl]
    cases hr : Code.rNum l with
    | error x =>
      obtain ⟨hx, ho⟩ := numOut_err hr
      rw [ho] at hnum
      simp only
      go_enter Tryz.func102, Tryz.ntmps102
      go_wp2_with (go_at_call 133; go_must (refine hnum.mono ?_); rintro e w1 ⟨rfl, rfl⟩)
      go_returns
      exact ⟨hdone _, hx, ⟨1, 0, ⟨#[]⟩⟩, _, rfl⟩
    | ok p =>
      obtain ⟨n, s⟩ := p
      have ho : numOut l = .tuple #[.int .u64 n, .int .i64 s, .int .i64 0] := by unfold numOut; rw [hr]
      obtain ⟨g1, g2, g3, g4⟩ := Code.rNum_ok h.rd.bytes hr
      rw [ho] at hnum
      simp only
      by_cases hn : 9223372036854775807 < n
      · rw [if_pos hn]
        go_enter Tryz.func102, Tryz.ntmps102
        go_wp2_with (go_at_call 133; go_must (refine hnum.mono ?_); rintro e w1 ⟨rfl, rfl⟩)
        go_returns
        exact ⟨hdone _, rfl, ⟨0, 0, ⟨#[]⟩⟩, _, rfl⟩
      · rw [if_neg hn]
        have hu : IntKind.i64.wrap (n : Int) = (n : Int) := by rw [IntKind.wrap_i64]; omega
        go_enter Tryz.func102, Tryz.ntmps102
        go_wp2_with (go_at_call 133; go_must (refine hnum.mono ?_); rintro e w1 ⟨rfl, rfl⟩)
        go_returns
        exact ⟨hdone _, rfl⟩
  by_cases h2 : k = 2
  · subst h2
    unfold Code.rField
    rw [if_neg h1, if_pos rfl]
    cases hr : Code.rNum l with
    | error x =>
      obtain ⟨hx, ho⟩ := numOut_err hr
      rw [ho] at hnum
      simp only
      go_enter Tryz.func102, Tryz.ntmps102
      go_wp2_with (first | (go_at_call 133; go_must (refine hnum.mono ?_); rintro e w1 ⟨rfl, rfl⟩) | (go_at_call 134; go_must (refine (unfold_any 0 (by decide) _).mono ?_); rintro e w1 ⟨rfl, rfl⟩))
      go_returns
      exact ⟨hdone _, hx, ⟨2, Code.unfold 0, ⟨#[]⟩⟩, _, rfl⟩
    | ok p =>
      obtain ⟨n, s⟩ := p
      have ho : numOut l = .tuple #[.int .u64 n, .int .i64 s, .int .i64 0] := by unfold numOut; rw [hr]
      obtain ⟨g1, g2, g3, g4⟩ := Code.rNum_ok h.rd.bytes hr
      rw [ho] at hnum
      simp only
      go_enter Tryz.func102, Tryz.ntmps102
      go_wp2_with (first | (go_at_call 133; go_must (refine hnum.mono ?_); rintro e w1 ⟨rfl, rfl⟩) | (go_at_call 134; go_must (refine (unfold_any n g1 _).mono ?_); rintro e w1 ⟨rfl, rfl⟩))
      go_returns
      exact ⟨hdone _, rfl⟩
  clear hnum
  by_cases h3 : k = 3
  · subst h3
    unfold Code.rField
    rw [if_neg h1, if_neg h2, if_pos rfl]
    have htext := readText_any a c l _ hS1
    cases hr : Code.rText l with
    | error x =>
      obtain ⟨hx, ho⟩ := textOut_err (a := a) (c := c) hr
      rw [ho] at htext
      simp only
      have hstr := run_string (w := w.alloc (.cells #[.int .i64 0, .int .i64 0, .string ⟨#[]⟩] 110)) (rd_nil _)
      go_enter Tryz.func102, Tryz.ntmps102
      go_wp2_with (go_at_call 99; go_must (refine htext.mono ?_); rintro e w1 ⟨rfl, rfl⟩)
      go_returns
      exact ⟨hdone _, hx, ⟨3, 0, Code.ofB []⟩, _, rfl⟩
    | ok p =>
      obtain ⟨lo, hi⟩ := p
      have ho : textOut l a c = .tuple #[sliced a lo hi c 1, .int .i64 hi, .int .i64 0] := by unfold textOut; rw [hr]
      obtain ⟨g1, g2, g3, g4, g5, g6⟩ := Code.rText_ok h.rd.bytes hr
      rw [ho] at htext
      simp only
      have hstr := run_string (hS1.sub lo hi g1 g2).rd
      obtain ⟨V, hV⟩ : ∃ V, V = sliced a lo hi c 1 := ⟨_, rfl⟩
      obtain ⟨S, hS⟩ : ∃ S, S = Code.ofB (List.take (hi - lo) (List.drop lo l)) := ⟨_, rfl⟩
      rw [← hV] at hstr htext
      rw [← hS] at hstr ⊢
      clear hV hS g6
      go_enter Tryz.func102, Tryz.ntmps102
      go_wp2_with (go_at_call 99; go_must (refine htext.mono ?_); rintro e w1 ⟨rfl, rfl⟩)
      go_returns
      exact ⟨hdone _, rfl⟩
  · unfold Code.rField
    rw [if_neg h1, if_neg h2, if_neg h3]
    simp only
    go_enter Tryz.func102, Tryz.ntmps102
    go_wp2
    go_returns
    exact ⟨hdone _, rfl, ⟨0, 0, ⟨#[]⟩⟩, _, rfl⟩
end Go.Proofs.YtapdhkgeolcogaaGreatDoor.Cd
namespace Go.Proofs.YtapdhkgeolcogaaGreatDoor.Cd
open Go.RowKit

theorem infoField : (Tryz.prog.info? 110).map (fun i => (i.zero, i.size, i.bytes)) = some (some (.agg #[.int .i64 0, .int .i64 0, .string ⟨#[]⟩]), 3, 32) := by kernel_rfl

/-- The cells of a list of fields. -/
def fcs (fs : List Code.Fd) : List Value := fs.flatMap fun f => (fc f).toList
theorem fcs_len (fs : List Code.Fd) : (fcs fs).length = fs.length * 3 := by
  induction fs with
  | nil => rfl
  | cons f fs ih => simp [fcs, fc] at ih ⊢; omega
theorem fcs_append (a b : List Code.Fd) : fcs (a ++ b) = fcs a ++ fcs b := by simp [fcs]

/-- The slice v is the call's own, from block 'base' on, and holds the fields fs. -/
def OwnF (w : World) (base : Nat) (v : Value) (fs : List Code.Fd) : Prop := w.ownsRow base 110 3 v fs.length (fcs fs)

theorem ownF_nil (w : World) : OwnF w w.heap.size (.slice none 0 0) [] := World.ownsRow_nil w _ _ _
theorem OwnF.grown {w w' : World} {base : Nat} {v : Value} {fs : List Code.Fd} {row : Option Nat} (h : OwnF w base v fs) (g : w.grownBy w' row) (hne : v.ownBlock = none ∨ v.ownBlock ≠ row) : OwnF w' base v fs :=
  h.kept g hne
theorem OwnF.next {w w' : World} {base : Nat} {v : Value} {fs : List Code.Fd} (h : OwnF w base v fs) (g : w.grownBy w' none) : OwnF w' base v fs :=
  h.grown g (by cases v.ownBlock <;> simp)

theorem fcs_get (fs : List Code.Fd) (i : Nat) (hi : i < fs.length) : (fcs fs)[i * 3]? = some (.int .i64 fs[i].k) ∧ (fcs fs)[i * 3 + 1]? = some (.int .i64 fs[i].n) ∧ (fcs fs)[i * 3 + 2]? = some (.string fs[i].s) := by
  induction fs generalizing i with
  | nil => simp at hi
  | cons f fs ih =>
    have e : fcs (f :: fs) = [.int .i64 f.k, .int .i64 f.n, .string f.s] ++ fcs fs := rfl
    cases i with
    | zero => rw [e]; simp
    | succ i =>
      have := ih i (by simpa using hi)
      rw [e, Nat.add_mul, Nat.one_mul]
      refine ⟨?_, ?_, ?_⟩
      · rw [List.getElem?_append_right (by simp)]; simpa using this.1
      · rw [List.getElem?_append_right (by simp <;> omega)]
        rw [show i * 3 + 3 + 1 - List.length [Value.int IntKind.i64 f.k, Value.int IntKind.i64 f.n, Value.string f.s] = i * 3 + 1 from by simp <;> omega]
        simpa using this.2.1
      · rw [List.getElem?_append_right (by simp <;> omega)]
        rw [show i * 3 + 3 + 2 - List.length [Value.int IntKind.i64 f.k, Value.int IntKind.i64 f.n, Value.string f.s] = i * 3 + 2 from by simp <;> omega]
        simpa using this.2.2

theorem OwnF.fl {w : World} {base : Nat} {v : Value} {fs : List Code.Fd} (h : OwnF w base v fs) (h64 : ∀ f ∈ fs, Code.In64 f.n) : Fl w v fs := by
  refine ⟨h64, ?_⟩
  rcases h.2 with ⟨rfl, h0⟩ | ⟨g, cap, cur, rfl, hg, hh, h1, h2, h3, h4⟩
  · exact .inl ⟨List.eq_nil_of_length_eq_zero h0, .inl rfl⟩
  · refine .inr ⟨g, 0, cap, rfl, fun i hi => ?_⟩
    obtain ⟨c1, c2, c3⟩ := fcs_get fs i hi
    have d1 := World.ownsRow.cells h (g := g) rfl _ _ c1
    have d2 := World.ownsRow.cells h (g := g) rfl _ _ c2
    have d3 := World.ownsRow.cells h (g := g) rfl _ _ c3
    rw [Addr.add_lit] at d1 d2 d3
    exact ⟨d1, by rw [Nat.add_assoc]; exact d2, by rw [Nat.add_assoc]; exact d3⟩

/-- The value v is a slice whose elements are the numbers ks. -/
structure Ki (w : World) (v : Value) (ks : List Int) : Prop where
  val : (ks = [] ∧ ∃ a cap, v = .slice a 0 cap) ∨ ∃ b off cap, v = .slice (some ⟨b, off, none⟩) ks.length cap ∧ ∀ i, i < ks.length → w.cell? ⟨b, off + i, none⟩ = some (.int .i64 (ks.getD i 0))

/-- 'append(v, f)', v the call's own fields, f one field that lies in the newest block. -/
theorem wpList_append_field {w : World} {ops : Array Oper} {rest : List Oper} {o : Oper} {a : Act} {Q : Exit → Act → World → Prop} (hgd : o.guard = none) (s x : Operand)
    (ho : o.op = .call { callee := .builtin .append, args := #[s, x], argTypes := #[106, 106] })
    (base : Nat) (v : Value) (fs : List Code.Fd) (hs : a.eval s = v) (hown : OwnF w base v fs) (f : Code.Fd)
    {n : Nat} (hx : a.eval x = .slice (some ⟨n, 0, none⟩) 1 1) (hn : n = w.heap.size)
    (hb : fs.length + 1 ≤ 4398046511000) (hbase : base ≤ w.heap.size)
    (h : ∀ v' w', OwnF w' base v' (fs ++ [f]) → w.grownBy w' v.ownBlock → wpList Tryz.prog ops Q rest (a.put o.dst v') w') : wpList Tryz.prog ops Q (o :: rest) a (w.alloc (.cells #[.int .i64 f.k, .int .i64 f.n, .string f.s] 110)) := by
  subst hn
  obtain ⟨i, hi, hz0, hz1, hz2⟩ := info_parts infoField
  refine wpList_append_own _ hgd s x 106 ho base 110 i _ 3 32 Tryz.underlying106 hi hz0 hz1 hz2 rfl (by decide) v fs.length (fcs fs) hs (hown.next (World.grownBy_alloc w _ none)) ⟨w.heap.size, 0, none⟩ 1 1 (fcs [f]) hx (by rw [fcs_len]; rfl)
    ?_ (by intro u hu; simp [fcs, fc] at hu; rcases hu with rfl | rfl | rfl <;> rfl) (by unfold maxLen; omega) (by omega) (by simp; omega) ?_
  · intro j u hj
    rw [Addr.add_lit, Nat.zero_add, World.cell?_alloc_new]
    simpa [fcs, fc] using hj
  · intro v' w' hown' hg _
    refine h v' w' ?_ (grown_more (World.grownBy_alloc w _ _) hg (fun b e => .inl e))
    unfold OwnF
    rw [fcs_append, List.length_append]
    exact hown'

theorem Ki.grown {w w' : World} {v : Value} {ks : List Int} {row : Option Nat} (h : Ki w v ks) (g : w.grownBy w' row) (hr : v.ownBlock = none ∨ v.ownBlock ≠ row) : Ki w' v ks := by
  refine ⟨?_⟩
  rcases h.val with hn | ⟨b, off, cap, rfl, hc⟩
  · exact .inl hn
  · exact .inr ⟨b, off, cap, rfl, fun i hi => g.cell (hc i hi) (by simpa [Value.ownBlock] using hr)⟩

theorem Sl.grown {w w' : World} {v : Value} {l : List Int} (h : Sl w v l) (g : w.grownBy w' none) : Sl w' v l :=
  ⟨h.rd.grown g (by cases v.ownBlock <;> simp), h.cap⟩

theorem Sl.from {w : World} {a : Option Addr} {c : Nat} {l : List Int} (h : Sl w (.slice a l.length c) l) (lo : Nat) (h1 : lo ≤ l.length) : ∃ a' c', sliced a lo l.length c 1 = .slice a' (l.drop lo).length c' ∧ Sl w (.slice a' (l.drop lo).length c') (l.drop lo) := by
  have := h.sub lo l.length h1 (Nat.le_refl _)
  rw [List.take_of_length_le (by simp)] at this
  obtain ⟨a', c', e, _, _⟩ := this.cap
  exact ⟨a', c', e, by rw [← e]; exact this⟩

theorem map_map_ex {ε α β γ : Type} (f : α → β) (g : β → γ) (x : Except ε α) : (x.map f).map g = x.map (fun y => g (f y)) := by cases x <;> rfl

theorem map_id_ex {ε α : Type} (x : Except ε (List α)) : x.map (([] : List α) ++ ·) = x := by cases x <;> rfl

def DecOut (w w' : World) (r : Except Int (List Code.Fd)) (e : Ending) : Prop :=
  match r with
  | .ok fs => ∃ v', e = .returned (.tuple #[v', .int .i64 0]) ∧ OwnF w' w.heap.size v' fs
  | .error x => (x == 0) = false ∧ e = .returned (.tuple #[.slice none 0 0, .int .i64 x])

set_option maxRecDepth 100000 in
set_option maxHeartbeats 800000 in
theorem decode_any (vk : Value) (ks : List Int) (a0 : Option Addr) (c0 : Nat) (l : List Int) (w : World) (hk : Ki w vk ks) (hlk : ks.length ≤ 1000000000) (hs : Sl w (.slice a0 l.length c0) l) :
    Calls Tryz.prog 73 #[vk, .slice a0 l.length c0] w fun e w' => w.grownBy w' none ∧ DecOut w w' (Code.dec ks l) e := by
  obtain ⟨ak, ck, rfl⟩ : ∃ ak ck, vk = .slice ak ks.length ck := by
    rcases hk.val with ⟨rfl, a, cap, rfl⟩ | ⟨b, off, cap, rfl, hc⟩
    · exact ⟨a, cap, rfl⟩
    · exact ⟨_, _, rfl⟩
  go_enter Tryz.func73, Tryz.ntmps73
  go_wp2
  go_loopw [1, 6, 14] (fun b v i wr => ∃ (k : Nat) (done : List Code.Fd) (l' : List Int) (a : Option Addr) (c : Nat), k ≤ ks.length ∧ i = .int .i64 k ∧ b = .slice a l'.length c ∧ Sl w (.slice a l'.length c) l' ∧ OwnF wr w.heap.size v done ∧ done.length = k ∧
    Hid (Code.dec ks l = (Code.dec (ks.drop k) l').map (done ++ ·)) ∧ w.grownBy wr none) (fun _ _ i _ => ks.length - (intOf i).toNat)
  case atStart => exact ⟨0, [], l, a0, c0, Nat.zero_le _, rfl, rfl, hs, ownF_nil w, rfl, by show _ = _; rw [List.drop_zero, map_id_ex], grown_refl _ _⟩
  case round =>
    obtain ⟨k, done, l', a, c, hkl, rfl, rfl, hS, hO, hd, HD, hg⟩ := hrel
    have hz := hg.size
    by_cases hlt : k < ks.length
    · obtain ⟨b, off, rfl, hck⟩ : ∃ b off, ak = some ⟨b, off, none⟩ ∧ wr.cell? ⟨b, off + k, none⟩ = some (.int .i64 (ks.getD k 0)) := by
        rcases (hk.grown hg (by cases (Value.ownBlock (.slice ak ks.length ck)) <;> simp)).val with ⟨rfl, _⟩ | ⟨b, off, cap, e, hc⟩
        · simp at hlt
        · injection e with e1 e2 e3
          exact ⟨b, off, e1, hc k hlt⟩
      have HDS : Hid (ks.drop k = ks.getD k 0 :: ks.drop (k + 1)) := by show _ = _; rw [List.drop_eq_getElem_cons hlt]; simp [hlt]
      obtain ⟨q, hq⟩ : ∃ q, q = ks.getD k 0 := ⟨_, rfl⟩
      rw [← hq] at hck HDS
      clear hq hk hs
      have hread := readField_any q a c l' wr (hS.grown hg)
      cases hr : Code.rField q l' with
      | error x =>
        rw [hr] at hread
        simp only [fc] at hread
        go_wp2_with (go_at_call 102; refine hread.mono ?_; rintro e w1 ⟨hg1, hx, y, z, rfl⟩)
        go_ret2
        refine ⟨grown_alloc (grown_more hg hg1 (by simp)) _, ?_⟩
        rw [HD.out, HDS.out, Code.dec, hr]
        exact ⟨hx, rfl⟩
      | ok p =>
        obtain ⟨f, s⟩ := p
        rw [hr] at hread
        simp only [fc] at hread
        obtain ⟨g1, g2, g3, g4, g5, g6⟩ := Code.rField_ok hS.rd.bytes hr
        obtain ⟨a', c', eV, hS'⟩ := hS.from s g5
        have hc2 : l'.length ≤ c ∧ c ≤ 9223372036854775807 := by
          obtain ⟨_, _, e, h1, h2⟩ := hS.cap
          injection e with e1 e2 e3
          subst e3
          exact ⟨h1, h2⟩
        have hsl : ∀ w : World, (Instr.slice 39 (.slice a l'.length c) (some (.int .i64 s)) none none).run Tryz.prog w = .ok (.slice a' (l'.drop s).length c') w := by
          intro w
          rw [run_slice_l (t := 39) (a := a) (len := l'.length) (cap := c) (ht := Tryz.underlying39) (kl := .i64) (l := (s : Int)) (h0 := by omega) (h1 := by omega), ← eV]
          rfl
        clear g6 eV g1 g4
        go_wp2_with (first
          | (go_at_call 102; refine hread.mono ?_; rintro e w1 ⟨hg1, rfl⟩; have hz1 := hg1.size; have hO1 := hO.next hg1)
          | (at_builtin; go_must (refine wpList_append_field rfl (.tmp 28) (.tmp 30) rfl w.heap.size _ done rfl (hO1.next (World.grownBy_alloc _ _ none)) f rfl (by simp) (by omega) (Nat.le_trans (Nat.le_trans hz hz1) (World.grownBy_alloc w1 _ none).size) ?_); intro v2 w2 hO2 hg2))
        go_roundw
        case rel =>
          refine ⟨k + 1, done ++ [f], l'.drop s, a', c', by omega, by go_num, by simp, ?_, hO2, by simp [hd], ?_, ?_⟩
          · exact hS'
          · show _ = _
            rw [HD.out, HDS.out, Code.dec, hr]
            simp only
            rw [map_map_ex]
            simp
          · exact grown_more (grown_alloc (grown_more hg hg1 (by simp)) _) hg2 (fun b e => .inr (hO1.lt b e).1)
        case measure => simp [intOf]; omega
    · obtain rfl : k = ks.length := by omega
      have hD2 : Code.dec ks l = (Code.dec [] l').map (done ++ ·) := by rw [HD.out, List.drop_length]
      have HD2 : Hid (Code.dec ks l = (Code.dec [] l').map (done ++ ·)) := hD2
      clear hD2
      by_cases hl0 : l' = []
      · subst hl0
        go_wp2
        go_ret2
        refine ⟨hg, ?_⟩
        rw [HD2.out]
        refine ⟨_, rfl, ?_⟩
        simpa using hO
      · have hpos : (0 : Int) < (l'.length : Int) := by have := List.length_pos_iff.2 hl0; omega
        go_wp2
        go_ret2
        refine ⟨hg, ?_⟩
        rw [HD2.out, Code.dec, if_neg hl0]
        exact ⟨rfl, rfl⟩

theorem encode_fits (v : Value) (fs : List Code.Fd) (w : World) (hv : Fl w v fs) (hl : fs.length ≤ 1000000000) (hf : ∀ f ∈ fs, Code.Fits f) :
    Calls Tryz.prog 63 #[v] w fun e w' => ∃ v', e = .returned (.tuple #[v', .int .i64 0]) ∧ Own w' w.heap.size v' (Code.enc fs) ∧ w.grownBy w' none :=
  (encode_any v fs w hv hl).mono fun e w' ⟨h1, h⟩ => by
    rcases h with ⟨_, v', h2, h3⟩ | ⟨h2, _⟩
    · exact ⟨v', h2, h3, h1⟩
    · exact absurd hf h2
theorem encode_bad (v : Value) (fs : List Code.Fd) (w : World) (hv : Fl w v fs) (hl : fs.length ≤ 1000000000) (hf : ¬ ∀ f ∈ fs, Code.Fits f) :
    Calls Tryz.prog 63 #[v] w fun e w' => e = .returned (.tuple #[.slice none 0 0, .int .i64 1]) ∧ w.grownBy w' none :=
  (encode_any v fs w hv hl).mono fun e w' ⟨h1, h⟩ => by
    rcases h with ⟨h2, _⟩ | ⟨_, h2⟩
    · exact absurd h2 hf
    · exact ⟨h2, h1⟩
theorem decode_ok (vk : Value) (ks : List Int) (v : Value) (l : List Int) (w : World) (hk : Ki w vk ks) (hlk : ks.length ≤ 1000000000) (hs : Sl w v l) {fs : List Code.Fd} (hd : Code.dec ks l = .ok fs) :
    Calls Tryz.prog 73 #[vk, v] w fun e w' => ∃ v', e = .returned (.tuple #[v', .int .i64 0]) ∧ OwnF w' w.heap.size v' fs ∧ w.grownBy w' none := by
  obtain ⟨a, c, rfl, _, _⟩ := hs.cap
  refine (decode_any vk ks a c l w hk hlk hs).mono fun e w' ⟨h1, h⟩ => ?_
  rw [hd] at h
  obtain ⟨v', h2, h3⟩ := h
  exact ⟨v', h2, h3, h1⟩
theorem decode_err (vk : Value) (ks : List Int) (v : Value) (l : List Int) (w : World) (hk : Ki w vk ks) (hlk : ks.length ≤ 1000000000) (hs : Sl w v l) {x : Int} (hd : Code.dec ks l = .error x) :
    Calls Tryz.prog 73 #[vk, v] w fun e w' => e = .returned (.tuple #[.slice none 0 0, .int .i64 x]) ∧ (x == 0) = false ∧ w.grownBy w' none := by
  obtain ⟨a, c, rfl, _, _⟩ := hs.cap
  refine (decode_any vk ks a c l w hk hlk hs).mono fun e w' ⟨h1, h⟩ => ?_
  rw [hd] at h
  exact ⟨h.2, h.1, h1⟩

theorem Own.sl {w : World} {base : Nat} {v : Value} {l : List Int} (h : Own w base v l) (hl : l.length ≤ 9223372036854775807) : Sl w v l := by
  refine ⟨h.rd hl, ?_⟩
  rcases h.row.2 with ⟨rfl, h0⟩ | ⟨g, cap, cur, rfl, hg, hh, h1, h2, h3, h4⟩
  · rw [h0]; exact ⟨none, 0, rfl, Nat.le_refl _, by decide⟩
  · exact ⟨_, cap, rfl, h1, h2⟩
end Go.Proofs.YtapdhkgeolcogaaGreatDoor.Cd
namespace Go.Proofs.YtapdhkgeolcogaaGreatDoor.Cd
open Go.RowKit

theorem ownF_empty (w : World) (n : Nat) (hn : n = w.heap.size) : OwnF (w.alloc (.cells #[] 110)) n (.slice (some ⟨n, 0, none⟩) 0 0) [] := by
  subst hn
  exact World.ownsRow_made w #[] 0 (Nat.le_refl _) (by unfold maxLen; omega) (by simp)

theorem toList_eq (s : ByteArray) : s.toList = s.data.toList := by
  have key : ∀ (n i : Nat) (r : List UInt8), s.size - i = n → ByteArray.toList.loop s i r = r.reverse ++ s.data.toList.drop i := by
    intro n
    induction n with
    | zero =>
      intro i r hi
      rw [ByteArray.toList.loop, if_neg (by omega), List.drop_eq_nil_of_le (by rw [Array.length_toList]; show s.size ≤ i; omega), List.append_nil]
    | succ n ih =>
      intro i r hi
      have hlt : i < s.size := by omega
      rw [ByteArray.toList.loop, if_pos hlt, ih (i + 1) _ (by omega), List.reverse_cons, List.append_assoc]
      congr 1
      have hlt' : i < s.data.toList.length := by rw [Array.length_toList]; exact hlt
      rw [List.drop_eq_getElem_cons hlt', List.cons_append, List.nil_append]
      congr 1
      have hlt2 : i < s.data.size := hlt
      simp [ByteArray.get!]
      exact getElem!_pos s.data i hlt2
  have := key s.size 0 [] (by omega)
  simpa [ByteArray.toList] using this
theorem toList_inj {s t : ByteArray} : s.toList = t.toList ↔ s = t := by
  rw [toList_eq, toList_eq]
  constructor
  · intro h
    cases s; cases t
    simp at h
    rw [h]
  · intro h; rw [h]
theorem str_eq {a b : List Int} (ha : Crc.Bytes a) (hb : Crc.Bytes b) : ((Code.ofB a).toList == (Code.ofB b).toList) = decide (a = b) := by
  by_cases h : a = b
  · subst h; simp
  · rw [decide_eq_false h]
    have : ¬ (Code.ofB a).toList = (Code.ofB b).toList := fun e => h ((Code.ofB_inj ha hb).1 (toList_inj.1 e))
    simpa using this
theorem ofB_append (a b : List Int) : Code.ofB (a ++ b) = Code.ofB a ++ Code.ofB b := by
  apply ByteArray.ext
  simp [Code.ofB]
end Go.Proofs.YtapdhkgeolcogaaGreatDoor.Cd
namespace Go.Proofs.YtapdhkgeolcogaaGreatDoor.Cd
open Go.RowKit

namespace Code
/-- The frame around some bytes. -/
def head (l : List Int) : List Int := put l.length ++ l
def frame (l : List Int) : List Int := head l ++ Crc.low (Crc.more 0 (head l))
theorem head_bytes {l : List Int} (h : Crc.Bytes l) : Crc.Bytes (head l) := (put_bytes _).append h
theorem low_len (m : Nat) : (Crc.low m).length = 4 := rfl
theorem frame_bytes {l : List Int} (h : Crc.Bytes l) : Crc.Bytes (frame l) := (head_bytes h).append (Crc.low_bytes _ (Crc.more_lt _ _))
theorem frame_len (l : List Int) : (frame l).length = (put l.length).length + l.length + 4 := by unfold frame head; simp [low_len]; omega
end Code

set_option maxRecDepth 100000 in
set_option maxHeartbeats 800000 in
theorem appendSum_any (v : Value) (l0 : List Int) (m : Nat) (hm : m < 4294967296) (base : Nat) (w : World) (hown : Own w base v l0) (hbase : base ≤ w.heap.size) (hb : l0.length ≤ 140737488351220) :
    Calls Tryz.prog 77 #[v, .int .u32 m] w fun e w' => ∃ v', e = .returned v' ∧ Ext w base v w' v' (l0 ++ Crc.low m) := by
  go_enter Tryz.func77, Tryz.ntmps77
  go_wp2
  go_loopw [0, 6] (fun b i wr => ∃ k : Nat, k ≤ 4 ∧ i = .int .i64 k ∧ Ext w base v wr b (l0 ++ (Crc.low m).take k)) (fun _ i _ => 4 - (intOf i).toNat)
  case atStart => exact ⟨0, by omega, rfl, by simpa using Ext.refl hown⟩
  case round =>
    obtain ⟨k, hk, rfl, hE⟩ := hrel
    have hz := hE.grown.size
    have HL : Hid ((l0 ++ (Crc.low m).take k).length + 1 ≤ 140737488351232) := by show _ ≤ _; rw [List.length_append, List.length_take, Code.low_len]; omega
    have step : ∀ (z : Int) (hz : Crc.Byte z), (Crc.low m).take (k + 1) = (Crc.low m).take k ++ [z] → ∀ w2 v2, Ext wr base u0 w2 v2 ((l0 ++ (Crc.low m).take k) ++ [z]) → Ext w base v w2 v2 (l0 ++ (Crc.low m).take (k + 1)) := by
      intro z hz e w2 v2 h
      rw [e, ← List.append_assoc]
      exact hE.trans h
    have HO := hE.own
    obtain ⟨L, hL⟩ : ∃ L, L = l0 ++ (Crc.low m).take k := ⟨_, rfl⟩
    rw [← hL] at HO HL step
    have hcases : k = 0 ∨ k = 1 ∨ k = 2 ∨ k = 3 ∨ k = 4 := by omega
    rcases hcases with rfl | rfl | rfl | rfl | rfl
    · have hby : Crc.Byte ((m : Int) % 256) := by unfold Crc.Byte; omega
      clear hE hL
      go_wp2_with (at_builtin; go_must (refine wpList_append_one rfl (.tmp 9) (.tmp 15) rfl base _ L rfl HO _ hby rfl HL.out (by omega) ?_); intro v2 w2 hE2)
      go_roundw
      case rel => exact ⟨1, by omega, rfl, step _ hby rfl _ _ hE2⟩
      case measure => simp [intOf]
    · have hby : Crc.Byte ((m : Int) / 256 % 256) := by unfold Crc.Byte; omega
      clear hE hL
      go_wp2_with (at_builtin; go_must (refine wpList_append_one rfl (.tmp 9) (.tmp 15) rfl base _ L rfl HO _ hby rfl HL.out (by omega) ?_); intro v2 w2 hE2)
      go_roundw
      case rel => exact ⟨2, by omega, rfl, step _ hby rfl _ _ hE2⟩
      case measure => simp [intOf]
    · have hby : Crc.Byte ((m : Int) / 65536 % 256) := by unfold Crc.Byte; omega
      clear hE hL
      go_wp2_with (at_builtin; go_must (refine wpList_append_one rfl (.tmp 9) (.tmp 15) rfl base _ L rfl HO _ hby rfl HL.out (by omega) ?_); intro v2 w2 hE2)
      go_roundw
      case rel => exact ⟨3, by omega, rfl, step _ hby rfl _ _ hE2⟩
      case measure => simp [intOf]
    · have hby : Crc.Byte ((m : Int) / 16777216) := by unfold Crc.Byte; omega
      have hmod : (m : Int) / 16777216 % 256 = (m : Int) / 16777216 := by omega
      clear hE hL
      go_wp2_with (at_builtin; go_must (refine wpList_append_one rfl (.tmp 9) (.tmp 15) rfl base _ L rfl HO _ hby rfl HL.out (by omega) ?_); intro v2 w2 hE2)
      go_roundw
      case rel => exact ⟨4, by omega, rfl, step _ hby rfl _ _ hE2⟩
      case measure => simp [intOf]
    · clear step HO HL
      go_wp2
      go_ret
      exact ⟨_, rfl, hE⟩

theorem Made.keep {w w' : World} {tb base : Nat} {v : Value} {l : List Int} (h : Made w w' tb) (ho : Own w base v l) (hne : v.ownBlock ≠ some tb) : Own w' base v l :=
  ho.grown h.grown (.inr hne)

set_option maxRecDepth 100000 in
theorem frame_long (w : World) (a : Option Addr) (n c : Nat) (hn : (65536 : Int) < n) :
    Calls Tryz.prog 59 #[.slice a n c] w fun e w' => e = .returned (.tuple #[.slice none 0 0, .int .i64 1]) ∧ w' = w := by
  go_enter Tryz.func59, Tryz.ntmps59
  go_wp2
  go_ret2
  exact ⟨rfl, rfl⟩

set_option maxRecDepth 100000 in
set_option maxHeartbeats 800000 in
theorem frame_ok (w : World) (a : Option Addr) (c : Nat) (l : List Int) (hl : Rd w (.slice a l.length c) l) (hn : (l.length : Int) ≤ 65536) :
    Calls Tryz.prog 59 #[.slice a l.length c] w fun e w' => ∃ v', e = .returned (.tuple #[v', .int .i64 0]) ∧ Own w' w.heap.size v' (Code.frame l) ∧ w.grownBy w' none := by
  have hu : IntKind.u64.wrap (l.length : Int) = (l.length : Int) := by rw [IntKind.wrap_u64]; omega
  have hp := Code.put_len3 (n := l.length) (by omega)
  have HP : Hid ((Code.put l.length).length + l.length ≤ 140737488351200) := by show _ ≤ _; omega
  have HM := Crc.more_lt 0 (Code.head l)
  obtain ⟨P, hP⟩ : ∃ P, P = Code.put l.length := ⟨_, rfl⟩
  have hN := number_any (.slice none 0 0) [] l.length (by omega) w.heap.size w (own_nil w) (Nat.le_refl _) (by simp)
  rw [List.nil_append, ← hP] at hN
  rw [← hP] at HP
  obtain ⟨Hd, hHd⟩ : ∃ Hd, Hd = Code.head l := ⟨_, rfl⟩
  have HH : Hid (Hd = P ++ l) := by show _ = _; rw [hHd, hP]; rfl
  have HF : Hid (Code.frame l = Hd ++ Crc.low (Crc.more 0 Hd)) := by show _ = _; rw [hHd]; rfl
  rw [← hHd] at HM
  have HMM : Hid (Crc.more 0 Hd < 4294967296) := HM
  clear hP hHd hp HM
  go_enter Tryz.func59, Tryz.ntmps59
  go_wp2_with (first
    | (go_at_call 76; go_must (refine hN.mono ?_); rintro e w1 ⟨v1, rfl, hE1⟩; have hz1 := hE1.grown.size; have hl1 := hl.grown hE1.grown (by cases (Value.ownBlock (.slice a l.length c)) <;> simp [Value.ownBlock]))
    | (at_builtin; go_must (refine wpList_append_rd rfl (.tmp 11) (.tmp 12) rfl w.heap.size _ P rfl hE1.own _ l rfl hl1 (by have := HP.out; omega) hz1 ?_); intro v2 w2 hO2 hg2; rw [← HH.out] at hO2; have gg2 : w.grownBy w2 none := grown_more (grown_more (grown_refl w none) hE1.grown (by simp [Value.ownBlock])) hg2 (fun b e => .inr (hE1.own.row.lt b e).1); have hz2 := gg2.size)
    | (go_at_call 78; refine (new_any _).mono ?_; rintro e w' ⟨rfl, rfl⟩; have hO3 := own_alloc hO2 (.cells tab0 168); have hF3 := fresh_new w2; have hne : v2.ownBlock ≠ some w2.heap.size := fun e => by { have := hO2.lt e; omega })
    | (go_at_call 79; go_must (refine (sum_first w2.heap.size _ Hd _ (hO3.rd (by have := HP.out; rw [HH.out, List.length_append]; omega)) hF3 hne).mono ?_); rintro e w4 ⟨rfl, hM⟩; have hO4 := hM.keep hO3 hne; have hz4 := hM.size)
    | (go_at_call 77; go_must (refine (appendSum_any _ Hd _ HMM.out w.heap.size _ hO4 (by rw [hz4]; simp; omega) (by have := HP.out; rw [HH.out, List.length_append]; omega)).mono ?_); rintro e w5 ⟨v5, rfl, hE5⟩))
  go_ret2
  refine ⟨_, rfl, by rw [HF.out]; exact hE5.own, ?_⟩
  have gg4 : w.grownBy w4 none := grown_more (grown_alloc gg2 _) hM.grown (fun b e => .inr (by injection e with e; omega))
  exact grown_more gg4 hE5.grown (fun b e => .inr (hO4.row.lt b e).1)
end Go.Proofs.YtapdhkgeolcogaaGreatDoor.Cd
namespace Go.Proofs.YtapdhkgeolcogaaGreatDoor.Cd.Code
open Crc (Bytes Byte)

def unf (l : List Int) : Except Int (List Int × Nat) :=
  match rText l with
  | .error e => .error e
  | .ok (lo, hi) => if l.length < hi + 4 then .error 20 else if Crc.low (Crc.more 0 (l.take hi)) = (l.drop hi).take 4 then .ok ((l.drop lo).take (hi - lo), hi + 4) else .error 22

theorem frame_eq (b : List Int) : frame b = put b.length ++ (b ++ Crc.low (Crc.more 0 (head b))) := by unfold frame head; rw [List.append_assoc]
theorem head_len (b : List Int) : (head b).length = (put b.length).length + b.length := by unfold head; simp

theorem unf_frame {b : List Int} (hb : b.length ≤ 65536) (r : List Int) : unf (frame b ++ r) = .ok (b, (frame b).length) := by
  have e1 : frame b ++ r = put b.length ++ (b ++ (Crc.low (Crc.more 0 (head b)) ++ r)) := by rw [frame_eq]; simp [List.append_assoc]
  have e2 : frame b ++ r = head b ++ (Crc.low (Crc.more 0 (head b)) ++ r) := by unfold frame; rw [List.append_assoc]
  have hl : (frame b ++ r).length = (head b).length + 4 + r.length := by rw [e2]; simp [low_len]; omega
  unfold unf
  rw [show rText (frame b ++ r) = .ok ((put b.length).length, (put b.length).length + b.length) from by rw [e1]; exact rText_put hb]
  simp only
  rw [if_neg (by rw [hl, head_len]; omega), ← head_len]
  have t1 : (frame b ++ r).take (head b).length = head b := by rw [e2, List.take_left]
  have t2 : ((frame b ++ r).drop (head b).length).take 4 = Crc.low (Crc.more 0 (head b)) := by rw [e2, List.drop_left]; exact List.take_left' rfl
  rw [t1, t2, if_pos rfl]
  congr 2
  · rw [e1, List.drop_left, head_len, Nat.add_sub_cancel_left, List.take_left]
  · unfold frame; simp [low_len]

theorem unf_cut {b : List Int} (hb : b.length ≤ 65536) (k : Nat) (hk : k < (frame b).length) : unf ((frame b).take k) = .error 20 := by
  have hp := put_pos b.length
  rw [frame_len] at hk
  have hlen : ((frame b).take k).length = k := by rw [List.length_take, frame_len]; omega
  by_cases hkp : k < (put b.length).length
  · have hn : rNum ((frame b).take k) = .error 20 := by
      unfold rNum
      have hi : idx ((frame b).take k) = none := by
        refine idx_of_none fun i hi => ?_
        rw [hlen] at hi
        have h := (idx_some (idx_put b.length (b ++ Crc.low (Crc.more 0 (head b))))).2.2 i (by omega)
        rw [← frame_eq] at h
        simpa [hi] using h
      rw [hi]
    unfold unf rText
    rw [hn]
  · have e : (frame b).take k = put b.length ++ (b ++ Crc.low (Crc.more 0 (head b))).take (k - (put b.length).length) := by
      rw [frame_eq, List.take_append, List.take_of_length_le (by omega)]
    have hn : rNum ((frame b).take k) = .ok (b.length, (put b.length).length) := by rw [e]; exact rNum_put (by omega) _
    unfold unf rText
    rw [hn]
    simp only
    rw [if_neg (by omega), hlen]
    by_cases h1 : k < (put b.length).length + b.length
    · rw [if_pos h1]
    · rw [if_neg h1]
      simp only
      rw [if_pos (by omega)]

theorem put_mono (a b : Nat) (h : a ≤ b) : (put a).length ≤ (put b).length := by
  induction b using Nat.strongRecOn generalizing a with
  | _ b ih =>
    by_cases h1 : a < 128
    · rw [put_small h1]; exact put_pos b
    · rw [put_big (by omega), put_big (n := b) (by omega)]
      have := ih (b / 128) (by omega) (a / 128) (by omega)
      simp; omega

theorem stp_inj' {r x y : Nat} (hr : r < 4294967296) (hx : x < 256) (hy : y < 256) (e : Crc.stp r x = Crc.stp r y) : x = y := by
  rw [Crc.stp_eq, Crc.stp_eq] at e
  have h1 := Crc.shN_inj (k := 8) (Crc.xor_lt 32 hr (by omega)) (Crc.xor_lt 32 hr (by omega)) e
  have := congrArg (r ^^^ ·) h1
  simpa [← Nat.xor_assoc] using this

/-- One byte turned, and the sum is another. -/
theorem more_set {P b : List Int} (hP : Bytes P) (hb : Bytes b) {j : Nat} (hj : j < b.length) {z : Int} (hz : Byte z) (hne : z ≠ b.getD j 0) : Crc.more 0 (P ++ b.set j z) ≠ Crc.more 0 (P ++ b) := by
  intro h
  have hbj : b.getD j 0 = b[j] := by simp [hj]
  have hB : Bytes (b.drop (j + 1)) := hb.drop _
  have hx : Byte b[j] := hb _ (List.getElem_mem hj)
  have e1 : b.set j z = b.take j ++ z :: b.drop (j + 1) := List.set_eq_take_append_cons_drop .. |>.trans (by rw [if_pos hj])
  have e2 : b = b.take j ++ b[j] :: b.drop (j + 1) := by rw [← List.drop_eq_getElem_cons hj, List.take_append_drop]
  have hA : Bytes (P ++ b.take j) := hP.append (hb.take _)
  have hr := Crc.run_lt _ hA (Crc.inv 0) (Crc.inv_lt 0)
  rw [e1] at h
  conv at h => rhs; rw [e2]
  rw [← List.append_assoc, ← List.append_assoc] at h
  unfold Crc.more at h
  rw [Crc.run_append (Crc.inv 0) (P ++ b.take j) (z :: b.drop (j + 1)), Crc.run_append (Crc.inv 0) (P ++ b.take j) (b[j] :: b.drop (j + 1)), Crc.run_cons, Crc.run_cons] at h
  unfold Byte at hx hz
  have h2 := congrArg Crc.inv h
  rw [Crc.inv_inv (Crc.run_lt _ hB _ (Crc.stp_lt hr (by omega))), Crc.inv_inv (Crc.run_lt _ hB _ (Crc.stp_lt hr (by omega)))] at h2
  have h3 := Crc.run_inj hB (Crc.stp_lt hr (by omega)) (Crc.stp_lt hr (by omega)) h2
  have h4 := stp_inj' hr (by omega) (by omega) h3
  rw [hbj] at hne
  omega

theorem low_inj {s t : Nat} (hs : s < 4294967296) (ht : t < 4294967296) (h : Crc.low s = Crc.low t) : s = t := by
  unfold Crc.low at h
  simp only [List.cons.injEq, and_true] at h
  omega

theorem unf_turn {b : List Int} (hbb : Bytes b) (hb : b.length ≤ 65536) (k : Nat) (hk : k < (frame b).length) (z : Int) (hz : Byte z) (hne : z ≠ (frame b).getD k 0) {y : List Int} {m : Nat}
    (h : unf ((frame b).set k z) = .ok (y, m)) : m ≠ (frame b).length ∧ y.length ≠ b.length := by
  have hLB : Bytes ((frame b).set k z) := fun x hx => by
    rcases List.mem_or_eq_of_mem_set hx with h | h
    · exact frame_bytes hbb x h
    · rw [h]; exact hz
  have hlen : ((frame b).set k z).length = (put b.length).length + b.length + 4 := by rw [List.length_set, frame_len]
  by_cases hkp : k < (put b.length).length
  · unfold unf at h
    cases hr : rText ((frame b).set k z) with
    | error e => rw [hr] at h; cases h
    | ok p =>
      obtain ⟨lo, hi⟩ := p
      rw [hr] at h
      simp only at h
      split at h
      · cases h
      · split at h
        · injection h with h
          injection h with h1 h2
          obtain ⟨g1, g2, g3, g4, _, g6⟩ := rText_ok hLB hr
          have hyl : y.length = hi - lo := by rw [← h1, List.length_take, List.length_drop]; omega
          have hlo : lo = (put (hi - lo)).length := by
            have := congrArg List.length g6
            simp only [List.length_take, List.length_append, List.length_drop] at this
            omega
          have htk : ((frame b).set k z).take lo = put (hi - lo) := by
            have e1 := congrArg (List.take lo) g6
            rw [List.take_take, Nat.min_eq_left g1] at e1
            rw [e1]
            conv => lhs; rw [hlo]
            rw [← hlo]
            exact List.take_left' hlo.symm
          have hnn : hi - lo ≠ b.length := by
            intro e
            rw [e] at htk hlo
            have this : (((frame b).set k z).take lo).getD k 0 = (put b.length).getD k 0 := congrArg (fun q : List Int => q.getD k 0) htk
            have e1 : (((frame b).set k z).take lo).getD k 0 = z := by
              rw [List.getD_eq_getElem?_getD, List.getElem?_take, if_pos (by omega), List.getElem?_set_self (by omega)]
              rfl
            have e2 : (put b.length).getD k 0 = (frame b).getD k 0 := by
              rw [frame_eq, List.getD_eq_getElem?_getD, List.getD_eq_getElem?_getD, List.getElem?_append_left hkp]
            rw [e1, e2] at this
            exact hne this
          refine ⟨fun e => ?_, by rw [hyl]; exact hnn⟩
          rw [frame_len, ← h2] at e
          rcases Nat.lt_or_gt_of_ne hnn with hlt | hgt
          · have := put_mono _ _ (Nat.le_of_lt hlt)
            omega
          · have := put_mono _ _ (Nat.le_of_lt hgt)
            omega
        · cases h
  · exfalso
    have hg : (frame b).getD k 0 = (b ++ Crc.low (Crc.more 0 (head b))).getD (k - (put b.length).length) 0 := by
      rw [frame_eq, List.getD_eq_getElem?_getD, List.getD_eq_getElem?_getD, List.getElem?_append_right (by omega)]
    have hs : (frame b).set k z = put b.length ++ (b ++ Crc.low (Crc.more 0 (head b))).set (k - (put b.length).length) z := by
      rw [frame_eq, List.set_append, if_neg hkp]
    rw [frame_len] at hk
    obtain ⟨j, hj⟩ : ∃ j, j = k - (put b.length).length := ⟨_, rfl⟩
    rw [← hj] at hg hs
    have hml := Crc.more_lt 0 (head b)
    by_cases hjb : j < b.length
    · rw [List.set_append, if_pos hjb] at hs
      have hgb : (frame b).getD k 0 = b.getD j 0 := by
        rw [hg, List.getD_eq_getElem?_getD, List.getD_eq_getElem?_getD, List.getElem?_append_left hjb]
      rw [hgb] at hne
      have hl' : (b.set j z).length = b.length := by simp
      have hr : rText ((frame b).set k z) = .ok ((put b.length).length, (put b.length).length + b.length) := by
        rw [hs, ← hl']; exact rText_put (by rw [hl']; exact hb)
      unfold unf at h
      rw [hr] at h
      simp only at h
      rw [if_neg (by omega)] at h
      have t1 : ((frame b).set k z).take ((put b.length).length + b.length) = put b.length ++ b.set j z := by
        rw [hs, ← List.append_assoc]; exact List.take_left' (by simp)
      have t2 : (((frame b).set k z).drop ((put b.length).length + b.length)).take 4 = Crc.low (Crc.more 0 (head b)) := by
        rw [hs, ← List.append_assoc, List.drop_left' (by simp)]; exact List.take_of_length_le (by simp [low_len])
      rw [t1, t2] at h
      split at h
      · rename_i e
        exact more_set (put_bytes _) hbb hjb hz hne (low_inj (Crc.more_lt _ _) hml e)
      · cases h
    · rw [List.set_append, if_neg hjb] at hs
      have hgb : (frame b).getD k 0 = (Crc.low (Crc.more 0 (head b))).getD (j - b.length) 0 := by
        rw [hg, List.getD_eq_getElem?_getD, List.getD_eq_getElem?_getD, List.getElem?_append_right (by omega)]
      rw [hgb] at hne
      have hr : rText ((frame b).set k z) = .ok ((put b.length).length, (put b.length).length + b.length) := by
        rw [hs]; exact rText_put hb
      unfold unf at h
      rw [hr] at h
      simp only at h
      rw [if_neg (by omega)] at h
      have t1 : ((frame b).set k z).take ((put b.length).length + b.length) = head b := by
        rw [hs, ← List.append_assoc]; exact List.take_left' (by simp)
      have t2 : (((frame b).set k z).drop ((put b.length).length + b.length)).take 4 = (Crc.low (Crc.more 0 (head b))).set (j - b.length) z := by
        rw [hs, ← List.append_assoc, List.drop_left' (by simp)]; exact List.take_of_length_le (by simp [low_len])
      rw [t1, t2] at h
      split at h
      · rename_i e
        have this : (Crc.low (Crc.more 0 (head b))).getD (j - b.length) 0 = ((Crc.low (Crc.more 0 (head b))).set (j - b.length) z).getD (j - b.length) 0 := congrArg (fun q : List Int => q.getD (j - b.length) 0) e
        rw [List.getD_eq_getElem?_getD (l := List.set _ _ _), List.getElem?_set_self (by rw [low_len]; omega)] at this
        exact hne this.symm
      · cases h
end Go.Proofs.YtapdhkgeolcogaaGreatDoor.Cd.Code
