/- Books of sessions in memory: rows of jobs, rows of sessions with their jobs' slices. -/
import Derived.Test.YtdekeibnehoeaaaMRow
import Derived.Test.YtdekeibnehoeaaaSMath
import Derived.Handy
import Derived.Carry
import Derived.Deep.RegionHeld3
import Derived.Deep.MidRow
import Derived.Deep.CutRange
import Derived.Deep.CutBlock
namespace Go.Proofs.Ytdekeibnehoeaaa
open Go.RowKit Sea
set_option linter.unusedVariables false
set_option maxRecDepth 10000

/-- A slice's three parts. -/
structure S3 where
  a : Option Addr
  n : Nat
  c : Nat
abbrev S3.v (s : S3) : Value := .slice s.a s.n s.c
def nil3 : S3 := ⟨none, 0, 0⟩
abbrev jc (j : Jb) : List Value := [.string j.nm, .string j.ex, .string j.zn, .string j.tk, .int .i64 j.cl, .int .i64 j.sq, .bool j.ps, .int .i64 j.ma]
abbrev jv (j : Jb) : Value := .agg #[.string j.nm, .string j.ex, .string j.zn, .string j.tk, .int .i64 j.cl, .int .i64 j.sq, .bool j.ps, .int .i64 j.ma]
abbrev sc (x : Sn × S3) : List Value := [.int .i64 x.1.cl, .int .i64 x.1.sq, .int .i64 x.1.er, .int .i64 x.1.tm, .slice x.2.a x.2.n x.2.c]
abbrev sv (s : Sn) (u : S3) : Value := .agg #[.int .i64 s.cl, .int .i64 s.sq, .int .i64 s.er, .int .i64 s.tm, .slice u.a u.n u.c]
abbrev rv (s : Sn) (u : S3) : Value := .agg #[.int .i64 s.er, .int .i64 s.tm, .slice u.a u.n u.c]
def eJ : Elm Jb where
  el := 55
  sl := 24
  size := 8
  bytes := 96
  zero := .agg #[.string ⟨#[]⟩, .string ⟨#[]⟩, .string ⟨#[]⟩, .string ⟨#[]⟩, .int .i64 0, .int .i64 0, .bool false, .int .i64 0]
  enc := fun j => jc j
  hu := Try.underlying24
  hi := by kernel_rfl
  hz := rfl
  hs := by decide
  len := fun _ => rfl
  one := by intro x v hv; simp at hv; rcases hv with rfl | rfl | rfl | rfl | rfl | rfl | rfl | rfl <;> rfl
  he := by kernel_rfl
  so := fun W => Try.sizeOf55 W
def eS : Elm (Sn × S3) where
  el := 28
  sl := 22
  size := 5
  bytes := 56
  zero := .agg #[.int .i64 0, .int .i64 0, .int .i64 0, .int .i64 0, .slice none 0 0]
  enc := fun x => sc x
  hu := Try.underlying22
  hi := by kernel_rfl
  hz := rfl
  hs := by decide
  len := fun _ => rfl
  one := by intro x v hv; simp at hv; rcases hv with rfl | rfl | rfl | rfl | rfl <;> rfl
  he := by kernel_rfl
  so := fun W => Try.sizeOf28 W
/-- A slice reads as these jobs. -/
def Rdj (w : World) (u : S3) (js : List Jb) : Prop := eJ.Rx w (.slice u.a u.n u.c) js ∧ u.n = js.length ∧ js.length * 96 ≤ 140737488355328
theorem Rdj.grown {w w' : World} {u : S3} {js : List Jb} (h : Rdj w u js) (g : w.grownBy w' none) : Rdj w' u js := ⟨h.1.grown g, h.2⟩
theorem Rdj.kept {F : Nat → Prop} {w w' : World} {u : S3} {js : List Jb} (h : Rdj w u js) (g : Chg F w w') (hF : js ≠ [] → ∀ k, (Value.slice u.a u.n u.c).ownBlock = some k → ¬ F k) : Rdj w' u js := ⟨h.1.kept' g hF, h.2⟩
theorem rdj_nil (w : World) : Rdj w nil3 [] := ⟨.inl ⟨rfl, rfl⟩, rfl, by simp⟩
/-- A slice reads as these sessions. -/
def Bk (w : World) (v : Value) (X : List (Sn × S3)) : Prop := eS.Rx w v X ∧ ∀ x ∈ X, Rdj w x.2 x.1.js
theorem Bk.grown {w w' : World} {v : Value} {X : List (Sn × S3)} (h : Bk w v X) (g : w.grownBy w' none) : Bk w' v X := ⟨h.1.grown g, fun x hx => (h.2 x hx).grown g⟩
theorem Bk.form {w : World} {v : Value} {X : List (Sn × S3)} (h : Bk w v X) : ∃ ad c, v = .slice ad X.length c := h.1.form
theorem bk_nil (w : World) : Bk w (.slice none 0 0) [] := ⟨.inl ⟨rfl, rfl⟩, by simp⟩
/-- The i-th session's cells. -/
theorem range_s {w : World} {v : Value} {X : List (Sn × S3)} {i : Nat} {x : Sn × S3} (h : eS.Rx w v X) (hi : X[i]? = some x) : ∃ g o c, v = .slice (some ⟨g, o, none⟩) X.length c ∧ w.rangeAt g (o + i * 5) (sc x) := by
  obtain ⟨g, o, c, h1, h2⟩ := h.at_ hi
  exact ⟨g, o, c, h1, h2⟩
theorem range_at {w : World} {ad : Option Addr} {N c : Nat} {X : List (Sn × S3)} {i : Nat} {x : Sn × S3} (h : eS.Rx w (.slice ad N c) X) (hi : X[i]? = some x) : ∃ g o, ad = some ⟨g, o, none⟩ ∧ w.rangeAt g (o + i * 5) (sc x) := by
  obtain ⟨g, o, c, h1, h2⟩ := range_s h hi
  injection h1 with h1 _ _
  exact ⟨g, o, h1, h2⟩
theorem range_in {w : World} {g o N c : Nat} {X : List (Sn × S3)} {i : Nat} {x : Sn × S3} (h : eS.Rx w (.slice (some ⟨g, o, none⟩) N c) X) (hi : X[i]? = some x) : w.rangeAt g (o + i * 5) (sc x) := by
  obtain ⟨g', o', h1, h2⟩ := range_at h hi
  injection h1 with h1
  injection h1 with h1 h3 _
  subst h1 h3
  exact h2
/-- A whole session is loaded. -/
theorem load_s {ops : Array Oper} {rest : List Oper} {d : Option Tmp} {ty' : TypeId} {x : Operand} {ps : String} {af : Array Edge} {a : Act} {w : World} {Q : Exit → Act → World → Prop}
    (q o : Nat) (s : Sn) (u : S3) (hx : a.eval x = .pointer (some ⟨q, o, none⟩)) (hr : w.rangeAt q o (sc (s, u)))
    (h : wpList Try.prog ops Q rest (a.put d (sv s u)) w) : wpList Try.prog ops Q (⟨d, .load 28 x, ty', ps, af, none⟩ :: rest) a w :=
  wpList_load_mid rfl 28 x rfl q o hx (sc (s, u)) _ hr Try.underlying28 rfl (by kernel_rfl) h
/-- A session in a box of its own stays there. -/
theorem box_s {w W : World} {s : Sn} {u : S3} {t : TypeId} (g : (w.alloc (.cells #[.int .i64 s.cl, .int .i64 s.sq, .int .i64 s.er, .int .i64 s.tm, .slice u.a u.n u.c] t)).grownBy W none) :
    W.rangeAt w.heap.size 0 (sc (s, u)) := by
  intro j v hj
  rw [Nat.zero_add]
  exact cell_kept g j v (by simpa using hj)
theorem range_cells {w : World} {q o : Nat} {s : Sn} {u : S3} (h : w.rangeAt q o (sc (s, u))) : w.cell? ⟨q, o, none⟩ = some (.int .i64 s.cl) ∧ w.cell? ⟨q, o + 1, none⟩ = some (.int .i64 s.sq) ∧ w.cell? ⟨q, o + 2, none⟩ = some (.int .i64 s.er) ∧ w.cell? ⟨q, o + 3, none⟩ = some (.int .i64 s.tm) ∧ w.cell? ⟨q, o + 4, none⟩ = some (.slice u.a u.n u.c) :=
  ⟨h 0 _ rfl, h 1 _ rfl, h 2 _ rfl, h 3 _ rfl, h 4 _ rfl⟩
end Go.Proofs.Ytdekeibnehoeaaa
