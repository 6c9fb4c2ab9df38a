/- What the document's own 'item' answers, way by way. -/
import Derived.Test.YthjfecniipifhaaDoorKRefDigits
namespace Go.Proofs.YthjfecniipifhaaDoor
open Go.RowKit
set_option linter.unusedVariables false
abbrev riv (a b s e : Int) (ok st : Bool) : Value := .agg #[.int .i64 a, .int .i64 b, .int .i64 s, .int .i64 e, .bool ok, .bool st]

set_option maxRecDepth 100000 in
set_option maxHeartbeats 1600000 in
theorem it_star_end (s : ByteArray) (i j : Nat) (hj : j < 5) (hs : s.size ≤ 256)
    (hi : i < s.size)
    (I0 : ∀ w', (Instr.index 9 (.string s) (.int .i64 ((i : Int)))).run Tryd.prog w' = .ok (.int .u8 42) w')
    (hE : i + 1 = s.size)
    (w : World) :
    Calls Tryd.prog 40 #[.string s, .int .i64 i, .int .i64 j] w fun e w' => e = .returned (riv (Cro.sp j).lo (Cro.sp j).hi 1 ((i : Int) + 1) true true) ∧ w.grownBy w' none := by
  have L := rLeast j hj
  have M := rMost j hj
  generalize (Cro.sp j).lo = lo at *
  generalize (Cro.sp j).hi = hi at *
  have z0 : decide ((i : Int) < (s.size : Int)) = true := decide_eq_true (by omega)
  have y0 : decide ((i : Int) + 1 < (s.size : Int)) = false := decide_eq_false (by omega)
  have y1 : ((i : Int) + 1 == (s.size : Int)) = true := by simp; omega
  clear hE
  go_enter Tryd.func40, Tryd.ntmps40
  go_wp2_with (first
    | (go_at_call 41; (with_reducible refine (L _).mono ?_); rintro e w1 ⟨rfl, rfl⟩)
    | (go_at_call 42; (with_reducible refine (M _).mono ?_); rintro e w1 ⟨rfl, rfl⟩))
  refine bodyPost_ret (v := riv lo hi 1 ((i : Int) + 1) true true) (by simp [results, Tryd.results40, go_sem]) rfl ?_
  exact ⟨rfl, grown_alloc (World.grownBy_alloc w _ none) _⟩

set_option maxRecDepth 100000 in
set_option maxHeartbeats 1600000 in
theorem it_star_more (s : ByteArray) (i j : Nat) (c : Nat) (hj : j < 5) (hs : s.size ≤ 256)
    (hi : i < s.size)
    (I0 : ∀ w', (Instr.index 9 (.string s) (.int .i64 ((i : Int)))).run Tryd.prog w' = .ok (.int .u8 42) w')
    (hE : i + 1 < s.size) (hc : c < 256) (h47 : c ≠ 47)
    (I3 : ∀ w', (Instr.index 9 (.string s) (.int .i64 ((i : Int) + 1))).run Tryd.prog w' = .ok (.int .u8 (c : Int)) w')
    (w : World) :
    Calls Tryd.prog 40 #[.string s, .int .i64 i, .int .i64 j] w fun e w' => e = .returned (riv (Cro.sp j).lo (Cro.sp j).hi 1 ((i : Int) + 1) ((c : Int) == 44) true) ∧ w.grownBy w' none := by
  have L := rLeast j hj
  have M := rMost j hj
  generalize (Cro.sp j).lo = lo at *
  generalize (Cro.sp j).hi = hi at *
  have z0 : decide ((i : Int) < (s.size : Int)) = true := decide_eq_true (by omega)
  have y0 : decide ((i : Int) + 1 < (s.size : Int)) = true := decide_eq_true (by omega)
  have y1 : ((i : Int) + 1 == (s.size : Int)) = false := by simp; omega
  have y2 : ((c : Int) == 47) = false := by simp; omega
  clear h47
  go_enter Tryd.func40, Tryd.ntmps40
  go_wp2_with (first
    | (go_at_call 41; (with_reducible refine (L _).mono ?_); rintro e w1 ⟨rfl, rfl⟩)
    | (go_at_call 42; (with_reducible refine (M _).mono ?_); rintro e w1 ⟨rfl, rfl⟩))
  refine bodyPost_ret (v := riv lo hi 1 ((i : Int) + 1) ((c : Int) == 44) true) (by simp [results, Tryd.results40, go_sem]) rfl ?_
  exact ⟨rfl, grown_alloc (World.grownBy_alloc w _ none) _⟩

set_option maxRecDepth 100000 in
set_option maxHeartbeats 1600000 in
theorem it_star_step_no (s : ByteArray) (i j : Nat) (hj : j < 5) (hs : s.size ≤ 256)
    (hi : i < s.size)
    (I0 : ∀ w', (Instr.index 9 (.string s) (.int .i64 ((i : Int)))).run Tryd.prog w' = .ok (.int .u8 42) w')
    (hE : i + 1 < s.size)
    (I3 : ∀ w', (Instr.index 9 (.string s) (.int .i64 ((i : Int) + 1))).run Tryd.prog w' = .ok (.int .u8 47) w')
    (D3 : ∀ w, Calls Tryd.prog 55 #[.string s, .int .i64 ((i : Int) + 1 + 1)] w fun e w' => e = .returned (.tuple #[.int .i64 (-1), .int .i64 ((i : Int) + 1 + 1)]) ∧ w' = w)
    (w : World) :
    Calls Tryd.prog 40 #[.string s, .int .i64 i, .int .i64 j] w fun e w' => e = .returned (riv (Cro.sp j).lo (Cro.sp j).hi 1 0 false true) ∧ w.grownBy w' none := by
  have L := rLeast j hj
  have M := rMost j hj
  generalize (Cro.sp j).lo = lo at *
  generalize (Cro.sp j).hi = hi at *
  have z0 : decide ((i : Int) < (s.size : Int)) = true := decide_eq_true (by omega)
  have y0 : decide ((i : Int) + 1 < (s.size : Int)) = true := decide_eq_true (by omega)
  go_enter Tryd.func40, Tryd.ntmps40
  go_wp2_with (first
    | (go_at_call 41; (with_reducible refine (L _).mono ?_); rintro e w1 ⟨rfl, rfl⟩)
    | (go_at_call 42; (with_reducible refine (M _).mono ?_); rintro e w1 ⟨rfl, rfl⟩)
    | (go_at_call 55; (with_reducible refine (D3 _).mono ?_); rintro e w1 ⟨rfl, rfl⟩))
  refine bodyPost_ret (v := riv lo hi 1 0 false true) (by simp [results, Tryd.results40, go_sem]) rfl ?_
  exact ⟨rfl, grown_alloc (World.grownBy_alloc w _ none) _⟩

set_option maxRecDepth 100000 in
set_option maxHeartbeats 1600000 in
theorem it_star_step_end (s : ByteArray) (i j : Nat) (n p3 : Nat) (hj : j < 5) (hs : s.size ≤ 256)
    (hi : i < s.size)
    (I0 : ∀ w', (Instr.index 9 (.string s) (.int .i64 ((i : Int)))).run Tryd.prog w' = .ok (.int .u8 42) w')
    (hE : i + 1 < s.size) (hn : n ≤ 9999) (hE3 : p3 = s.size)
    (I3 : ∀ w', (Instr.index 9 (.string s) (.int .i64 ((i : Int) + 1))).run Tryd.prog w' = .ok (.int .u8 47) w')
    (D3 : ∀ w, Calls Tryd.prog 55 #[.string s, .int .i64 ((i : Int) + 1 + 1)] w fun e w' => e = .returned (.tuple #[.int .i64 n, .int .i64 (p3)]) ∧ w' = w)
    (w : World) :
    Calls Tryd.prog 40 #[.string s, .int .i64 i, .int .i64 j] w fun e w' => e = .returned (riv (Cro.sp j).lo (Cro.sp j).hi n p3 true true) ∧ w.grownBy w' none := by
  have L := rLeast j hj
  have M := rMost j hj
  generalize (Cro.sp j).lo = lo at *
  generalize (Cro.sp j).hi = hi at *
  have z0 : decide ((i : Int) < (s.size : Int)) = true := decide_eq_true (by omega)
  have y0 : decide ((i : Int) + 1 < (s.size : Int)) = true := decide_eq_true (by omega)
  have y3 : ((p3 : Int) == (s.size : Int)) = true := by simp; omega
  clear hE3
  go_enter Tryd.func40, Tryd.ntmps40
  go_wp2_with (first
    | (go_at_call 41; (with_reducible refine (L _).mono ?_); rintro e w1 ⟨rfl, rfl⟩)
    | (go_at_call 42; (with_reducible refine (M _).mono ?_); rintro e w1 ⟨rfl, rfl⟩)
    | (go_at_call 55; (with_reducible refine (D3 _).mono ?_); rintro e w1 ⟨rfl, rfl⟩))
  refine bodyPost_ret (v := riv lo hi n p3 true true) (by simp [results, Tryd.results40, go_sem]) rfl ?_
  exact ⟨rfl, grown_alloc (World.grownBy_alloc w _ none) _⟩

set_option maxRecDepth 100000 in
set_option maxHeartbeats 1600000 in
theorem it_star_step_more (s : ByteArray) (i j : Nat) (n p3 c : Nat) (hj : j < 5) (hs : s.size ≤ 256)
    (hi : i < s.size)
    (I0 : ∀ w', (Instr.index 9 (.string s) (.int .i64 ((i : Int)))).run Tryd.prog w' = .ok (.int .u8 42) w')
    (hE : i + 1 < s.size) (hn : n ≤ 9999) (hE3 : p3 < s.size) (hc : c < 256)
    (I3 : ∀ w', (Instr.index 9 (.string s) (.int .i64 ((i : Int) + 1))).run Tryd.prog w' = .ok (.int .u8 47) w')
    (D3 : ∀ w, Calls Tryd.prog 55 #[.string s, .int .i64 ((i : Int) + 1 + 1)] w fun e w' => e = .returned (.tuple #[.int .i64 n, .int .i64 (p3)]) ∧ w' = w)
    (I4 : ∀ w', (Instr.index 9 (.string s) (.int .i64 ((p3 : Int)))).run Tryd.prog w' = .ok (.int .u8 (c : Int)) w')
    (w : World) :
    Calls Tryd.prog 40 #[.string s, .int .i64 i, .int .i64 j] w fun e w' => e = .returned (riv (Cro.sp j).lo (Cro.sp j).hi n p3 ((c : Int) == 44) true) ∧ w.grownBy w' none := by
  have L := rLeast j hj
  have M := rMost j hj
  generalize (Cro.sp j).lo = lo at *
  generalize (Cro.sp j).hi = hi at *
  have z0 : decide ((i : Int) < (s.size : Int)) = true := decide_eq_true (by omega)
  have y0 : decide ((i : Int) + 1 < (s.size : Int)) = true := decide_eq_true (by omega)
  have y3 : ((p3 : Int) == (s.size : Int)) = false := by simp; omega
  go_enter Tryd.func40, Tryd.ntmps40
  go_wp2_with (first
    | (go_at_call 41; (with_reducible refine (L _).mono ?_); rintro e w1 ⟨rfl, rfl⟩)
    | (go_at_call 42; (with_reducible refine (M _).mono ?_); rintro e w1 ⟨rfl, rfl⟩)
    | (go_at_call 55; (with_reducible refine (D3 _).mono ?_); rintro e w1 ⟨rfl, rfl⟩))
  refine bodyPost_ret (v := riv lo hi n p3 ((c : Int) == 44) true) (by simp [results, Tryd.results40, go_sem]) rfl ?_
  exact ⟨rfl, grown_alloc (World.grownBy_alloc w _ none) _⟩

set_option maxRecDepth 100000 in
set_option maxHeartbeats 1600000 in
theorem it_none (s : ByteArray) (i j : Nat) (hj : j < 5) (hs : s.size ≤ 256)
    (hi : s.size ≤ i) (hi2 : i ≤ 300)
    (D1 : ∀ w, Calls Tryd.prog 55 #[.string s, .int .i64 ((i : Int))] w fun e w' => e = .returned (.tuple #[.int .i64 (-1), .int .i64 ((i : Int))]) ∧ w' = w)
    (w : World) :
    Calls Tryd.prog 40 #[.string s, .int .i64 i, .int .i64 j] w fun e w' => e = .returned (riv 0 0 1 0 false false) ∧ w.grownBy w' none := by
  have z0 : decide ((i : Int) < (s.size : Int)) = false := decide_eq_false (by omega)
  go_enter Tryd.func40, Tryd.ntmps40
  go_wp2_with (first
    | (go_at_call 55; (with_reducible refine (D1 _).mono ?_); rintro e w1 ⟨rfl, rfl⟩))
  refine bodyPost_ret (v := riv 0 0 1 0 false false) (by simp [results, Tryd.results40, go_sem]) rfl ?_
  exact ⟨rfl, grown_alloc (World.grownBy_alloc w _ none) _⟩

set_option maxRecDepth 100000 in
set_option maxHeartbeats 1600000 in
theorem it_bad (s : ByteArray) (i j : Nat) (c0 : Nat) (hj : j < 5) (hs : s.size ≤ 256)
    (hi : i < s.size) (hc0 : c0 < 256) (h42 : c0 ≠ 42)
    (I0 : ∀ w', (Instr.index 9 (.string s) (.int .i64 ((i : Int)))).run Tryd.prog w' = .ok (.int .u8 (c0 : Int)) w')
    (D1 : ∀ w, Calls Tryd.prog 55 #[.string s, .int .i64 ((i : Int))] w fun e w' => e = .returned (.tuple #[.int .i64 (-1), .int .i64 ((i : Int))]) ∧ w' = w)
    (w : World) :
    Calls Tryd.prog 40 #[.string s, .int .i64 i, .int .i64 j] w fun e w' => e = .returned (riv 0 0 1 0 false false) ∧ w.grownBy w' none := by
  have z0 : decide ((i : Int) < (s.size : Int)) = true := decide_eq_true (by omega)
  have z1 : ((c0 : Int) == 42) = false := by simp; omega
  clear h42
  go_enter Tryd.func40, Tryd.ntmps40
  go_wp2_with (first
    | (go_at_call 55; (with_reducible refine (D1 _).mono ?_); rintro e w1 ⟨rfl, rfl⟩))
  refine bodyPost_ret (v := riv 0 0 1 0 false false) (by simp [results, Tryd.results40, go_sem]) rfl ?_
  exact ⟨rfl, grown_alloc (World.grownBy_alloc w _ none) _⟩

set_option maxRecDepth 100000 in
set_option maxHeartbeats 1600000 in
theorem it_num_end (s : ByteArray) (i j : Nat) (c0 a p1 : Nat) (hj : j < 5) (hs : s.size ≤ 256)
    (hi : i < s.size) (hc0 : c0 < 256) (h42 : c0 ≠ 42)
    (I0 : ∀ w', (Instr.index 9 (.string s) (.int .i64 ((i : Int)))).run Tryd.prog w' = .ok (.int .u8 (c0 : Int)) w')
    (ha : a ≤ 9999) (hE : p1 = s.size)
    (D1 : ∀ w, Calls Tryd.prog 55 #[.string s, .int .i64 ((i : Int))] w fun e w' => e = .returned (.tuple #[.int .i64 a, .int .i64 (p1)]) ∧ w' = w)
    (w : World) :
    Calls Tryd.prog 40 #[.string s, .int .i64 i, .int .i64 j] w fun e w' => e = .returned (riv a a 1 p1 true false) ∧ w.grownBy w' none := by
  have z0 : decide ((i : Int) < (s.size : Int)) = true := decide_eq_true (by omega)
  have z1 : ((c0 : Int) == 42) = false := by simp; omega
  have y0 : decide ((p1 : Int) < (s.size : Int)) = false := decide_eq_false (by omega)
  have y1 : ((p1 : Int) == (s.size : Int)) = true := by simp; omega
  clear h42 hE
  go_enter Tryd.func40, Tryd.ntmps40
  go_wp2_with (first
    | (go_at_call 55; (with_reducible refine (D1 _).mono ?_); rintro e w1 ⟨rfl, rfl⟩))
  refine bodyPost_ret (v := riv a a 1 p1 true false) (by simp [results, Tryd.results40, go_sem]) rfl ?_
  exact ⟨rfl, grown_alloc (World.grownBy_alloc w _ none) _⟩

set_option maxRecDepth 100000 in
set_option maxHeartbeats 1600000 in
theorem it_num_more (s : ByteArray) (i j : Nat) (c0 a p1 c : Nat) (hj : j < 5) (hs : s.size ≤ 256)
    (hi : i < s.size) (hc0 : c0 < 256) (h42 : c0 ≠ 42)
    (I0 : ∀ w', (Instr.index 9 (.string s) (.int .i64 ((i : Int)))).run Tryd.prog w' = .ok (.int .u8 (c0 : Int)) w')
    (ha : a ≤ 9999) (hE : p1 < s.size) (hc : c < 256) (h45 : c ≠ 45)
    (D1 : ∀ w, Calls Tryd.prog 55 #[.string s, .int .i64 ((i : Int))] w fun e w' => e = .returned (.tuple #[.int .i64 a, .int .i64 (p1)]) ∧ w' = w)
    (I1 : ∀ w', (Instr.index 9 (.string s) (.int .i64 ((p1 : Int)))).run Tryd.prog w' = .ok (.int .u8 (c : Int)) w')
    (w : World) :
    Calls Tryd.prog 40 #[.string s, .int .i64 i, .int .i64 j] w fun e w' => e = .returned (riv a a 1 p1 ((c : Int) == 44) false) ∧ w.grownBy w' none := by
  have z0 : decide ((i : Int) < (s.size : Int)) = true := decide_eq_true (by omega)
  have z1 : ((c0 : Int) == 42) = false := by simp; omega
  have y0 : decide ((p1 : Int) < (s.size : Int)) = true := decide_eq_true (by omega)
  have y1 : ((p1 : Int) == (s.size : Int)) = false := by simp; omega
  have y2 : ((c : Int) == 45) = false := by simp; omega
  clear h42 h45
  go_enter Tryd.func40, Tryd.ntmps40
  go_wp2_with (first
    | (go_at_call 55; (with_reducible refine (D1 _).mono ?_); rintro e w1 ⟨rfl, rfl⟩))
  refine bodyPost_ret (v := riv a a 1 p1 ((c : Int) == 44) false) (by simp [results, Tryd.results40, go_sem]) rfl ?_
  exact ⟨rfl, grown_alloc (World.grownBy_alloc w _ none) _⟩

set_option maxRecDepth 100000 in
set_option maxHeartbeats 1600000 in
theorem it_range_no (s : ByteArray) (i j : Nat) (c0 a p1 : Nat) (hj : j < 5) (hs : s.size ≤ 256)
    (hi : i < s.size) (hc0 : c0 < 256) (h42 : c0 ≠ 42)
    (I0 : ∀ w', (Instr.index 9 (.string s) (.int .i64 ((i : Int)))).run Tryd.prog w' = .ok (.int .u8 (c0 : Int)) w')
    (ha : a ≤ 9999) (hp1 : p1 < s.size)
    (D1 : ∀ w, Calls Tryd.prog 55 #[.string s, .int .i64 ((i : Int))] w fun e w' => e = .returned (.tuple #[.int .i64 a, .int .i64 (p1)]) ∧ w' = w)
    (I1 : ∀ w', (Instr.index 9 (.string s) (.int .i64 ((p1 : Int)))).run Tryd.prog w' = .ok (.int .u8 45) w')
    (D2 : ∀ w, Calls Tryd.prog 55 #[.string s, .int .i64 ((p1 : Int) + 1)] w fun e w' => e = .returned (.tuple #[.int .i64 (-1), .int .i64 ((p1 : Int) + 1)]) ∧ w' = w)
    (w : World) :
    Calls Tryd.prog 40 #[.string s, .int .i64 i, .int .i64 j] w fun e w' => e = .returned (riv a a 1 0 false false) ∧ w.grownBy w' none := by
  have z0 : decide ((i : Int) < (s.size : Int)) = true := decide_eq_true (by omega)
  have z1 : ((c0 : Int) == 42) = false := by simp; omega
  have z2 : decide ((p1 : Int) < (s.size : Int)) = true := decide_eq_true (by omega)
  clear h42
  go_enter Tryd.func40, Tryd.ntmps40
  go_wp2_with (first
    | (go_at_call 55; (with_reducible refine (D1 _).mono ?_); rintro e w1 ⟨rfl, rfl⟩)
    | (go_at_call 55; (with_reducible refine (D2 _).mono ?_); rintro e w1 ⟨rfl, rfl⟩))
  refine bodyPost_ret (v := riv a a 1 0 false false) (by simp [results, Tryd.results40, go_sem]) rfl ?_
  exact ⟨rfl, grown_alloc (World.grownBy_alloc w _ none) _⟩

set_option maxRecDepth 100000 in
set_option maxHeartbeats 1600000 in
theorem it_range_end (s : ByteArray) (i j : Nat) (c0 a p1 b p2 : Nat) (hj : j < 5) (hs : s.size ≤ 256)
    (hi : i < s.size) (hc0 : c0 < 256) (h42 : c0 ≠ 42)
    (I0 : ∀ w', (Instr.index 9 (.string s) (.int .i64 ((i : Int)))).run Tryd.prog w' = .ok (.int .u8 (c0 : Int)) w')
    (ha : a ≤ 9999) (hp1 : p1 < s.size)
    (D1 : ∀ w, Calls Tryd.prog 55 #[.string s, .int .i64 ((i : Int))] w fun e w' => e = .returned (.tuple #[.int .i64 a, .int .i64 (p1)]) ∧ w' = w)
    (I1 : ∀ w', (Instr.index 9 (.string s) (.int .i64 ((p1 : Int)))).run Tryd.prog w' = .ok (.int .u8 45) w')
    (hb : b ≤ 9999) (hp2 : p2 ≤ 300)
    (D2 : ∀ w, Calls Tryd.prog 55 #[.string s, .int .i64 ((p1 : Int) + 1)] w fun e w' => e = .returned (.tuple #[.int .i64 b, .int .i64 (p2)]) ∧ w' = w)
    (hE : p2 = s.size)
    (w : World) :
    Calls Tryd.prog 40 #[.string s, .int .i64 i, .int .i64 j] w fun e w' => e = .returned (riv a b 1 ((p2 : Int)) true true) ∧ w.grownBy w' none := by
  have z0 : decide ((i : Int) < (s.size : Int)) = true := decide_eq_true (by omega)
  have z1 : ((c0 : Int) == 42) = false := by simp; omega
  have z2 : decide ((p1 : Int) < (s.size : Int)) = true := decide_eq_true (by omega)
  have y0 : decide ((p2 : Int) < (s.size : Int)) = false := decide_eq_false (by omega)
  have y1 : ((p2 : Int) == (s.size : Int)) = true := by simp; omega
  clear hE
  go_enter Tryd.func40, Tryd.ntmps40
  go_wp2_with (first
    | (go_at_call 55; (with_reducible refine (D1 _).mono ?_); rintro e w1 ⟨rfl, rfl⟩)
    | (go_at_call 55; (with_reducible refine (D2 _).mono ?_); rintro e w1 ⟨rfl, rfl⟩))
  refine bodyPost_ret (v := riv a b 1 ((p2 : Int)) true true) (by simp [results, Tryd.results40, go_sem]) rfl ?_
  exact ⟨rfl, grown_alloc (World.grownBy_alloc w _ none) _⟩

set_option maxRecDepth 100000 in
set_option maxHeartbeats 1600000 in
theorem it_range_more (s : ByteArray) (i j : Nat) (c0 a p1 b p2 : Nat) (c : Nat) (hj : j < 5) (hs : s.size ≤ 256)
    (hi : i < s.size) (hc0 : c0 < 256) (h42 : c0 ≠ 42)
    (I0 : ∀ w', (Instr.index 9 (.string s) (.int .i64 ((i : Int)))).run Tryd.prog w' = .ok (.int .u8 (c0 : Int)) w')
    (ha : a ≤ 9999) (hp1 : p1 < s.size)
    (D1 : ∀ w, Calls Tryd.prog 55 #[.string s, .int .i64 ((i : Int))] w fun e w' => e = .returned (.tuple #[.int .i64 a, .int .i64 (p1)]) ∧ w' = w)
    (I1 : ∀ w', (Instr.index 9 (.string s) (.int .i64 ((p1 : Int)))).run Tryd.prog w' = .ok (.int .u8 45) w')
    (hb : b ≤ 9999) (hp2 : p2 ≤ 300)
    (D2 : ∀ w, Calls Tryd.prog 55 #[.string s, .int .i64 ((p1 : Int) + 1)] w fun e w' => e = .returned (.tuple #[.int .i64 b, .int .i64 (p2)]) ∧ w' = w)
    (hE : p2 < s.size) (hc : c < 256) (h47 : c ≠ 47)
    (I3 : ∀ w', (Instr.index 9 (.string s) (.int .i64 ((p2 : Int)))).run Tryd.prog w' = .ok (.int .u8 (c : Int)) w')
    (w : World) :
    Calls Tryd.prog 40 #[.string s, .int .i64 i, .int .i64 j] w fun e w' => e = .returned (riv a b 1 ((p2 : Int)) ((c : Int) == 44) true) ∧ w.grownBy w' none := by
  have z0 : decide ((i : Int) < (s.size : Int)) = true := decide_eq_true (by omega)
  have z1 : ((c0 : Int) == 42) = false := by simp; omega
  have z2 : decide ((p1 : Int) < (s.size : Int)) = true := decide_eq_true (by omega)
  have y0 : decide ((p2 : Int) < (s.size : Int)) = true := decide_eq_true (by omega)
  have y1 : ((p2 : Int) == (s.size : Int)) = false := by simp; omega
  have y2 : ((c : Int) == 47) = false := by simp; omega
  clear h47
  go_enter Tryd.func40, Tryd.ntmps40
  go_wp2_with (first
    | (go_at_call 55; (with_reducible refine (D1 _).mono ?_); rintro e w1 ⟨rfl, rfl⟩)
    | (go_at_call 55; (with_reducible refine (D2 _).mono ?_); rintro e w1 ⟨rfl, rfl⟩))
  refine bodyPost_ret (v := riv a b 1 ((p2 : Int)) ((c : Int) == 44) true) (by simp [results, Tryd.results40, go_sem]) rfl ?_
  exact ⟨rfl, grown_alloc (World.grownBy_alloc w _ none) _⟩

set_option maxRecDepth 100000 in
set_option maxHeartbeats 1600000 in
theorem it_range_step_no (s : ByteArray) (i j : Nat) (c0 a p1 b p2 : Nat) (hj : j < 5) (hs : s.size ≤ 256)
    (hi : i < s.size) (hc0 : c0 < 256) (h42 : c0 ≠ 42)
    (I0 : ∀ w', (Instr.index 9 (.string s) (.int .i64 ((i : Int)))).run Tryd.prog w' = .ok (.int .u8 (c0 : Int)) w')
    (ha : a ≤ 9999) (hp1 : p1 < s.size)
    (D1 : ∀ w, Calls Tryd.prog 55 #[.string s, .int .i64 ((i : Int))] w fun e w' => e = .returned (.tuple #[.int .i64 a, .int .i64 (p1)]) ∧ w' = w)
    (I1 : ∀ w', (Instr.index 9 (.string s) (.int .i64 ((p1 : Int)))).run Tryd.prog w' = .ok (.int .u8 45) w')
    (hb : b ≤ 9999) (hp2 : p2 ≤ 300)
    (D2 : ∀ w, Calls Tryd.prog 55 #[.string s, .int .i64 ((p1 : Int) + 1)] w fun e w' => e = .returned (.tuple #[.int .i64 b, .int .i64 (p2)]) ∧ w' = w)
    (hE : p2 < s.size)
    (I3 : ∀ w', (Instr.index 9 (.string s) (.int .i64 ((p2 : Int)))).run Tryd.prog w' = .ok (.int .u8 47) w')
    (D3 : ∀ w, Calls Tryd.prog 55 #[.string s, .int .i64 ((p2 : Int) + 1)] w fun e w' => e = .returned (.tuple #[.int .i64 (-1), .int .i64 ((p2 : Int) + 1)]) ∧ w' = w)
    (w : World) :
    Calls Tryd.prog 40 #[.string s, .int .i64 i, .int .i64 j] w fun e w' => e = .returned (riv a b 1 0 false true) ∧ w.grownBy w' none := by
  have z0 : decide ((i : Int) < (s.size : Int)) = true := decide_eq_true (by omega)
  have z1 : ((c0 : Int) == 42) = false := by simp; omega
  have z2 : decide ((p1 : Int) < (s.size : Int)) = true := decide_eq_true (by omega)
  have y0 : decide ((p2 : Int) < (s.size : Int)) = true := decide_eq_true (by omega)
  go_enter Tryd.func40, Tryd.ntmps40
  go_wp2_with (first
    | (go_at_call 55; (with_reducible refine (D1 _).mono ?_); rintro e w1 ⟨rfl, rfl⟩)
    | (go_at_call 55; (with_reducible refine (D2 _).mono ?_); rintro e w1 ⟨rfl, rfl⟩)
    | (go_at_call 55; (with_reducible refine (D3 _).mono ?_); rintro e w1 ⟨rfl, rfl⟩))
  refine bodyPost_ret (v := riv a b 1 0 false true) (by simp [results, Tryd.results40, go_sem]) rfl ?_
  exact ⟨rfl, grown_alloc (World.grownBy_alloc w _ none) _⟩

set_option maxRecDepth 100000 in
set_option maxHeartbeats 1600000 in
theorem it_range_step_end (s : ByteArray) (i j : Nat) (c0 a p1 b p2 : Nat) (n p3 : Nat) (hj : j < 5) (hs : s.size ≤ 256)
    (hi : i < s.size) (hc0 : c0 < 256) (h42 : c0 ≠ 42)
    (I0 : ∀ w', (Instr.index 9 (.string s) (.int .i64 ((i : Int)))).run Tryd.prog w' = .ok (.int .u8 (c0 : Int)) w')
    (ha : a ≤ 9999) (hp1 : p1 < s.size)
    (D1 : ∀ w, Calls Tryd.prog 55 #[.string s, .int .i64 ((i : Int))] w fun e w' => e = .returned (.tuple #[.int .i64 a, .int .i64 (p1)]) ∧ w' = w)
    (I1 : ∀ w', (Instr.index 9 (.string s) (.int .i64 ((p1 : Int)))).run Tryd.prog w' = .ok (.int .u8 45) w')
    (hb : b ≤ 9999) (hp2 : p2 ≤ 300)
    (D2 : ∀ w, Calls Tryd.prog 55 #[.string s, .int .i64 ((p1 : Int) + 1)] w fun e w' => e = .returned (.tuple #[.int .i64 b, .int .i64 (p2)]) ∧ w' = w)
    (hE : p2 < s.size) (hn : n ≤ 9999) (hE3 : p3 = s.size)
    (I3 : ∀ w', (Instr.index 9 (.string s) (.int .i64 ((p2 : Int)))).run Tryd.prog w' = .ok (.int .u8 47) w')
    (D3 : ∀ w, Calls Tryd.prog 55 #[.string s, .int .i64 ((p2 : Int) + 1)] w fun e w' => e = .returned (.tuple #[.int .i64 n, .int .i64 (p3)]) ∧ w' = w)
    (w : World) :
    Calls Tryd.prog 40 #[.string s, .int .i64 i, .int .i64 j] w fun e w' => e = .returned (riv a b n p3 true true) ∧ w.grownBy w' none := by
  have z0 : decide ((i : Int) < (s.size : Int)) = true := decide_eq_true (by omega)
  have z1 : ((c0 : Int) == 42) = false := by simp; omega
  have z2 : decide ((p1 : Int) < (s.size : Int)) = true := decide_eq_true (by omega)
  have y0 : decide ((p2 : Int) < (s.size : Int)) = true := decide_eq_true (by omega)
  have y3 : ((p3 : Int) == (s.size : Int)) = true := by simp; omega
  clear hE3
  go_enter Tryd.func40, Tryd.ntmps40
  go_wp2_with (first
    | (go_at_call 55; (with_reducible refine (D1 _).mono ?_); rintro e w1 ⟨rfl, rfl⟩)
    | (go_at_call 55; (with_reducible refine (D2 _).mono ?_); rintro e w1 ⟨rfl, rfl⟩)
    | (go_at_call 55; (with_reducible refine (D3 _).mono ?_); rintro e w1 ⟨rfl, rfl⟩))
  refine bodyPost_ret (v := riv a b n p3 true true) (by simp [results, Tryd.results40, go_sem]) rfl ?_
  exact ⟨rfl, grown_alloc (World.grownBy_alloc w _ none) _⟩

set_option maxRecDepth 100000 in
set_option maxHeartbeats 1600000 in
theorem it_range_step_more (s : ByteArray) (i j : Nat) (c0 a p1 b p2 : Nat) (n p3 c : Nat) (hj : j < 5) (hs : s.size ≤ 256)
    (hi : i < s.size) (hc0 : c0 < 256) (h42 : c0 ≠ 42)
    (I0 : ∀ w', (Instr.index 9 (.string s) (.int .i64 ((i : Int)))).run Tryd.prog w' = .ok (.int .u8 (c0 : Int)) w')
    (ha : a ≤ 9999) (hp1 : p1 < s.size)
    (D1 : ∀ w, Calls Tryd.prog 55 #[.string s, .int .i64 ((i : Int))] w fun e w' => e = .returned (.tuple #[.int .i64 a, .int .i64 (p1)]) ∧ w' = w)
    (I1 : ∀ w', (Instr.index 9 (.string s) (.int .i64 ((p1 : Int)))).run Tryd.prog w' = .ok (.int .u8 45) w')
    (hb : b ≤ 9999) (hp2 : p2 ≤ 300)
    (D2 : ∀ w, Calls Tryd.prog 55 #[.string s, .int .i64 ((p1 : Int) + 1)] w fun e w' => e = .returned (.tuple #[.int .i64 b, .int .i64 (p2)]) ∧ w' = w)
    (hE : p2 < s.size) (hn : n ≤ 9999) (hE3 : p3 < s.size) (hc : c < 256)
    (I3 : ∀ w', (Instr.index 9 (.string s) (.int .i64 ((p2 : Int)))).run Tryd.prog w' = .ok (.int .u8 47) w')
    (D3 : ∀ w, Calls Tryd.prog 55 #[.string s, .int .i64 ((p2 : Int) + 1)] w fun e w' => e = .returned (.tuple #[.int .i64 n, .int .i64 (p3)]) ∧ w' = w)
    (I4 : ∀ w', (Instr.index 9 (.string s) (.int .i64 ((p3 : Int)))).run Tryd.prog w' = .ok (.int .u8 (c : Int)) w')
    (w : World) :
    Calls Tryd.prog 40 #[.string s, .int .i64 i, .int .i64 j] w fun e w' => e = .returned (riv a b n p3 ((c : Int) == 44) true) ∧ w.grownBy w' none := by
  have z0 : decide ((i : Int) < (s.size : Int)) = true := decide_eq_true (by omega)
  have z1 : ((c0 : Int) == 42) = false := by simp; omega
  have z2 : decide ((p1 : Int) < (s.size : Int)) = true := decide_eq_true (by omega)
  have y0 : decide ((p2 : Int) < (s.size : Int)) = true := decide_eq_true (by omega)
  have y3 : ((p3 : Int) == (s.size : Int)) = false := by simp; omega
  go_enter Tryd.func40, Tryd.ntmps40
  go_wp2_with (first
    | (go_at_call 55; (with_reducible refine (D1 _).mono ?_); rintro e w1 ⟨rfl, rfl⟩)
    | (go_at_call 55; (with_reducible refine (D2 _).mono ?_); rintro e w1 ⟨rfl, rfl⟩)
    | (go_at_call 55; (with_reducible refine (D3 _).mono ?_); rintro e w1 ⟨rfl, rfl⟩))
  refine bodyPost_ret (v := riv a b n p3 ((c : Int) == 44) true) (by simp [results, Tryd.results40, go_sem]) rfl ?_
  exact ⟨rfl, grown_alloc (World.grownBy_alloc w _ none) _⟩
end Go.Proofs.YthjfecniipifhaaDoor
