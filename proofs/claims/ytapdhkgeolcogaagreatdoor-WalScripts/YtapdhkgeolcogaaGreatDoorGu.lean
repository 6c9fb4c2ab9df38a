/- The statements' first look answers true. -/
import Derived.Test.YtapdhkgeolcogaaGreatDoorGt
import Derived.Lib.SmallJoins
namespace Go.Proofs.YtapdhkgeolcogaaGreatDoor
open Go.RowKit Dsk Lg
set_option linter.unusedVariables false

theorem eB_cells (l : By) : eB.cells l = l.map fun x => Value.int .u8 (x.toNat : Int) := by
  unfold Elm.cells
  induction l with
  | nil => rfl
  | cons a l ih => rw [List.flatMap_cons, List.map_cons, ← ih]; rfl
/-- Bytes that were just made. -/
theorem rx_new (w : World) (l : By) (C : Array Value) (hC : C = (l.map fun x => Value.int .u8 (x.toNat : Int)).toArray) (q : Nat) (hq : q = w.heap.size) (fr : Nat × Nat) : eB.Rx (w.alloc (.cells C 5 fr)) (.slice (some ⟨q, 0, none⟩) l.length l.length) l := by
  subst hq hC
  refine .inr ⟨⟨w.heap.size, 0, none⟩, l.length, rfl, .inr rfl, fun t x hx => ?_⟩
  rw [Addr.add_lit, Nat.zero_add]
  rw [World.cell?_alloc_mark]
  rw [eB_cells] at hx
  simpa using hx
theorem wcrash_any {W w : World} {b wb : Nat} {s : St} {F : Nat → Prop} {file : By} {n cnt : Int} (h : Wl W w b wb s F file n cnt) (keep torn : Int) (hk : keep ≤ 9223372036854775807) (m1 : s.m ≤ 1000000000) :
    Calls Tryz.prog 18 #[.pointer (some ⟨b, 0, none⟩), .int .i64 keep, .int .i64 torn] w fun e w' => e = .returned (.tuple #[]) ∧ WOut W w w' b wb F (crashS s keep torn) file n cnt :=
  (crash_any b s F keep torn hk w h.dk m1).mono fun e w' ⟨h1, F', h2, h3, h4⟩ => ⟨h1, F', h.disk h2 h3 h4, h3, h4⟩
set_option maxRecDepth 100000 in
set_option maxHeartbeats 6400000 in
theorem awake_any (w : World) (G : Gv w) : Calls Tryz.prog 8 #[] w fun e w' => e = .returned (.bool true) ∧ Below w.heap.size w w' := by
  have f97 := fr_le (l := [97]) (by simp)
  have hB : (lf []).length ≤ 100 := by
    have h0 := num_len (n := 0) (by omega)
    have h1 := fr_le (l := num 0) (by omega)
    unfold lf
    simp
    omega
  have NW := new_ok w
  have OP : ∀ {w1 b F}, w.grownBy w1 none → Dk w1 b newS F → (∀ k, F k → w.heap.size ≤ k) → Calls Tryz.prog 10 #[.pointer (some ⟨b, 0, none⟩)] w1 fun e w' => ∃ ad c F', e = .returned (.tuple #[.pointer (some ⟨w1.heap.size, 0, none⟩), .slice ad 0 c, .int .i64 0]) ∧ Wl w w' b w1.heap.size (aS 1 (lf []) [] 1) F' (nm 1) 1 ((0 : Nat) : Int) := fun {w1 b F} g hd lo =>
    (open_some hd lo (grown_below g) G (by simp [newS]) open_new').mono fun e w' ⟨ad, c, F', h1, h2, _⟩ => ⟨ad, c, F', h1, h2⟩
  have FL : ∀ {w2 b wb s F n c}, Wl w w2 b wb s F (nm 1) n c → Calls Tryz.prog 24 #[.pointer (some ⟨wb, 0, none⟩)] w2 fun e w' => e = .returned (.string ⟨#[108, 111, 103, 45, 49]⟩) ∧ w' = w2 := fun {w2 b wb s F n c} h => by
    have := file_any h
    rw [nm1] at this
    exact this
  have A1 : ∀ {w2 b wb F} (q : Nat × Nat), Wl w w2 b wb (aS 1 (lf []) [] 1) F (nm 1) 1 ((0 : Nat) : Int) → Calls Tryz.prog 12 #[.pointer (some ⟨wb, 0, none⟩), .slice (some ⟨w2.heap.size, 0, none⟩) 1 1] (w2.alloc (.cells #[.int .u8 97] 5 q)) fun e w' => e = .returned (.int .i64 0) ∧ ∃ F', Wl w w' b wb (aS 1 (lf [] ++ fr [97]) [(1, (fr [97]).length)] 2) F' (nm 1) 1 ((1 : Nat) : Int) := fun {w2 b wb F} q h => by
    obtain ⟨p1, p2⟩ := aS_put (b := lf []) (ws := []) (m := 1) (l := [97]) (by simp) (by omega)
    have := wappend_any (h.grown (World.grownBy_alloc w2 (.cells #[.int .u8 97] 5 q) none)) (by rw [nm1]; simp) (.slice (some ⟨w2.heap.size, 0, none⟩) 1 1) [97] (rx_new w2 [97] _ rfl _ rfl q) (by simp) (by omega) (by simp [aS])
    rw [p1, p2, if_pos rfl] at this
    exact this.mono fun e w' ⟨h1, F', h2, _⟩ => ⟨h1, F', h2⟩
  have SY : ∀ {w2 b wb F}, Wl w w2 b wb (aS 1 (lf [] ++ fr [97]) [(1, (fr [97]).length)] 2) F (nm 1) 1 ((1 : Nat) : Int) → Calls Tryz.prog 14 #[.pointer (some ⟨wb, 0, none⟩)] w2 fun e w' => e = .returned (.int .i64 0) ∧ ∃ F', Wl w w' b wb (aS 1 (lf [] ++ fr [97]) [] 2) F' (nm 1) 1 ((1 : Nat) : Int) := fun {w2 b wb F} h => by
    have := wsyn_any h (by rw [nm1]; simp)
    have hh : hasE (aS 1 (lf [] ++ fr [97]) [(1, (fr [97]).length)] 2).l (nm 1) = 0 := by unfold hasE aS; rw [if_pos (has_one _ _)]
    rw [hh, if_pos rfl, aS_sync] at this
    exact this.mono fun e w' ⟨h1, F', h2, _⟩ => ⟨h1, F', h2⟩
  have A2 : ∀ {w2 b wb F} (q : Nat × Nat), Wl w w2 b wb (aS 1 (lf [] ++ fr [97]) [] 2) F (nm 1) 1 ((1 : Nat) : Int) → Calls Tryz.prog 12 #[.pointer (some ⟨wb, 0, none⟩), .slice (some ⟨w2.heap.size, 0, none⟩) 2 2] (w2.alloc (.cells #[.int .u8 98, .int .u8 99] 5 q)) fun e w' => e = .returned (.int .i64 0) ∧ ∃ F', Wl w w' b wb (aS 1 (lf [] ++ fr [97] ++ fr [98, 99]) [(2, (fr [98, 99]).length)] 3) F' (nm 1) 1 ((2 : Nat) : Int) := fun {w2 b wb F} q h => by
    have f1' : ([97] : By).length = 1 := rfl
    obtain ⟨p1, p2⟩ := aS_put (b := lf [] ++ fr [97]) (ws := []) (m := 2) (l := [98, 99]) (by simp) (by rw [List.length_append]; omega)
    have := wappend_any (h.grown (World.grownBy_alloc w2 (.cells #[.int .u8 98, .int .u8 99] 5 q) none)) (by rw [nm1]; simp) (.slice (some ⟨w2.heap.size, 0, none⟩) 2 2) [98, 99] (rx_new w2 [98, 99] _ rfl _ rfl q) (by simp) (by omega) (by simp [aS])
    rw [p1, p2, if_pos rfl] at this
    exact this.mono fun e w' ⟨h1, F', h2, _⟩ => ⟨h1, F', h2⟩
  have CR : ∀ {w2 b wb F n c}, Wl w w2 b wb (aS 1 (lf [] ++ fr [97] ++ fr [98, 99]) [(2, (fr [98, 99]).length)] 3) F (nm 1) n c → Calls Tryz.prog 18 #[.pointer (some ⟨b, 0, none⟩), .int .i64 0, .int .i64 3] w2 fun e w' => e = .returned (.tuple #[]) ∧ ∃ F', Wl w w' b wb (aS 1 (lf [] ++ fr [97] ++ (fr [98, 99]).take 3) [] 3) F' (nm 1) n c := fun {w2 b wb F n c} h => by
    have := wcrash_any h 0 3 (by omega) (by simp [aS])
    have hcr : crashS (aS 1 (lf [] ++ fr [97] ++ fr [98, 99]) [(2, (fr [98, 99]).length)] 3) 0 3 = aS 1 (lf [] ++ fr [97] ++ (fr [98, 99]).take 3) [] 3 := aS_crash (lf [] ++ fr [97]) (fr [98, 99]) 2 (by have := fr_pos [98, 99]; omega)
    rw [hcr] at this
    exact this.mono fun e w' ⟨h1, F', h2, _⟩ => ⟨h1, F', h2⟩
  have OP2 : ∀ {w2 b wb F n c}, Wl w w2 b wb (aS 1 (lf [] ++ fr [97] ++ (fr [98, 99]).take 3) [] 3) F (nm 1) n c → Calls Tryz.prog 10 #[.pointer (some ⟨b, 0, none⟩)] w2 fun e w' => ∃ ad c F', e = .returned (.tuple #[.pointer (some ⟨w2.heap.size, 0, none⟩), .slice ad 1 c, .int .i64 0]) ∧ Wl w w' b w2.heap.size (aS 2 (lf [[97]]) [] 5) F' (nm 2) 2 1 ∧ Ro w' (w2.heap.size + 1) (.slice ad 1 c) [[97]] (fun k => w2.heap.size + 1 ≤ k) := fun {w2 b wb F n c} h =>
    (open_some h.dk h.lo h.bel G (by simp [aS]) awake_open).mono fun e w' ⟨ad, c, F', h1, h2, _, _, h5⟩ => ⟨ad, c, F', h1, h2, h5⟩
  have FL2 : ∀ {w2 b wb s F n c}, Wl w w2 b wb s F (nm 2) n c → Calls Tryz.prog 24 #[.pointer (some ⟨wb, 0, none⟩)] w2 fun e w' => e = .returned (.string ⟨#[108, 111, 103, 45, 50]⟩) ∧ w' = w2 := fun {w2 b wb s F n c} h => by
    have := file_any h
    rw [nm2] at this
    exact this
  have LS : ∀ {w2 ad c B0} (q : Nat × Nat), Ro w2 B0 (.slice ad 1 c) [[97]] (fun k => B0 ≤ k) → Calls Tryz.prog 20 #[.slice ad 1 c, .slice (some ⟨w2.heap.size + 1, 0, none⟩) 1 1] ((w2.alloc (.cells #[.int .u8 97] 5 q)).alloc (.cells #[.slice (some ⟨w2.heap.size, 0, none⟩) 1 1] 39)) fun e w' => e = .returned (.bool true) ∧ w2.grownBy w' none := fun {w2 ad c B0} q h => by
    have g2 := grown_alloc (World.grownBy_alloc w2 (.cells #[.int .u8 97] 5 q) none) (.cells #[.slice (some ⟨w2.heap.size, 0, none⟩) 1 1] 39)
    have hx : Rl ((w2.alloc (.cells #[.int .u8 97] 5 q)).alloc (.cells #[.slice (some ⟨w2.heap.size, 0, none⟩) 1 1] 39)) (.slice (some ⟨w2.heap.size + 1, 0, none⟩) 1 1) [[97]] (fun _ => True) := by
      refine ⟨[(some ⟨w2.heap.size, 0, none⟩, 1, 1)], Elm.rx_one fun j u hu => ?_, ⟨rfl, fun i p l hp hl => ?_⟩, fun _ _ _ => trivial⟩
      · match j, hu with
        | 0, hu => injection hu with hu; rw [← hu]; exact new_at _ (by simp) rfl
      · match i, hp, hl with
        | 0, hp, hl =>
          simp at hp hl
          subst hp hl
          exact ⟨(rx_new w2 [97] _ rfl _ rfl q).grown (World.grownBy_alloc _ _ none), fun _ _ _ => trivial⟩
    refine (lists_any _ _ [[97]] [[97]] _ ((h.grown g2).rl (R' := fun _ => True) (fun _ _ => trivial) fun _ _ _ => trivial) hx (by simp) (by simp) (by simp) (by simp)).mono ?_
    rintro e w' ⟨rfl, hg⟩
    exact ⟨by simp, grown_more g2 hg (by simp)⟩
  have CV : ∀ (w : World) (C : Array Value) (n c : Nat), (convert 39 39 (.slice (some ⟨w.heap.size, 0, none⟩) n c)).run Tryz.prog (w.alloc (.cells C 5)) = .ok (.slice (some ⟨w.heap.size, 0, none⟩) n c) (w.alloc (.cells C 5 (C.size, C.size + 1))) := fun w C n c => Go.Joins.run_convert_bytes_const_at (P := Tryz.prog) w 39 5 C n c _ rfl Tryz.underlying39 Tryz.underlying5
  clear f97 hB G
  go_enter Tryz.func8, Tryz.ntmps8
  go_wp2_with (first
    | (go_at_call 9; (with_reducible refine NW.mono ?_); rintro e w1 ⟨b, F1, rfl, hd1, hlo1, hg1⟩; clear NW)
    | (go_at_call 10; (with_reducible refine (OP hg1 hd1 hlo1).mono ?_); rintro e w2 ⟨ad, c, F2, rfl, hW2⟩; clear OP)
    | (go_at_call 24; (with_reducible refine (FL hW2).mono ?_); rintro e w3 ⟨rfl, e3⟩; obtain rfl := e3.symm; clear FL)
    | (go_at_call 12; (with_reducible refine (A1 _ hW2).mono ?_); rintro e w4 ⟨rfl, F4, hW4⟩; clear A1)
    | (go_at_call 14; (with_reducible refine (SY hW4).mono ?_); rintro e w5 ⟨rfl, F5, hW5⟩; clear SY)
    | (go_at_call 12; (with_reducible refine (A2 _ hW5).mono ?_); rintro e w6 ⟨rfl, F6, hW6⟩; clear A2)
    | (go_at_call 18; (with_reducible refine (CR hW6).mono ?_); rintro e w7 ⟨rfl, F7, hW7⟩; clear CR)
    | (go_at_call 10; (with_reducible refine (OP2 hW7).mono ?_); rintro e w8 ⟨ad8, c8, F8, rfl, hW8, hR8⟩; clear OP2)
    | (go_at_call 20; (with_reducible refine (LS _ hR8).mono ?_); rintro e w9 ⟨rfl, hg9⟩; have hW9 := hW8.grown hg9; clear LS)
    | (go_at_call 24; (with_reducible refine (FL2 hW9).mono ?_); rintro e w10 ⟨rfl, e10⟩; obtain rfl := e10.symm; clear FL2)
    | (go_at_call 27; (with_reducible refine (count_any hW9).mono ?_); rintro e w11 ⟨rfl, e11⟩; obtain rfl := e11.symm))
  go_ret
  exact ⟨rfl, hW9.bel⟩
end Go.Proofs.YtapdhkgeolcogaaGreatDoor
