/- The statement on two lists of minutes: its walk. -/
import Derived.Test.YthjfecniipifhaaDoorKAwake
import Derived.Test.YthjfecniipifhaaDoorKListsMath
namespace Go.Proofs.YthjfecniipifhaaDoor
open Go.RowKit
set_option linter.unusedVariables false

/-- A world that has grown out of W. -/
structure Gr (W : World) where
  now : World
  grown : W.grownBy now none
  gl : Gl now
theorem Gr.call {P : Program} {W : World} {x : Gr W} {f : FuncId} {args : Array Value} {v : Value}
    (k : Calls P f args x.now fun e w' => e = .returned v ∧ x.now.grownBy w' none) : Calls P f args x.now fun e w' => e = .returned v ∧ ∃ x' : Gr W, w' = x'.now :=
  k.mono fun _ w' ⟨he, hg⟩ => ⟨he, ⟨w', grown_more x.grown hg (by simp), x.gl.kept hg⟩, rfl⟩
theorem blk_not {c : UInt8} (h1 : ¬ c.toNat = 32) (h2 : ¬ c.toNat = 9) : Cro.blk c = false := by
  unfold Cro.blk
  have a : ¬ c = 32 := fun e => h1 (by rw [e]; rfl)
  have b : ¬ c = 9 := fun e => h2 (by rw [e]; rfl)
  simp [a, b]

/-- What is known once no blank is found. -/
inductive LC (a b : ByteArray) (m0 m1 m2 m3 m4 n0 n1 n2 n3 n4 k0 k1 k2 k3 k4 : Nat) (ad aw bd bw cd cw : Bool) (e1 e2 e3 : Int) (fx fy fz : Bool) : Prop
  | noA (h : a.size = 0)
  | noB (h : b.size = 0)
  | bad1 (h : e1 ≠ 0)
  | bad2 (h1 : e1 = 0) (h2 : e2 ≠ 0)
  | long (h1 : e1 = 0) (h2 : e2 = 0) (h3 : e3 = 2)
  | good (h1 : e1 = 0) (h2 : e2 = 0) (h3 : e3 = 0) (hm : k0 = m0 ||| n0) (hh : k1 = m1) (hw : k4 = n4) (hf : fz = (fx || fy))

set_option maxRecDepth 100000 in
set_option maxHeartbeats 3200000 in
theorem lists_by (a b r : ByteArray) (ha : a.size ≤ 140737488355328) (hb : b.size ≤ 140737488355328) (hr : r.size ≤ 140737488355328) (y m d h n k : Int)
    (m0 m1 m2 m3 m4 n0 n1 n2 n3 n4 k0 k1 k2 k3 k4 i1 i2 i3 : Nat) (ad aw bd bw cd cw : Bool) (e1 e2 e3 : Int) (fx fy fz : Bool) (hm0 : m0 < 18446744073709551616) (hn0 : n0 < 18446744073709551616)
    (HC : (∀ c ∈ a.data.toList ++ b.data.toList, Cro.blk c = false) → LC a b m0 m1 m2 m3 m4 n0 n1 n2 n3 n4 k0 k1 k2 k3 k4 ad aw bd bw cd cw e1 e2 e3 fx fy fz)
    (P1 : ∀ w, Gl w → Calls Tryd.prog 10 #[.string (a ++ ⟨#[32]⟩ ++ r)] w fun e w' => e = .returned (.tuple #[.agg #[.int .u64 m0, .int .u64 m1, .int .u64 m2, .int .u64 m3, .int .u64 m4, .bool ad, .bool aw], .int .i64 i1, .int .i64 e1]) ∧ w.grownBy w' none)
    (P2 : ∀ w, Gl w → Calls Tryd.prog 10 #[.string (b ++ ⟨#[32]⟩ ++ r)] w fun e w' => e = .returned (.tuple #[.agg #[.int .u64 n0, .int .u64 n1, .int .u64 n2, .int .u64 n3, .int .u64 n4, .bool bd, .bool bw], .int .i64 i2, .int .i64 e2]) ∧ w.grownBy w' none)
    (P3 : ∀ w, Gl w → Calls Tryd.prog 10 #[.string (a ++ ⟨#[44]⟩ ++ b ++ ⟨#[32]⟩ ++ r)] w fun e w' => e = .returned (.tuple #[.agg #[.int .u64 k0, .int .u64 k1, .int .u64 k2, .int .u64 k3, .int .u64 k4, .bool cd, .bool cw], .int .i64 i3, .int .i64 e3]) ∧ w.grownBy w' none)
    (FX : ∀ w, Gl w → Calls Tryd.prog 16 #[.agg #[.int .u64 m0, .int .u64 m1, .int .u64 m2, .int .u64 m3, .int .u64 m4, .bool ad, .bool aw], civ y m d h n k] w fun e w' => e = .returned (.bool fx) ∧ w.grownBy w' none)
    (FY : ∀ w, Gl w → Calls Tryd.prog 16 #[.agg #[.int .u64 n0, .int .u64 n1, .int .u64 n2, .int .u64 n3, .int .u64 n4, .bool bd, .bool bw], civ y m d h n k] w fun e w' => e = .returned (.bool fy) ∧ w.grownBy w' none)
    (FZ : ∀ w, Gl w → Calls Tryd.prog 16 #[.agg #[.int .u64 k0, .int .u64 k1, .int .u64 k2, .int .u64 k3, .int .u64 k4, .bool cd, .bool cw], civ y m d h n k] w fun e w' => e = .returned (.bool fz) ∧ w.grownBy w' none)
    (w : World) (hG : Gl w) :
    Calls Tryd.prog 6 #[.string a, .string b, .string r, civ y m d h n k] w fun e w' => e = .returned (.bool true) ∧ w.grownBy w' none := by
  have AW := awake_any
  have G0 : ∀ o, Gl (w.alloc o) := fun o => hG.kept (World.grownBy_alloc w o none)
  have HCc : Hid _ := HC
  clear HC
  have la : a.data.toList.length = a.size := by simp
  have lb : b.data.toList.length = b.size := by simp
  have LA : Hid (a.data.toList.length = a.size ∧ b.data.toList.length = b.size) := ⟨la, lb⟩
  clear la lb
  go_enter Tryd.func6, Tryd.ntmps6
  go_wp2_with (go_at_call 9; go_must (refine (AW _ (G0 _)).mono ?_); rintro e w1 ⟨rfl, hg1⟩)
  have G1 : Gl w1 := (G0 _).kept hg1
  have KC : Hid (∀ v, w1.grownBy v none → (v.cell? ⟨w.heap.size, 0, none⟩ = some (.int .i64 y) ∧ v.cell? ⟨w.heap.size, 1, none⟩ = some (.int .i64 m) ∧ v.cell? ⟨w.heap.size, 2, none⟩ = some (.int .i64 d) ∧ v.cell? ⟨w.heap.size, 3, none⟩ = some (.int .i64 h) ∧ v.cell? ⟨w.heap.size, 4, none⟩ = some (.int .i64 n) ∧ v.cell? ⟨w.heap.size, 5, none⟩ = some (.int .i64 k))) := fun v hv => by
    have g := grown_more hg1 hv (by simp)
    exact ⟨cell_kept g 0 _ rfl, cell_kept g 1 _ rfl, cell_kept g 2 _ rfl, cell_kept g 3 _ rfl, cell_kept g 4 _ rfl, cell_kept g 5 _ rfl⟩
  have KW' : Hid (w.grownBy w1 none) := grown_more (World.grownBy_alloc w _ none) hg1 (by simp)
  clear hg1 hG G0 AW
  go_loop [9] (fun i => ∃ j : Nat, i = .int .i64 j ∧ j ≤ a.size + b.size ∧ Hid (∀ q c, q < j → (a.data.toList ++ b.data.toList)[q]? = some c → Cro.blk c = false)) (fun i => (a.size + b.size - (intOf i).toNat))
  case atStart => exact ⟨0, rfl, by omega, fun q c hq => by omega⟩
  case round =>
    obtain ⟨j, rfl, hj, HN⟩ := hrel
    by_cases hlt : j < a.size + b.size
    · obtain ⟨c, hc⟩ : ∃ c, (a.data.toList ++ b.data.toList)[j]? = some c := ⟨_, List.getElem?_eq_getElem (by rw [List.length_append]; have := LA.out; omega)⟩
      have HN' : Hid (Cro.blk c = false → ∀ q c, q < j + 1 → (a.data.toList ++ b.data.toList)[q]? = some c → Cro.blk c = false) := fun hb q c' hq hc' => by
        rcases Nat.lt_succ_iff_lt_or_eq.mp hq with h' | rfl
        · exact HN.out q c' h' hc'
        · rw [hc] at hc'
          injection hc' with hc'
          rw [← hc']
          exact hb
      have HBn : Hid (¬ c.toNat = 32 → ¬ c.toNat = 9 → Cro.blk c = false) := blk_not
      by_cases hja : j < a.size
      · have hix : ∀ w', (Instr.index 9 (.string a) (.int .i64 (j : Int))).run Tryd.prog w' = .ok (.int .u8 (c.toNat : Int)) w' := index_at Tryd.underlying9 a j c (by rw [List.getElem?_append_left (by have := LA.out; omega)] at hc; exact hc)
        clear hc HN
        generalize c.toNat = x at hix HBn
        by_cases h1 : x = 32
        · subst h1
          go_wp2
          go_ret
          exact ⟨rfl, KW'.out⟩
        · have z1 : ((x : Int) == 32) = false := by simp; omega
          by_cases h2 : x = 9
          · subst h2
            go_wp2
            go_ret
            exact ⟨rfl, KW'.out⟩
          · have z2 : ((x : Int) == 9) = false := by simp; omega
            have HM := HN'.out (HBn.out h1 h2)
            go_wp2
            go_round
            case rel => exact ⟨j + 1, by go_num, by omega, HM⟩
            case measure => simp [intOf]; omega
      · have hix0 : ∀ w', (Instr.index 9 (.string b) (.int .i64 ((j - a.size : Nat) : Int))).run Tryd.prog w' = .ok (.int .u8 (c.toNat : Int)) w' := index_at Tryd.underlying9 b (j - a.size) c (by rw [List.getElem?_append_right (by have := LA.out; omega), LA.out.1] at hc; exact hc)
        have hix : ∀ w', (Instr.index 9 (.string b) (.int .i64 ((j : Int) - (a.size : Int)))).run Tryd.prog w' = .ok (.int .u8 (c.toNat : Int)) w' := by
          rw [show ((j : Int) - (a.size : Int)) = ((j - a.size : Nat) : Int) by omega]
          exact hix0
        clear hc HN hix0
        generalize c.toNat = x at hix HBn
        by_cases h1 : x = 32
        · subst h1
          go_wp2
          go_ret
          exact ⟨rfl, KW'.out⟩
        · have z1 : ((x : Int) == 32) = false := by simp; omega
          by_cases h2 : x = 9
          · subst h2
            go_wp2
            go_ret
            exact ⟨rfl, KW'.out⟩
          · have z2 : ((x : Int) == 9) = false := by simp; omega
            have HM := HN'.out (HBn.out h1 h2)
            go_wp2
            go_round
            case rel => exact ⟨j + 1, by go_num, by omega, HM⟩
            case measure => simp [intOf]; omega
    · have hcase := HCc.out (fun c hc => by
        obtain ⟨q, hq, e⟩ := List.getElem_of_mem hc
        exact HN.out q c (by rw [List.length_append] at hq; have := LA.out; omega) (by rw [List.getElem?_eq_getElem hq, e]))
      clear HN HCc LA
      by_cases ha0 : a.size = 0
      · have z : ((a.size : Int) == 0) = true := by simp [ha0]
        go_wp2_with (go_at_call 10; fail)
        go_ret
        exact ⟨rfl, KW'.out⟩
      · have z' : ((a.size : Int) == 0) = false := by simp [ha0]
        by_cases hb0 : b.size = 0
        · have z : ((b.size : Int) == 0) = true := by simp [hb0]
          go_wp2_with (go_at_call 10; fail)
          go_ret
          exact ⟨rfl, KW'.out⟩
        · have z : ((b.size : Int) == 0) = false := by simp [hb0]
          cases hcase with
          | noA h0 => exact absurd h0 ha0
          | noB h0 => exact absurd h0 hb0
          | bad1 h1 =>
            have q1 : (e1 != 0) = true := by simpa using h1
            go_wp2_with (first
              | (go_at_call 10; (with_reducible refine (P1 _ G1).mono ?_); rintro e w2 ⟨rfl, hg2⟩; have G2 := fun o => (G1.kept hg2).kept (World.grownBy_alloc w2 o none))
              | (go_at_call 10; (with_reducible refine (P2 _ (G2 _)).mono ?_); rintro e w3 ⟨rfl, hg3⟩; have G3 := fun o => ((G2 _).kept hg3).kept (World.grownBy_alloc w3 o none))
              | (go_at_call 10; (with_reducible refine (P3 _ (G3 _)).mono ?_); rintro e w4 ⟨rfl, hg4⟩; have hgy := grown_more (grown_alloc hg3 _) hg4 (by simp); have hgw := grown_more (grown_alloc hg2 _) hgy (by simp)))
            go_ret
            exact ⟨rfl, grown_more KW'.out (grown_alloc hgw _) (by simp)⟩
          | bad2 h1 h2 =>
            subst h1
            have q1 : (e2 != 0) = true := by simpa using h2
            go_wp2_with (first
              | (go_at_call 10; (with_reducible refine (P1 _ G1).mono ?_); rintro e w2 ⟨rfl, hg2⟩; have G2 := fun o => (G1.kept hg2).kept (World.grownBy_alloc w2 o none))
              | (go_at_call 10; (with_reducible refine (P2 _ (G2 _)).mono ?_); rintro e w3 ⟨rfl, hg3⟩; have G3 := fun o => ((G2 _).kept hg3).kept (World.grownBy_alloc w3 o none))
              | (go_at_call 10; (with_reducible refine (P3 _ (G3 _)).mono ?_); rintro e w4 ⟨rfl, hg4⟩; have hgy := grown_more (grown_alloc hg3 _) hg4 (by simp); have hgw := grown_more (grown_alloc hg2 _) hgy (by simp)))
            go_ret
            exact ⟨rfl, grown_more KW'.out (grown_alloc hgw _) (by simp)⟩
          | long h1 h2 h3 =>
            subst h1 h2 h3
            go_wp2_with (first
              | (go_at_call 10; (with_reducible refine (P1 _ G1).mono ?_); rintro e w2 ⟨rfl, hg2⟩; have G2 := fun o => (G1.kept hg2).kept (World.grownBy_alloc w2 o none))
              | (go_at_call 10; (with_reducible refine (P2 _ (G2 _)).mono ?_); rintro e w3 ⟨rfl, hg3⟩; have G3 := fun o => ((G2 _).kept hg3).kept (World.grownBy_alloc w3 o none))
              | (go_at_call 10; (with_reducible refine (P3 _ (G3 _)).mono ?_); rintro e w4 ⟨rfl, hg4⟩; have hgy := grown_more (grown_alloc hg3 _) hg4 (by simp); have hgw := grown_more (grown_alloc hg2 _) hgy (by simp)))
            go_ret
            exact ⟨rfl, grown_more KW'.out (grown_alloc hgw _) (by simp)⟩
          | good h1 h2 h3 hm hh hw hf =>
            subst h1 h2 h3 hm hh hw hf
            have hO := u64_or m0 n0 hm0 hn0
            cases fx <;> cases fy
            all_goals
              go_wp2_with (first
                | (go_at_call 10; (with_reducible refine (P1 _ G1).mono ?_); rintro e w2 ⟨rfl, hg2⟩; have G2 := fun o => (G1.kept hg2).kept (World.grownBy_alloc w2 o none))
                | (go_at_call 10; (with_reducible refine (P2 _ (G2 _)).mono ?_); rintro e w3 ⟨rfl, hg3⟩; have G3 := fun o => ((G2 _).kept hg3).kept (World.grownBy_alloc w3 o none))
                | (go_at_call 10; (with_reducible refine (P3 _ (G3 _)).mono ?_); rintro e w4 ⟨rfl, hg4⟩; have hgy := grown_more (grown_alloc hg3 _) hg4 (by simp); have hgw := grown_more (grown_alloc hg2 _) hgy (by simp)))
              generalize hZ : m0 ||| n0 = z0 at *
              obtain ⟨W3, hW3⟩ : ∃ W3, W3 = w4.alloc (.cells #[.int .u64 z0, .int .u64 k1, .int .u64 k2, .int .u64 k3, .int .u64 k4, .bool cd, .bool cw] 25) := ⟨_, rfl⟩
              have G4 : Gl W3 := by subst hW3; exact ((G3 _).kept hg4).kept (World.grownBy_alloc w4 _ none)
              have gx : ∀ x : Gr W3, (w2.alloc (.cells #[.int .u64 m0, .int .u64 k1, .int .u64 m2, .int .u64 m3, .int .u64 m4, .bool ad, .bool aw] 25)).grownBy x.now none := fun x => by subst hW3; exact grown_more (grown_alloc hgy _) x.grown (by simp)
              have gy : ∀ x : Gr W3, (w3.alloc (.cells #[.int .u64 n0, .int .u64 n1, .int .u64 n2, .int .u64 n3, .int .u64 k4, .bool bd, .bool bw] 25)).grownBy x.now none := fun x => by subst hW3; exact grown_more (grown_alloc hg4 _) x.grown (by simp)
              have gz : ∀ x : Gr W3, (w4.alloc (.cells #[.int .u64 z0, .int .u64 k1, .int .u64 k2, .int .u64 k3, .int .u64 k4, .bool cd, .bool cw] 25)).grownBy x.now none := fun x => by subst hW3; exact x.grown
              have gc : ∀ x : Gr W3, w1.grownBy x.now none := fun x => by subst hW3; exact grown_more (grown_alloc hgw _) x.grown (by simp)
              have x0 : ∀ x : Gr W3, x.now.cell? ⟨w2.heap.size, 0, none⟩ = some (.int .u64 m0) := fun x => cell_kept (gx x) 0 _ rfl
              have x1 : ∀ x : Gr W3, x.now.cell? ⟨w2.heap.size, 1, none⟩ = some (.int .u64 k1) := fun x => cell_kept (gx x) 1 _ rfl
              have x2 : ∀ x : Gr W3, x.now.cell? ⟨w2.heap.size, 2, none⟩ = some (.int .u64 m2) := fun x => cell_kept (gx x) 2 _ rfl
              have x3 : ∀ x : Gr W3, x.now.cell? ⟨w2.heap.size, 3, none⟩ = some (.int .u64 m3) := fun x => cell_kept (gx x) 3 _ rfl
              have x4 : ∀ x : Gr W3, x.now.cell? ⟨w2.heap.size, 4, none⟩ = some (.int .u64 m4) := fun x => cell_kept (gx x) 4 _ rfl
              have x5 : ∀ x : Gr W3, x.now.cell? ⟨w2.heap.size, 5, none⟩ = some (.bool ad) := fun x => cell_kept (gx x) 5 _ rfl
              have x6 : ∀ x : Gr W3, x.now.cell? ⟨w2.heap.size, 6, none⟩ = some (.bool aw) := fun x => cell_kept (gx x) 6 _ rfl
              have y0 : ∀ x : Gr W3, x.now.cell? ⟨w3.heap.size, 0, none⟩ = some (.int .u64 n0) := fun x => cell_kept (gy x) 0 _ rfl
              have y1 : ∀ x : Gr W3, x.now.cell? ⟨w3.heap.size, 1, none⟩ = some (.int .u64 n1) := fun x => cell_kept (gy x) 1 _ rfl
              have y2 : ∀ x : Gr W3, x.now.cell? ⟨w3.heap.size, 2, none⟩ = some (.int .u64 n2) := fun x => cell_kept (gy x) 2 _ rfl
              have y3 : ∀ x : Gr W3, x.now.cell? ⟨w3.heap.size, 3, none⟩ = some (.int .u64 n3) := fun x => cell_kept (gy x) 3 _ rfl
              have y4 : ∀ x : Gr W3, x.now.cell? ⟨w3.heap.size, 4, none⟩ = some (.int .u64 k4) := fun x => cell_kept (gy x) 4 _ rfl
              have y5 : ∀ x : Gr W3, x.now.cell? ⟨w3.heap.size, 5, none⟩ = some (.bool bd) := fun x => cell_kept (gy x) 5 _ rfl
              have y6 : ∀ x : Gr W3, x.now.cell? ⟨w3.heap.size, 6, none⟩ = some (.bool bw) := fun x => cell_kept (gy x) 6 _ rfl
              have q0 : ∀ x : Gr W3, x.now.cell? ⟨w4.heap.size, 0, none⟩ = some (.int .u64 z0) := fun x => cell_kept (gz x) 0 _ rfl
              have q1 : ∀ x : Gr W3, x.now.cell? ⟨w4.heap.size, 1, none⟩ = some (.int .u64 k1) := fun x => cell_kept (gz x) 1 _ rfl
              have q2 : ∀ x : Gr W3, x.now.cell? ⟨w4.heap.size, 2, none⟩ = some (.int .u64 k2) := fun x => cell_kept (gz x) 2 _ rfl
              have q3 : ∀ x : Gr W3, x.now.cell? ⟨w4.heap.size, 3, none⟩ = some (.int .u64 k3) := fun x => cell_kept (gz x) 3 _ rfl
              have q4 : ∀ x : Gr W3, x.now.cell? ⟨w4.heap.size, 4, none⟩ = some (.int .u64 k4) := fun x => cell_kept (gz x) 4 _ rfl
              have q5 : ∀ x : Gr W3, x.now.cell? ⟨w4.heap.size, 5, none⟩ = some (.bool cd) := fun x => cell_kept (gz x) 5 _ rfl
              have q6 : ∀ x : Gr W3, x.now.cell? ⟨w4.heap.size, 6, none⟩ = some (.bool cw) := fun x => cell_kept (gz x) 6 _ rfl
              have c0 : ∀ x : Gr W3, x.now.cell? ⟨w.heap.size, 0, none⟩ = some (.int .i64 y) := fun x => (KC.out _ (gc x)).1
              have c1 : ∀ x : Gr W3, x.now.cell? ⟨w.heap.size, 1, none⟩ = some (.int .i64 m) := fun x => (KC.out _ (gc x)).2.1
              have c2 : ∀ x : Gr W3, x.now.cell? ⟨w.heap.size, 2, none⟩ = some (.int .i64 d) := fun x => (KC.out _ (gc x)).2.2.1
              have c3 : ∀ x : Gr W3, x.now.cell? ⟨w.heap.size, 3, none⟩ = some (.int .i64 h) := fun x => (KC.out _ (gc x)).2.2.2.1
              have c4 : ∀ x : Gr W3, x.now.cell? ⟨w.heap.size, 4, none⟩ = some (.int .i64 n) := fun x => (KC.out _ (gc x)).2.2.2.2.1
              have c5 : ∀ x : Gr W3, x.now.cell? ⟨w.heap.size, 5, none⟩ = some (.int .i64 k) := fun x => (KC.out _ (gc x)).2.2.2.2.2
              rw [← hW3]
              have hne : Nonempty (Gr W3) := ⟨W3, grown_refl _ _, G4⟩
              have KG : Hid (∀ x : Gr W3, w.grownBy x.now none) := fun x => grown_more KW'.out (gc x) (by simp)
              clear gx gy gz gc hW3 hgw hgy hg2 hg3 hg4 KC KW' G1 G2 G3 P1 P2 P3
              refine wp_region_quiet_at (C := fun w' => ∃ x : Gr W3, w' = x.now) (by kernel_rfl) (by kernel_rfl) ⟨⟨_, grown_drewN (grown_refl _ _) 1, G4.kept (grown_drewN (grown_refl _ _) 1)⟩, rfl⟩ ?_
              repeat (go_big_quiet_step (first | (go_at_call 16; with_reducible refine Gr.call (FZ _ (Gr.gl _))) | (go_at_call 16; with_reducible refine Gr.call (FX _ (Gr.gl _))) | (go_at_call 16; with_reducible refine Gr.call (FY _ (Gr.gl _)))))
              refine wpQuiet_nil ?_
              rintro _ ⟨x, rfl⟩
              go_wp2
              go_ret
              exact ⟨rfl, KG.out x⟩
end Go.Proofs.YthjfecniipifhaaDoor
