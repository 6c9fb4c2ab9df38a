/- awake: the fixed answers. -/
import Derived.Test.YtffbaomaiohdiaaMDuo
namespace Go.Proofs.Ytffbaomaiohdiaa
open Go.RowKit Msh
set_option linter.unusedVariables false
set_option maxRecDepth 10000

abbrev xB : ByteArray := ⟨#[120]⟩
abbrev p1 : Pk := ⟨1, 1, 2, xB⟩
abbrev p2 : Pk := ⟨2, 1, 2, xB⟩
theorem aw1 : sendS ⟨[], 0, []⟩ 1 2 xB = ⟨[p1], 1, []⟩ := by
  unfold sendS entS
  rw [if_neg (by decide), if_neg (by decide)]
  rfl
theorem aw1I : sendI ⟨[], 0, []⟩ xB = 1 := by unfold sendI entI; rw [if_neg (by decide), if_neg (by decide)]; rfl
theorem aw1E : sendE ⟨[], 0, []⟩ xB = 0 := by unfold sendE entE; rw [if_neg (by decide), if_neg (by decide)]
theorem awT : there [p1] 1 = true := by decide
theorem awP : pos [p1] 1 = 0 := by decide
theorem aw2 : dblS ⟨[p1], 1, []⟩ 1 = ⟨[p1, p2], 2, []⟩ := by
  unfold dblS
  rw [if_pos awT, awP]
  unfold entS
  rw [if_neg (by simp)]
  rfl
theorem aw2I : dblI ⟨[p1], 1, []⟩ 1 = 2 := by unfold dblI entI; rw [if_pos awT, if_neg (by simp)]; rfl
theorem aw2E : dblE ⟨[p1], 1, []⟩ 1 = 0 := by unfold dblE entE; rw [if_pos awT, if_neg (by simp)]
theorem aw3 : cutL [] 2 1 = [(2, 1)] := by decide
theorem aw4 : dlv ⟨[p1, p2], 2, [(2, 1)]⟩ 1 = false := by decide
theorem aw4S : dlvS ⟨[p1, p2], 2, [(2, 1)]⟩ 1 = ⟨[p1, p2], 2, [(2, 1)]⟩ := by unfold dlvS; rw [aw4]; rfl
theorem aw4P : dlvP ⟨[p1, p2], 2, [(2, 1)]⟩ 1 = pk0 := by unfold dlvP; rw [aw4]; rfl
theorem aw5 : joinL [(2, 1)] 1 2 = [] := by decide
theorem aw6 : nxt ⟨[p1, p2], 2, []⟩ = some 0 := by decide
theorem aw6S : nxtS ⟨[p1, p2], 2, []⟩ = ⟨[p2], 2, []⟩ := by unfold nxtS; rw [aw6]; rfl
theorem aw6P : nxtP ⟨[p1, p2], 2, []⟩ = p1 := by unfold nxtP; rw [aw6]; rfl
theorem aw6B : nxtB ⟨[p1, p2], 2, []⟩ = true := by unfold nxtB; rw [aw6]; rfl
set_option maxRecDepth 100000 in
set_option maxHeartbeats 800000 in
theorem awake_any (w : World) : Calls Try.prog 7 #[] w fun e w' => e = .returned (.bool true) ∧ w.grownBy w' none := by
  have i1 : I64 1 := by unfold I64; omega
  have i2 : I64 2 := by unfold I64; omega
  have NW := duo_new (grown_refl w none)
  have SD : ∀ {w1 b}, Duo w w1 b ⟨[], 0, []⟩ Alone → _ := fun {w1 b} d => duo_send kept_alone d (by decide) 1 2 xB (by decide) i1 i2
  have DB : ∀ {w1 b}, Duo w w1 b ⟨[p1], 1, []⟩ Alone → _ := fun {w1 b} d => duo_double kept_alone d (by decide) 1
  have CU : ∀ {w1 b}, Duo w w1 b ⟨[p1, p2], 2, []⟩ Alone → _ := fun {w1 b} d => duo_cut kept_alone d 2 1 i2 i1 (by simp)
  have DV : ∀ {w1 b}, Duo w w1 b ⟨[p1, p2], 2, [(2, 1)]⟩ Alone → _ := fun {w1 b} d => duo_deliver kept_alone d 1
  have JO : ∀ {w1 b}, Duo w w1 b ⟨[p1, p2], 2, [(2, 1)]⟩ Alone → _ := fun {w1 b} d => duo_join kept_alone d 1 2 i1 i2
  have NX : ∀ {w1 b}, Duo w w1 b ⟨[p1, p2], 2, []⟩ Alone → _ := fun {w1 b} d => duo_next kept_alone d
  have FL : ∀ {w1 b}, Duo w w1 b ⟨[p2], 2, []⟩ Alone → _ := fun {w1 b} d => duo_flight kept_alone d
  simp only [aw1, aw1I, aw1E] at SD
  simp only [aw2, aw2I, aw2E] at DB
  simp only [aw3] at CU
  simp only [aw4, aw4S, aw4P] at DV
  simp only [aw5] at JO
  simp only [aw6S, aw6P, aw6B] at NX
  simp only [List.length_cons, List.length_nil] at FL
  have GA : ∀ {w1 b s} (o : Obj), Duo w w1 b s Alone → Duo w (w1.alloc o) b s Alone := fun o d => d.grown kept_alone (World.grownBy_alloc _ o none)
  go_enter Try.func7, Try.ntmps7
  go_wp2_with (first
    | (go_at_call 8; (with_reducible refine NW.mono ?_); rintro e w1 ⟨b, rfl, d1⟩)
    | (go_at_call 9; (with_reducible refine (SD d1).mono ?_); rintro e w2 ⟨rfl, d2⟩)
    | (go_at_call 17; (with_reducible refine (DB d2).mono ?_); rintro e w3 ⟨rfl, d3⟩)
    | (go_at_call 19; (with_reducible refine (CU d3).mono ?_); rintro e w4 ⟨rfl, d4⟩)
    | (go_at_call 11; (with_reducible refine (DV d4).mono ?_); rintro e w5 ⟨rfl, d5⟩)
    | (go_at_call 21; (with_reducible refine (JO (GA _ d5)).mono ?_); rintro e w6 ⟨rfl, d6⟩)
    | (go_at_call 13; (with_reducible refine (NX d6).mono ?_); rintro e w7 ⟨rfl, d7⟩)
    | (go_at_call 24; (with_reducible refine (FL (GA _ d7)).mono ?_); rintro e w8 ⟨a8, c8, rfl, hO8, hg8, d8⟩))
  go_ret
  exact ⟨by first | rfl | simp, d8.base⟩
end Go.Proofs.Ytffbaomaiohdiaa
