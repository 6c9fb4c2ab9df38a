/- Join. -/
import Derived.Test.YtdekeibnehoeaaaSCalls
namespace Go.Proofs.Ytdekeibnehoeaaa
open Go.RowKit Sea
set_option linter.unusedVariables false
set_option maxRecDepth 10000

theorem fold_take {B : List (Sn × S3)} {A : List Sn} {j : Nat} {x : Sn × S3} (h : B[j]? = some x) : ((B.take (j + 1)).map (·.1)).foldl put1 A = put1 (((B.take j).map (·.1)).foldl put1 A) x.1 := by
  rw [List.take_add_one, h, List.map_append, List.foldl_append]
  rfl
theorem chk_part {A : List Sn} {B : List (Sn × S3)} (ha : chk A = true) (hb : chk (B.map (·.1)) = true) (j : Nat) : chk (((B.take j).map (·.1)).foldl put1 A) = true := by
  refine chk_fold ha (fun s hs => (chk_iff.1 hb).1 s ?_)
  obtain ⟨x, hx, rfl⟩ := List.mem_map.1 hs
  exact List.mem_map.2 ⟨x, List.mem_of_mem_take hx, rfl⟩
set_option maxRecDepth 100000 in
set_option maxHeartbeats 1600000 in
theorem Join_any (va vb : Value) (A B : List (Sn × S3)) (w : World) (ha : Bk w va A) (hb : Bk w vb B) (hla : A.length ≤ 9223372036854775807) (hlb : B.length ≤ 9223372036854775807) :
    Calls Try.prog 16 #[va, vb] w fun e w' => PutA w (joinL (A.map (·.1)) (B.map (·.1))) (joinE (A.map (·.1)) (B.map (·.1))) e w' := by
  have CA : Hid (∀ W, w.grownBy W none → _) := fun W g => check_any va A W (ha.1.grown g) hla
  have CB : Hid (∀ W, w.grownBy W none → _) := fun W g => check_any vb B W (hb.1.grown g) hlb
  have G0 : Hid (w.grownBy w none) := grown_refl _ _
  cases hc : chk (A.map (·.1)) with
  | false =>
    have e1 : joinE (A.map (·.1)) (B.map (·.1)) = 4 := by unfold joinE; rw [if_neg (by rw [hc]; simp)]
    have e2 : joinL (A.map (·.1)) (B.map (·.1)) = [] := by unfold joinL; rw [if_neg (by rw [hc]; simp)]
    rw [e1, e2]
    rw [hc] at CA
    obtain ⟨ad, cp, hv⟩ := ha.form
    obtain ⟨bd, bp, hv2⟩ := hb.form
    subst hv hv2
    clear ha hb hc e1 e2 CB
    generalize A.length = N at *
    generalize B.length = M at *
    go_enter Try.func16, Try.ntmps16
    go_wp2_with (go_at_call 12; (with_reducible refine (CA.out _ G0.out).mono ?_); rintro e w2 ⟨rfl, g2⟩)
    go_ret2
    exact ⟨nil3, rfl, [], bk_nil _, rfl, g2⟩
  | true =>
    rw [hc] at CA
    cases hd : chk (B.map (·.1)) with
    | false =>
      have e1 : joinE (A.map (·.1)) (B.map (·.1)) = 4 := by unfold joinE; rw [if_neg (by rw [hd]; simp)]
      have e2 : joinL (A.map (·.1)) (B.map (·.1)) = [] := by unfold joinL; rw [if_neg (by rw [hd]; simp)]
      rw [e1, e2]
      rw [hd] at CB
      obtain ⟨ad, cp, hv⟩ := ha.form
      obtain ⟨bd, bp, hv2⟩ := hb.form
      subst hv hv2
      clear ha hb hc e1 e2 hd
      generalize A.length = N at *
      generalize B.length = M at *
      have tokA : True := trivial
      go_enter Try.func16, Try.ntmps16
      go_wp2_with (first
        | (go_at_call 12; have _t := tokA; (with_reducible refine (CA.out _ G0.out).mono ?_); rintro e w2 ⟨rfl, g2⟩; clear tokA)
        | (go_at_call 12; (with_reducible refine (CB.out _ g2).mono ?_); rintro e w3 ⟨rfl, g3⟩))
      go_ret2
      exact ⟨nil3, rfl, [], bk_nil _, rfl, grown_tr g2 g3⟩
    | true =>
      have hpb := (chk_iff.1 hd).2
      have e1 : joinE (A.map (·.1)) (B.map (·.1)) = 0 := by unfold joinE; rw [if_pos ⟨hc, hd⟩]
      have e2 : joinL (A.map (·.1)) (B.map (·.1)) = (B.map (·.1)).foldl put1 (A.map (·.1)) := by unfold joinL; rw [if_pos ⟨hc, hd⟩, mg_fold _ _ hpb]
      rw [e1, e2]
      rw [hd] at CB
      have CO : Hid (∀ W, w.grownBy W none → _) := fun W g => copies_any va A W (ha.grown g) (by have := (chk_rows hc).2; omega)
      have SE := seated_any
      have KB : Hid (∀ W, w.grownBy W none → Bk W vb B) := fun W g => hb.grown g
      have PT : Hid (∀ j, chk (((B.take j).map (·.1)).foldl put1 (A.map (·.1))) = true) := chk_part hc hd
      have h64 := (chk_rows hd).2
      obtain ⟨ad, cp, hv⟩ := ha.form
      obtain ⟨bd, bp, hv2⟩ := hb.form
      subst hv hv2
      clear ha hb hc e1 e2 hd hpb
      generalize A.length = N at *
      generalize hM : B.length = M at *
      have ML : Hid (B.length = M) := hM
      clear hM
      have tokA : True := trivial
      go_enter Try.func16, Try.ntmps16
      go_wp2_with (first
        | (go_at_call 12; have _t := tokA; (with_reducible refine (CA.out _ G0.out).mono ?_); rintro e w2 ⟨rfl, g2⟩; clear tokA)
        | (go_at_call 12; (with_reducible refine (CB.out _ g2).mono ?_); rintro e w3 ⟨rfl, g3⟩; have G3 : Hid (w.grownBy w3 none) := grown_tr g2 g3; clear g3)
        | (go_at_call 23; (with_reducible refine (CO.out _ G3.out).mono ?_); rintro e w4 ⟨u4, rfl, Y, O4, EY, g4⟩; have G4 : Hid (w.grownBy w4 none) := grown_tr G3.out g4; have O4' : Hid (Ob w4 w.heap.size (.slice u4.a u4.n u4.c) Y) := ⟨O4.own.low G3.out.size, O4.rd, O4.sep⟩; have EY' : Hid (Y.map (·.1) = ((B.take 0).map (·.1)).foldl put1 (A.map (·.1))) := EY; clear O4 EY g4))
      clear g2 CA CB CO
      go_loopw [6, 8, 21] (fun b _ i wr => ∃ (j : Nat) (u : S3) (Z : List (Sn × S3)), j ≤ M ∧ i = .int .i64 (j : Int) ∧ b = .slice u.a u.n u.c ∧ Hid (Ob wr w.heap.size (.slice u.a u.n u.c) Z) ∧ Hid (Z.map (·.1) = ((B.take j).map (·.1)).foldl put1 (A.map (·.1))) ∧ Hid (w.grownBy wr none)) (fun _ _ i _ => M - (intOf i).toNat)
      case atStart => exact ⟨0, u4, Y, by omega, rfl, rfl, O4', EY', G4⟩
      case round =>
        clear O4' EY' G4 G3
        obtain ⟨j, u, Z, hj, rfl, rfl, OZ, EZ, GZ⟩ := hrel
        by_cases hlt : j < M
        · obtain ⟨⟨s, su⟩, hy⟩ : ∃ y, B[j]? = some y := ⟨_, List.getElem?_eq_getElem (by rw [ML.out]; exact hlt)⟩
          have FT : Hid (((B.take (j + 1)).map (·.1)).foldl put1 (A.map (·.1)) = put1 (((B.take j).map (·.1)).foldl put1 (A.map (·.1))) s) := fold_take hy
          obtain ⟨g, o, e1, r1⟩ := range_at (KB.out wr GZ.out).1 hy
          have RG : Hid (wr.rangeAt g (o + j * 5) (sc (s, su))) := r1
          have BX : Hid (∀ W, (wr.alloc (.cells #[.int .i64 s.cl, .int .i64 s.sq, .int .i64 s.er, .int .i64 s.tm, .slice su.a su.n su.c] 28)).grownBy W none → _) := fun W g => box_s g
          obtain ⟨W1, hW1⟩ : ∃ W1, W1 = wr.alloc (.cells #[.int .i64 s.cl, .int .i64 s.sq, .int .i64 s.er, .int .i64 s.tm, .slice su.a su.n su.c] 28) := ⟨_, rfl⟩
          have HW1 : Hid (W1 = _) := hW1
          have GA : Hid (wr.grownBy W1 none) := by rw [hW1]; exact World.grownBy_alloc wr _ none
          have hck := PT.out j
          rw [← EZ.out] at hck
          obtain ⟨hpz, hlz⟩ := chk_rows hck
          have SC := SE (.slice u.a u.n u.c) Z s su W1 w.heap.size (OZ.out.grown GA.out) (by have h1 := GZ.out.size; have h2 := GA.out.size; omega) (by omega) (((KB.out wr GZ.out).2 (s, su) (List.mem_of_getElem? hy)).grown GA.out) hpz
          subst e1
          clear hy r1 hW1 SE hck hpz hlz
          go_wp2_with (first
            | (refine load_s g (o + j * 5) s su rfl RG.out ?_)
            | (refine load_s wr.heap.size 0 s su rfl (BX.out _ (grown_refl _ _)) ?_)
            | (go_at_call 22; rw [← HW1.out]; (with_reducible refine SC.mono ?_); rintro e w5 ⟨u5, rfl, Z5, O5, E5, g5⟩))
          go_roundw
          case rel =>
            refine ⟨j + 1, u5, Z5, by omega, by go_num, rfl, O5, ?_, ?_⟩
            · show _ = _
              rw [E5, EZ.out, FT.out]
            · exact grown_more (grown_tr GZ.out GA.out) g5 (fun k hk => .inr (OZ.out.own.lt k hk).1)
          case measure => simp [intOf]; omega
        · obtain rfl : j = M := by omega
          have E9 : Hid (Z.map (·.1) = (B.map (·.1)).foldl put1 (A.map (·.1))) := by
            have := EZ.out
            rwa [List.take_of_length_le (by rw [ML.out]; omega)] at this
          go_wp2_with fail
          go_ret2
          exact ⟨u, rfl, Z, OZ.out.bk, E9.out, GZ.out⟩
end Go.Proofs.Ytdekeibnehoeaaa
