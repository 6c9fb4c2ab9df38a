/- The reference's merge. -/
import Derived.Test.YtdekeibnehoeaaaSCheck
namespace Go.Proofs.Ytdekeibnehoeaaa
open Go.RowKit Sea
set_option linter.unusedVariables false
set_option maxRecDepth 10000

/-- Two books in one, with their jobs' slices. -/
def mgX : List (Sn × S3) → List (Sn × S3) → List (Sn × S3)
  | [], b => b
  | x :: a, [] => x :: a
  | x :: a, y :: b => if x.1.cl < y.1.cl then x :: mgX a (y :: b) else if y.1.cl < x.1.cl then y :: mgX (x :: a) b else (if x.1.sq < y.1.sq then y else x) :: mgX a b
  termination_by a b => a.length + b.length
theorem mgX_nil (a : List (Sn × S3)) : mgX a [] = a := by cases a <;> simp [mgX]
theorem mgX_map : ∀ (a b : List (Sn × S3)), (mgX a b).map (·.1) = mg (a.map (·.1)) (b.map (·.1))
  | [], b => by simp [mgX, mg]
  | x :: a, [] => by simp [mgX, mg]
  | x :: a, y :: b => by
    rw [mgX, List.map_cons, List.map_cons, mg]
    by_cases h1 : x.1.cl < y.1.cl
    · rw [if_pos h1, if_pos h1, List.map_cons, mgX_map a (y :: b)]
      rfl
    · rw [if_neg h1, if_neg h1]
      by_cases h2 : y.1.cl < x.1.cl
      · rw [if_pos h2, if_pos h2, List.map_cons, mgX_map (x :: a) b]
        rfl
      · rw [if_neg h2, if_neg h2, List.map_cons, mgX_map a b]
        congr 1
        unfold bt
        split <;> rfl
  termination_by a b => a.length + b.length
theorem mgX_mem : ∀ (a b : List (Sn × S3)), ∀ x ∈ mgX a b, x ∈ a ∨ x ∈ b
  | [], b, z, h => by simp [mgX] at h; exact .inr h
  | x :: a, [], z, h => by rw [mgX_nil] at h; exact .inl h
  | x :: a, y :: b, z, h => by
    rw [mgX] at h
    split at h
    · rcases List.mem_cons.1 h with rfl | h
      · exact .inl (by simp)
      · rcases mgX_mem a (y :: b) z h with h | h
        · exact .inl (by simp [h])
        · exact .inr h
    · split at h
      · rcases List.mem_cons.1 h with rfl | h
        · exact .inr (by simp)
        · rcases mgX_mem (x :: a) b z h with h | h
          · exact .inl h
          · exact .inr (by simp [h])
      · rcases List.mem_cons.1 h with e | h
        · split at e
          · exact .inr (by simp [e])
          · exact .inl (by simp [e])
        · rcases mgX_mem a b z h with h | h
          · exact .inl (by simp [h])
          · exact .inr (by simp [h])
  termination_by a b => a.length + b.length
theorem mgX_len : ∀ (a b : List (Sn × S3)), (mgX a b).length ≤ a.length + b.length
  | [], b => by simp [mgX]
  | x :: a, [] => by simp [mgX]
  | x :: a, y :: b => by
    rw [mgX]
    split
    · have := mgX_len a (y :: b); simp only [List.length_cons] at this ⊢; omega
    · split
      · have := mgX_len (x :: a) b; simp only [List.length_cons] at this ⊢; omega
      · have := mgX_len a b; simp only [List.length_cons] at this ⊢; omega
  termination_by a b => a.length + b.length
theorem drop_at {α : Type} {l : List α} {i : Nat} {x : α} (h : l[i]? = some x) : l.drop i = x :: l.drop (i + 1) := by
  rw [List.drop_eq_getElem_cons (List.getElem?_eq_some_iff.1 h).1, (List.getElem?_eq_some_iff.1 h).2]
theorem one_new (W : World) (x : Sn) (u : S3) : eS.Rx (W.alloc (.cells #[.int .i64 x.cl, .int .i64 x.sq, .int .i64 x.er, .int .i64 x.tm, .slice u.a u.n u.c] 28)) (.slice (some ⟨W.heap.size, 0, none⟩) 1 1) [(x, u)] :=
  Elm.rx_one (E := eS) fun j v hv => by have := box_s (grown_refl (W.alloc (.cells #[.int .i64 x.cl, .int .i64 x.sq, .int .i64 x.er, .int .i64 x.tm, .slice u.a u.n u.c] 28)) none) j v hv; rwa [Nat.zero_add] at this
set_option maxRecDepth 100000 in
set_option maxHeartbeats 1600000 in
theorem merge_any (va vb : Value) (A B : List (Sn × S3)) (w : World) (ha : eS.Rx w va A) (hb : eS.Rx w vb B) (hla : A.length ≤ 4096) (hlb : B.length ≤ 4096) :
    Calls Try.prog 24 #[va, vb] w fun e w' => ∃ u : S3, e = .returned (.slice u.a u.n u.c) ∧ eS.Own w' w.heap.size (.slice u.a u.n u.c) (mgX A B) ∧ w.grownBy w' none := by
  obtain ⟨ad, cp, hv⟩ := ha.form
  obtain ⟨bd, bp, hv2⟩ := hb.form
  subst hv hv2
  have HA : Hid (∀ W, w.grownBy W none → eS.Rx W (.slice ad A.length cp) A) := fun W g => ha.grown g
  have HB : Hid (∀ W, w.grownBy W none → eS.Rx W (.slice bd B.length bp) B) := fun W g => hb.grown g
  clear ha hb
  have ML := mgX_len
  generalize hN : A.length = N at *
  have NL : Hid (A.length = N) := hN
  clear hN
  generalize hM : B.length = M at *
  have BL : Hid (B.length = M) := hM
  clear hM
  have O0 : Hid (eS.Own w w.heap.size (.slice none 0 0) []) := Elm.nil _ _
  have G0 : Hid (w.grownBy w none) := grown_refl _ _
  go_enter Try.func24, Try.ntmps24
  go_wp2_with fail
  go_loopw [5, 6, 7] (fun b i k wr => ∃ (p q : Nat) (u : S3) (Z : List (Sn × S3)), p ≤ N ∧ q ≤ M ∧ i = .int .i64 (p : Int) ∧ k = .int .i64 (q : Int) ∧ b = .slice u.a u.n u.c ∧ Hid (eS.Own wr w.heap.size (.slice u.a u.n u.c) Z) ∧ Hid (Z ++ mgX (A.drop p) (B.drop q) = mgX A B) ∧ Hid (w.grownBy wr none)) (fun _ i k _ => (N - (intOf i).toNat) + (M - (intOf k).toNat))
  case atStart => exact ⟨0, 0, ⟨none, 0, 0⟩, [], by omega, by omega, rfl, rfl, rfl, O0, (rfl : _ = _), G0⟩
  case round =>
    clear O0 G0
    obtain ⟨p, q, u, Z, hp, hq, rfl, rfl, rfl, OZ, EZ, GZ⟩ := hrel
    have zl : Hid (Z.length ≤ 8192) := by
      have h1 := congrArg List.length EZ.out
      have h2 := ML A B
      have h3 := NL.out
      have h4 := BL.out
      simp at h1
      show _ ≤ _
      omega
    by_cases h1 : p < N
    · obtain ⟨⟨x, xu⟩, hx⟩ : ∃ y, A[p]? = some y := ⟨_, List.getElem?_eq_getElem (by rw [NL.out]; exact h1)⟩
      obtain ⟨ga, oa, ea, ra⟩ := range_at (HA.out wr GZ.out) hx
      have RA : Hid (wr.rangeAt ga (oa + p * 5) (sc (x, xu))) := ra
      have DA : Hid (A.drop p = (x, xu) :: A.drop (p + 1)) := drop_at hx
      have xa0 := (range_cells ra).1
      have xa1 := (range_cells ra).2.1
      subst ea
      clear hx ra
      have dp : ((p : Int) == (N : Int)) = false := by simp; omega
      by_cases h2 : q < M
      · obtain ⟨⟨y, yu⟩, hy⟩ : ∃ y, B[q]? = some y := ⟨_, List.getElem?_eq_getElem (by rw [BL.out]; exact h2)⟩
        obtain ⟨gb, ob, eb, rb⟩ := range_at (HB.out wr GZ.out) hy
        have RB : Hid (wr.rangeAt gb (ob + q * 5) (sc (y, yu))) := rb
        have DB : Hid (B.drop q = (y, yu) :: B.drop (q + 1)) := drop_at hy
        have yb0 := (range_cells rb).1
        have yb1 := (range_cells rb).2.1
        subst eb
        clear hy rb
        have dq : ((q : Int) == (M : Int)) = false := by simp; omega
        by_cases h3 : x.cl < y.cl
        · go_wp2_with fail
          go_quiet (fail)
          go_wp2_with (first | (refine load_s ga (oa + p * 5) x xu rfl RA.out ?_) | (refine Elm.wpList_append (E := eS) rfl (.tmp 41) (.tmp 46) rfl w.heap.size _ Z rfl (OZ.out.grown (grown_alloc (grown_drewN (grown_refl _ _) _) _)) _ [(x, xu)] rfl (one_new _ x xu) (by have := zl.out; simp; omega) (by have := zl.out; show (Z.length + 1) * 56 ≤ _; omega) (by have := GZ.out.size; simp; omega) ?_; intro ad2 n2 c2 w2 hO2 hg2 hl2))
          go_roundw
          case rel =>
            refine ⟨p + 1, q, ⟨ad2, n2, c2⟩, Z ++ [(x, xu)], by omega, by omega, by go_num, by go_num, rfl, hO2, ?_, ?_⟩
            · show _ = _
              rw [List.append_assoc]
              refine Eq.trans ?_ EZ.out
              congr 1
              rw [DA.out, DB.out, mgX, if_pos h3]; rfl
            · exact grown_more (grown_alloc (grown_drewN GZ.out _) _) hg2 (fun k hk => .inr ((OZ.out.lt k hk).1))
          case measure => simp [intOf]; omega
        · have d3 : decide (x.cl < y.cl) = false := decide_eq_false h3
          by_cases h4 : y.cl < x.cl
          · go_wp2_with fail
            go_quiet (fail)
            go_wp2_with fail
            go_quiet (fail)
            go_wp2_with (first | (refine load_s gb (ob + q * 5) y yu rfl RB.out ?_) | (refine Elm.wpList_append (E := eS) rfl (.tmp 67) (.tmp 72) rfl w.heap.size _ Z rfl (OZ.out.grown (grown_alloc (grown_drewN (grown_refl _ _) _) _)) _ [(y, yu)] rfl (one_new _ y yu) (by have := zl.out; simp; omega) (by have := zl.out; show (Z.length + 1) * 56 ≤ _; omega) (by have := GZ.out.size; simp; omega) ?_; intro ad2 n2 c2 w2 hO2 hg2 hl2))
            go_roundw
            case rel =>
              refine ⟨p, q + 1, ⟨ad2, n2, c2⟩, Z ++ [(y, yu)], by omega, by omega, by go_num, by go_num, rfl, hO2, ?_, ?_⟩
              · show _ = _
                rw [List.append_assoc]
                refine Eq.trans ?_ EZ.out
                congr 1
                rw [DA.out, DB.out, mgX, if_neg (show ¬ x.cl < y.cl by omega), if_pos h4]; rfl
              · exact grown_more (grown_alloc (grown_drewN GZ.out _) _) hg2 (fun k hk => .inr ((OZ.out.lt k hk).1))
            case measure => simp [intOf]; omega
          · have d4 : decide (y.cl < x.cl) = false := decide_eq_false h4
            by_cases h5 : x.sq < y.sq
            · go_wp2_with fail
              go_quiet (fail)
              go_wp2_with fail
              go_quiet (fail)
              go_wp2_with fail
              go_quiet (fail)
              go_wp2_with (first | (refine load_s gb (ob + q * 5) y yu rfl RB.out ?_) | (refine Elm.wpList_append (E := eS) rfl (.tmp 87) (.tmp 92) rfl w.heap.size _ Z rfl (OZ.out.grown (grown_alloc (grown_drewN (grown_refl _ _) _) _)) _ [(y, yu)] rfl (one_new _ y yu) (by have := zl.out; simp; omega) (by have := zl.out; show (Z.length + 1) * 56 ≤ _; omega) (by have := GZ.out.size; simp; omega) ?_; intro ad2 n2 c2 w2 hO2 hg2 hl2))
              go_roundw
              case rel =>
                refine ⟨p + 1, q + 1, ⟨ad2, n2, c2⟩, Z ++ [(y, yu)], by omega, by omega, by go_num, by go_num, rfl, hO2, ?_, ?_⟩
                · show _ = _
                  rw [List.append_assoc]
                  refine Eq.trans ?_ EZ.out
                  congr 1
                  rw [DA.out, DB.out, mgX, if_neg (show ¬ x.cl < y.cl by omega), if_neg (show ¬ y.cl < x.cl by omega), if_pos h5]; rfl
                · exact grown_more (grown_alloc (grown_drewN GZ.out _) _) hg2 (fun k hk => .inr ((OZ.out.lt k hk).1))
              case measure => simp [intOf]; omega
            · have d5 : decide (x.sq < y.sq) = false := decide_eq_false h5
              go_wp2_with fail
              go_quiet (fail)
              go_wp2_with fail
              go_quiet (fail)
              go_wp2_with fail
              go_quiet (fail)
              go_wp2_with (first | (refine load_s ga (oa + p * 5) x xu rfl RA.out ?_) | (refine Elm.wpList_append (E := eS) rfl (.tmp 94) (.tmp 99) rfl w.heap.size _ Z rfl (OZ.out.grown (grown_alloc (grown_drewN (grown_refl _ _) _) _)) _ [(x, xu)] rfl (one_new _ x xu) (by have := zl.out; simp; omega) (by have := zl.out; show (Z.length + 1) * 56 ≤ _; omega) (by have := GZ.out.size; simp; omega) ?_; intro ad2 n2 c2 w2 hO2 hg2 hl2))
              go_roundw
              case rel =>
                refine ⟨p + 1, q + 1, ⟨ad2, n2, c2⟩, Z ++ [(x, xu)], by omega, by omega, by go_num, by go_num, rfl, hO2, ?_, ?_⟩
                · show _ = _
                  rw [List.append_assoc]
                  refine Eq.trans ?_ EZ.out
                  congr 1
                  rw [DA.out, DB.out, mgX, if_neg (show ¬ x.cl < y.cl by omega), if_neg (show ¬ y.cl < x.cl by omega), if_neg (show ¬ x.sq < y.sq by omega)]; rfl
                · exact grown_more (grown_alloc (grown_drewN GZ.out _) _) hg2 (fun k hk => .inr ((OZ.out.lt k hk).1))
              case measure => simp [intOf]; omega
      · obtain rfl : q = M := by omega
        have EB : Hid (B.drop q = []) := List.drop_of_length_le (by rw [BL.out]; omega)
        have dq : ((q : Int) == (q : Int)) = true := by simp
        go_wp2_with fail
        go_quiet (fail)
        go_wp2_with (first | (refine load_s ga (oa + p * 5) x xu rfl RA.out ?_) | (refine Elm.wpList_append (E := eS) rfl (.tmp 41) (.tmp 46) rfl w.heap.size _ Z rfl (OZ.out.grown (grown_alloc (grown_drewN (grown_refl _ _) _) _)) _ [(x, xu)] rfl (one_new _ x xu) (by have := zl.out; simp; omega) (by have := zl.out; show (Z.length + 1) * 56 ≤ _; omega) (by have := GZ.out.size; simp; omega) ?_; intro ad2 n2 c2 w2 hO2 hg2 hl2))
        go_roundw
        case rel =>
          refine ⟨p + 1, q, ⟨ad2, n2, c2⟩, Z ++ [(x, xu)], by omega, by omega, by go_num, by go_num, rfl, hO2, ?_, ?_⟩
          · show _ = _
            rw [List.append_assoc]
            refine Eq.trans ?_ EZ.out
            congr 1
            rw [DA.out, EB.out, mgX_nil, mgX_nil]; rfl
          · exact grown_more (grown_alloc (grown_drewN GZ.out _) _) hg2 (fun k hk => .inr ((OZ.out.lt k hk).1))
        case measure => simp [intOf]; omega
    · obtain rfl : p = N := by omega
      have EA : Hid (A.drop p = []) := List.drop_of_length_le (by rw [NL.out]; omega)
      by_cases h2 : q < M
      · obtain ⟨⟨y, yu⟩, hy⟩ : ∃ y, B[q]? = some y := ⟨_, List.getElem?_eq_getElem (by rw [BL.out]; exact h2)⟩
        obtain ⟨gb, ob, eb, rb⟩ := range_at (HB.out wr GZ.out) hy
        have RB : Hid (wr.rangeAt gb (ob + q * 5) (sc (y, yu))) := rb
        have DB : Hid (B.drop q = (y, yu) :: B.drop (q + 1)) := drop_at hy
        have yb0 := (range_cells rb).1
        subst eb
        clear hy rb
        have dq : ((q : Int) == (M : Int)) = false := by simp; omega
        have dn : decide ((p : Int) < (p : Int)) = false := decide_eq_false (by omega)
        have de : ((p : Int) == (p : Int)) = true := by simp
        go_wp2_with fail
        go_quiet (fail)
        go_wp2_with fail
        go_quiet (fail)
        go_wp2_with (first | (refine load_s gb (ob + q * 5) y yu rfl RB.out ?_) | (refine Elm.wpList_append (E := eS) rfl (.tmp 67) (.tmp 72) rfl w.heap.size _ Z rfl (OZ.out.grown (grown_alloc (grown_drewN (grown_refl _ _) _) _)) _ [(y, yu)] rfl (one_new _ y yu) (by have := zl.out; simp; omega) (by have := zl.out; show (Z.length + 1) * 56 ≤ _; omega) (by have := GZ.out.size; simp; omega) ?_; intro ad2 n2 c2 w2 hO2 hg2 hl2))
        go_roundw
        case rel =>
          refine ⟨p, q + 1, ⟨ad2, n2, c2⟩, Z ++ [(y, yu)], by omega, by omega, by go_num, by go_num, rfl, hO2, ?_, ?_⟩
          · show _ = _
            rw [List.append_assoc]
            refine Eq.trans ?_ EZ.out
            congr 1
            rw [EA.out, DB.out, mgX, mgX]; rfl
          · exact grown_more (grown_alloc (grown_drewN GZ.out _) _) hg2 (fun k hk => .inr ((OZ.out.lt k hk).1))
        case measure => simp [intOf]; omega
      · obtain rfl : q = M := by omega
        have E9 : Hid (Z = mgX A B) := by
          have := EZ.out
          rwa [EA.out, List.drop_of_length_le (by rw [BL.out]; omega), mgX_nil, List.append_nil] at this
        go_wp2_with fail
        go_ret
        exact ⟨u, rfl, by rw [← E9.out]; exact OZ.out, GZ.out⟩
end Go.Proofs.Ytdekeibnehoeaaa
