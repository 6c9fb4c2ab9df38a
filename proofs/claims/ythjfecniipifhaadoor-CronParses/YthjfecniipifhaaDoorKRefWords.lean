/- What the document's own 'words' answers. -/
import Derived.Test.YthjfecniipifhaaDoorKRefDigits
import Derived.WalkSpells
namespace Go.Proofs.YthjfecniipifhaaDoor.Cro
theorem wds_at {l : List UInt8} {i k : Nat} (hik : i ≤ k) (hk : k ≤ l.length) (hi : i < l.length) (hnb : ∀ j, i ≤ j → j < k → blk (l.getD j 0) = false) (hend : k = l.length ∨ blk (l.getD k 0) = true) :
    wds [] (l.drop i) = (if i < k then [(l.drop i).take (k - i)] else []) ++ wds [] (l.drop (k + 1)) := by
  rw [wds_skip (k - i) [] (l.drop i) (by rw [List.length_drop]; omega) (fun j hj => by
    have := hnb (i + j) (by omega) (by omega)
    rw [List.getD_eq_getElem?_getD, List.getElem?_drop, ← List.getD_eq_getElem?_getD]
    exact this), List.drop_drop, show i + (k - i) = k by omega, List.nil_append]
  have hP : (l.drop i).take (k - i) = [] ↔ ¬ i < k := by
    rw [← List.length_eq_zero_iff, List.length_take, List.length_drop]
    omega
  by_cases he : k = l.length
  · rw [(List.drop_eq_nil_of_le (by omega) : l.drop k = []), (List.drop_eq_nil_of_le (by omega) : l.drop (k + 1) = []), if_pos (by omega), wds, wds, if_neg (fun h => hP.mp h (by omega))]
    simp
  · have hb : blk (l.getD k 0) = true := by
      rcases hend with h | h
      · exact absurd h he
      · exact h
    rw [List.drop_eq_getElem_cons (by omega : k < l.length), wds]
    have e : l[k]'(by omega) = l.getD k 0 := by simp [List.getD_eq_getElem?_getD, List.getElem?_eq_getElem (by omega : k < l.length)]
    rw [e, if_pos hb]
    by_cases c : i < k
    · rw [if_pos c, if_neg (fun h => hP.mp h c)]
      rfl
    · rw [if_neg c, if_pos (hP.mpr c)]
      rfl
end Go.Proofs.YthjfecniipifhaaDoor.Cro
namespace Go.Proofs.YthjfecniipifhaaDoor
open Go.RowKit
set_option linter.unusedVariables false
theorem extract_str (s : ByteArray) (i k : Nat) : Value.string (s.extract i k) = str ((s.data.toList.drop i).take (k - i)) := by
  show Value.string _ = Value.string _
  congr 1
  refine ba_of ?_
  simp [ByteArray.data_extract, Array.toList_extract]

set_option maxRecDepth 100000 in
set_option maxHeartbeats 1600000 in
theorem rWords (s : ByteArray) (hs : s.size ≤ 256) (w : World) :
    Calls Tryd.prog 21 #[.string s] w fun e w' => ∃ v, e = .returned v ∧ OwnS w' w.heap.size v (Cro.wds [] s.data.toList) ∧ w.grownBy w' none := by
  have HLen : Hid (s.data.toList.length = s.size) := by show _ = _; simp
  obtain ⟨L, hL⟩ : ∃ L, L = Cro.wds [] s.data.toList := ⟨_, rfl⟩
  have HL : Hid (L = [] ++ Cro.wds [] (s.data.toList.drop 0)) := by show _ = _; rw [List.drop_zero]; exact hL
  rw [← hL]
  clear hL
  go_enter Tryd.func21, Tryd.ntmps21
  go_wp2
  go_loopw [3, 4] (fun v vi wr => ∃ (i : Nat) (l : List (List UInt8)), vi = .int .i64 i ∧ i ≤ s.size + 1 ∧ OwnS wr w.heap.size v l ∧ w.grownBy wr none ∧ l.length ≤ i ∧ Hid (L = l ++ Cro.wds [] (s.data.toList.drop i))) (fun _ vi _ => (s.size + 1 - (intOf vi).toNat))
  case atStart => exact ⟨0, [], rfl, by omega, OwnS.nil _ _, grown_refl _ _, by simp, HL⟩
  case round =>
    obtain ⟨i, l, rfl, hi, hO, hG, hl, HI⟩ := hrel
    by_cases hlt : i < s.size
    · go_wp2
      go_loop [5] (fun vk => ∃ k : Nat, vk = .int .i64 k ∧ i ≤ k ∧ k ≤ s.size ∧ Hid (∀ j, i ≤ j → j < k → Cro.blk (s.data.toList.getD j 0) = false)) (fun vk => (s.size + 1 - (intOf vk).toNat))
      case atStart => exact ⟨i, rfl, by omega, by omega, fun j h1 h2 => by omega⟩
      case round =>
        obtain ⟨k, rfl, hik, hk, HN⟩ := hrel
        have HW : Hid ((k = s.size ∨ Cro.blk (s.data.toList.getD k 0) = true) → L = l ++ ((if i < k then [(s.data.toList.drop i).take (k - i)] else []) ++ Cro.wds [] (s.data.toList.drop (k + 1)))) := fun h => by
          rw [← Cro.wds_at hik (by rw [HLen.out]; exact hk) (by rw [HLen.out]; exact hlt) HN.out (by rw [HLen.out]; exact h)]
          exact HI.out
        obtain ⟨P, hP⟩ : ∃ P, P = (s.data.toList.drop i).take (k - i) := ⟨_, rfl⟩
        have HP : Hid (P = (s.data.toList.drop i).take (k - i)) := hP
        have hsl : ∀ wx : World, (Instr.slice 9 (.string s) (some (.int .i64 (i : Int))) (some (.int .i64 (k : Int))) none).run Tryd.prog wx = .ok (str P) wx := fun wx => by
          rw [run_slice_string (P := Tryd.prog) wx 9 s .i64 .i64 (i : Int) (k : Int) Tryd.underlying9 (by omega) (by omega) (by omega)]
          simp only [Int.toNat_natCast]
          rw [extract_str, hP]
        clear hP
        by_cases hk2 : k < s.size
        · have z0 : decide ((k : Int) < (s.size : Int)) = true := decide_eq_true (by omega)
          obtain ⟨b, hb⟩ : ∃ b, s.data.toList[k]? = some b := ⟨_, List.getElem?_eq_getElem (by have := HLen.out; omega)⟩
          have hix := index_at (P := Tryd.prog) Tryd.underlying9 s k b hb
          have hgd : s.data.toList.getD k 0 = b := by rw [List.getD_eq_getElem?_getD, hb]; rfl
          rw [hgd] at HW
          have HGD : Hid (s.data.toList.getD k 0 = b) := hgd
          clear hb hgd
          by_cases b32 : b = 32
          · have y1 : ((b.toNat : Int) != 32) = false := by subst b32; decide
            have hw := HW.out (.inr (by subst b32; decide))
            clear b32 HGD
            by_cases hc : i < k
            · have HI' : Hid (L = (l ++ [P]) ++ Cro.wds [] (s.data.toList.drop (k + 1))) := by show _ = _; rw [hw, if_pos hc, HP.out]; simp
              clear hw HN HP HI
              clear HW
              go_wp2_with (refine wpList_append_str rfl (.tmp 32) (.tmp 37) rfl w.heap.size _ l rfl (hO.kept (World.grownBy_alloc _ _ none)) _ P rfl (by rw [World.cell?_alloc_new]; rfl) (by omega) (by have := hG.size; simp; omega) ?_; intro v4 w4 hO4 hg4)
              go_roundw
              case rel => exact ⟨k + 1, l ++ [P], by go_num, by omega, hO4, grown_ownS (grown_alloc hG _) (hO.kept (World.grownBy_alloc _ _ none)) (by omega) hg4, by simp; omega, HI'⟩
              case measure => simp [intOf]; omega
            · have HI' : Hid (L = l ++ Cro.wds [] (s.data.toList.drop (k + 1))) := by show _ = _; rw [hw, if_neg hc]; simp
              clear hw HN HP HW HI
              go_wp2
              go_roundw
              case rel => exact ⟨k + 1, l, by go_num, by omega, hO, hG, by omega, HI'⟩
              case measure => simp [intOf]; omega
          · have y1 : ((b.toNat : Int) != 32) = true := by
              have : b.toNat ≠ 32 := fun e => b32 (UInt8.toNat_inj.mp e)
              simp; omega
            by_cases b9 : b = 9
            · have y2 : ((b.toNat : Int) != 9) = false := by subst b9; decide
              have hw := HW.out (.inr (by subst b9; decide))
              clear b9 b32 HGD
              by_cases hc : i < k
              · have HI' : Hid (L = (l ++ [P]) ++ Cro.wds [] (s.data.toList.drop (k + 1))) := by show _ = _; rw [hw, if_pos hc, HP.out]; simp
                clear hw HN HP HI
                clear HW
                go_wp2_with (refine wpList_append_str rfl (.tmp 32) (.tmp 37) rfl w.heap.size _ l rfl (hO.kept (World.grownBy_alloc _ _ none)) _ P rfl (by rw [World.cell?_alloc_new]; rfl) (by omega) (by have := hG.size; simp; omega) ?_; intro v4 w4 hO4 hg4)
                go_roundw
                case rel => exact ⟨k + 1, l ++ [P], by go_num, by omega, hO4, grown_ownS (grown_alloc hG _) (hO.kept (World.grownBy_alloc _ _ none)) (by omega) hg4, by simp; omega, HI'⟩
                case measure => simp [intOf]; omega
              · have HI' : Hid (L = l ++ Cro.wds [] (s.data.toList.drop (k + 1))) := by show _ = _; rw [hw, if_neg hc]; simp
                clear hw HN HP HW HI
                go_wp2
                go_roundw
                case rel => exact ⟨k + 1, l, by go_num, by omega, hO, hG, by omega, HI'⟩
                case measure => simp [intOf]; omega
            · have y2 : ((b.toNat : Int) != 9) = true := by
                have : b.toNat ≠ 9 := fun e => b9 (UInt8.toNat_inj.mp e)
                simp; omega
              have HN' : Hid (∀ j, i ≤ j → j < k + 1 → Cro.blk (s.data.toList.getD j 0) = false) := fun j h1 h2 => by
                rcases Nat.lt_succ_iff_lt_or_eq.mp h2 with h | h
                · exact HN.out j h1 h
                · rw [h, HGD.out]
                  unfold Cro.blk
                  simp [b32, b9]
              clear HN HW b32 b9 HGD hsl HP
              go_wp2
              go_round
              case rel => exact ⟨k + 1, by go_num, by omega, by omega, HN'⟩
              case measure => simp [intOf]; omega
        · have z0 : decide ((k : Int) < (s.size : Int)) = false := decide_eq_false (by omega)
          have hw := HW.out (.inl (by omega))
          have hc : i < k := by omega
          have HI' : Hid (L = (l ++ [P]) ++ Cro.wds [] (s.data.toList.drop (k + 1))) := by show _ = _; rw [hw, if_pos hc, HP.out]; simp
          clear hw HN HP HI
          clear HW
          go_wp2_with (refine wpList_append_str rfl (.tmp 32) (.tmp 37) rfl w.heap.size _ l rfl (hO.kept (World.grownBy_alloc _ _ none)) _ P rfl (by rw [World.cell?_alloc_new]; rfl) (by omega) (by have := hG.size; simp; omega) ?_; intro v4 w4 hO4 hg4)
          go_roundw
          case rel => exact ⟨k + 1, l ++ [P], by go_num, by omega, hO4, grown_ownS (grown_alloc hG _) (hO.kept (World.grownBy_alloc _ _ none)) (by omega) hg4, by simp; omega, HI'⟩
          case measure => simp [intOf]; omega
    · have hE : L = l := by
        rw [HI.out, List.drop_eq_nil_of_le (by rw [HLen.out]; omega), Cro.wds]
        simp
      have hO' : OwnS wr w.heap.size u3 L := by rw [hE]; exact hO
      clear hE HI hO HL
      go_wp2
      go_ret
      exact ⟨_, rfl, hO', hG⟩
end Go.Proofs.YthjfecniipifhaaDoor
