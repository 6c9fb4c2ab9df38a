/- Packets numbered from 1 on; a row that grows beside a mesh. -/
import Derived.Test.YtffbaomaiohdiaaMCutsM
namespace Go.Proofs.Ytffbaomaiohdiaa
namespace Msh
/-- Numbered from 1 on. -/
def Num (l : List Pk) : Prop := ∀ (k : Nat) (p : Pk), l[k]? = some p → p.id = (k : Int) + 1
theorem num_nil : Num [] := fun k p h => by simp at h
theorem num_app {l : List Pk} (h : Num l) {p : Pk} (hp : p.id = (l.length : Int) + 1) : Num (l ++ [p]) := fun k q hq => by
  by_cases hk : k < l.length
  · rw [List.getElem?_append_left hk] at hq
    exact h k q hq
  · rw [List.getElem?_append_right (by omega)] at hq
    have hk2 : k - l.length = 0 := by
      have := (List.getElem?_eq_some_iff.1 hq).1
      simp at this
      omega
    rw [hk2] at hq
    simp at hq
    subst hq
    rw [hp]
    omega
theorem dbl_yes {l : List Pk} {t : Int} {cs : List (Int × Int)} {p : Pk} (hr : l.Pairwise fun p q => p.id < q.id) (hl : l.length ≤ 500) {k : Nat} (hp : l[k]? = some p) (hid : p.id = t) :
    dblE ⟨l, l.length, cs⟩ t = 0 ∧ dblI ⟨l, l.length, cs⟩ t = (l.length : Int) + 1 ∧ dblS ⟨l, l.length, cs⟩ t = ⟨l ++ [⟨(l.length : Int) + 1, p.fm, p.tt, p.body⟩], l.length + 1, cs⟩ := by
  have ht : there l t = true := by unfold there; exact List.any_eq_true.2 ⟨p, List.mem_of_getElem? hp, by simp [hid]⟩
  subst hid
  have hps := pos_is hr hp
  unfold dblE dblI dblS
  rw [if_pos ht, if_pos ht, if_pos ht]
  unfold entE entI entS
  show (if l.length = 512 then _ else _) = _ ∧ (if l.length = 512 then _ else _) = _ ∧ (if l.length = 512 then _ else _) = _
  rw [if_neg (by omega), if_neg (by omega), if_neg (by omega)]
  refine ⟨rfl, rfl, ?_⟩
  show Ms.mk (l ++ [⟨_, (at_ l (pos l p.id)).fm, (at_ l (pos l p.id)).tt, (at_ l (pos l p.id)).body⟩]) _ _ = _
  rw [hps, at_is hp]
theorem dbl_no {s : Ms} {t : Int} (h : there s.l t = false) : dblE s t = 151 ∧ dblI s t = 0 ∧ dblS s t = s := by
  unfold dblE dblI dblS
  rw [h]
  exact ⟨rfl, rfl, rfl⟩
end Msh
open Go.RowKit Msh
set_option linter.unusedVariables false
set_option maxRecDepth 10000

theorem Duo.app {W w w' : World} {b : Nat} {s : Ms} {v v' : Value} {l l' : List Pk} (d : Duo W w b s (RowR v l)) (hO : eP.Own w' 0 v' l') (g : w.grownBy w' v.ownBlock) (hb : ∀ k, v'.ownBlock = some k → v.ownBlock = some k ∨ w.heap.size ≤ k) : Duo W w' b s (RowR v' l') := by
  obtain ⟨F, G, hM, ⟨hR, hRG⟩, hd, hF, hG, hW⟩ := d
  have hs := hW.size
  refine ⟨F, fun k => v'.ownBlock = some k, hM.kept (G := fun k => v.ownBlock = some k) (Chg.of g fun _ e => e) (fun k hk e => hd k hk (hRG k e)), ⟨hO, fun _ => id⟩, fun k hk e => ?_, hF, fun k hk => ⟨?_, (hO.lt k hk).2⟩, ?_⟩
  · rcases hb k e with e | e
    · exact hd k hk (hRG k e)
    · have := hM.lt k hk; omega
  · rcases hb k hk with e | e
    · exact (hG k (hRG k e)).1
    · omega
  · exact (((Chg.of (F := fun _ => False) hW (by simp))).trans (Chg.of (F := fun k => v.ownBlock = some k) g fun _ e => e) fun k hk => .inr (hG k (hRG k hk)).1).none
theorem Duo.withNil {W w : World} {b : Nat} {s : Ms} (d : Duo W w b s Alone) : Duo W w b s (RowR (.slice none 0 0) []) := by
  obtain ⟨F, G, hM, hR, hd, hF, hG, hW⟩ := d
  exact ⟨F, G, hM, ⟨Elm.nil _ _, fun k h => by simp [Value.ownBlock] at h⟩, hd, hF, hG, hW⟩
end Go.Proofs.Ytffbaomaiohdiaa
