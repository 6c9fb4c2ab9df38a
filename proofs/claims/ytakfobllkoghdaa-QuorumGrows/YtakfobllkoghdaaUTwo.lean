/- Two rows side by side; a number's bounds. -/
import Derived.Test.YtakfobllkoghdaaUArgs
namespace Go.Proofs.Ytakfobllkoghdaa
open Go.RowKit Quo
set_option linter.unusedVariables false

/-- Two rows of numbers, apart. -/
structure Two (w : World) (base : Nat) (v u : Value) (l k : List Int) : Prop where
  a : eK.Own w base v l
  b : eK.Own w base u k
  ne : ∀ q, v.ownBlock = some q → u.ownBlock ≠ some q
theorem Two.grown {w w' : World} {base : Nat} {v u : Value} {l k : List Int} (h : Two w base v u l k) (g : w.grownBy w' none) : Two w' base v u l k := ⟨h.a.grown g, h.b.grown g, h.ne⟩
theorem Two.swap {w : World} {base : Nat} {v u : Value} {l k : List Int} (h : Two w base v u l k) : Two w base u v k l := ⟨h.b, h.a, fun q h1 h2 => h.ne q h2 h1⟩
theorem Two.app {w w' : World} {base : Nat} {v v' u : Value} {l l' k : List Int} (h : Two w base v u l k) (ho : eK.Own w' base v' l') (hg : w.grownBy w' v.ownBlock) (hb : v'.ownBlock = v.ownBlock ∨ v'.ownBlock = some w.heap.size) : Two w' base v' u l' k := by
  refine ⟨ho, h.b.but hg fun q h1 h2 => h.ne q h2 h1, fun q h1 h2 => ?_⟩
  rcases hb with e | e
  · rw [e] at h1; exact h.ne q h1 h2
  · rw [e] at h1; injection h1 with h1; have := (h.b.lt q h2).2; omega
theorem filter_take {c : List Int} {k : Nat} {x : Int} (p : Int → Bool) (h : c[k]? = some x) : (c.take (k + 1)).filter p = (c.take k).filter p ++ (if p x = true then [x] else []) := by
  rw [List.take_add_one, h, List.filter_append]
  simp [List.filter_cons]
theorem filter_len (c : List Int) (k : Nat) (p : Int → Bool) : ((c.take k).filter p).length ≤ k := Nat.le_trans (List.length_filter_le _ _) (by rw [List.length_take]; exact Nat.min_le_left _ _)
def Bd (x : Int) : Prop := -9223372036854775808 ≤ x ∧ x ≤ 9223372036854775807
theorem lat_bd (id : Int) : ∀ (m : List (Int × Int)) (x : Int), Bd x → (∀ p ∈ m, Bd p.2) → Bd (m.foldl (fun a it => if it.1 = id then it.2 else a) x)
  | [], x, hx, _ => hx
  | p :: m, x, hx, h => by
    rw [List.foldl_cons]
    refine lat_bd id m _ ?_ fun q hq => h q (List.mem_cons_of_mem _ hq)
    split
    · exact h p (by simp)
    · exact hx
theorem rea_bd (c : List Int) (m : List (Int × Int)) (h : ∀ p ∈ m, Bd p.2) : Bd (rea c m) := by
  unfold rea
  split
  · rename_i hc
    have hv : c.map (lat m) ≠ [] := by have := chk_ne hc; simpa using this
    obtain ⟨x, _, hx⟩ := List.mem_map.1 (med_mem hv)
    rw [← hx]
    exact lat_bd x m 0 (by unfold Bd; omega) h
  · unfold Bd; omega
end Go.Proofs.Ytakfobllkoghdaa
