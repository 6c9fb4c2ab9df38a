/- 'CodeJoins', where a list is too long, and where a field is refused. -/
import Derived.Test.YtmolldednpdicaaCFl
import Derived.Test.YtmolldednpdicaaCJoinsMath
import Derived.Deep.QuietTactic
import Derived.BigQuiet
namespace Go.Proofs.Ytmolldednpdicaa
open Go.RowKit

theorem Fl.next {w w' : World} {v : Value} {fs : List Code.Fd} (h : Fl w v fs) (g : w.grownBy w' none) : Fl w' v fs := h.grown g (by cases v.ownBlock <;> simp)
theorem Rd.next {w w' : World} {v : Value} {l : List Int} (h : Rd w v l) (g : w.grownBy w' none) : Rd w' v l := h.grown g (by cases v.ownBlock <;> simp)

theorem grown_drewN {w w' : World} {r : Option Nat} (h : w.grownBy w' r) (n : Nat) : w.grownBy (w'.drewN n) r := ⟨h.os, h.tape, h.output, h.size, h.block⟩

set_option maxRecDepth 100000 in
theorem joins_great (w : World) (aa : Option Addr) (na ca : Nat) (ab : Option Addr) (nb cb : Nat) (hl : (4096 : Int) < na ∨ (4096 : Int) < nb) :
    Calls Try.prog 7 #[.slice aa na ca, .slice ab nb cb] w fun e w' => e = .returned (.bool true) ∧ Below w.heap.size w w' := by
  have hnot : ∀ (x : Bool) (w : World), (Op.unary .not (.bool x)).run Try.prog w = .ok (.bool (!x)) w := fun _ _ => rfl
  by_cases h1 : (4096 : Int) < na
  · clear hl
    go_enter Try.func7, Try.ntmps7
    go_wp2_with (go_at_call 9; refine (awake_any _).mono ?_; rintro e w1 ⟨rfl, hg1⟩)
    go_ret
    exact ⟨rfl, grown_below hg1⟩
  · have h2 : (4096 : Int) < nb := by omega
    have h1' : (na : Int) ≤ 4096 := by omega
    clear hl h1
    go_enter Try.func7, Try.ntmps7
    go_wp2_with (go_at_call 9; refine (awake_any _).mono ?_; rintro e w1 ⟨rfl, hg1⟩)
    go_ret
    exact ⟨rfl, grown_below hg1⟩

/-- What 'Encode' answers, told by one Boolean. -/
def encErr (fs : List Code.Fd) : Int := if ∀ f ∈ fs, Code.Fits f then 0 else 1
def encOut (fs : List Code.Fd) : List Int := if ∀ f ∈ fs, Code.Fits f then Code.enc fs else []
theorem encode_out (v : Value) (fs : List Code.Fd) (w : World) (hv : Fl w v fs) (hl : fs.length ≤ 1000000000) :
    Calls Try.prog 10 #[v] w fun e w' => ∃ a c, e = .returned (.tuple #[.slice a (encOut fs).length c, .int .i64 (encErr fs)]) ∧ Own w' w.heap.size (.slice a (encOut fs).length c) (encOut fs) ∧ w.grownBy w' none := by
  refine (encode_any v fs w hv hl).mono fun e w' ⟨h1, h⟩ => ?_
  unfold encErr encOut
  rcases h with ⟨hf, v', he, hO⟩ | ⟨hf, he⟩
  · rw [if_pos hf, if_pos hf]
    have hlen : (Code.enc fs).length ≤ fs.length * 65546 := Code.enc_len (fun f hm => ⟨hf f hm, hv.in64 f hm⟩) (Nat.le_refl _)
    obtain ⟨a, c, rfl, _, _⟩ := (hO.sl (by omega)).cap
    exact ⟨a, c, he, hO, h1⟩
  · rw [if_neg hf, if_neg hf]
    exact ⟨none, 0, he, ⟨World.ownsRow_nil w' _ _ _, fun _ h => (List.not_mem_nil h).elim⟩, h1⟩

set_option maxRecDepth 100000 in
set_option maxHeartbeats 1600000 in
theorem joins_bad (w : World) (aa : Option Addr) (ca : Nat) (fs : List Code.Fd) (ab : Option Addr) (cb : Nat) (gs : List Code.Fd)
    (ha : Fl w (.slice aa fs.length ca) fs) (hb : Fl w (.slice ab gs.length cb) gs) (hla : (fs.length : Int) ≤ 4096) (hlb : (gs.length : Int) ≤ 4096) (hz64 : ∀ f ∈ fs ++ gs, Code.In64 f.n)
    (ea eb ez : Int) (la lb lz : List Int)
    (CA : ∀ w', w.grownBy w' none → Calls Try.prog 10 #[.slice aa fs.length ca] w' fun e w'' => ∃ a c, e = .returned (.tuple #[.slice a la.length c, .int .i64 ea]) ∧ Own w'' w'.heap.size (.slice a la.length c) la ∧ w'.grownBy w'' none)
    (CB : ∀ w', w.grownBy w' none → Calls Try.prog 10 #[.slice ab gs.length cb] w' fun e w'' => ∃ a c, e = .returned (.tuple #[.slice a lb.length c, .int .i64 eb]) ∧ Own w'' w'.heap.size (.slice a lb.length c) lb ∧ w'.grownBy w'' none)
    (CZ : ∀ v w', Fl w' v (fs ++ gs) → Calls Try.prog 10 #[v] w' fun e w'' => ∃ a c, e = .returned (.tuple #[.slice a lz.length c, .int .i64 ez]) ∧ Own w'' w'.heap.size (.slice a lz.length c) lz ∧ w'.grownBy w'' none)
    (hz : ez = 1) (hl : lz = []) (he : (ea == 0) = false ∨ (eb == 0) = false) :
    Calls Try.prog 7 #[.slice aa fs.length ca, .slice ab gs.length cb] w fun e w' => e = .returned (.bool true) ∧ Below w.heap.size w w' := by
  have hnot : ∀ (x : Bool) (w : World), (Op.unary .not (.bool x)).run Try.prog w = .ok (.bool (!x)) w := fun _ _ => rfl
  subst hz hl
  have H : Hid ((ea == 0) = false ∨ (eb == 0) = false) := he
  clear he
  go_enter Try.func7, Try.ntmps7
  go_wp2_with (first
    | (go_at_call 9; refine (awake_any _).mono ?_; rintro e w1 ⟨rfl, hg1⟩; have tok1 : True := trivial)
    | (go_at_call 10; have _t := tok1; go_must (refine (CA w1 hg1).mono ?_); rintro e w2 ⟨xa, xc, rfl, hX2, hg2⟩; clear tok1; have gg2 := grown_more hg1 hg2 (by simp); have tok2 : True := trivial)
    | (go_at_call 10; have _t := tok2; go_must (refine (CB w2 gg2).mono ?_); rintro e w3 ⟨ya, yc, rfl, hY3, hg3⟩; clear tok2; have gg3 := grown_more gg2 hg3 (by simp); have hE3 := ownF_empty w3 w3.heap.size rfl; have ha3 := (ha.next gg3).next (World.grownBy_alloc w3 (.cells #[] 38) none); have tok3 : True := trivial)
    | (at_builtin; have _t := tok3; go_must (refine wpList_append_fl rfl (.tmp 34) (.tmp 35) rfl w3.heap.size _ [] rfl hE3 _ fs rfl ha3 (by simp <;> omega) (by simp) ?_); intro v4 w4 hO4 hg4; clear tok3; have gg4 : w3.grownBy w4 none := grown_more (World.grownBy_alloc w3 _ none) hg4 (fun b e => .inr (hE3.lt b e).1); have hb4 := (hb.next gg3).next gg4; have hz4 := gg4.size; simp only [List.nil_append] at hO4; have tok4 : True := trivial)
    | (at_builtin; have _t := tok4; go_must (refine wpList_append_fl rfl (.tmp 37) (.tmp 38) rfl w3.heap.size _ fs rfl hO4 _ gs rfl hb4 (by omega) (by omega) ?_); intro v5 w5 hO5 hg5; clear tok4; have gg5 : w3.grownBy w5 none := grown_more gg4 hg5 (fun b e => .inr (hO4.lt b e).1); have tok5 : True := trivial)
    | (go_at_call 10; have _t := tok5; go_must (refine (CZ _ w5 (hO5.fl hz64)).mono ?_); rintro e w6 ⟨za, zc, rfl, hZ6, hg6⟩; clear tok5; have gg6 := grown_more gg5 hg6 (by simp)))
  all_goals first
    | (go_ret; exact ⟨rfl, grown_below (grown_more gg3 gg6 (by simp))⟩)
    | (exfalso; have := H.out; simp at *; omega)

end Go.Proofs.Ytmolldednpdicaa
