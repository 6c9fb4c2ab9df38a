/- New. -/
import Derived.Test.YtdpcebaggldaiaaGNew
import Derived.Test.YtdpcebaggldaiaaMf
namespace Go.Proofs.Ytdpcebaggldaiaa
open Go.RowKit Trl
open Rft (Nd Mg)
set_option linter.unusedVariables false
set_option maxRecDepth 10000

def Rft.blank (id : Int) (l : List Int) : Nd := ⟨id, l, 0, 0, 0, 0, 0, 0, [], ⟨#[]⟩, 0, 0, 0, [], [], []⟩
def Rft.new0 (id : Int) (l : List Int) : Nd := Rft.restart (Rft.blank id l)
theorem blank_nv (id : Int) (l : List Int) (s : S3) : nv (Rft.blank id l) ⟨s, nil3, nil3, nil3, nil3⟩ = .agg #[.int .i64 id, .slice s.a s.n s.c, .int .i64 0, .int .i64 0, .int .i64 0, .int .i64 0, .int .i64 0, .int .i64 0, .slice none 0 0, .string ⟨#[]⟩, .int .i64 0, .int .i64 0, .int .i64 0, .slice none 0 0, .slice none 0 0, .slice none 0 0] := rfl
theorem blank_rdn {id : Int} {l : List Int} {s : S3} {w : World} (h : eK.Rx w (.slice s.a s.n s.c) l) (hl : s.n = l.length) (hb : l.length * 8 ≤ 140737488351232) : Rdn w (Rft.blank id l) ⟨s, nil3, nil3, nil3, nil3⟩ :=
  ⟨h, Sl.nil w, .inl ⟨rfl, rfl⟩, .inl ⟨rfl, rfl⟩, .inl ⟨rfl, rfl⟩, hl, rfl, rfl, rfl, rfl, hb, by simp [Rft.blank], by simp [Rft.blank], by simp [Rft.blank], by simp [Rft.blank], by simp [nil3]⟩
theorem Restart_blank (id : Int) (l : List Int) (s : S3) (w : World) (h : Rdn w (Rft.blank id l) ⟨s, nil3, nil3, nil3, nil3⟩) : Calls Try.prog 26 #[.agg #[.int .i64 id, .slice s.a s.n s.c, .int .i64 0, .int .i64 0, .int .i64 0, .int .i64 0, .int .i64 0, .int .i64 0, .slice none 0 0, .string ⟨#[]⟩, .int .i64 0, .int .i64 0, .int .i64 0, .slice none 0 0, .slice none 0 0, .slice none 0 0]] w fun e w' => Cop w w' (Rft.new0 id l) e :=
  (congrArg (fun x => Calls Try.prog 26 #[x] w (fun e w' => Cop w w' (Rft.new0 id l) e)) (blank_nv id l s)).mp (Restart_any (Rft.blank id l) ⟨s, nil3, nil3, nil3, nil3⟩ w h)
theorem one_zero {w W : World} (g : (w.alloc (.cells #[.int .i64 0, .slice none 0 0, .int .i64 0, .int .i64 0, .int .i64 0, .int .i64 0, .int .i64 0, .int .i64 0, .slice none 0 0, .string ⟨#[]⟩, .int .i64 0, .int .i64 0, .int .i64 0, .slice none 0 0, .slice none 0 0, .slice none 0 0] 28)).grownBy W none) : Cs W w.heap.size [.int .i64 0, .slice none 0 0, .int .i64 0, .int .i64 0, .int .i64 0, .int .i64 0, .int .i64 0, .int .i64 0, .slice none 0 0, .string ⟨#[]⟩, .int .i64 0, .int .i64 0, .int .i64 0, .slice none 0 0, .slice none 0 0, .slice none 0 0] ∧ w.grownBy W none := by
  have g0 := World.grownBy_alloc w (.cells #[.int .i64 0, .slice none 0 0, .int .i64 0, .int .i64 0, .int .i64 0, .int .i64 0, .int .i64 0, .int .i64 0, .slice none 0 0, .string ⟨#[]⟩, .int .i64 0, .int .i64 0, .int .i64 0, .slice none 0 0, .slice none 0 0, .slice none 0 0] 28) none
  have hz := g.size
  have e : (w.alloc (.cells #[.int .i64 0, .slice none 0 0, .int .i64 0, .int .i64 0, .int .i64 0, .int .i64 0, .int .i64 0, .int .i64 0, .slice none 0 0, .string ⟨#[]⟩, .int .i64 0, .int .i64 0, .int .i64 0, .slice none 0 0, .slice none 0 0, .slice none 0 0] 28)).heap.size = w.heap.size + 1 := by simp
  exact ⟨⟨fun j v hv => by rw [Nat.zero_add]; exact cell_kept g j v (by simpa using hv), fun i => frozen_kept g i, by rw [e] at hz; omega⟩, grown_tr g0 g⟩
/-- What New answers. -/
def NewAns (w w' : World) (r : Nd) (e : Ending) : Prop := (Rft.ok r = false ∧ e = .returned (.tuple #[.agg #[.int .i64 0, .slice none 0 0, .int .i64 0, .int .i64 0, .int .i64 0, .int .i64 0, .int .i64 0, .int .i64 0, .slice none 0 0, .string ⟨#[]⟩, .int .i64 0, .int .i64 0, .int .i64 0, .slice none 0 0, .slice none 0 0, .slice none 0 0], .int .i64 1]) ∧ w.grownBy w' none) ∨ (Rft.ok r = true ∧ ∃ V T, e = .returned (.tuple #[nv r V, .int .i64 0]) ∧ Own5 w' w.heap.size r V T ∧ w.grownBy w' none)
set_option maxRecDepth 100000 in
set_option maxHeartbeats 1600000 in
theorem New_no (id : Int) (l : List Int) (s : S3) (w : World) (h : eK.Rx w (.slice s.a s.n s.c) l) (hl : s.n = l.length) (hb : l.length * 8 ≤ 140737488351232) (hk : Rft.ok (Rft.new0 id l) = false) : Calls Try.prog 12 #[.int .i64 id, .slice s.a s.n s.c] w fun e w' => NewAns w w' (Rft.new0 id l) e := by
  have h0 : Rdn w (Rft.blank id l) ⟨s, nil3, nil3, nil3, nil3⟩ := blank_rdn h hl hb
  have LN : Hid (Lens (Rft.new0 id l)) := Rft.restart_lens h0.lens
  have RS : Hid (∀ W, w.grownBy W none → _) := fun W g => Restart_blank id l s W (h0.grown g)
  generalize Rft.new0 id l = r at *
  have B0 := one_zero (grown_refl (w.alloc (.cells #[.int .i64 0, .slice none 0 0, .int .i64 0, .int .i64 0, .int .i64 0, .int .i64 0, .int .i64 0, .int .i64 0, .slice none 0 0, .string ⟨#[]⟩, .int .i64 0, .int .i64 0, .int .i64 0, .slice none 0 0, .slice none 0 0, .slice none 0 0] 28)) none)
  have G0 : Hid (w.grownBy (w.alloc (.cells #[.int .i64 0, .slice none 0 0, .int .i64 0, .int .i64 0, .int .i64 0, .int .i64 0, .int .i64 0, .int .i64 0, .slice none 0 0, .string ⟨#[]⟩, .int .i64 0, .int .i64 0, .int .i64 0, .slice none 0 0, .slice none 0 0, .slice none 0 0] 28)) none) := B0.2
  have BX : Hid (∀ {W : World}, (w.alloc (.cells #[.int .i64 0, .slice none 0 0, .int .i64 0, .int .i64 0, .int .i64 0, .int .i64 0, .int .i64 0, .int .i64 0, .slice none 0 0, .string ⟨#[]⟩, .int .i64 0, .int .i64 0, .int .i64 0, .slice none 0 0, .slice none 0 0, .slice none 0 0] 28)).grownBy W none → Cs W w.heap.size [.int .i64 0, .slice none 0 0, .int .i64 0, .int .i64 0, .int .i64 0, .int .i64 0, .int .i64 0, .int .i64 0, .slice none 0 0, .string ⟨#[]⟩, .int .i64 0, .int .i64 0, .int .i64 0, .slice none 0 0, .slice none 0 0, .slice none 0 0] ∧ w.grownBy W none) := fun {W} g => one_zero g
  have CK : Hid (∀ (V : Sv) (W : World), Rdn W r V → _) := fun V W h => Check_any r V W h
  have e1 : (w.alloc (.cells #[.int .i64 0, .slice none 0 0, .int .i64 0, .int .i64 0, .int .i64 0, .int .i64 0, .int .i64 0, .int .i64 0, .slice none 0 0, .string ⟨#[]⟩, .int .i64 0, .int .i64 0, .int .i64 0, .slice none 0 0, .slice none 0 0, .slice none 0 0] 28)).heap.size = w.heap.size + 1 := by simp
  have EZ : Hid ((w.alloc (.cells #[.int .i64 0, .slice none 0 0, .int .i64 0, .int .i64 0, .int .i64 0, .int .i64 0, .int .i64 0, .int .i64 0, .slice none 0 0, .string ⟨#[]⟩, .int .i64 0, .int .i64 0, .int .i64 0, .slice none 0 0, .slice none 0 0, .slice none 0 0] 28)).heap.size = w.heap.size + 1) := e1
  clear h h0 hl hb B0 e1
  rw [hk] at CK
  have HK : Hid (Rft.ok r = false) := hk
  clear hk
  go_enter Try.func12, Try.ntmps12
  go_wp2_with (first
    | (go_at_call 26; (with_reducible refine (RS.out _ G0.out).mono ?_); rintro e w1 ⟨V1, T1, rfl, o1, g1⟩)
    | (go_at_call 11; (with_reducible refine (CK.out V1 _ ((o1.grown (World.grownBy_alloc w1 _ none)).rdn LN.out)).mono ?_); rintro e w2 ⟨rfl, g2⟩; obtain ⟨Z2, H2⟩ := BX.out (grown_tr g1 (grown_tr (World.grownBy_alloc w1 _ none) g2)); have TH := Z2.there (n := 16) (by decide))
    | (refine store_row (ty := 28) w.heap.size #[.int .i64 0, .slice none 0 0, .int .i64 0, .int .i64 0, .int .i64 0, .int .i64 0, .int .i64 0, .int .i64 0, .slice none 0 0, .string ⟨#[]⟩, .int .i64 0, .int .i64 0, .int .i64 0, .slice none 0 0, .slice none 0 0, .slice none 0 0] rfl rfl TH (by kernel_rfl) (by simp [Value.oneCell']) ?_; intro w6 hr6 ht6 hg6))
  refine bodyPost_ret (res_row2 Try.results12 rfl hr6 Try.underlying28 rfl (by kernel_rfl)) rfl (.inl ⟨HK.out, rfl, grown_more H2 hg6 (fun k e => .inr (by injection e with e; omega))⟩)
end Go.Proofs.Ytdpcebaggldaiaa
