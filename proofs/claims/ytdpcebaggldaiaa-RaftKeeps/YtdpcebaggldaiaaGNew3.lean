/- New, of what is right. -/
import Derived.Test.YtdpcebaggldaiaaGNew2
namespace Go.Proofs.Ytdpcebaggldaiaa
open Go.RowKit Trl
open Rft (Nd Mg)
set_option linter.unusedVariables false
set_option maxRecDepth 10000

set_option maxRecDepth 100000 in
set_option maxHeartbeats 1600000 in
theorem New_yes (id : Int) (l : List Int) (s : S3) (w : World) (h : eK.Rx w (.slice s.a s.n s.c) l) (hl : s.n = l.length) (hb : l.length * 8 ≤ 140737488351232) (hk : Rft.ok (Rft.new0 id l) = true) : Calls Try.prog 12 #[.int .i64 id, .slice s.a s.n s.c] w fun e w' => NewAns w w' (Rft.new0 id l) e := by
  have h0 : Rdn w (Rft.blank id l) ⟨s, nil3, nil3, nil3, nil3⟩ := blank_rdn h hl hb
  have LN : Hid (Lens (Rft.new0 id l)) := Rft.restart_lens h0.lens
  have RS : Hid (∀ W, w.grownBy W none → _) := fun W g => Restart_blank id l s W (h0.grown g)
  generalize Rft.new0 id l = r at *
  have B0 := one_zero (grown_refl (w.alloc (.cells #[.int .i64 0, .slice none 0 0, .int .i64 0, .int .i64 0, .int .i64 0, .int .i64 0, .int .i64 0, .int .i64 0, .slice none 0 0, .string ⟨#[]⟩, .int .i64 0, .int .i64 0, .int .i64 0, .slice none 0 0, .slice none 0 0, .slice none 0 0] 28)) none)
  have G0 : Hid (w.grownBy (w.alloc (.cells #[.int .i64 0, .slice none 0 0, .int .i64 0, .int .i64 0, .int .i64 0, .int .i64 0, .int .i64 0, .int .i64 0, .slice none 0 0, .string ⟨#[]⟩, .int .i64 0, .int .i64 0, .int .i64 0, .slice none 0 0, .slice none 0 0, .slice none 0 0] 28)) none) := B0.2
  have BX : Hid (∀ {W : World}, (w.alloc (.cells #[.int .i64 0, .slice none 0 0, .int .i64 0, .int .i64 0, .int .i64 0, .int .i64 0, .int .i64 0, .int .i64 0, .slice none 0 0, .string ⟨#[]⟩, .int .i64 0, .int .i64 0, .int .i64 0, .slice none 0 0, .slice none 0 0, .slice none 0 0] 28)).grownBy W none → Cs W w.heap.size [.int .i64 0, .slice none 0 0, .int .i64 0, .int .i64 0, .int .i64 0, .int .i64 0, .int .i64 0, .int .i64 0, .slice none 0 0, .string ⟨#[]⟩, .int .i64 0, .int .i64 0, .int .i64 0, .slice none 0 0, .slice none 0 0, .slice none 0 0] ∧ w.grownBy W none) := fun {W} g => one_zero g
  have CK : Hid (∀ (V : Sv) (W : World), Rdn W r V → _) := fun V W h => Check_any r V W h
  have e1 : (w.alloc (.cells #[.int .i64 0, .slice none 0 0, .int .i64 0, .int .i64 0, .int .i64 0, .int .i64 0, .int .i64 0, .int .i64 0, .slice none 0 0, .string ⟨#[]⟩, .int .i64 0, .int .i64 0, .int .i64 0, .slice none 0 0, .slice none 0 0, .slice none 0 0] 28)).heap.size = w.heap.size + 1 := by simp
  have EZ : Hid ((w.alloc (.cells #[.int .i64 0, .slice none 0 0, .int .i64 0, .int .i64 0, .int .i64 0, .int .i64 0, .int .i64 0, .int .i64 0, .slice none 0 0, .string ⟨#[]⟩, .int .i64 0, .int .i64 0, .int .i64 0, .slice none 0 0, .slice none 0 0, .slice none 0 0] 28)).heap.size = w.heap.size + 1) := e1
  clear h h0 hl hb B0 e1
  rw [hk] at CK
  have HK : Hid (Rft.ok r = true) := hk
  clear hk
  go_enter Try.func12, Try.ntmps12
  go_wp2_with (first
    | (go_at_call 26; (with_reducible refine (RS.out _ G0.out).mono ?_); rintro e w1 ⟨V1, T1, rfl, o1, g1⟩)
    | (go_at_call 11; (with_reducible refine (CK.out V1 _ ((o1.grown (World.grownBy_alloc w1 _ none)).rdn LN.out)).mono ?_); rintro e w2 ⟨rfl, g2⟩; obtain ⟨Z2, H2⟩ := BX.out (grown_tr g1 (grown_tr (World.grownBy_alloc w1 _ none) g2)); have TH := Z2.there (n := 16) (by decide); have x := (box_node g2).1; have x0 := x.at_ 0 rfl; have x1 := x.at_ 1 rfl; have x2 := x.at_ 2 rfl; have x3 := x.at_ 3 rfl; have x4 := x.at_ 4 rfl; have x5 := x.at_ 5 rfl; have x6 := x.at_ 6 rfl; have x7 := x.at_ 7 rfl; have x8 := x.at_ 8 rfl; have x9 := x.at_ 9 rfl; have x10 := x.at_ 10 rfl; have x11 := x.at_ 11 rfl; have x12 := x.at_ 12 rfl; have x13 := x.at_ 13 rfl; have x14 := x.at_ 14 rfl; have x15 := x.at_ 15 rfl)
    | (refine store_row (ty := 28) w.heap.size (nc r V1).toArray rfl rfl TH (by kernel_rfl) (by simp [Value.oneCell']) ?_; intro w6 hr6 ht6 hg6))
  have hz := EZ.out
  have O2 := (o1.grown (grown_tr (World.grownBy_alloc w1 _ none) g2)).kept (F := fun k => k = w.heap.size) (Chg.of hg6 (fun k e => by injection e with e; exact e.symm)) (fun k hk _ e => by omega)
  refine bodyPost_ret (res_row2 Try.results12 rfl hr6 Try.underlying28 rfl (by kernel_rfl)) rfl (.inr ⟨HK.out, V1, T1, rfl, ⟨O2.c.low (by omega), O2.e.low (by omega), O2.v.low (by omega), O2.n.low (by omega), O2.m.low (by omega)⟩, grown_more H2 hg6 (fun k e => .inr (by injection e with e; omega))⟩)
theorem New_any (id : Int) (l : List Int) (s : S3) (w : World) (h : eK.Rx w (.slice s.a s.n s.c) l) (hl : s.n = l.length) (hb : l.length * 8 ≤ 140737488351232) : Calls Try.prog 12 #[.int .i64 id, .slice s.a s.n s.c] w fun e w' => NewAns w w' (Rft.new0 id l) e := by
  cases hk : Rft.ok (Rft.new0 id l) with
  | false => exact New_no id l s w h hl hb hk
  | true => exact New_yes id l s w h hl hb hk
end Go.Proofs.Ytdpcebaggldaiaa
