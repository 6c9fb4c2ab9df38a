/- The statements' first look, 'awake', answers true and writes nothing that was there. -/
import Derived.Test.YtmolldednpdicaaCDecode
namespace Go.Proofs.Ytmolldednpdicaa
open Go.RowKit

def strAb : ByteArray := ⟨#[97, 98]⟩
def three : List Code.Fd := [⟨1, 300, ⟨#[]⟩⟩, ⟨2, -1, ⟨#[]⟩⟩, ⟨3, 0, strAb⟩]
theorem put300 : Code.put 300 = [172, 2] := by rw [Code.put_big (by decide), Code.put_small (by decide)]; rfl
theorem enc_three : Code.enc three = [172, 2, 1, 2, 97, 98] := by
  have h1 : Code.fb ⟨1, 300, ⟨#[]⟩⟩ = [172, 2] := by simp only [Code.fb, if_neg (show ¬ (1 : Int) = 2 by decide), if_neg (show ¬ (1 : Int) = 3 by decide)]; exact put300
  have h2 : Code.fb ⟨2, -1, ⟨#[]⟩⟩ = [1] := by simp only [Code.fb, if_pos]; exact Code.put_small (by decide)
  have h3 : Code.fb ⟨3, 0, strAb⟩ = [2, 97, 98] := by
    simp only [Code.fb, if_neg (show ¬ (3 : Int) = 2 by decide), if_pos]
    have : strAb.size = 2 := by decide
    rw [this, Code.put_small (by decide)]
    decide
  unfold three
  simp only [Code.enc_cons, h1, h2, h3, Code.enc_nil]
  rfl
theorem three_fits : ∀ f ∈ three, Code.Fits f := by
  intro f hf
  simp only [three, List.mem_cons, List.not_mem_nil, or_false] at hf
  rcases hf with rfl | rfl | rfl <;> decide
theorem three_in : ∀ f ∈ three, Code.In64 f.n := by
  intro f hf
  simp only [three, List.mem_cons, List.not_mem_nil, or_false] at hf
  rcases hf with rfl | rfl | rfl <;> unfold Code.In64 <;> decide
theorem dec_known : Code.dec [1] [172, 2] = .ok [⟨1, 300, Code.ofB []⟩] := by
  have h := Code.dec_enc (fs := [⟨1, 300, ⟨#[]⟩⟩]) (by intro f hf; simp at hf; subst hf; exact ⟨.inl ⟨rfl, by decide⟩, by unfold Code.In64; decide⟩)
  have e : Code.enc [⟨1, 300, ⟨#[]⟩⟩] = [172, 2] := by
    rw [Code.enc_cons, Code.enc_nil]
    simp only [Code.fb, if_neg (show ¬ (1 : Int) = 2 by decide), if_neg (show ¬ (1 : Int) = 3 by decide)]
    rw [List.append_nil]; exact put300
  rw [e] at h
  exact h

/-- Fields that lie in the newest block. -/
theorem fl_new (w : World) (fs : List Code.Fd) (h64 : ∀ f ∈ fs, Code.In64 f.n) (t : TypeId) (C : Array Value) (hC : C = (fcs fs).toArray) (n cap : Nat) (hn : n = w.heap.size) :
    Fl (w.alloc (.cells C t)) (.slice (some ⟨n, 0, none⟩) fs.length cap) fs := by
  subst hn hC
  refine ⟨h64, .inr ⟨w.heap.size, 0, cap, rfl, fun i hi => ?_⟩⟩
  obtain ⟨c1, c2, c3⟩ := fcs_get fs i hi
  refine ⟨?_, ?_, ?_⟩
  · rw [World.cell?_alloc_new]; simpa using c1
  · rw [World.cell?_alloc_new]; simpa using c2
  · rw [World.cell?_alloc_new]; simpa using c3

set_option maxRecDepth 100000 in
theorem unframe_nil (w : World) :
    Calls Try.prog 16 #[.slice none 0 0] w fun e w' => e = .returned (.tuple #[.slice none 0 0, .int .i64 0, .int .i64 20]) ∧ w' = w := by
  have htext := readText_any none 0 [] w ⟨rd_nil w, none, 0, rfl, Nat.le_refl _, by decide⟩
  have ho : textOut [] none 0 = .tuple #[.slice none 0 0, .int .i64 0, .int .i64 20] := rfl
  rw [ho] at htext
  go_enter Try.func16, Try.ntmps16
  go_wp2_with (go_at_call 29; go_must (refine htext.mono ?_); rintro e w1 ⟨rfl, rfl⟩)
  go_ret3
  exact ⟨rfl, rfl⟩

theorem ki_new (w : World) (ks : List Int) (t : TypeId) (n cap : Nat) (hn : n = w.heap.size) : Ki (w.alloc (.cells (ks.map (Value.int .i64)).toArray t)) (.slice (some ⟨n, 0, none⟩) ks.length cap) ks := by
  subst hn
  refine ⟨.inr ⟨w.heap.size, 0, cap, rfl, fun i hi => ?_⟩⟩
  rw [World.cell?_alloc_new]
  simp [hi]

theorem awake_dec (w : World) :
    Calls Try.prog 14 #[.slice (some ⟨w.heap.size, 0, none⟩) 1 1, .slice (some ⟨w.heap.size + 1, 0, none⟩) 2 2] ((w.alloc (.cells #[.int .i64 1] 3)).alloc (.cells #[.int .u8 172, .int .u8 2] 5))
      fun e w' => ∃ g cap, e = .returned (.tuple #[.slice (some ⟨g, 0, none⟩) 1 cap, .int .i64 0]) ∧ w'.cell? ⟨g, 1, none⟩ = some (.int .i64 300) ∧ w.grownBy w' none := by
  have hK := (ki_new w [1] 3 w.heap.size 1 rfl).grown (World.grownBy_alloc _ (.cells #[.int .u8 172, .int .u8 2] 5) none) (.inr (by simp [Value.ownBlock]))
  have hS := rd_new (w.alloc (.cells #[.int .i64 1] 3)) [172, 2] (0, 0) 5 _ rfl (by decide) (by unfold Crc.Bytes Crc.Byte; decide) (w.heap.size + 1) 2 (by simp)
  refine (decode_ok _ [1] _ [172, 2] _ hK (by decide) ⟨hS, _, 2, rfl, Nat.le_refl _, by decide⟩ dec_known).mono fun e w' ⟨v', he, hO, hg⟩ => ?_
  have hg' : w.grownBy w' none := grown_more (grown_alloc (grown_alloc (grown_refl _ _) _) _) hg (by simp)
  rcases hO.2 with ⟨_, h0⟩ | ⟨g, cap, cur, rfl, _, _, _, _, _, _⟩
  · cases h0
  · refine ⟨g, cap, he, ?_, hg'⟩
    have := World.ownsRow.cells hO (g := g) rfl 1 _ (by rfl)
    rw [Addr.add_lit] at this
    exact this

theorem awake_enc (w : World) :
    Calls Try.prog 10 #[.slice (some ⟨w.heap.size, 0, none⟩) 3 3]
      (w.alloc (.cells #[.int .i64 1, .int .i64 300, .string ⟨#[]⟩, .int .i64 2, .int .i64 (-1), .string ⟨#[]⟩, .int .i64 3, .int .i64 0, .string ⟨#[97, 98]⟩] 38))
      fun e w' => ∃ v', e = .returned (.tuple #[v', .int .i64 0]) ∧ Rd w' v' [172, 2, 1, 2, 97, 98] ∧ w.grownBy w' none := by
  have hF := fl_new w three three_in 38 _ rfl w.heap.size 3 rfl
  refine (encode_fits _ three _ hF (by decide) three_fits).mono fun e w' ⟨v', he, hO, hg⟩ => ?_
  rw [enc_three] at hO
  exact ⟨v', he, hO.rd (by decide), grown_more (World.grownBy_alloc w _ none) hg (by simp)⟩

theorem str_known : (Code.ofB [172, 2, 1, 2, 97, 98]).toList = [172, 2, 1, 2, 97, 98] := by decide +kernel

set_option maxRecDepth 100000 in
set_option maxHeartbeats 800000 in
theorem awake_any (w : World) :
    Calls Try.prog 9 #[] w fun e w' => e = .returned (.bool true) ∧ w.grownBy w' none := by
  have hstr := str_known
  go_enter Try.func9, Try.ntmps9
  go_wp2_with (first
    | (go_at_call 10; go_must (refine (awake_enc w).mono ?_); rintro e w1 ⟨v1, rfl, hR1, hg1⟩)
    | (go_at_call 14; go_must (refine (awake_dec w1).mono ?_); rintro e w2 ⟨g, cap, rfl, hc, hg2⟩; have hR2 := hR1.grown hg2 (by cases v1.ownBlock <;> simp); have hcv := run_string hR2; clear hR1 hR2)
    | (go_at_call 16; go_must (refine (unframe_nil _).mono ?_); rintro e w3 ⟨rfl, rfl⟩))
  go_ret
  exact ⟨rfl, grown_more hg1 hg2 (by simp)⟩
end Go.Proofs.Ytmolldednpdicaa
