/- Crash. -/
import Derived.Test.YthpeeldpalmakaaQBehind
namespace Go.Proofs.Ythpeeldpalmakaa
open Go.RowKit Go.Sort Go.Shelf Dsk
set_option linter.unusedVariables false

theorem upd_id {α : Type} (f : Nat → α) (p : Nat) : upd f p (f p) = f := by
  funext q
  unfold upd
  split
  · rename_i h; rw [h]
  · rfl
/-- What Crash leaves. -/
def CrashOut (b bm : Nat) (M : List (List UInt8 × Nat)) (c : Nat → Fl) (G : Nat → Nat → Prop) (m nx torn : Int) (w w' : World) : Prop :=
  ∃ c', DkD w' b bm M c' G m ∧ (∀ p ∈ M, c' p.2 = (c p.2).crash nx torn) ∧ Chg (fun k => ∃ p ∈ M, G p.2 k) w w'
set_option maxRecDepth 100000 in
set_option maxHeartbeats 3200000 in
theorem crash_all {w : World} {b bm : Nat} {M : List (List UInt8 × Nat)} {c : Nat → Fl} {G : Nat → Nat → Prop} {m : Int} (h : DkD w b bm M c G m) (keep torn nx : Int) (k : Nat) (hkeep : k = keep.toNat) (hk0 : keep ≤ 9223372036854775807) (BH : Calls Try.prog 31 #[.pointer (some ⟨b, 0, none⟩), .int .i64 (k : Int)] w fun e w' => e = .returned (.int .i64 nx) ∧ w.grownBy w' none)
    (hl : ∀ p ∈ M, (c p.2).by_.length ≤ 1048576) (hsz : ∀ p ∈ M, sz (c p.2) ≤ (c p.2).by_.length) (hws : ∀ p ∈ M, (c p.2).ws.length ≤ 1000000000) :
    Calls Try.prog 21 #[.pointer (some ⟨b, 0, none⟩), .int .i64 keep, .int .i64 torn] w fun e w' => e = .returned (.tuple #[]) ∧ CrashOut b bm M c G m nx torn w w' := by
  have hmx : max keep 0 = (k : Int) := by omega
  have c0 := h.c0
  have CR := crash_run
  have H : Hid (DkD w b bm M c G m) := h
  have HL : Hid (∀ p ∈ M, (c p.2).by_.length ≤ 1048576 ∧ sz (c p.2) ≤ (c p.2).by_.length ∧ (c p.2).ws.length ≤ 1000000000) := fun p hp => ⟨hl p hp, hsz p hp, hws p hp⟩
  have mp : ∀ w', w.grownBy w' none → MapOf w' bm M := fun w' g => H.out.map.grown g (by simp)
  clear h hl hsz hws hkeep
  go_enter Try.func21, Try.ntmps21
  go_wp2_with (first
    | (go_at_call 31; (with_reducible refine BH.mono ?_); rintro e w1 ⟨rfl, hg1⟩; have c01 := hg1.cell c0 (by simp))
    | (at_range; refine wpList_range_M _ rfl _ rfl rfl (mp _ hg1) ?_; intro w2 cnt2 hrg2 hg2 hs2))
  go_frame
  have hr1 : Hid (w.heap.size ≤ w1.heap.size) := hg1.size
  generalize w1.heap.size = r at hrg2 hr1 ⊢
  have hg12 := grown_more hg1 hg2 (by simp)
  clear hg1 hg2 hs2 c01 c0 mp BH hmx
  go_loopw [] (fun wr => ∃ R cnt c', Rng wr bm r M R cnt ∧ DkD wr b bm M c' G m ∧ (∀ p ∈ R, c' p.2 = c p.2) ∧ (∀ p ∈ M, p ∉ R → c' p.2 = (c p.2).crash nx torn) ∧ Chg (fun k => ∃ p ∈ M, G p.2 k) w wr) (fun wr => wr.rangeLeft bm r)
  case atStart => exact ⟨M, cnt2, c, hrg2, H.out.grown hg12, fun _ _ => rfl, fun p h1 h2 => absurd h1 h2, Chg.of hg12 (by simp)⟩
  case round =>
    obtain ⟨R, cnt, c', hrg, hD, h1, h2, hC⟩ := hrel
    clear hrg2 hg12
    have HD : Hid (DkD wr b bm M c' G m) := hD
    have H1 : Hid (∀ p ∈ R, c' p.2 = c p.2) := h1
    have H2 : Hid (∀ p ∈ M, p ∉ R → c' p.2 = (c p.2).crash nx torn) := h2
    have HC : Hid (Chg (fun k => ∃ p ∈ M, G p.2 k) w wr) := hC
    clear hD h1 h2 hC
    go_wp2_with (at_next; refine wpList_next_M _ rfl _ rfl rfl hrg ?_ ?_)
    · intro h0
      have HE : Hid (∀ p ∈ M, c' p.2 = (c p.2).crash nx torn) := fun p hp => H2.out p hp (by rw [h0]; simp)
      clear hrg h0
      go_wp2
      go_end0
      exact ⟨rfl, c', HD.out, HE.out, HC.out⟩
    · intro nm f R' w3 cnt1 hmem hperm hne hrg3 hlt hg3 hs3 hen
      have C3 : Chg (fun k => k = r) wr w3 := Chg.of hg3 fun k hk => by injection hk with hk; exact hk.symm
      have flt : ∀ p ∈ M, ∀ k, G p.2 k → k < w.heap.size := fun p hp => (H.out.fil p hp).lt
      have ninR : (nm, f) ∈ R := hperm.mem_iff.2 (by simp)
      have hcf : c' f = c f := H1.out _ ninR
      have blt : b < w.heap.size := World.block_lt_of_cell? w _ H.out.c0
      have bmlt : bm < w.heap.size := H.out.map.lt
      have hr1' := hr1.out
      have D3 : DkD w3 b bm M c' G m := HD.out.kept C3 (by omega) (by omega) fun p hp k hk e => by have := flt p hp k hk; omega
      obtain ⟨vb, vw, g1, gf, gb, gw, glt⟩ := D3.fil _ hmem
      rw [hcf] at g1
      obtain ⟨l1, l2, l3⟩ := HL.out _ hmem
      have CRf := crash_run f vb vw (c f) nx torn w3 g1 l1 l2 l3
      have DN : Hid (∀ w4 vb', FilD w4 f vb' (.slice none 0 0) ((c f).crash nx torn) → vb'.ownBlock = vb.ownBlock → Chg (fun k => k = f) w3 w4 → DkD w4 b bm M (upd c' f ((c f).crash nx torn)) G m ∧ Rng w4 bm r M R' cnt1 ∧ Chg (fun k => ∃ p ∈ M, G p.2 k) w w4) := fun w4 vb' a1 a2 a3 => by
        have a4 : Chg (G f) w3 w4 := a3.wide fun k hk => by rw [hk]; exact gf
        have hF4 : Fil w4 f ((c f).crash nx torn) (G f) := ⟨vb', .slice none 0 0, a1, gf, fun k hk => gb k (by rw [← a2]; exact hk), by simp [Value.ownBlock], fun k hk => Nat.lt_of_lt_of_le (glt k hk) a3.size⟩
        have D4 := D3.turn hmem a4 hF4 (fun k hk => .inl hk)
        rw [upd_id] at D4
        refine ⟨D4, hrg3.chg a3 (fun e => (D3.base _ hmem f gf).2 e.symm) (fun e => ?_), ?_⟩
        · have := flt _ hmem f gf; omega
        · exact (HC.out.grown hg3 fun k hk => .inr (by injection hk with hk; omega)).trans a3 fun k hk => .inl ⟨_, hmem, by rw [hk]; exact gf⟩
      have HA : Hid (∀ p ∈ R', upd c' f ((c f).crash nx torn) p.2 = c p.2) := fun p hp => by
        have hpR : p ∈ R := hperm.mem_iff.2 (by simp [hp])
        have hpM : p ∈ M := hrg.sub.subset hpR
        have : p.2 ≠ f := fun e => hne p.1 p.2 hp (by rw [H.out.inj p hpM _ hmem e])
        rw [upd_other _ _ this]
        exact H1.out p hpR
      have HBB : Hid (∀ p ∈ M, p ∉ R' → upd c' f ((c f).crash nx torn) p.2 = (c p.2).crash nx torn) := fun p hp hn => by
        by_cases e : p.2 = f
        · rw [e, upd_same]
        · rw [upd_other _ _ e]
          refine H2.out p hp fun hR => ?_
          rcases List.mem_cons.1 (hperm.mem_iff.1 hR) with e1 | e1
          · exact e (by rw [e1])
          · exact hn e1
      have hrgm := hrg.left
      have hrgm3 := hrg3.left
      have HM3 : Hid (cnt1 < wr.rangeLeft bm r) := by
        show _ < _
        rw [hrgm]; exact hlt
      clear g1 hperm hne hmem hrg hrgm hrgm3 hlt hs3 hg3 C3 flt ninR hcf D3 gf gb gw glt l1 l2 l3 blt bmlt hr1' hrg3
      go_wp2_with (go_at_call 32; (with_reducible refine CRf.mono ?_); rintro e w4 ⟨rfl, vb', a1, a2, a3⟩)
      obtain ⟨d1, d2, d3⟩ := DN.out w4 vb' a1 a2 a3
      go_roundw
      case rel => exact ⟨R', cnt1, _, d2, d1, HA.out, HBB.out, d3⟩
      case measure => rw [d2.left]; exact HM3.out
theorem crash_any (b : Nat) (s : St) (F : Nat → Prop) (keep torn : Int) (hk : keep ≤ 9223372036854775807) (w : World) (h : Dk w b s F) (m1 : s.m ≤ 1000000000) :
    Calls Try.prog 21 #[.pointer (some ⟨b, 0, none⟩), .int .i64 keep, .int .i64 torn] w fun e w' => e = .returned (.tuple #[]) ∧ ∃ F', Dk w' b (crashS s keep torn) F' ∧ (∀ k, F' k → F k ∨ w.heap.size ≤ k) ∧ Chg F w w' := by
  obtain ⟨bm, M, c, G, h1, h2, h3, h4⟩ := id h
  have hw := h3.wait
  have hn : (nums (lay M c)).length ≤ 1000000000 := by rw [wait_nums, ← h2]; omega
  have mem : ∀ p ∈ M, (p.1, c p.2) ∈ s.l := fun p hp => by rw [h2]; exact List.mem_map.2 ⟨p, hp, rfl⟩
  have hs : (⟨lay M c, s.m⟩ : St) = s := by rw [← h2]
  have BH := behind_run h1 keep.toNat (by omega) hn
  rw [hs] at BH
  refine (crash_all h1 keep torn (behind s keep.toNat) keep.toNat rfl hk BH (fun p hp => Nat.le_trans (mem_tot (mem p hp)) h3.tot) (fun p hp => h3.sz _ (mem p hp)) (fun p hp => ?_)).mono ?_
  · have h5 : (c p.2).ws.length ≤ wait s.l := by
      obtain ⟨A, B, e⟩ := List.append_of_mem (mem p hp)
      rw [e]
      simp [wait]
      omega
    omega
  · rintro e w' ⟨rfl, c', hD, hc, C⟩
    refine ⟨rfl, F, ⟨bm, M, c', G, hD, ?_, ok_crash h3 _ _, h4⟩, fun k hk => .inl hk, C.wide fun k hk => (h4 k).2 (.inr (.inr hk))⟩
    show s.l.map _ = _
    rw [h2]
    unfold lay
    rw [List.map_map]
    refine List.map_congr_left fun p hp => ?_
    simp only [Function.comp]
    rw [hc p hp]
end Go.Proofs.Ythpeeldpalmakaa
