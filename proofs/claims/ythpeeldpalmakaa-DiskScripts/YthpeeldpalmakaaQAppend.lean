/- Append, whatever it is asked. -/
import Derived.Test.YthpeeldpalmakaaQApp3
namespace Go.Proofs.Ythpeeldpalmakaa
open Go.RowKit Dsk
set_option linter.unusedVariables false
set_option maxRecDepth 10000

theorem append_any (b : Nat) (s : St) (F : Nat → Prop) (nm : ByteArray) (hs : nm.size ≤ 140737488351232) (v : Value) (l : List UInt8) (w : World) (h : Dk w b s F) (m1 : s.m ≤ 1000000000) (hX : eB.Rx w v l) (hl : l.length ≤ 140737488351232) (hdj : l ≠ [] → ∀ k, v.ownBlock = some k → ¬ F k) :
    Calls Try.prog 23 #[.pointer (some ⟨b, 0, none⟩), .string nm, v] w fun e w' => e = .returned (.int .i64 (appE s.l nm.data.toList l.length)) ∧ ∃ F', Dk w' b (appS s nm.data.toList l) F' ∧ (∀ k, F' k → F k ∨ w.heap.size ≤ k) ∧ Chg F w w' := by
  obtain ⟨ad, cp, rfl⟩ := hX.form
  obtain ⟨bm, M, c, G, h1, h2, h3, h4⟩ := id h
  have ml : M.length = s.l.length := by rw [h2]; simp [lay]
  have hh : has s.l nm.data.toList = M.any fun p => p.1 == nm.data.toList := by rw [h2, lay_has]
  have ht : tot (lay M c) ≤ 1048576 := by rw [← h2]; exact h3.tot
  have same : ∀ er, appE s.l nm.data.toList l.length = er → er ≠ 0 → ∀ (e : Ending) (w' : World), e = .returned (.int .i64 er) ∧ w.grownBy w' none → e = .returned (.int .i64 (appE s.l nm.data.toList l.length)) ∧ ∃ F', Dk w' b (appS s nm.data.toList l) F' ∧ (∀ k, F' k → F k ∨ w.heap.size ≤ k) ∧ Chg F w w' := by
    rintro er he h0 e w' ⟨rfl, hg⟩
    refine ⟨by rw [he], F, ?_, fun k hk => .inl hk, Chg.of hg (by simp)⟩
    unfold appS
    rw [he, if_neg h0]
    exact h.grown hg
  cases hn : isNm nm.data.toList with
  | false =>
    have he : appE s.l nm.data.toList l.length = 1 := by unfold appE; rw [if_pos hn]
    exact (app_bad b nm hs _ hn w).mono fun e w' ⟨he', hw⟩ => same 1 he (by omega) e w' ⟨he', by rw [hw]; exact grown_refl _ _⟩
  | true =>
    by_cases hc : (has s.l nm.data.toList = false ∧ s.l.length = 64) ∨ 1048576 < tot s.l + l.length
    · have he : appE s.l nm.data.toList l.length = 3 := by unfold appE; rw [if_neg (by rw [hn]; simp), if_pos hc]
      by_cases hm : has s.l nm.data.toList = false ∧ s.l.length = 64
      · exact (app_many b bm M nm hs _ hn w h1.c0 h1.map (by rw [← hh]; exact hm.1) (by rw [ml]; exact hm.2)).mono fun e w' ⟨he', hw⟩ => same 3 he (by omega) e w' ⟨he', by rw [hw]; exact grown_refl _ _⟩
      · have hfull : 1048576 < tot (lay M c) + l.length := by rw [← h2]; exact hc.resolve_left hm
        refine (app_full b bm M c G s.m nm hs ad l.length cp hl hn w h1 ht hfull ?_).mono (same 3 he (by omega))
        rw [← hh, ml]
        cases hb : has s.l nm.data.toList with
        | true => exact .inl rfl
        | false => exact .inr fun c => hm ⟨hb, c⟩
    · have he : appE s.l nm.data.toList l.length = 0 := by unfold appE; rw [if_neg (by rw [hn]; simp), if_neg hc]
      have hroom : tot (lay M c) + l.length ≤ 1048576 := by rw [← h2]; have : ¬ 1048576 < tot s.l + l.length := fun c => hc (.inr c); omega
      have okA := ok_app h3 nm.data.toList l
      rw [he]
      unfold appS at okA ⊢
      rw [if_pos he] at okA ⊢
      cases hb : has s.l nm.data.toList with
      | true =>
        rw [hb] at okA
        simp only [if_true] at okA ⊢
        obtain ⟨f, hf⟩ := any_nm.1 (by rw [← hh]; exact hb)
        have hmem : (nm.data.toList, c f) ∈ s.l := by rw [h2]; exact List.mem_map.2 ⟨_, hf, rfl⟩
        have hw := h3.wait
        have hws : (c f).ws.length ≤ wait s.l := by
          obtain ⟨A, B, e⟩ := List.append_of_mem hmem
          rw [e]
          simp [wait]
          omega
        refine (app_old b bm f M c G s.m nm hs ad cp l hn w h1 hroom (by omega) h3.m0 m1 hf hX).mono ?_
        rintro e w' ⟨rfl, w8, G', rfl, hF, hG, C⟩
        have nd : (M.map (·.1)).Nodup := by obtain ⟨D, _, T⟩ := h1.map; exact T.nd
        have hD8 := (h1.turn hf C hF hG).made (s.m + 1)
        refine ⟨rfl, Foot b bm M (upd G f G'), ⟨bm, M, _, _, hD8, ?_, okA, fun _ => Iff.rfl⟩, fun k hk => ?_, ?_⟩
        · show setF s.l nm.data.toList _ = _
          rw [h2]
          exact (lay_set nd h1.inj hf (appF s.m l)).symm
        · rcases hk with e | e | ⟨p, hpm, hk⟩
          · exact .inl ((h4 k).2 (.inl e))
          · exact .inl ((h4 k).2 (.inr (.inl e)))
          · by_cases ep : p.2 = f
            · rw [ep, upd_same] at hk
              rcases hG k hk with e | e
              · exact .inl ((h4 k).2 (.inr (.inr ⟨_, hf, e⟩)))
              · exact .inr e
            · rw [upd_other _ _ ep] at hk
              exact .inl ((h4 k).2 (.inr (.inr ⟨p, hpm, hk⟩)))
        · exact (C.wide fun k hk => (h4 k).2 (.inr (.inr ⟨_, hf, hk⟩))).grown (grown_set _ _ _) fun k hk => .inl ((h4 k).2 (.inl (by injection hk with hk; exact hk.symm)))
      | false =>
        rw [hb] at okA
        simp only [Bool.false_eq_true, if_false] at okA ⊢
        have hlen : M.length < 64 := by
          have := h3.len
          have : s.l.length ≠ 64 := fun c => hc (.inl ⟨hb, c⟩)
          omega
        have h16 : nm.data.toList.length ≤ 16 := by
          unfold isNm at hn
          simp only [Bool.and_eq_true, decide_eq_true_eq] at hn
          exact hn.1.2
        refine (app_new b bm M c G s.m nm hs h16 ad cp l hn w h1 hroom hlen h3.m0 m1 (by rw [← hh]; exact hb) hX fun hl0 k hk e => hdj hl0 k hk ((h4 k).2 (.inr (.inl e)))).mono ?_
        rintro e w' ⟨rfl, w8, f, G', rfl, hF, hM, hG, C⟩
        have hfw : w.heap.size ≤ f := hG f hF.self
        have plt : ∀ p ∈ M, p.2 < w.heap.size := fun p hp => (h1.fil p hp).lt _ (h1.fil p hp).self
        have pne : ∀ p ∈ M, p.2 ≠ f := fun p hp => by have := plt p hp; omega
        have hb0 : b < w.heap.size := World.block_lt_of_cell? w _ h1.c0
        have hbm : bm < w.heap.size := h1.map.lt
        have hD8 : DkD w8 b bm (M ++ [(nm.data.toList, f)]) (upd c f ⟨l, [(s.m, l.length)]⟩) (upd G f G') s.m := by
          refine ⟨C.cell h1.c0 h1.bb, C.cell h1.c1 h1.bb, fun i => (C.frozen (a := ⟨b, i, none⟩) hb0 h1.bb).trans (h1.fr i), hM, fun p hp => ?_, fun p hp q hq e => ?_, fun p hp q hq hne k e1 e2 => ?_, fun p hp k hk => ?_, h1.bb⟩
          · rcases List.mem_append.1 hp with hp | hp
            · rw [upd_other _ _ (pne p hp), upd_other _ _ (pne p hp)]
              exact (h1.fil p hp).kept C fun k hk e => (h1.base p hp k hk).2 e
            · simp at hp
              subst hp
              rw [upd_same, upd_same]
              exact hF
          · rcases List.mem_append.1 hp with hp | hp <;> rcases List.mem_append.1 hq with hq | hq
            · exact h1.inj p hp q hq e
            · simp at hq; subst hq; exact absurd e (pne p hp)
            · simp at hp; subst hp; exact absurd e.symm (pne q hq)
            · simp at hp hq; rw [hp, hq]
          · rcases List.mem_append.1 hp with hp | hp <;> rcases List.mem_append.1 hq with hq | hq
            · rw [upd_other _ _ (pne p hp)] at e1
              rw [upd_other _ _ (pne q hq)] at e2
              exact h1.apart p hp q hq hne k e1 e2
            · simp at hq; subst hq
              rw [upd_other _ _ (pne p hp)] at e1
              rw [upd_same] at e2
              have := (h1.fil p hp).lt k e1
              have := hG k e2
              omega
            · simp at hp; subst hp
              rw [upd_same] at e1
              rw [upd_other _ _ (pne q hq)] at e2
              have := (h1.fil q hq).lt k e2
              have := hG k e1
              omega
            · simp at hp hq; exact hne (by rw [hp, hq])
          · rcases List.mem_append.1 hp with hp | hp
            · rw [upd_other _ _ (pne p hp)] at hk
              exact h1.base p hp k hk
            · simp at hp; subst hp
              rw [upd_same] at hk
              have := hG k hk
              exact ⟨by omega, by omega⟩
        refine ⟨rfl, Foot b bm (M ++ [(nm.data.toList, f)]) (upd G f G'), ⟨bm, _, _, _, hD8.made (s.m + 1), ?_, okA, fun _ => Iff.rfl⟩, fun k hk => ?_, ?_⟩
        · show s.l ++ _ = _
          have e1 : lay M (upd c f ⟨l, [(s.m, l.length)]⟩) = lay M c := List.map_congr_left fun p hp => by rw [upd_other _ _ (pne p hp)]
          have e2 : lay (M ++ [(nm.data.toList, f)]) (upd c f ⟨l, [(s.m, l.length)]⟩) = lay M (upd c f ⟨l, [(s.m, l.length)]⟩) ++ [(nm.data.toList, upd c f ⟨l, [(s.m, l.length)]⟩ f)] := by unfold lay; rw [List.map_append]; rfl
          rw [e2, e1, upd_same, h2]
          rfl
        · rcases hk with e | e | ⟨p, hp, hk⟩
          · exact .inl ((h4 k).2 (.inl e))
          · exact .inl ((h4 k).2 (.inr (.inl e)))
          · rcases List.mem_append.1 hp with hp | hp
            · rw [upd_other _ _ (pne p hp)] at hk
              exact .inl ((h4 k).2 (.inr (.inr ⟨p, hp, hk⟩)))
            · simp at hp; subst hp
              rw [upd_same] at hk
              exact .inr (hG k hk)
        · exact (C.wide fun k hk => (h4 k).2 (.inr (.inl hk))).grown (grown_set _ _ _) fun k hk => .inl ((h4 k).2 (.inl (by injection hk with hk; exact hk.symm)))
end Go.Proofs.Ythpeeldpalmakaa
