import Derived.Test.YtfiebibpgbadlaaGreatAllL
namespace Go.Proofs.YtfiebibpgbadlaaGreat
open Go.RowKit
set_option linter.unusedVariables false
set_option linter.unusedSimpArgs false

theorem bk_keptN {N : Nat} {w w' : World} {b : Bk} {S : List Nat} (h : BkLow N w b) (hK : Kept S w w') (h0 : 0 ∉ S) (hS : ∀ k, k ∈ S → ∀ c t fr, w.heap[k]? = some (.cells c t fr) → t = 30 ∨ t = 68 ∨ (t = 77 ∧ N ≤ k)) : BkAt w' b := by
  obtain ⟨rv, sameV, said, R, gs, fresh, h, hrv⟩ := h
  have hnot : ∀ k cs t fr, w.heap[k]? = some (.cells cs t fr) → t ≠ 30 → t ≠ 68 → t ≠ 77 → k ∉ S := by
    intro k cs t fr e n1 n2 n3 hm
    rcases hS k hm _ _ _ e with h | h | h
    · exact n1 h
    · exact n2 h
    · exact n3 h.1
  obtain ⟨m, hm⟩ := h.book.mx
  refine ⟨rv, sameV, said, R, gs, fresh, hK.at h.x (hnot _ _ _ _ h.x (by decide) (by decide) (by decide)), ?_, ?_, h.prb, h.psv⟩
  · refine h.book.move (hK.block _ (lt_of_block h.book.blk) (hnot _ _ _ _ h.book.blk (by decide) (by decide) (by decide))) (h.book.rul.kept hK ?_) (h.book.sad.kept hK (fun k hk c fr e => hnot _ _ _ _ e (by decide) (by decide) (by decide) hk)) ⟨m, hK.cell hm h0⟩
    intro k hk e
    have hlt := hrv k e
    rcases h.book.rul.2 with ⟨h1, _⟩ | ⟨g, cap, cur, h1, _, hg, _⟩
    · rw [h1] at e; simp [Value.ownBlock] at e
    · rw [h1] at e; simp [Value.ownBlock] at e; subst e
      rcases hS _ hk _ _ _ hg with h | h | h
      · exact absurd h (by decide)
      · exact absurd h (by decide)
      · omega
  · refine ⟨h.ref.L1, h.ref.L3, h.ref.M1, h.ref.M6, h.ref.few, hK.at h.ref.blk (hnot _ _ _ _ h.ref.blk (by decide) (by decide) (by decide)), ?_, ?_, h.ref.words, ?_⟩
    · obtain ⟨cur, hg, _⟩ := h.ref.wrd
      exact h.ref.wrd.kept hK (hnot _ _ _ _ hg (by decide) (by decide) (by decide))
    · refine h.ref.sd.kept hK (fun k hk e => ?_) ?_
      · obtain ⟨c, hc⟩ := h.ref.own_type e
        exact hnot _ _ _ _ hc (by decide) (by decide) (by decide) hk
      · intro k hk cs fr e
        exact hnot _ _ _ _ e (by decide) (by decide) (by decide) hk
    · intro hf
      obtain ⟨g, xs, h1, h2, h3⟩ := h.ref.done hf
      exact ⟨g, xs, h1, hK.at h2 (hnot _ _ _ _ h2 (by decide) (by decide) (by decide)), h3⟩

theorem out_new {w : World} {ty : TypeId} {mk : Nat → List Value} {vs : List Value} {ov : Value} (hm : Marked w ty mk vs) (hov : ∀ k, ov.ownBlock = some k → w.heap.size ≤ k) : Out vs ov := by
  intro u hu g o1 n1 cap hv he
  by_cases h0 : n1 = 0
  · exact h0
  · exfalso
    obtain ⟨k, hk, hk2⟩ := List.getElem_of_mem hu
    obtain ⟨sa, n, cap', h1, hn, h2⟩ := hm k u (by rw [List.getElem?_eq_getElem hk, hk2])
    rw [he] at h1
    simp at h1
    obtain ⟨rfl, rfl, rfl⟩ := h1
    obtain ⟨g', o', cur, h3, h4, _⟩ := h2 (by omega)
    simp at h3
    obtain ⟨rfl, rfl⟩ := h3
    have := lt_of_block h4
    have := hov g hv
    omega

theorem WI.ownR {B N n : Nat} {w w' : World} {wb : Nat} {bs : List Bk} {bsV rulV linV ov : Value} {rs ls xs : List Value} (h : WI B w wb bs bsV rulV linV rs ls) (hlow : ∀ c, c ∈ bs → BkLow N w c) (hov : w.ownsRow 0 77 2 ov n xs) (hN : ∀ k, ov.ownBlock = some k → N ≤ k) (hB : B ≤ N)
    (hO : OwnR w w' wb bsV linV rulV ov ls rs.length) : ∃ rulV' rs', WI B w' wb bs bsV rulV' linV rs' ls ∧ rs'.length = rs.length + 5 ∧ Below B w w' := by
  obtain ⟨rulV', rs', hL, hlen, hK, hfr⟩ := hO
  have hty : ∀ k, k ∈ wb :: (rulV.ownBlock.toList ++ ov.ownBlock.toList) → ∀ c t fr, w.heap[k]? = some (.cells c t fr) → t = 30 ∨ t = 68 ∨ (t = 77 ∧ N ≤ k) := by
    intro k hk c t fr e
    simp at hk
    rcases hk with rfl | hk | hk
    · rw [h.lists.blk] at e; simp [wblock] at e; exact .inl e.2.1.symm
    · obtain ⟨c', hc'⟩ := own_type h.lists.rown hk
      rw [hc'] at e; simp at e; exact .inr (.inl e.2.1.symm)
    · obtain ⟨c', hc'⟩ := own_type hov hk
      rw [hc'] at e; simp at e; exact .inr (.inr ⟨e.2.1.symm, hN k hk⟩)
  have hlo : ∀ k, k ∈ wb :: (rulV.ownBlock.toList ++ ov.ownBlock.toList) → B ≤ k := by
    intro k hk
    simp at hk
    rcases hk with rfl | hk | hk
    · exact h.low
    · exact h.lor k hk
    · exact Nat.le_trans hB (hN k hk)
  have h0 : 0 ∉ wb :: (rulV.ownBlock.toList ++ ov.ownBlock.toList) := fun hm => by have := hlo 0 hm; have := h.pos; omega
  obtain ⟨m, hm⟩ := h.mx
  refine ⟨rulV', rs', ⟨hL, own_kept h.bown hK ?_, fun c hc => bk_keptN (hlow c hc) hK h0 hty, h.apart, ⟨m, hK.cell hm h0⟩, Nat.le_trans h.sz hK.size, h.low, h.lob, h.lobs, ?_, h.lol, h.pos⟩, hlen, hK.below h.sz hlo⟩
  · intro k hk e
    obtain ⟨c, hc⟩ := own_type h.bown e
    rcases hty k hk _ _ _ hc with e | e | e
    · exact absurd e (by decide)
    · exact absurd e (by decide)
    · exact absurd e.1 (by decide)
  · intro k hk
    rcases hfr k hk with e | e
    · exact h.lor k e
    · exact Nat.le_trans h.sz e

theorem WI.ownL {B N n : Nat} {w w' : World} {wb : Nat} {bs : List Bk} {bsV rulV linV ov : Value} {rs ls xs : List Value} (h : WI B w wb bs bsV rulV linV rs ls) (hov : w.ownsRow 0 54 8 ov n xs) (hN : ∀ k, ov.ownBlock = some k → B ≤ k)
    (hO : OwnL w w' wb bsV rulV linV ov rs ls.length) : ∃ linV' ls', WI B w' wb bs bsV rulV linV' rs ls' ∧ ls'.length = ls.length + 5 ∧ Below B w w' := by
  obtain ⟨linV', ls', hL, hlen, hK, hfr⟩ := hO
  have hty : ∀ k, k ∈ wb :: (linV.ownBlock.toList ++ ov.ownBlock.toList) → ∀ c t fr, w.heap[k]? = some (.cells c t fr) → t = 30 ∨ t = 56 ∨ t = 68 ∨ t = 50 ∨ t = 54 := by
    intro k hk c t fr e
    simp at hk
    rcases hk with rfl | hk | hk
    · rw [h.lists.blk] at e; simp [wblock] at e; exact .inl e.2.1.symm
    · obtain ⟨c', hc'⟩ := own_type h.lists.lown hk
      rw [hc'] at e; simp at e; exact .inr (.inr (.inr (.inl e.2.1.symm)))
    · obtain ⟨c', hc'⟩ := own_type hov hk
      rw [hc'] at e; simp at e; exact .inr (.inr (.inr (.inr e.2.1.symm)))
  have hty2 : ∀ k, k ∈ wb :: (linV.ownBlock.toList ++ ov.ownBlock.toList) → bsV.ownBlock ≠ some k := by
    intro k hk e
    obtain ⟨c, hc⟩ := own_type h.bown e
    simp at hk
    rcases hk with rfl | hk | hk
    · rw [h.lists.blk] at hc; simp [wblock] at hc
    · obtain ⟨c', hc'⟩ := own_type h.lists.lown hk
      rw [hc] at hc'; simp at hc'
    · obtain ⟨c', hc'⟩ := own_type hov hk
      rw [hc] at hc'; simp at hc'
  have hlo : ∀ k, k ∈ wb :: (linV.ownBlock.toList ++ ov.ownBlock.toList) → B ≤ k := by
    intro k hk
    simp at hk
    rcases hk with rfl | hk | hk
    · exact h.low
    · exact h.lol k hk
    · exact hN k hk
  have h0 : 0 ∉ wb :: (linV.ownBlock.toList ++ ov.ownBlock.toList) := fun hm => by have := hlo 0 hm; have := h.pos; omega
  obtain ⟨m, hm⟩ := h.mx
  refine ⟨linV', ls', ⟨hL, own_kept h.bown hK hty2, fun c hc => bk_kept (h.books c hc) hK h0 hty, h.apart, ⟨m, hK.cell hm h0⟩, Nat.le_trans h.sz hK.size, h.low, h.lob, h.lobs, h.lor, ?_, h.pos⟩, hlen, hK.below h.sz hlo⟩
  intro k hk
  rcases hfr k hk with e | e
  · exact h.lol k e
  · exact Nat.le_trans h.sz e
end Go.Proofs.YtfiebibpgbadlaaGreat
namespace Go.Proofs.YtfiebibpgbadlaaGreat
open Go.RowKit
set_option linter.unusedVariables false
set_option linter.unusedSimpArgs false

theorem rules_base {w : World} {base : Nat} {rv : Value} {R : List Hw.Rl} (h : RulesAt w base rv R) : ∀ k, rv.ownBlock = some k → base ≤ k := by
  intro k hk
  rcases h.2 with ⟨h1, _⟩ | ⟨g, cap, cur, h1, hb, hg, _⟩
  · rw [h1] at hk; simp [Value.ownBlock] at hk
  · rw [h1] at hk; simp [Value.ownBlock] at hk; omega
theorem rules_zero {w : World} {base : Nat} {rv : Value} {R : List Hw.Rl} (h : RulesAt w base rv R) : w.ownsRow 0 77 2 rv R.length (rcells R) := by
  refine ⟨h.1, ?_⟩
  rcases h.2 with h1 | ⟨g, cap, cur, h1, hb, r⟩
  · exact .inl h1
  · exact .inr ⟨g, cap, cur, h1, Nat.zero_le _, r⟩
theorem lines_base {w : World} {base : Nat} {rv : Value} {l : List Hw.Ln} (h : LinesAt w base rv l) : ∀ k, rv.ownBlock = some k → base ≤ k := by
  intro k hk
  rcases h.2 with ⟨h1, _⟩ | ⟨g, cap, cur, h1, hb, hg, _⟩
  · rw [h1] at hk; simp [Value.ownBlock] at hk
  · rw [h1] at hk; simp [Value.ownBlock] at hk; omega
theorem lines_zero {w : World} {base : Nat} {rv : Value} {l : List Hw.Ln} (h : LinesAt w base rv l) : w.ownsRow 0 54 8 rv l.length (lcells l) := h.mono (Nat.zero_le _)

set_option maxRecDepth 8000 in
set_option maxHeartbeats 1600000 in
theorem wstep_rules (HPR : RulesC) (k a b : Int) (s t : ByteArray) (B : Nat) (w : World) (wb : Nat) (bs : List Bk) (bsV rulV linV : Value) (rs ls : List Value) (hs : s.size ≤ maxLen) (ht : t.size ≤ maxLen) (hk1 : -9223372036854775808 ≤ k) (hk2 : k ≤ 9223372036854775807)
    (h : WI B w wb bs bsV rulV linV rs ls) (hn : 1 ≤ bs.length) (hn2 : bs.length ≤ 2000000) (hrs : rs.length ≤ 9000000) :
    Calls Tryz.prog 10 #[.pointer (some ⟨wb, 0, none⟩), .agg #[.int .i64 4, .int .i64 k, .int .i64 a, .int .i64 b, .string s, .string t]] w fun e w' => e = .returned (.bool true) ∧ WStep B w w' wb bs.length rs.length ls.length := by
  have hb0 := below_alloc w (opBox 4 k a b s t)
  have hW := h.same hb0
  have HB0 := hide (hb0.mono h.sz)
  have o0 : (w.alloc (opBox 4 k a b s t)).cell? ⟨w.heap.size, 0, none⟩ = some (.int .i64 4) := cellAt (heap_alloc_new w _) rfl
  have o1 : (w.alloc (opBox 4 k a b s t)).cell? ⟨w.heap.size, 1, none⟩ = some (.int .i64 k) := cellAt (heap_alloc_new w _) rfl
  have o2 : (w.alloc (opBox 4 k a b s t)).cell? ⟨w.heap.size, 2, none⟩ = some (.int .i64 a) := cellAt (heap_alloc_new w _) rfl
  have o3 : (w.alloc (opBox 4 k a b s t)).cell? ⟨w.heap.size, 3, none⟩ = some (.int .i64 b) := cellAt (heap_alloc_new w _) rfl
  have o4 : (w.alloc (opBox 4 k a b s t)).cell? ⟨w.heap.size, 4, none⟩ = some (.string s) := cellAt (heap_alloc_new w _) rfl
  have o5 : (w.alloc (opBox 4 k a b s t)).cell? ⟨w.heap.size, 5, none⟩ = some (.string t) := cellAt (heap_alloc_new w _) rfl
  have hpl := lpickN_lt k hn
  obtain ⟨p, hp⟩ : ∃ p, lpickN k bs.length = p := ⟨_, rfl⟩
  rw [hp] at hpl
  have HP := hide hp
  clear hp
  obtain ⟨bk, hbk⟩ : ∃ bk, bs[p]? = some bk := ⟨bs[p], List.getElem?_eq_getElem hpl⟩
  obtain ⟨gb, cb, hbv, cb1⟩ := own_cell (xs := bs.map bptr) (by simpa using hW.bown) (k := p) (u := bptr bk) (by rw [List.getElem?_map, hbk]; rfl)
  rw [List.length_map] at hbv
  have cw : (w.alloc (opBox 4 k a b s t)).cell? ⟨wb, 0, none⟩ = some bsV := cellAt hW.lists.blk rfl
  subst hbv
  unfold bptr at cb1
  have HBK := hide hbk
  have HW := hide hW
  clear h hW hb0 hbk
  unfold opBox at *
  go_enter Tryz.func10, Tryz.ntmps10
  go_wp2_with fail
  generalize w.alloc _ = w1 at *
  go_quiet ((go_at_call 23; refine Calls.quiet_of (lpick_q k _ bs.length _ rfl hk1 hk2 hn (by omega) HP.out)))
  go_wp2_with fail
  have HWd := hide (HW.out.same (below_draw (w := w1) nq))
  refine (lruled_any HPR (AOf (w1.drewN _) bk) _ bk.xb bk.bb bk.rb bk.gw bk.cw bk.L bk.M (by exact ((HWd.out.books bk (List.mem_of_getElem? HBK.out)).both))).mono ?_
  rintro e w2 ⟨l, ov, rfl, ⟨hRA, hl⟩, hA, hR⟩
  obtain ⟨bs2, hW2, hlen2, hB2, hlow⟩ := HWd.out.stepN HBK.out hA hR
  have hov : ∀ j, ov.ownBlock = some j → (w1.drewN nq).heap.size ≤ j := rules_base hRA
  have hout : Out rs ov := out_new HWd.out.lists.rmk hov
  obtain ⟨sa, cap, rfl⟩ := hRA.shape
  have hown : w2.ownsRow 0 77 2 (.slice sa l.length cap) l.length (rcells l) := rules_zero hRA
  have HW2 := hide hW2
  have HLOW := hide hlow
  have HOUT := hide hout
  have HOV := hide hov
  have HOWN := hide hown
  have HB2 := hide hB2
  have HLEN := hide hlen2
  clear hRA hA hR hW2 hlow hout hov hown hB2 hlen2 cb1 cw
  go_wp2_with fail
  refine (ownRules_any wb _ rulV linV rs ls (rcells l) sa l.length cap _ (by exact HW2.out.lists) hrs (by exact HOWN.out) HOUT.out (by omega)).mono ?_
  rintro e w3 ⟨rfl, hO⟩
  have HF := hide (HW2.out.ownR HLOW.out HOWN.out HOV.out HWd.out.sz hO)
  clear hO
  go_wp2
  go_ret
  obtain ⟨rulV', rs', hW3, hl3, hB3⟩ := HF.out
  exact ⟨rfl, ((HB0.out.trans ((below_draw _).mono HW.out.sz)).trans HB2.out).trans hB3, _, _, _, _, _, _, hW3, by have := HLEN.out; omega, by have := HLEN.out; omega, by omega, by omega⟩

set_option maxRecDepth 8000 in
set_option maxHeartbeats 1600000 in
theorem wstep_why (HWY : WhyC) (k a b : Int) (s t : ByteArray) (B : Nat) (w : World) (wb : Nat) (bs : List Bk) (bsV rulV linV : Value) (rs ls : List Value) (hs : s.size ≤ maxLen) (ht : t.size ≤ maxLen) (hk1 : -9223372036854775808 ≤ k) (hk2 : k ≤ 9223372036854775807)
    (h : WI B w wb bs bsV rulV linV rs ls) (hn : 1 ≤ bs.length) (hn2 : bs.length ≤ 2000000) (hrs : ls.length ≤ 9000000) :
    Calls Tryz.prog 10 #[.pointer (some ⟨wb, 0, none⟩), .agg #[.int .i64 6, .int .i64 k, .int .i64 a, .int .i64 b, .string s, .string t]] w fun e w' => e = .returned (.bool true) ∧ WStep B w w' wb bs.length rs.length ls.length := by
  have hb0 := below_alloc w (opBox 6 k a b s t)
  have hW := h.same hb0
  have HB0 := hide (hb0.mono h.sz)
  have o0 : (w.alloc (opBox 6 k a b s t)).cell? ⟨w.heap.size, 0, none⟩ = some (.int .i64 6) := cellAt (heap_alloc_new w _) rfl
  have o1 : (w.alloc (opBox 6 k a b s t)).cell? ⟨w.heap.size, 1, none⟩ = some (.int .i64 k) := cellAt (heap_alloc_new w _) rfl
  have o2 : (w.alloc (opBox 6 k a b s t)).cell? ⟨w.heap.size, 2, none⟩ = some (.int .i64 a) := cellAt (heap_alloc_new w _) rfl
  have o3 : (w.alloc (opBox 6 k a b s t)).cell? ⟨w.heap.size, 3, none⟩ = some (.int .i64 b) := cellAt (heap_alloc_new w _) rfl
  have o4 : (w.alloc (opBox 6 k a b s t)).cell? ⟨w.heap.size, 4, none⟩ = some (.string s) := cellAt (heap_alloc_new w _) rfl
  have o5 : (w.alloc (opBox 6 k a b s t)).cell? ⟨w.heap.size, 5, none⟩ = some (.string t) := cellAt (heap_alloc_new w _) rfl
  have hpl := lpickN_lt k hn
  obtain ⟨p, hp⟩ : ∃ p, lpickN k bs.length = p := ⟨_, rfl⟩
  rw [hp] at hpl
  have HP := hide hp
  clear hp
  obtain ⟨bk, hbk⟩ : ∃ bk, bs[p]? = some bk := ⟨bs[p], List.getElem?_eq_getElem hpl⟩
  obtain ⟨gb, cb, hbv, cb1⟩ := own_cell (xs := bs.map bptr) (by simpa using hW.bown) (k := p) (u := bptr bk) (by rw [List.getElem?_map, hbk]; rfl)
  rw [List.length_map] at hbv
  have cw : (w.alloc (opBox 6 k a b s t)).cell? ⟨wb, 0, none⟩ = some bsV := cellAt hW.lists.blk rfl
  subst hbv
  unfold bptr at cb1
  have HBK := hide hbk
  have HW := hide hW
  clear h hW hb0 hbk
  unfold opBox at *
  go_enter Tryz.func10, Tryz.ntmps10
  go_wp2_with fail
  generalize w.alloc _ = w1 at *
  go_quiet ((go_at_call 23; refine Calls.quiet_of (lpick_q k _ bs.length _ rfl hk1 hk2 hn (by omega) HP.out)))
  go_wp2_with fail
  have HWd := hide (HW.out.same (below_draw (w := w1) nq))
  refine (lwhy_any HWY 6 k a b s t (AOf (w1.drewN _) bk) _ bk.xb bk.bb bk.rb bk.gw bk.cw bk.L bk.M hs ht (by exact ((HWd.out.books bk (List.mem_of_getElem? HBK.out)).both))).mono ?_
  rintro e w2 ⟨l, ov, rfl, ⟨hRA, hl⟩, hA, hR⟩
  obtain ⟨sv2, hW2, _, hB2⟩ := HWd.out.step HBK.out hA hR
  have hov : ∀ j, ov.ownBlock = some j → (w1.drewN nq).heap.size ≤ j := lines_base hRA
  have hout : Out ls ov := out_new HWd.out.lists.lmk hov
  obtain ⟨sa, cap, rfl⟩ := hRA.shape
  have hown : w2.ownsRow 0 54 8 (.slice sa l.length cap) l.length (lcells l) := lines_zero hRA
  have HW2 := hide hW2
  have HOUT := hide hout
  have HOV := hide hov
  have HOWN := hide hown
  have HB2 := hide hB2
  have HLL := hide hl
  have hl2 : l.length ≤ 900000 := by omega
  clear hRA hA hR hW2 hout hov hown hB2 cb1 cw hl
  go_wp2_with fail
  refine (ownLines_any wb _ linV rulV ls rs (lcells l) sa l.length cap _ (by exact HW2.out.lists) hrs (by exact HOWN.out) HOUT.out hl2).mono ?_
  rintro e w3 ⟨rfl, hO⟩
  have HF := hide (HW2.out.ownL (N := 0) HOWN.out (fun j hj => Nat.le_trans HWd.out.sz (HOV.out j hj)) hO)
  clear hO
  go_wp2
  go_ret
  obtain ⟨linV', ls', hW3, hl3, hB3⟩ := HF.out
  exact ⟨rfl, ((HB0.out.trans ((below_draw _).mono HW.out.sz)).trans HB2.out).trans hB3, _, _, _, _, _, _, hW3, by simp, by simp, by omega, by omega⟩

set_option maxRecDepth 8000 in
set_option maxHeartbeats 1600000 in
theorem wstep_made (k a b : Int) (s t : ByteArray) (B : Nat) (w : World) (wb : Nat) (bs : List Bk) (bsV rulV linV : Value) (rs ls : List Value) (h : WI B w wb bs bsV rulV linV rs ls) (hn2 : bs.length ≤ 2000000) :
    Calls Tryz.prog 10 #[.pointer (some ⟨wb, 0, none⟩), .agg #[.int .i64 7, .int .i64 k, .int .i64 a, .int .i64 b, .string s, .string t]] w fun e w' => e = .returned (.bool true) ∧ WStep B w w' wb bs.length rs.length ls.length := by
  have hb0 := below_alloc w (opBox 7 k a b s t)
  have hW := h.same hb0
  have HB0 := hide (hb0.mono h.sz)
  have o0 : (w.alloc (opBox 7 k a b s t)).cell? ⟨w.heap.size, 0, none⟩ = some (.int .i64 7) := cellAt (heap_alloc_new w _) rfl
  have o2 : (w.alloc (opBox 7 k a b s t)).cell? ⟨w.heap.size, 2, none⟩ = some (.int .i64 a) := cellAt (heap_alloc_new w _) rfl
  have o3 : (w.alloc (opBox 7 k a b s t)).cell? ⟨w.heap.size, 3, none⟩ = some (.int .i64 b) := cellAt (heap_alloc_new w _) rfl
  have HW := hide hW
  clear h hW hb0
  unfold opBox at *
  go_enter Tryz.func10, Tryz.ntmps10
  go_wp2_with fail
  refine (wmade_any a b B _ wb bs bsV rulV linV rs ls (by exact HW.out) hn2).mono ?_
  rintro e w2 ⟨rfl, hB2, hS2⟩
  have HF := hide (And.intro hB2 hS2)
  clear hB2 hS2 o0 o2 o3
  go_wp2
  go_ret
  exact ⟨rfl, HB0.out.trans HF.out.1, HF.out.2⟩

/-- every step of All's. -/
theorem wstep_any (HPR : RulesC) (HWY : WhyC) (HST : StepC 6) (kd k a b : Int) (s t : ByteArray) (B : Nat) (w : World) (wb : Nat) (bs : List Bk) (bsV rulV linV : Value) (rs ls : List Value) (hs : s.size ≤ maxLen) (ht : t.size ≤ maxLen) (hk1 : -9223372036854775808 ≤ k) (hk2 : k ≤ 9223372036854775807)
    (h : WI B w wb bs bsV rulV linV rs ls) (hn : 1 ≤ bs.length) (hn2 : bs.length ≤ 2000000) (hrs : rs.length ≤ 9000000) (hls : ls.length ≤ 9000000) :
    Calls Tryz.prog 10 #[.pointer (some ⟨wb, 0, none⟩), .agg #[.int .i64 kd, .int .i64 k, .int .i64 a, .int .i64 b, .string s, .string t]] w fun e w' => e = .returned (.bool true) ∧ WStep B w w' wb bs.length rs.length ls.length := by
  by_cases h7 : kd = 7
  · subst h7; exact wstep_made k a b s t B w wb bs bsV rulV linV rs ls h hn2
  by_cases h4 : kd = 4
  · subst h4; exact wstep_rules HPR k a b s t B w wb bs bsV rulV linV rs ls hs ht hk1 hk2 h hn hn2 hrs
  by_cases h6 : kd = 6
  · subst h6; exact wstep_why HWY k a b s t B w wb bs bsV rulV linV rs ls hs ht hk1 hk2 h hn hn2 hls
  · exact wstep_other HST kd k a b s t B w wb bs bsV rulV linV rs ls h7 h4 h6 hs ht hk1 hk2 h hn hn2
end Go.Proofs.YtfiebibpgbadlaaGreat
namespace Go.Proofs.YtfiebibpgbadlaaGreat
open Go.RowKit
set_option linter.unusedVariables false
set_option linter.unusedSimpArgs false

set_option maxRecDepth 8000 in
set_option maxHeartbeats 1600000 in
theorem wmade_good (L M : Nat) (hL1 : 1 ≤ L) (hL3 : L ≤ 3) (hM1 : 1 ≤ M) (hM6 : M ≤ 6) (B : Nat) (w : World) (wb : Nat) (bs : List Bk) (bsV rulV linV : Value) (rs ls : List Value) (h : WI B w wb bs bsV rulV linV rs ls) (hn2 : bs.length ≤ 2000000) :
    Calls Tryz.prog 9 #[.pointer (some ⟨wb, 0, none⟩), .int .i64 (L : Int), .int .i64 (M : Int)] w fun e w' => e = .returned (.bool true) ∧ Below B w w' ∧ ∃ bs' bsV', WI B w' wb bs' bsV' rulV linV rs ls ∧ bs'.length = bs.length + 1 := by
  obtain ⟨ba, bc, hbv⟩ := own_slice (xs := bs.map bptr) (by simpa using h.bown)
  rw [List.length_map] at hbv
  subst hbv
  obtain ⟨mx, hmx⟩ := h.mx
  have HW := hide h
  clear h
  go_enter Tryz.func9, Tryz.ntmps9
  go_wp2_with fail
  refine (begun_any L M mx _ hL1 hL3 hM1 hM6 hmx).mono ?_
  rintro e w1 ⟨xb, bb, rb, gw, cw, rfl, hb, hR⟩
  obtain ⟨sv, hbk, hN⟩ := bk_new hR
  have HB := hide hb
  have HBK := hide hbk
  have HN := hide hN
  have c0 : w1.cell? ⟨wb, 0, none⟩ = some (.slice ba bs.length bc) := cellAt (HW.out.same hb).lists.blk rfl
  clear hb hR hbk hN
  obtain ⟨i0, hi0, hz0, hz1, hz2⟩ := info_parts Tryz.infoPb
  have HI0 := hide hi0
  have HZ0 := hide hz0
  have HZ1 := hide hz1
  have HZ2 := hide hz2
  clear hi0 hz0 hz1 hz2
  go_wp2_with (at_builtin; refine wpList_append_exact _ rfl (.tmp 21) (.tmp 23) 26 rfl 0 56 i0 (.pointer none) 1 8 Tryz.underlying26 HI0.out HZ0.out HZ1.out HZ2.out rfl (by decide) (.slice ba bs.length bc) bs.length (bs.map bptr) rfl ?c1 ⟨w1.heap.size, 0, none⟩ 1 1 [bptr ⟨xb, bb, rb, gw, cw, L, M, sv⟩] rfl rfl ?c2 (one_ptr _) ?c3 ?c4 ?c5 ?_)
  case c1 => exact (HW.out.same HB.out).bown.alloc _
  case c2 => exact newCell00 w1 _ _
  case c3 => unfold maxLen; omega
  case c4 => omega
  case c5 => exact Nat.zero_le _
  intro v3 w3 hown hgrow hex
  obtain ⟨g3, cap3, rfl⟩ := own_shape hown
  have R := hide (HW.out.add HB.out HBK.out HN.out (by exact ⟨rfl, rfl, rfl, rfl⟩ : SameW (w1.alloc _) _) hown hgrow hex)
  have z0 : w3.cell? ⟨wb, 0, none⟩ = some (.slice ba bs.length bc) := cellAt R.out.1 rfl
  have zf : w3.frozen? ⟨wb, 0, none⟩ = false := frozen_of_row w3 _ 0 _ _ R.out.1
  clear hown hgrow hex c0
  go_wp2
  go_ret
  exact ⟨rfl, R.out.2.1, _, _, R.out.2.2, by simp⟩

/-- A script whose numbers are Go's. -/
def ScriptB (w : World) (sv : Option Addr) (n : Nat) : Prop := ∀ i, i < n → ∀ a k, sv = some a → w.cell? ⟨(a.add (i * 6)).block, (a.add (i * 6)).off + 1, none⟩ = some (.int .i64 k) → -9223372036854775808 ≤ k ∧ k ≤ 9223372036854775807

theorem wi_start (w : World) (m : Int) (hm : w.cell? ⟨0, 0, none⟩ = some (.int .i64 m)) : WI w.heap.size (w.alloc (wblock (.slice none 0 0) (.slice none 0 0) (.slice none 0 0))) w.heap.size [] (.slice none 0 0) (.slice none 0 0) (.slice none 0 0) [] [] := by
  have hb := below_alloc w (wblock (.slice none 0 0) (.slice none 0 0) (.slice none 0 0))
  refine ⟨⟨heap_alloc_new w _, World.ownsRow_nil _ _ _ _, World.ownsRow_nil _ _ _ _, by intro k v hk; simp at hk, by intro k v hk; simp at hk⟩, World.ownsRow_nil _ _ _ _, by simp, by simp, ⟨m, (hb.cell (p := ⟨0, 0, none⟩) (lt_of_cell hm)).trans hm⟩, hb.size, Nat.le_refl _, by simp, by simp [Value.ownBlock], by simp [Value.ownBlock], by simp [Value.ownBlock], lt_of_cell hm⟩

/-- while All goes on. -/
def AI (w wr : World) (i : Nat) : Prop := Below w.heap.size w wr ∧ ∃ bs bsV rulV linV rs ls, WI w.heap.size wr w.heap.size bs bsV rulV linV rs ls ∧ 1 ≤ bs.length ∧ bs.length ≤ 3 + i ∧ rs.length ≤ 10 + 5 * i ∧ ls.length ≤ 10 + 5 * i

set_option maxRecDepth 8000 in
set_option maxHeartbeats 1600000 in
theorem all_any (HPR : RulesC) (HWY : WhyC) (HST : StepC 6) (m : Int) (sv : Option Addr) (n cap : Nat) (w : World) (hm : w.cell? ⟨0, 0, none⟩ = some (.int .i64 m)) (hS : ScriptAt w sv n cap) (hSB : ScriptB w sv n) (hn : n ≤ 1048576) :
    Calls Tryz.prog 6 #[.slice sv n cap] w fun e w' => e = .returned (.bool true) ∧ Below w.heap.size w w' := by
  have HS := hide hS
  have HSB := hide hSB
  have HW0 := hide (wi_start w m hm)
  clear hS hSB
  unfold wblock at HW0
  go_enter Tryz.func6, Tryz.ntmps6
  go_wp2_with fail
  refine (wmade_good 2 4 (by omega) (by omega) (by omega) (by omega) w.heap.size _ w.heap.size [] _ _ _ [] [] (by exact HW0.out) (by simp)).mono ?_
  rintro e w1 ⟨rfl, hB1, bs1, bsV1, hW1, hl1⟩
  obtain ⟨ba, bc, hbv⟩ := own_slice (xs := bs1.map bptr) (by simpa using hW1.bown)
  rw [List.length_map, hl1] at hbv
  subst hbv
  have c0 : w1.cell? ⟨w.heap.size, 0, none⟩ = some (.slice ba (([] : List Bk).length + 1) bc) := cellAt hW1.lists.blk rfl
  simp only [List.length_nil, Nat.zero_add] at c0 hl1
  have HB1 : Hid (Below w.heap.size w w1) := ((Below.refl _ w).alloc (Nat.le_refl _) _).trans hB1
  have HW1 := hide hW1
  clear hB1 hW1 HW0
  go_wp2_with fail
  refine (wstep_any HPR HWY HST 1 0 0 0 ⟨#[98, 97]⟩ ⟨#[97, 98]⟩ w.heap.size _ w.heap.size bs1 _ _ _ [] [] (by decide) (by decide) (by omega) (by omega) (by exact HW1.out) (by omega) (by omega) (by simp) (by simp)).mono ?_
  rintro e w2 ⟨rfl, hB2, bs2, bsV2, rulV2, linV2, rs2, ls2, hW2, a2, b2, d2, e2⟩
  have HB2 := hide (HB1.out.trans hB2)
  have HW2 := hide hW2
  simp only [List.length_nil] at d2 e2
  clear hB2 hW2 HB1 HW1 c0
  go_wp2_with fail
  refine (wstep_any HPR HWY HST 2 0 0 0 ⟨#[98, 97, 98, 97]⟩ ⟨#[]⟩ w.heap.size _ w.heap.size bs2 _ _ _ rs2 ls2 (by decide) (by decide) (by omega) (by omega) (by exact HW2.out) (by omega) (by omega) (by omega) (by omega)).mono ?_
  rintro e w3 ⟨rfl, hB3, bs3, bsV3, rulV3, linV3, rs3, ls3, hW3, a3, b3, d3, e3⟩
  have H0 : Hid (AI w w3 0) := ⟨HB2.out.trans hB3, bs3, bsV3, rulV3, linV3, rs3, ls3, hW3, by omega, by omega, by omega, by omega⟩
  clear hB3 hW3 HB2 HW2 a2 b2 d2 e2 a3 b3 d3 e3 hl1
  go_wp2_with fail
  go_loopw [4, 5] (fun okv iv wr => ∃ (i : Nat), i ≤ n ∧ okv = .bool true ∧ iv = .int .i64 (i : Int) ∧ Hid (AI w wr i)) (fun _ iv _ => n - (intOf iv).toNat)
  case atStart => exact ⟨0, Nat.zero_le _, rfl, rfl, H0⟩
  case round =>
    clear H0
    obtain ⟨i, hi, rfl, rfl, hI⟩ := hrel
    by_cases hlt : i < n
    · have hltI : (i : Int) < (n : Int) := by omega
      obtain ⟨hB, bs, bsV, rulV, linV, rs, ls, hW, a1, b1, d1, e1⟩ := hI.out
      obtain ⟨a, kd, k, x, y, s, t, rfl, h0, h1, h2, h3, h4, h5, h6, h7⟩ := (HS.out.below hB).2 i hlt
      obtain ⟨a', kd', k', x', y', s', t', ha', g0, g1, _⟩ := HS.out.2 i hlt
      simp only [Option.some.injEq] at ha'
      subst ha'
      have hkk : k' = k := by
        have := below_cell hB rfl g1
        rw [h1] at this; simp at this; exact this.symm
      subst hkk
      have hkb := HSB.out i hlt a k' rfl g1
      have HKB := hide hkb
      have HB := hide hB
      have HW := hide hW
      clear hB hW hI g0 g1 hkb
      go_wp2_with fail
      refine (wstep_any HPR HWY HST kd k' x y s t w.heap.size _ w.heap.size bs _ _ _ rs ls h6 h7 HKB.out.1 HKB.out.2 (by exact HW.out) a1 (by omega) (by omega) (by omega)).mono ?_
      rintro e w4 ⟨rfl, hB4, bs4, bsV4, rulV4, linV4, rs4, ls4, hW4, a4, b4, d4, e4⟩
      have HB4 := hide (HB.out.trans hB4)
      have HW4 := hide hW4
      clear hB4 hW4 HB HW h0 h1 h2 h3 h4 h5
      go_wp2_with fail
      refine (still_any w.heap.size _ _ _ rs4 ls4 _ (by exact HW4.out.lists) (by omega) (by omega)).mono ?_
      rintro e w5 ⟨rfl, hb5⟩
      have HN : Hid (AI w w5 (i + 1)) := ⟨HB4.out.trans (hb5.mono HW4.out.sz), bs4, bsV4, rulV4, linV4, rs4, ls4, HW4.out.same hb5, by omega, by omega, by omega, by omega⟩
      clear hb5
      go_wp2
      go_roundw
      case rel => exact ⟨i + 1, by omega, rfl, by go_num, HN⟩
      case measure => simp [intOf]; omega
    · go_wp2
      go_ret
      exact ⟨rfl, hI.out.1⟩
end Go.Proofs.YtfiebibpgbadlaaGreat
