import Derived.Test.YtfiebibpgbadlaaGreatAllJ
namespace Go.Proofs.YtfiebibpgbadlaaGreat
open Go.RowKit
set_option linter.unusedVariables false
set_option linter.unusedSimpArgs false

def lpickN (c : Int) (n : Nat) : Nat := (if c < 0 then -(c + 1) else c).toNat % n
theorem lpickN_lt (c : Int) {n : Nat} (h : 1 ≤ n) : lpickN c n < n := Nat.mod_lt _ h
theorem lpick_neg {c : Int} {n : Nat} (h : c < 0) : -((c + 1).tmod (n : Int)) = ((lpickN c n : Nat) : Int) := by
  unfold lpickN
  rw [if_pos h, ← Int.neg_tmod, Int.tmod_eq_emod_of_nonneg (by omega), Int.natCast_emod, Int.toNat_of_nonneg (by omega)]
theorem lpick_pos {c : Int} {n : Nat} (h : 0 ≤ c) : c % (n : Int) = ((lpickN c n : Nat) : Int) := by
  unfold lpickN
  rw [if_neg (by omega), Int.natCast_emod, Int.toNat_of_nonneg h]
theorem lpick_any (c : Int) (n : Nat) (w : World) (hc1 : -9223372036854775808 ≤ c) (hc2 : c ≤ 9223372036854775807) (hn : 1 ≤ n) (hn2 : n ≤ 1099511627776) :
    Calls Tryz.prog 23 #[.int .i64 c, .int .i64 (n : Int)] w fun e w' => e = .returned (.int .i64 ((lpickN c n : Nat) : Int)) ∧ w' = w := by
  by_cases h : c < 0
  · go_enter Tryz.func23, Tryz.ntmps23
    go_wp2
    go_ret
    exact ⟨ret_int (lpick_neg h), rfl⟩
  · go_enter Tryz.func23, Tryz.ntmps23
    go_wp2
    go_ret
    exact ⟨ret_int (lpick_pos h), rfl⟩

theorem lpick_q (c N : Int) (n : Nat) (w : World) (hN : N = (n : Int)) (hc1 : -9223372036854775808 ≤ c) (hc2 : c ≤ 9223372036854775807) (hn : 1 ≤ n) (hn2 : n ≤ 1099511627776) {p : Nat} (hp : lpickN c n = p) :
    Calls Tryz.prog 23 #[.int .i64 c, .int .i64 N] w fun e w' => e = .returned (.int .i64 ((p : Nat) : Int)) ∧ ∃ m, w' = w.drewN m := by
  subst hN hp
  exact (lpick_any c n w hc1 hc2 hn hn2).mono fun _ _ ⟨h1, h2⟩ => ⟨h1, 0, h2⟩

/-- every kind of step. -/
theorem lstep_all (HST : StepC 6) (kd k a b : Int) (s t : ByteArray) (A : Nat → Prop) (w : World) (xb bb rb gw cw L M : Nat) (hs : s.size ≤ maxLen) (ht : t.size ≤ maxLen) (h : BothR A w xb bb rb gw cw L M) :
    Calls Tryz.prog 19 #[.pointer (some ⟨xb, 0, none⟩), .agg #[.int .i64 kd, .int .i64 k, .int .i64 a, .int .i64 b, .string s, .string t]] w fun e w' => e = .returned (.bool true) ∧ BA A w w' ∧ BothR A w' xb bb rb gw cw L M := by
  by_cases h6 : kd ≤ 6
  · exact HST kd k a b s t A w xb bb rb gw cw L M h6 hs ht h
  have HA := hide (h.alloc (opBox kd k a b s t))
  have o0 : (w.alloc (opBox kd k a b s t)).cell? ⟨w.heap.size, 0, none⟩ = some (.int .i64 kd) := cellAt (heap_alloc_new w _) rfl
  have e1 : (kd == 1) = false := by simp; omega
  have e2 : (kd == 2) = false := by simp; omega
  have e3 : (kd == 3) = false := by simp; omega
  have e4 : (kd == 4) = false := by simp; omega
  have e5 : (kd == 5) = false := by simp; omega
  have e6 : (kd == 6) = false := by simp; omega
  clear h h6
  unfold opBox at *
  go_enter Tryz.func19, Tryz.ntmps19
  go_wp2
  go_ret
  exact ⟨rfl, HA.out.2, HA.out.1⟩

/-- what a step of All's leaves. -/
def WStep (B : Nat) (w w' : World) (wb n r l : Nat) : Prop := Below B w w' ∧ ∃ bs bsV rulV linV rs ls, WI B w' wb bs bsV rulV linV rs ls ∧ n ≤ bs.length ∧ bs.length ≤ n + 1 ∧ rs.length ≤ r + 5 ∧ ls.length ≤ l + 5

set_option maxRecDepth 8000 in
set_option maxHeartbeats 1600000 in
theorem wstep_other (HST : StepC 6) (kd k a b : Int) (s t : ByteArray) (B : Nat) (w : World) (wb : Nat) (bs : List Bk) (bsV rulV linV : Value) (rs ls : List Value) (h7 : kd ≠ 7) (h4 : kd ≠ 4) (h6 : kd ≠ 6) (hs : s.size ≤ maxLen) (ht : t.size ≤ maxLen) (hk1 : -9223372036854775808 ≤ k) (hk2 : k ≤ 9223372036854775807)
    (h : WI B w wb bs bsV rulV linV rs ls) (hn : 1 ≤ bs.length) (hn2 : bs.length ≤ 2000000) :
    Calls Tryz.prog 10 #[.pointer (some ⟨wb, 0, none⟩), .agg #[.int .i64 kd, .int .i64 k, .int .i64 a, .int .i64 b, .string s, .string t]] w fun e w' => e = .returned (.bool true) ∧ WStep B w w' wb bs.length rs.length ls.length := by
  have hb0 := below_alloc w (opBox kd k a b s t)
  have hW := h.same hb0
  have HB0 := hide (hb0.mono h.sz)
  have o0 : (w.alloc (opBox kd k a b s t)).cell? ⟨w.heap.size, 0, none⟩ = some (.int .i64 kd) := cellAt (heap_alloc_new w _) rfl
  have o1 : (w.alloc (opBox kd k a b s t)).cell? ⟨w.heap.size, 1, none⟩ = some (.int .i64 k) := cellAt (heap_alloc_new w _) rfl
  have o2 : (w.alloc (opBox kd k a b s t)).cell? ⟨w.heap.size, 2, none⟩ = some (.int .i64 a) := cellAt (heap_alloc_new w _) rfl
  have o3 : (w.alloc (opBox kd k a b s t)).cell? ⟨w.heap.size, 3, none⟩ = some (.int .i64 b) := cellAt (heap_alloc_new w _) rfl
  have o4 : (w.alloc (opBox kd k a b s t)).cell? ⟨w.heap.size, 4, none⟩ = some (.string s) := cellAt (heap_alloc_new w _) rfl
  have o5 : (w.alloc (opBox kd k a b s t)).cell? ⟨w.heap.size, 5, none⟩ = some (.string t) := cellAt (heap_alloc_new w _) rfl
  have hpl := lpickN_lt k hn
  obtain ⟨p, hp⟩ : ∃ p, lpickN k bs.length = p := ⟨_, rfl⟩
  rw [hp] at hpl
  have HP := hide hp
  clear hp
  obtain ⟨bk, hbk⟩ : ∃ bk, bs[p]? = some bk := ⟨bs[p], List.getElem?_eq_getElem hpl⟩
  obtain ⟨gb, cb, hbv, cb1⟩ := own_cell (xs := bs.map bptr) (by simpa using hW.bown) (k := p) (u := bptr bk) (by rw [List.getElem?_map, hbk]; rfl)
  rw [List.length_map] at hbv
  have cw : (w.alloc (opBox kd k a b s t)).cell? ⟨wb, 0, none⟩ = some bsV := cellAt hW.lists.blk rfl
  subst hbv
  unfold bptr at cb1
  have HBK := hide hbk
  have HW := hide hW
  have e7 : (kd == 7) = false := by simpa using h7
  have e4 : (kd == 4) = false := by simpa using h4
  have e6 : (kd == 6) = false := by simpa using h6
  clear h hW hb0 h7 h4 h6 hbk
  unfold opBox at *
  go_enter Tryz.func10, Tryz.ntmps10
  go_wp2_with fail
  generalize w.alloc _ = w1 at *
  go_quiet ((go_at_call 23; refine Calls.quiet_of (lpick_q k _ bs.length _ rfl hk1 hk2 hn (by omega) HP.out)))
  go_wp2_with fail
  refine (lstep_all HST kd k a b s t (AOf (w1.drewN _) bk) _ bk.xb bk.bb bk.rb bk.gw bk.cw bk.L bk.M hs ht (by exact (((HW.out.same (below_draw _)).books bk (List.mem_of_getElem? HBK.out)).both))).mono ?_
  rintro e w2 ⟨rfl, hA, hR⟩
  have HF := hide ((HW.out.same (below_draw _)).step HBK.out hA hR)
  clear hA hR
  go_wp2
  go_ret
  obtain ⟨sv', hW2, _, hB2⟩ := HF.out
  exact ⟨rfl, (HB0.out.trans ((below_draw _).mono HW.out.sz)).trans hB2, _, _, _, _, _, _, hW2, by simp, by simp, by omega, by omega⟩
end Go.Proofs.YtfiebibpgbadlaaGreat
namespace Go.Proofs.YtfiebibpgbadlaaGreat
open Go.RowKit
set_option linter.unusedVariables false
set_option linter.unusedSimpArgs false

theorem Tryz.infoPb : (Tryz.prog.info? 56).map (fun i => (i.zero, i.size, i.bytes)) = some (some (.pointer none), 1, 8) := by kernel_rfl
theorem one_ptr (a : Option Addr) : ∀ u ∈ [Value.pointer a], u.oneCell' = true := by intro u hu; simp at hu; subst hu; rfl

/-- blocks of other kinds may be written. -/
theorem bk_kept {w w' : World} {b : Bk} {S : List Nat} (h : BkAt w b) (hK : Kept S w w') (h0 : 0 ∉ S) (hS : ∀ k, k ∈ S → ∀ c t fr, w.heap[k]? = some (.cells c t fr) → t = 30 ∨ t = 56 ∨ t = 68 ∨ t = 50 ∨ t = 54) : BkAt w' b := by
  obtain ⟨rv, sameV, said, R, gs, fresh, h⟩ := h
  have hnot : ∀ k cs t fr, w.heap[k]? = some (.cells cs t fr) → t ≠ 30 → t ≠ 56 → t ≠ 68 → t ≠ 50 → t ≠ 54 → k ∉ S := by
    intro k cs t fr e n1 n2 n3 n4 n5 hm
    rcases hS k hm _ _ _ e with h | h | h | h | h
    · exact n1 h
    · exact n2 h
    · exact n3 h
    · exact n4 h
    · exact n5 h
  obtain ⟨m, hm⟩ := h.book.mx
  refine ⟨rv, sameV, said, R, gs, fresh, hK.at h.x (hnot _ _ _ _ h.x (by decide) (by decide) (by decide) (by decide) (by decide)), ?_, ?_, h.prb, h.psv⟩
  · refine h.book.move (hK.block _ (lt_of_block h.book.blk) (hnot _ _ _ _ h.book.blk (by decide) (by decide) (by decide) (by decide) (by decide))) (h.book.rul.kept hK ?_) (h.book.sad.kept hK (fun k hk c fr e => hnot _ _ _ _ e (by decide) (by decide) (by decide) (by decide) (by decide) hk)) ⟨m, hK.cell hm h0⟩
    intro k hk e
    rcases h.book.rul.2 with ⟨h1, _⟩ | ⟨g, cap, cur, h1, _, hg, _⟩
    · rw [h1] at e; simp [Value.ownBlock] at e
    · rw [h1] at e; simp [Value.ownBlock] at e; subst e
      exact hnot _ _ _ _ hg (by decide) (by decide) (by decide) (by decide) (by decide) hk
  · refine ⟨h.ref.L1, h.ref.L3, h.ref.M1, h.ref.M6, h.ref.few, hK.at h.ref.blk (hnot _ _ _ _ h.ref.blk (by decide) (by decide) (by decide) (by decide) (by decide)), ?_, ?_, h.ref.words, ?_⟩
    · obtain ⟨cur, hg, _⟩ := h.ref.wrd
      exact h.ref.wrd.kept hK (hnot _ _ _ _ hg (by decide) (by decide) (by decide) (by decide) (by decide))
    · refine h.ref.sd.kept hK (fun k hk e => ?_) ?_
      · obtain ⟨c, hc⟩ := h.ref.own_type e
        exact hnot _ _ _ _ hc (by decide) (by decide) (by decide) (by decide) (by decide) hk
      · intro k hk cs fr e
        exact hnot _ _ _ _ e (by decide) (by decide) (by decide) (by decide) (by decide) hk
    · intro hf
      obtain ⟨g, xs, h1, h2, h3⟩ := h.ref.done hf
      exact ⟨g, xs, h1, hK.at h2 (hnot _ _ _ _ h2 (by decide) (by decide) (by decide) (by decide) (by decide)), h3⟩

theorem bk_new {w : World} {N xb bb rb gw cw L M : Nat} (h : BothR (Up N) w xb bb rb gw cw L M) : ∃ sv, BkAt w ⟨xb, bb, rb, gw, cw, L, M, sv⟩ ∧ ∀ k, k ∈ wrt ⟨xb, bb, rb, gw, cw, L, M, sv⟩ → N ≤ k := by
  obtain ⟨rv, saidV, sameV, said, R, gs, fresh, h⟩ := h
  refine ⟨saidV, ⟨rv, sameV, said, R, gs, fresh, h.x, h.book, h.ref, ?_, fun e => h.pos (h.los 0 e)⟩, ?_⟩
  · intro e; simp at e; exact h.pos (by rw [← e]; exact h.lor)
  · intro k hk
    simp [wrt] at hk
    rcases hk with rfl | rfl | hk
    · exact h.lob
    · exact h.lor
    · exact h.los k hk

theorem wrt_lt {w : World} {b : Bk} (h : BkAt w b) : ∀ k, k ∈ wrt b → k < w.heap.size := by
  intro k hk
  obtain ⟨c, t, e, _⟩ := wrt_type h k hk
  exact lt_of_block e

/-- one Book more. -/
theorem WI.add {B : Nat} {w w1 w0 w3 : World} {wb g3 cap3 : Nat} {bs : List Bk} {bsV rulV linV : Value} {rs ls : List Value} {b : Bk} {ob : Obj} (h : WI B w wb bs bsV rulV linV rs ls) (hb : Below w.heap.size w w1) (hbk : BkAt w1 b) (hN : ∀ k, k ∈ wrt b → w.heap.size ≤ k) (hs : SameW (w1.alloc ob) w0)
    (hown : w3.ownsRow 0 56 1 (.slice (some ⟨g3, 0, none⟩) (bs.length + 1) cap3) (bs.length + 1) (bs.map bptr ++ [bptr b])) (hgrow : w0.grownBy w3 bsV.ownBlock) (hex : ∀ k, (Value.slice (some ⟨g3, 0, none⟩) (bs.length + 1) cap3).ownBlock = some k → bsV.ownBlock = some k ∨ w1.heap.size + 1 ≤ k) :
    w3.heap[wb]? = some (wblock bsV rulV linV) ∧ Below B w (w3.setCell ⟨wb, 0, none⟩ (.slice (some ⟨g3, 0, none⟩) (bs.length + 1) cap3)) ∧
    WI B (w3.setCell ⟨wb, 0, none⟩ (.slice (some ⟨g3, 0, none⟩) (bs.length + 1) cap3)) wb (bs ++ [b]) (.slice (some ⟨g3, 0, none⟩) (bs.length + 1) cap3) rulV linV rs ls := by
  have hb0 : Below w1.heap.size w1 w0 := below_trans (below_alloc w1 ob) (below_same hs)
  have hW0 := (h.same hb).same hb0
  have hbk0 := bk_same hbk hb0
  have hK3 : Kept bsV.ownBlock.toList w0 w3 := Kept.of_grown hgrow (fun k hk => by simp [hk])
  have hr : ∀ k, bsV.ownBlock = some k → ∃ c, w0.heap[k]? = some (.cells c 56 (0, 0)) := fun k hk => own_type hW0.bown hk
  have hwb : bsV.ownBlock ≠ some wb := by
    intro e
    obtain ⟨c, hc⟩ := hr wb e
    rw [hW0.lists.blk] at hc; simp [wblock] at hc
  have hb3 := hK3.at hW0.lists.blk (by simpa using hwb)
  have hK4 : Kept [wb] w3 (w3.setCell ⟨wb, 0, none⟩ (.slice (some ⟨g3, 0, none⟩) (bs.length + 1) cap3)) := (Kept.refl _ _).setCell (Or.inl (by simp)) _
  have hK : Kept (wb :: bsV.ownBlock.toList) w0 (w3.setCell ⟨wb, 0, none⟩ (.slice (some ⟨g3, 0, none⟩) (bs.length + 1) cap3)) :=
    ⟨hK4.os.trans hK3.os, hK4.tape.trans hK3.tape, hK4.output.trans hK3.output, Nat.le_trans hK3.size hK4.size, fun k hk hn => by
      simp at hn
      rw [hK4.block k (Nat.lt_of_lt_of_le hk hK3.size) (by simpa using hn.1), hK3.block k hk (by simpa using hn.2)]⟩
  have hS : ∀ k, k ∈ wb :: bsV.ownBlock.toList → ∀ c t fr, w0.heap[k]? = some (.cells c t fr) → t = 30 ∨ t = 56 ∨ t = 68 ∨ t = 50 ∨ t = 54 := by
    intro k hk c t fr e
    simp at hk
    rcases hk with rfl | hk
    · rw [hW0.lists.blk] at e; simp [wblock] at e; exact .inl e.2.1.symm
    · obtain ⟨c', hc'⟩ := hr k hk
      rw [hc'] at e; simp at e; exact .inr (.inl e.2.1.symm)
  have hlt := lt_of_block h.lists.blk
  have hBl : Below B w0 (w3.setCell ⟨wb, 0, none⟩ (.slice (some ⟨g3, 0, none⟩) (bs.length + 1) cap3)) := hK.below hW0.sz (by
    intro k hk
    simp at hk
    rcases hk with rfl | hk
    · exact h.low
    · exact h.lobs k hk)
  obtain ⟨m, hm⟩ := hW0.mx
  have h0 : 0 ∉ wb :: bsV.ownBlock.toList := by
    intro hm0
    simp at hm0
    have := h.pos
    rcases hm0 with e | e
    · have := h.low; omega
    · have := h.lobs 0 e; omega
  have hnt : ∀ k, k ∈ wb :: bsV.ownBlock.toList → ∀ c t fr, w0.heap[k]? = some (.cells c t fr) → t = 30 ∨ t = 56 := by
    intro k hk c t fr e
    simp at hk
    rcases hk with rfl | hk
    · rw [hW0.lists.blk] at e; simp [wblock] at e; exact .inl e.2.1.symm
    · obtain ⟨c', hc'⟩ := hr k hk
      rw [hc'] at e; simp at e; exact .inr e.2.1.symm
  refine ⟨hb3, ((hb.mono h.sz).trans (hb0.mono (Nat.le_trans h.sz hb.size))).trans hBl, ?_⟩
  refine ⟨⟨?_, own_kept hW0.lists.rown hK ?_, own_kept hW0.lists.lown hK ?_, fun k v hk => (hW0.lists.rmk k v hk).kept hK ?_, fun k v hk => (hW0.lists.lmk k v hk).kept hK ?_⟩, ?_, ?_, ?_, ⟨m, hK.cell hm h0⟩, Nat.le_trans hW0.sz hK.size, h.low, ?_, ?_, h.lor, h.lol, h.pos⟩
  · rw [heap_setCell_same _ _ _ _ _ _ hb3]; rfl
  · intro k hk e
    obtain ⟨c, hc⟩ := own_type hW0.lists.rown e
    rcases hnt k hk _ _ _ hc with e | e <;> exact absurd e (by decide)
  · intro k hk e
    obtain ⟨c, hc⟩ := own_type hW0.lists.lown e
    rcases hnt k hk _ _ _ hc with e | e <;> exact absurd e (by decide)
  · intro k hk c fr e
    rcases hnt k hk _ _ _ e with e | e <;> exact absurd e (by decide)
  · intro k hk c fr e
    rcases hnt k hk _ _ _ e with e | e <;> exact absurd e (by decide)
  · rw [List.map_append, List.length_append]
    refine own_kept hown hK4 ?_
    simp only [List.mem_singleton]
    rintro k rfl e
    obtain ⟨c, hc⟩ := own_type hown e
    rw [hb3] at hc; simp [wblock] at hc
  · intro c hc
    rcases List.mem_append.1 hc with hc | hc
    · exact bk_kept (hW0.books c hc) hK h0 hS
    · simp at hc; subst hc; exact bk_kept hbk0 hK h0 hS
  · rw [List.pairwise_append]
    refine ⟨h.apart, by simp, ?_⟩
    intro c hc d hd
    simp at hd
    subst hd
    have h1 := wrt_lt (h.books c hc)
    have e1 := h1 c.bb (by simp [wrt])
    have e2 := h1 c.rb (by simp [wrt])
    have f1 := hN d.bb (by simp [wrt])
    have f2 := hN d.rb (by simp [wrt])
    refine ⟨by omega, by omega, fun k hk e => ?_⟩
    have e3 := h1 k (by simp [wrt, hk])
    have f3 := hN k (by simp [wrt, e])
    omega
  · intro c hc k hk
    rcases List.mem_append.1 hc with hc | hc
    · exact h.lob c hc k hk
    · simp at hc; subst hc; exact Nat.le_trans h.sz (hN k hk)
  · intro k hk
    rcases hex k hk with e | e
    · exact h.lobs k e
    · have := h.sz; have := hb.size; omega
end Go.Proofs.YtfiebibpgbadlaaGreat
namespace Go.Proofs.YtfiebibpgbadlaaGreat
open Go.RowKit
set_option linter.unusedVariables false
set_option linter.unusedSimpArgs false

set_option maxRecDepth 8000 in
set_option maxHeartbeats 1600000 in
theorem wmade_any (l m : Int) (B : Nat) (w : World) (wb : Nat) (bs : List Bk) (bsV rulV linV : Value) (rs ls : List Value) (h : WI B w wb bs bsV rulV linV rs ls) (hn2 : bs.length ≤ 2000000) :
    Calls Tryz.prog 9 #[.pointer (some ⟨wb, 0, none⟩), .int .i64 l, .int .i64 m] w fun e w' => e = .returned (.bool true) ∧ WStep B w w' wb bs.length rs.length ls.length := by
  obtain ⟨ba, bc, hbv⟩ := own_slice (xs := bs.map bptr) (by simpa using h.bown)
  rw [List.length_map] at hbv
  subst hbv
  obtain ⟨mx, hmx⟩ := h.mx
  have HW := hide h
  clear h
  by_cases hbad : l < 1 ∨ 3 < l ∨ m < 1 ∨ 6 < m
  · go_enter Tryz.func9, Tryz.ntmps9
    go_wp2_with fail
    refine (begun_bad l m _ hbad).mono ?_
    rintro e w1 ⟨rfl, hb⟩
    have HB := hide hb
    clear hb
    go_wp2
    go_ret
    exact ⟨rfl, HB.out.mono HW.out.sz, _, _, _, _, _, _, HW.out.same HB.out, Nat.le_refl _, by omega, by omega, by omega⟩
  · obtain ⟨L, rfl⟩ := Int.eq_ofNat_of_zero_le (a := l) (by omega)
    obtain ⟨M, rfl⟩ := Int.eq_ofNat_of_zero_le (a := m) (by omega)
    go_enter Tryz.func9, Tryz.ntmps9
    go_wp2_with fail
    refine (begun_any L M mx _ (by omega) (by omega) (by omega) (by omega) hmx).mono ?_
    rintro e w1 ⟨xb, bb, rb, gw, cw, rfl, hb, hR⟩
    obtain ⟨sv, hbk, hN⟩ := bk_new hR
    have HB := hide hb
    have HBK := hide hbk
    have HN := hide hN
    have c0 : w1.cell? ⟨wb, 0, none⟩ = some (.slice ba bs.length bc) := cellAt (HW.out.same hb).lists.blk rfl
    clear hb hR hbk hN
    obtain ⟨i0, hi0, hz0, hz1, hz2⟩ := info_parts Tryz.infoPb
    have HI0 := hide hi0
    have HZ0 := hide hz0
    have HZ1 := hide hz1
    have HZ2 := hide hz2
    clear hi0 hz0 hz1 hz2
    go_wp2_with (at_builtin; refine wpList_append_exact _ rfl (.tmp 21) (.tmp 23) 26 rfl 0 56 i0 (.pointer none) 1 8 Tryz.underlying26 HI0.out HZ0.out HZ1.out HZ2.out rfl (by decide) (.slice ba bs.length bc) bs.length (bs.map bptr) rfl ?c1 ⟨w1.heap.size, 0, none⟩ 1 1 [bptr ⟨xb, bb, rb, gw, cw, L, M, sv⟩] rfl rfl ?c2 (one_ptr _) ?c3 ?c4 ?c5 ?_)
    case c1 => exact (HW.out.same HB.out).bown.alloc _
    case c2 => exact newCell00 w1 _ _
    case c3 => unfold maxLen; omega
    case c4 => omega
    case c5 => exact Nat.zero_le _
    intro v3 w3 hown hgrow hex
    obtain ⟨g3, cap3, rfl⟩ := own_shape hown
    have R := hide (HW.out.add HB.out HBK.out HN.out (by exact ⟨rfl, rfl, rfl, rfl⟩ : SameW (w1.alloc _) _) hown hgrow hex)
    have z0 : w3.cell? ⟨wb, 0, none⟩ = some (.slice ba bs.length bc) := cellAt R.out.1 rfl
    have zf : w3.frozen? ⟨wb, 0, none⟩ = false := frozen_of_row w3 _ 0 _ _ R.out.1
    clear hown hgrow hex c0
    go_wp2
    go_ret
    exact ⟨rfl, R.out.2.1, _, _, _, _, _, _, R.out.2.2, by simp, by simp, by omega, by omega⟩
end Go.Proofs.YtfiebibpgbadlaaGreat
