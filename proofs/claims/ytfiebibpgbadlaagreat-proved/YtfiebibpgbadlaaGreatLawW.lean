import Derived.Test.YtfiebibpgbadlaaGreatLnA
import Derived.Test.YtfiebibpgbadlaaGreatLawR
namespace Go.Proofs.YtfiebibpgbadlaaGreat
open Go.RowKit
set_option linter.unusedVariables false
set_option linter.unusedSimpArgs false

theorem drawn_any (i g cap : Nat) (ls : List Hw.Ln) (n : Hw.Ln) (w : World) (xb rb gw cw L M : Nat) (saidV sameV : Value) (said : List Hw.Rl) (gs : List Nat) (fresh : Bool)
    (x1 : w.cell? ⟨xb, 1, none⟩ = some (.pointer (some ⟨rb, 0, none⟩))) (hR : RefR w rb gw cw L M saidV sameV said gs fresh) (hl : Hw.Lines L M said ls) (hc : ∀ i n, ls[i]? = some n → LineAt w g i n) (hn : ls[i]? = some n) :
    Calls Tryz.prog 48 #[.pointer (some ⟨xb, 0, none⟩), .slice (some ⟨g, 0, none⟩) ls.length cap, .int .i64 (i : Int)] w fun e w' => e = .returned (.bool true) ∧ Below w.heap.size w w' := by
  have hi : i < ls.length := (List.getElem?_eq_some_iff.1 hn).1
  have hw := hl.words n (List.mem_of_getElem? hn)
  have hA := hc i n hn
  have cL : w.cell? ⟨rb, 0, none⟩ = some (.int .i64 L) := cellAt hR.blk rfl
  have cM : w.cell? ⟨rb, 1, none⟩ = some (.int .i64 M) := cellAt hR.blk rfl
  cases hl.drawn i n hn with
  | self x => exact drawn_self i g cap ls.length w xb rb L M x hR.L1 hR.L3 hR.M6 hl.few hi hw.1 hw.2 x1 cL cM hA
  | said k x y h =>
    have hk : k < said.length := (List.getElem?_eq_some_iff.1 h).1
    obtain ⟨sg, sc, cur, hv, _, d2⟩ := hR.sd.read hk
    have hp := hR.sd.pair k hk
    rw [show said.getD k ([], []) = (x, y) by simp [List.getD, h]] at hp
    have d1 : w.cell? ⟨rb, 2, none⟩ = some (.slice (some ⟨sg, 0, none⟩) said.length sc) := by rw [← hv]; exact cellAt hR.blk rfl
    exact drawn_said i g cap ls.length w xb rb L M k said.length sg sc (gs.getD k 0) x y hR.L1 hR.L3 hR.M6 hl.few hi hw.1 hw.2 x1 cL cM hA hk hR.few d1 d2 (cellAt hp rfl) (cellAt hp rfl)
  | back j m hj hm => exact drawn_back i g cap ls.length w xb rb L M j m.left m.right hR.L1 hR.L3 hR.M6 hl.few hi hw.1 hw.2 x1 cL cM hA hj (hc j m hm).c1 (hc j m hm).c2
  | thn j k m o hj hk hm ho h => exact drawn_thn i g cap ls.length w xb rb L M j k m.left m.right o.right hR.L1 hR.L3 hR.M6 hl.few hi hw.1 hw.2 x1 cL cM hA hj hk (hc j m hm).c1 (hc j m hm).c2 (by rw [h]; exact (hc k o ho).c1) (hc k o ho).c2
  | within j m u v hj hm => exact drawn_within i g cap ls.length w xb rb L M j m.left m.right u v _ _ rfl rfl hR.L1 hR.L3 hR.M6 hl.few hi hw.1 hw.2 x1 cL cM hA hj (hc j m hm).c1 (hc j m hm).c2

theorem LinesAt.kept {w w' : World} {base : Nat} {rv : Value} {ls : List Hw.Ln} {S : List Nat} (h : LinesAt w base rv ls) (hK : Kept S w w') (hn : ∀ k, k ∈ S → rv.ownBlock ≠ some k) : LinesAt w' base rv ls := by
  refine ⟨h.1, ?_⟩
  rcases h.2 with h1 | ⟨g, cap, cur, rfl, hb, hg, r⟩
  · exact .inl h1
  · exact .inr ⟨g, cap, cur, rfl, hb, hK.at hg (fun hm => hn g hm rfl), r⟩

theorem LinesAt.ref_kept {w w1 : World} {base rb : Nat} {rv : Value} {ls : List Hw.Ln} {o : Obj} (h : LinesAt w base rv ls) (hK : Kept [rb] w w1) (hr : w.heap[rb]? = some o) (ho : ∀ c fr, o ≠ .cells c 54 fr) : LinesAt w1 base rv ls := by
  refine h.kept hK ?_
  simp only [List.mem_singleton]
  rintro k rfl e
  rcases h.2 with ⟨h1, _⟩ | ⟨g, cap, cur, h1, _, hg, _⟩
  · rw [h1] at e; simp [Value.ownBlock] at e
  · rw [h1] at e; simp [Value.ownBlock] at e; subst e; rw [hr] at hg; exact ho _ _ (Option.some.inj hg)

theorem LinesAt.below {w w' : World} {base : Nat} {rv : Value} {ls : List Hw.Ln} (h : LinesAt w base rv ls) (hb : Below w.heap.size w w') : LinesAt w' base rv ls :=
  h.kept (S := []) (Kept.of_below_size hb) (by simp)
theorem LinesAt.mono {w : World} {base base' : Nat} {rv : Value} {ls : List Hw.Ln} (h : LinesAt w base rv ls) (hb : base' ≤ base) : LinesAt w base' rv ls := by
  refine ⟨h.1, ?_⟩
  rcases h.2 with h1 | ⟨g, cap, cur, h1, h2, r⟩
  · exact .inl h1
  · exact .inr ⟨g, cap, cur, h1, Nat.le_trans hb h2, r⟩

/-- what law's why is to hand back. -/
def LWhy (A : Nat → Prop) (w : World) (xb bb rb gw cw L M : Nat) (e : Ending) (w' : World) : Prop := ∃ ls ov, e = .returned (.tuple #[ov, .bool true]) ∧ (LinesAt w' w.heap.size ov ls ∧ ls.length ≤ 100000) ∧ BA A w w' ∧ BothR A w' xb bb rb gw cw L M

theorem SameAns.code {L M : Nat} {said : List Hw.Rl} {s t : Hw.Wd} {b : Bool} {c : Nat} (h : SameAns L M said s t b c) : c = 0 ∨ c = 2 := by
  by_cases hw : Hw.isWord L M s = true ∧ Hw.isWord L M t = true
  · exact Or.inl (h.1 hw.1 hw.2).1
  · exact Or.inr (h.2 hw).1

/-- behind both calls. -/
structure LW (A : Nat → Prop) (w w2 : World) (xb bb rb gw cw L M : Nat) (ov : Value) (ls : List Hw.Ln) (said : List Hw.Rl) : Prop where
  lines : LinesAt w2 w.heap.size ov ls
  belowB : BA A w w2
  both : ∃ rv saidV sameV R gs fresh, BothC A w2 xb bb rb gw cw L M rv saidV sameV said R gs fresh

theorem lwhy_fin {A : Nat → Prop} {w w0 w1 w2 : World} {xb bb rb gw cw L M : Nat} {rv saidV sameV' ov : Value} {said R : List Hw.Rl} {gs : List Nat} {fresh' : Bool} {ls : List Hw.Ln} (hb0 : Below w.heap.size w w0) (hb1 : Below w0.heap.size w0 w1)
    (hF : BothC A w2 xb bb rb gw cw L M rv saidV sameV' said R gs fresh' ∧ BA A w1.drew w2) (hL : LinesAt w2 w0.drew.heap.size ov ls) : LW A w w2 xb bb rb gw cw L M ov ls said := by
  refine ⟨hL.mono hb0.size, ?_, _, _, _, _, _, _, hF.1⟩
  exact ((BA.of_below (below_trans hb0 hb1)).trans (BA.of_below (below_same (a_same w1)))).trans hF.2

theorem num_q (e : Int) (w : World) : Calls Tryz.prog 37 #[.int .i64 e] w fun r w' => r = .returned (.int .i64 e) ∧ ∃ n, w' = w.drewN n :=
  (num_any e w).mono fun _ _ ⟨h1, h2⟩ => ⟨h1, 0, h2⟩

theorem LW.same {A : Nat → Prop} {w w2 w3 : World} {xb bb rb gw cw L M : Nat} {ov : Value} {ls : List Hw.Ln} {said : List Hw.Rl} (h : LW A w w2 xb bb rb gw cw L M ov ls said) (hb : Below w2.heap.size w2 w3) : LW A w w3 xb bb rb gw cw L M ov ls said := by
  obtain ⟨rv, saidV, sameV, R, gs, fresh, hC⟩ := h.both
  exact ⟨h.lines.below hb, h.belowB.trans (BA.of_below hb), rv, saidV, sameV, R, gs, fresh, hC.below hb⟩

theorem LW.ret {A : Nat → Prop} {w w2 : World} {xb bb rb gw cw L M : Nat} {ov : Value} {ls : List Hw.Ln} {said : List Hw.Rl} {v : Value} (h : LW A w w2 xb bb rb gw cw L M ov ls said) (hv : v = .tuple #[ov, .bool true]) (hl : ls.length ≤ 100000) : LWhy A w xb bb rb gw cw L M (.returned v) w2 := by
  obtain ⟨rv, saidV, sameV, R, gs, fresh, hC⟩ := h.both
  exact ⟨ls, ov, by rw [hv], ⟨h.lines, hl⟩, h.belowB, rv, saidV, sameV, said, R, gs, fresh, hC⟩

set_option maxRecDepth 4000 in
set_option maxHeartbeats 1600000 in
theorem lwhy_any (HW : WhyC) (kd k a b : Int) (s t : ByteArray) (A : Nat → Prop) (w : World) (xb bb rb gw cw L M : Nat) (hs : s.size ≤ maxLen) (ht : t.size ≤ maxLen) (h : BothR A w xb bb rb gw cw L M) :
    Calls Tryz.prog 26 #[.pointer (some ⟨xb, 0, none⟩), .agg #[.int .i64 kd, .int .i64 k, .int .i64 a, .int .i64 b, .string s, .string t]] w fun e w' => LWhy A w xb bb rb gw cw L M e w' := by
  obtain ⟨rv, saidV, sameV, said, R, gs, fresh, hC0⟩ := h
  have hb0 := below_alloc w (opBox kd k a b s t)
  have hC := hC0.below hb0
  have HB0 := hide hb0
  have hne : w.heap.size ≠ rb := by have := lt_of_block hC0.ref.blk; omega
  have x0 : (w.alloc (opBox kd k a b s t)).cell? ⟨xb, 0, none⟩ = some (.pointer (some ⟨bb, 0, none⟩)) := cellAt hC.x rfl
  have x1 : (w.alloc (opBox kd k a b s t)).cell? ⟨xb, 1, none⟩ = some (.pointer (some ⟨rb, 0, none⟩)) := cellAt hC.x rfl
  have o4 : (w.alloc (opBox kd k a b s t)).cell? ⟨w.heap.size, 4, none⟩ = some (.string s) := cellAt (heap_alloc_new w _) rfl
  have o5 : (w.alloc (opBox kd k a b s t)).cell? ⟨w.heap.size, 5, none⟩ = some (.string t) := cellAt (heap_alloc_new w _) rfl
  have HC := hide hC
  clear hC hC0 hb0
  unfold opBox at *
  go_enter Tryz.func26, Tryz.ntmps26
  go_wp2_with fail
  generalize hw1 : w.alloc _ = w0 at *
  have HW0 := hide hw1
  clear hw1
  go_region_held3 (fun w' => w'.cell? ⟨xb, 0, none⟩ = some (.pointer (some ⟨bb, 0, none⟩)) ∧ w'.cell? ⟨w.heap.size, 4, none⟩ = some (.string s) ∧ w'.cell? ⟨w.heap.size, 5, none⟩ = some (.string t)) (go_keep)
    (first | (go_at_call 17; refine (HW s t _ bb L M rv said R hs ht (by exact HC.out.book.same (below_same (a_same _)))).mono ?_; rintro e w1 ⟨ls, ov, c, rfl, hA, hL, hb1'⟩; have hb1 := below_trans (below_same (a_same _)) hb1'; have y0 : w1.cell? ⟨xb, 0, none⟩ = some (.pointer (some ⟨bb, 0, none⟩)) := (hb1.cell (p := ⟨xb, 0, none⟩) (lt_of_cell x0)).trans x0; have y1 : w1.cell? ⟨xb, 1, none⟩ = some (.pointer (some ⟨rb, 0, none⟩)) := (hb1.cell (p := ⟨xb, 1, none⟩) (lt_of_cell x1)).trans x1; have q4 : w1.cell? ⟨w.heap.size, 4, none⟩ = some (.string s) := (hb1.cell (p := ⟨w.heap.size, 4, none⟩) (lt_of_cell o4)).trans o4; have q5 : w1.cell? ⟨w.heap.size, 5, none⟩ = some (.string t) := (hb1.cell (p := ⟨w.heap.size, 5, none⟩) (lt_of_cell o5)).trans o5; obtain ⟨sa, lcap, hov⟩ := hL.shape; subst hov; have HB1 := hide hb1; have HA := hide hA; have HL := hide hL; clear hb1 hb1' hA hL))
  clear x0 x1 o4 o5 y0
  go_wp2_with fail
  go_region_held3 (fun w' => w'.cell? ⟨xb, 1, none⟩ = some (.pointer (some ⟨rb, 0, none⟩)) ∧ w'.cell? ⟨w.heap.size, 4, none⟩ = some (.string s) ∧ w'.cell? ⟨w.heap.size, 5, none⟩ = some (.string t)) (go_keep)
    (first | (go_at_call 47; refine (refAlike_any s t _ rb gw cw L M saidV sameV said gs fresh hs ht (by exact (HC.out.below HB1.out).ref.same rfl)).mono ?_; rintro e w2 ⟨m1, c1, m2, c2, rfl, hA1, hA2, hK2, sameV', fresh', hR2⟩; obtain ⟨bv, c0, hS0, ha, hb, hc⟩ := HA.out; obtain ⟨he1, he2⟩ := hS0.uniq HC.out.book.L3 (SameAns.of_ref hA1 hA2); rw [← he1, ← he2]; have HABC := hide (And.intro hS0 (And.intro ha (And.intro hb hc))); have HF := hide ((HC.out.below (below_trans HB1.out (below_same (a_same _)))).ref_step hK2 hR2); have HL2 := hide (HL.out.ref_kept (w1 := w2) (((a_same _).kept _).trans hK2) (HC.out.below HB1.out).ref.blk (by intro c fr; simp [refBlock])); have z1 : w2.cell? ⟨xb, 1, none⟩ = some (.pointer (some ⟨rb, 0, none⟩)) := cellAt HF.out.1.x rfl; have z4 : w2.cell? ⟨w.heap.size, 4, none⟩ = some (.string s) := hK2.cell q4 (by simpa using hne); have z5 : w2.cell? ⟨w.heap.size, 5, none⟩ = some (.string t) := hK2.cell q5 (by simpa using hne); clear hK2 hR2 hA1 hA2 he1 he2 hS0 ha hb hc))
  clear y1 q4 q5
  have hcc := HABC.out.1.code
  have HFA := hide (lwhy_fin HB0.out HB1.out HF.out HL2.out)
  clear HF HL2 HL HA HB1 HC HW0 HB0
  by_cases hc2 : c0 = 2
  · subst hc2
    obtain ⟨rfl, rfl⟩ := HABC.out.2.1 rfl
    clear z1 z4 z5 HABC
    go_wp2_with fail
    refine (num_any _ _).mono ?_
    rintro e w3 ⟨rfl, rfl⟩
    go_wp2
    go_ret2
    exact HFA.out.ret (by simp) (by simp)
  have hc0 : c0 = 0 := by omega
  subst hc0
  clear hc2 hcc
  cases bv with
  | false =>
    obtain ⟨rfl, rfl⟩ := HABC.out.2.2.1 rfl rfl
    clear z1 z4 z5 HABC
    go_wp2_with fail
    refine (num_any _ _).mono ?_
    rintro e w3 ⟨rfl, rfl⟩
    go_wp2
    go_ret2
    exact HFA.out.ret (by simp) (by simp)
  | true =>
    obtain ⟨rfl, hLn, ls0, n, rfl, hn1, hn2⟩ := HABC.out.2.2.2 rfl rfl
    obtain ⟨g, cap3, hov, hg, hgb, hcells⟩ := HFA.out.lines.read (by simp)
    simp only [Value.slice.injEq] at hov
    obtain ⟨rfl, -, rfl⟩ := hov
    have hA := hcells ls0.length n (by simp)
    have d1 : w2.cell? ⟨g, ls0.length * 8 + 1, none⟩ = some (.string s) := by rw [hA.c1, hn1, bytes_eta]
    have d2 : w2.cell? ⟨g, ls0.length * 8 + 2, none⟩ = some (.string t) := by rw [hA.c2, hn2, bytes_eta]
    have hfew := hLn.few
    have hlen : (ls0 ++ [n]).length = ls0.length + 1 := by simp
    have HLEN := hide hlen
    rw [hlen] at hfew ⊢
    have HLN := hide hLn
    have HCELLS := hide hcells
    clear hA hLn hcells hlen HABC hn1 hn2
    generalize ls0.length = N0 at *
    have hgt : decide ((100000 : Int) < (N0 : Int) + 1) = false := by simp; omega
    have HFEW := hide hfew
    have hN0 : N0 ≤ 100000 := by omega
    have hlt0 : (N0 : Int) < (N0 : Int) + 1 := by omega
    have hlt1 : N0 < N0 + 1 := by omega
    clear hfew
    go_wp2_with fail
    go_quiet ((go_at_call 37; refine Calls.quiet_of (num_q _ _)))
    go_wp2_with fail
    clear d1 d2 hgt hlt0 hlt1 z4 z5
    obtain ⟨rv2, saidV2, sameV2, R2, gs2, fresh2, hC2⟩ := HFA.out.both
    have HC2 := hide hC2
    clear hC2
    go_loopw [12] (fun iv wr => ∃ (i : Nat), i ≤ N0 + 1 ∧ iv = .int .i64 (i : Int) ∧ Hid (Below w2.heap.size w2 wr)) (fun iv _ => N0 + 1 - (intOf iv).toNat)
    case atStart => exact ⟨0, Nat.zero_le _, rfl, below_draw _⟩
    case round =>
      obtain ⟨i, hi, rfl, hb⟩ := hrel
      by_cases hlt : i < N0 + 1
      · have hltI : (i : Int) < (N0 : Int) + 1 := by omega
        obtain ⟨m, hm⟩ : ∃ m, (ls0 ++ [n])[i]? = some m := ⟨(ls0 ++ [n])[i]'(by rw [HLEN.out]; exact hlt), List.getElem?_eq_getElem _⟩
        have hC3 := HC2.out.below hb.out
        have hd := drawn_any i g lcap (ls0 ++ [n]) m wr xb rb gw cw L M saidV2 sameV2 said gs2 fresh2 (cellAt hC3.x rfl) hC3.ref HLN.out (fun j o ho => (HCELLS.out j o ho).below hb.out) hm
        rw [HLEN.out] at hd
        have HD := hide hd
        clear hd hC3 hm
        go_wp2_with fail
        refine HD.out.mono ?_
        rintro e w5 ⟨rfl, hb5⟩
        have HB5 : Hid (Below w2.heap.size w2 w5) := below_trans hb.out hb5
        clear hb5
        go_wp2
        go_roundw
        case rel => exact ⟨i + 1, by omega, by go_num, HB5⟩
        case measure => simp [intOf]; omega
      · go_wp2
        go_ret2
        exact (HFA.out.same hb.out).ret (by rw [HLEN.out]; rfl) (by rw [HLEN.out]; exact HFEW.out)

theorem lstep6_any (HP : RulesC) (HQ : CountC) (HW : WhyC) : StepC 6 := by
  intro kd k a b s t A w xb bb rb gw cw L M h6 hs ht h
  by_cases h5 : kd ≤ 5
  · exact lstep5_any HP HQ kd k a b s t A w xb bb rb gw cw L M h5 hs ht h
  have hk : kd = 6 := by omega
  subst hk
  have HA := hide (h.alloc (opBox 6 k a b s t))
  have o0 : (w.alloc (opBox 6 k a b s t)).cell? ⟨w.heap.size, 0, none⟩ = some (.int .i64 6) := cellAt (heap_alloc_new w _) rfl
  have o1 : (w.alloc (opBox 6 k a b s t)).cell? ⟨w.heap.size, 1, none⟩ = some (.int .i64 k) := cellAt (heap_alloc_new w _) rfl
  have o2 : (w.alloc (opBox 6 k a b s t)).cell? ⟨w.heap.size, 2, none⟩ = some (.int .i64 a) := cellAt (heap_alloc_new w _) rfl
  have o3 : (w.alloc (opBox 6 k a b s t)).cell? ⟨w.heap.size, 3, none⟩ = some (.int .i64 b) := cellAt (heap_alloc_new w _) rfl
  have o4 : (w.alloc (opBox 6 k a b s t)).cell? ⟨w.heap.size, 4, none⟩ = some (.string s) := cellAt (heap_alloc_new w _) rfl
  have o5 : (w.alloc (opBox 6 k a b s t)).cell? ⟨w.heap.size, 5, none⟩ = some (.string t) := cellAt (heap_alloc_new w _) rfl
  clear h h5 h6
  unfold opBox at *
  go_enter Tryz.func19, Tryz.ntmps19
  go_wp2_with fail
  refine (lwhy_any HW 6 k a b s t A _ xb bb rb gw cw L M hs ht (by exact HA.out.1)).mono ?_
  rintro e w1 ⟨ls, ov, rfl, hl, hb, hR⟩
  have HR := hide (And.intro hb hR)
  clear hb hR hl o0 o1 o2 o3 o4 o5
  go_wp2
  go_ret
  exact ⟨rfl, HA.out.2.trans HR.out.1, HR.out.2⟩
end Go.Proofs.YtfiebibpgbadlaaGreat
