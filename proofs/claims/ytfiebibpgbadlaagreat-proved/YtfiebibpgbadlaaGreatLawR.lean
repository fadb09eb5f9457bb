import Derived.Test.YtfiebibpgbadlaaGreatProgV
import Derived.Test.YtfiebibpgbadlaaGreatRulA
import Derived.Test.YtfiebibpgbadlaaGreatRefG
namespace Go.Proofs.YtfiebibpgbadlaaGreat
open Go.RowKit
set_option linter.unusedVariables false
set_option linter.unusedSimpArgs false

theorem RulesAt.le {w : World} {base : Nat} {rv : Value} {R : List Hw.Rl} (h : RulesAt w base rv R) : R.length ≤ maxLen := by
  rcases h.2 with ⟨h1, h2⟩ | ⟨g, cap, cur, h1, hb, hg, hn, hm, _⟩
  · omega
  · omega

theorem RulesAt.ref_kept {w w1 : World} {base rb : Nat} {rv : Value} {R : List Hw.Rl} {o : Obj} (h : RulesAt w base rv R) (hK : Kept [rb] w w1) (hr : w.heap[rb]? = some o) (ho : ∀ c fr, o ≠ .cells c 77 fr) : RulesAt w1 base rv R := by
  refine h.kept hK ?_
  simp only [List.mem_singleton]
  rintro k rfl e
  rcases h.2 with ⟨h1, _⟩ | ⟨g, cap, cur, h1, _, hg, _⟩
  · rw [h1] at e; simp [Value.ownBlock] at e
  · rw [h1] at e; simp [Value.ownBlock] at e; subst e; rw [hr] at hg; exact ho _ _ (Option.some.inj hg)

theorem BothR.grow {A : Nat → Prop} {w w' : World} {xb bb rb gw cw L M : Nat} (h : BothR A w xb bb rb gw cw L M) (hb : Below w.heap.size w w') : BothR A w' xb bb rb gw cw L M ∧ BA A w w' := by
  obtain ⟨rv, saidV, sameV, said, R, gs, fresh, hC⟩ := h
  exact ⟨⟨rv, saidV, sameV, said, R, gs, fresh, hC.below hb⟩, BA.of_below hb⟩

/-- .. and the program's Book reads no rules that are new. -/
def BothN (A : Nat → Prop) (w w' : World) (xb bb rb gw cw L M : Nat) : Prop := ∃ rv saidV sameV said R gs fresh, BothC A w' xb bb rb gw cw L M rv saidV sameV said R gs fresh ∧ ∀ k, rv.ownBlock = some k → k < w.heap.size
theorem BothN.old {A : Nat → Prop} {w w' : World} {xb bb rb gw cw L M : Nat} (h : BothN A w w' xb bb rb gw cw L M) : BothR A w' xb bb rb gw cw L M := by
  obtain ⟨rv, saidV, sameV, said, R, gs, fresh, hC, _⟩ := h
  exact ⟨rv, saidV, sameV, said, R, gs, fresh, hC⟩
theorem RulesAt.lt {w : World} {base : Nat} {rv : Value} {R : List Hw.Rl} (h : RulesAt w base rv R) : ∀ k, rv.ownBlock = some k → k < w.heap.size := by
  intro k hk
  rcases h.2 with ⟨h1, _⟩ | ⟨g, cap, cur, h1, _, hg, _⟩
  · rw [h1] at hk; simp [Value.ownBlock] at hk
  · rw [h1] at hk; simp [Value.ownBlock] at hk; subst hk; exact lt_of_block hg

set_option maxHeartbeats 1600000 in
theorem lruled_any (HP : RulesC) (A : Nat → Prop) (w : World) (xb bb rb gw cw L M : Nat) (h : BothR A w xb bb rb gw cw L M) :
    Calls Tryz.prog 24 #[.pointer (some ⟨xb, 0, none⟩)] w fun e w' => ∃ l ov, e = .returned (.tuple #[ov, .bool true]) ∧ (RulesAt w' w.heap.size ov l ∧ l.length ≤ 1093) ∧ BA A w w' ∧ BothN A w w' xb bb rb gw cw L M := by
  obtain ⟨rv, saidV, sameV, said, R, gs, fresh, hC⟩ := h
  have x0 : w.cell? ⟨xb, 0, none⟩ = some (.pointer (some ⟨bb, 0, none⟩)) := cellAt hC.x rfl
  have x1 : w.cell? ⟨xb, 1, none⟩ = some (.pointer (some ⟨rb, 0, none⟩)) := cellAt hC.x rfl
  have HC := hide hC
  clear hC
  go_enter Tryz.func24, Tryz.ntmps24
  go_wp2_with fail
  refine (HP _ bb L M rv said R (by exact HC.out.book)).mono ?_
  rintro e w1 ⟨l, ov, rfl, hA, hL, hb1⟩
  have y1 : w1.cell? ⟨xb, 1, none⟩ = some (.pointer (some ⟨rb, 0, none⟩)) := (hb1.cell (p := ⟨xb, 1, none⟩) (lt_of_cell x1)).trans x1
  have HB1 := hide hb1
  have HA := hide hA
  have HL := hide hL
  obtain ⟨sa, cap, rfl⟩ := hL.shape
  clear hb1 hA hL x0 x1
  go_wp2_with fail
  refine (refRules_any _ rb gw cw L M saidV sameV said gs fresh (by exact (HC.out.below HB1.out).ref)).mono ?_
  rintro e w2 ⟨l', ov', rfl, hA', hL', hK2, sameV', hR2⟩
  have hll := HA.out.uniq hA'
  subst hll
  have HF := hide (And.intro ((BA.of_below HB1.out).trans ((HC.out.below HB1.out).ref_step hK2 hR2).2) ((HC.out.below HB1.out).ref_step hK2 hR2).1)
  have hl1 := HL.out.ref_kept hK2 (HC.out.below HB1.out).ref.blk (by intro c fr; simp [refBlock])
  obtain ⟨sa', cap', rfl⟩ := hL'.shape
  have hlen := hl1.le
  unfold maxLen at hlen
  have HL1 := hide hl1
  have HL2 := hide hL'
  clear hK2 hR2 hA' y1 hL' hl1
  go_wp2_with fail
  go_loopw [6] (fun iv wr => ∃ (i n : Nat), i ≤ l.length ∧ iv = .int .i64 (i : Int) ∧ wr = w2.drewN n) (fun iv _ => l.length - (intOf iv).toNat)
  case atStart => exact ⟨0, 0, Nat.zero_le _, rfl, rfl⟩
  case round =>
    obtain ⟨i, n, hi, rfl, rfl⟩ := hrel
    by_cases hlt : i < l.length
    · obtain ⟨g1, cap1, cur1, hrv1, _, _, d0, d1⟩ := HL1.out.read (i := i) hlt
      obtain ⟨g2, cap2, cur2, hrv2, _, _, d2, d3⟩ := HL2.out.read (i := i) hlt
      simp only [Value.slice.injEq] at hrv1 hrv2
      obtain ⟨rfl, -, rfl⟩ := hrv1
      obtain ⟨rfl, -, rfl⟩ := hrv2
      generalize (l[i]).1 = f at *
      generalize (l[i]).2 = t at *
      go_wp2_with fail
      go_quiet (fail)
      go_wp2
      go_roundw
      case rel => exact ⟨i + 1, _, by omega, by go_num, rfl⟩
      case measure => simp [intOf]; omega
    · go_wp2
      go_ret2
      exact ⟨l, _, rfl, ⟨HL1.out.below (below_draw n), by have h1 := HA.out.uniq (HC.out.book.fin.rulesAns HC.out.book.L1 HC.out.book.L3 HC.out.book.words HC.out.book.toirr (fun _ => Iff.rfl) HC.out.book.srt); have h2 := HC.out.book.cnt; rw [h1]; omega⟩, HF.out.1.trans (BA.of_below (below_draw n)), _, _, _, _, _, _, _, HF.out.2.below (below_draw n), HC.out.book.rul.lt⟩

theorem BothR.x0 {A : Nat → Prop} {w : World} {xb bb rb gw cw L M : Nat} (h : BothR A w xb bb rb gw cw L M) : w.cell? ⟨xb, 0, none⟩ = some (.pointer (some ⟨bb, 0, none⟩)) := by
  obtain ⟨rv, saidV, sameV, said, R, gs, fresh, hC⟩ := h
  exact cellAt hC.x rfl

set_option maxHeartbeats 1600000 in
theorem lstep5_any (HP : RulesC) (HQ : CountC) (kd k a b : Int) (s t : ByteArray) (A : Nat → Prop) (w : World) (xb bb rb gw cw L M : Nat) (h5 : kd ≤ 5) (hs : s.size ≤ maxLen) (ht : t.size ≤ maxLen) (h : BothR A w xb bb rb gw cw L M) :
    Calls Tryz.prog 19 #[.pointer (some ⟨xb, 0, none⟩), .agg #[.int .i64 kd, .int .i64 k, .int .i64 a, .int .i64 b, .string s, .string t]] w fun e w' => e = .returned (.bool true) ∧ BA A w w' ∧ BothR A w' xb bb rb gw cw L M := by
  by_cases h3 : kd ≤ 3
  · exact lstep_any kd k a b s t A w xb bb rb gw cw L M h3 hs ht h
  have HA := hide (h.alloc (opBox kd k a b s t))
  have o0 : (w.alloc (opBox kd k a b s t)).cell? ⟨w.heap.size, 0, none⟩ = some (.int .i64 kd) := cellAt (heap_alloc_new w _) rfl
  clear h
  unfold opBox at *
  by_cases h1 : kd = 4
  · subst h1
    clear h3 h5
    go_enter Tryz.func19, Tryz.ntmps19
    go_wp2_with fail
    refine (lruled_any HP A _ xb bb rb gw cw L M (by exact HA.out.1)).mono ?_
    rintro e w1 ⟨l, ov, rfl, hl, hb, hR⟩
    have HR := hide (And.intro hb hR.old)
    clear hb hR hl o0
    go_wp2
    go_ret
    exact ⟨rfl, HA.out.2.trans HR.out.1, HR.out.2⟩
  · have h2 : kd = 5 := by omega
    subst h2
    clear h1 h3 h5
    obtain ⟨⟨rv, saidV, sameV, said, R, gs, fresh, hC⟩, hb0⟩ := HA.out
    have x0 : (w.alloc (.cells #[.int .i64 5, .int .i64 k, .int .i64 a, .int .i64 b, .string s, .string t] 34 (0, 0))).cell? ⟨xb, 0, none⟩ = some (.pointer (some ⟨bb, 0, none⟩)) := cellAt hC.x rfl
    have x1 : (w.alloc (.cells #[.int .i64 5, .int .i64 k, .int .i64 a, .int .i64 b, .string s, .string t] 34 (0, 0))).cell? ⟨xb, 1, none⟩ = some (.pointer (some ⟨rb, 0, none⟩)) := cellAt hC.x rfl
    have HC := hide hC
    have HB0 := hide hb0
    clear hC hb0
    go_enter Tryz.func19, Tryz.ntmps19
    go_wp2_with fail
    go_region_held3 (fun w' => w'.cell? ⟨xb, 0, none⟩ = some (.pointer (some ⟨bb, 0, none⟩)) ∧ w'.cell? ⟨xb, 1, none⟩ = some (.pointer (some ⟨rb, 0, none⟩))) (go_keep)
      (first
        | (go_at_call 21; refine (HQ _ bb L M rv said R (by exact HC.out.book.same (below_same (a_same _)))).mono ?_; rintro e w1 ⟨rfl, hb1'⟩; have hb1 := below_trans (below_same (a_same _)) hb1'; have y0 : w1.cell? ⟨xb, 0, none⟩ = some (.pointer (some ⟨bb, 0, none⟩)) := (hb1.cell (p := ⟨xb, 0, none⟩) (lt_of_cell x0)).trans x0; have y1 : w1.cell? ⟨xb, 1, none⟩ = some (.pointer (some ⟨rb, 0, none⟩)) := (hb1.cell (p := ⟨xb, 1, none⟩) (lt_of_cell x1)).trans x1; have HB1 := hide hb1; clear hb1 hb1')
        | (go_at_call 22; refine (refCount_any _ rb gw cw L M saidV sameV said gs fresh (by exact (HC.out.below HB1.out).ref.same rfl)).mono ?_; rintro e w2 ⟨xs, rfl, hd, hK2, sameV', hR2⟩; rw [Hw.cnt_eq HC.out.book.L1 HC.out.book.L3 hd HC.out.book.fin HC.out.book.words]; have HF := hide (both_fin HC.out HB1.out hK2 hR2); have z0 : w2.cell? ⟨xb, 0, none⟩ = some (.pointer (some ⟨bb, 0, none⟩)) := HF.out.2.x0; have z1 : w2.cell? ⟨xb, 1, none⟩ = some (.pointer (some ⟨rb, 0, none⟩)) := HF.out.2.x1; clear hK2 hR2 hd))
    clear x0 x1 y0 y1 z0 z1 o0
    go_wp2
    go_ret
    exact ⟨by simp, HB0.out.trans HF.out.1, HF.out.2⟩

/-- What a step is to answer. -/
def StepC (last : Int) : Prop := ∀ (kd k a b : Int) (s t : ByteArray) (A : Nat → Prop) (w : World) (xb bb rb gw cw L M : Nat), kd ≤ last → s.size ≤ maxLen → t.size ≤ maxLen → BothR A w xb bb rb gw cw L M →
    Calls Tryz.prog 19 #[.pointer (some ⟨xb, 0, none⟩), .agg #[.int .i64 kd, .int .i64 k, .int .i64 a, .int .i64 b, .string s, .string t]] w fun e w' => e = .returned (.bool true) ∧ BA A w w' ∧ BothR A w' xb bb rb gw cw L M

end Go.Proofs.YtfiebibpgbadlaaGreat
