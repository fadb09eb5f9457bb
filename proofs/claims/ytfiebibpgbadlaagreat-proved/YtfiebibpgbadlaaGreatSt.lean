import Derived.Test.YtfiebibpgbadlaaGreatSi
import Derived.Deep.QuietTactic
import Derived.BigQuiet
namespace Go.Proofs.YtfiebibpgbadlaaGreat
open Go.RowKit
set_option linter.unusedVariables false
set_option linter.unusedSimpArgs false
namespace Dr

/-- numbers of lines, as a slice keeps them. -/
def NumAt (w : World) (g : Nat) (num : List Nat) : Prop := w.heap[g]? = some (.cells (intRow num) 3 (0, 0))

/-- a line whose words are no longer than words are. -/
structure Short (n : Hw.Ln) : Prop where
  l : n.left.length ≤ 6
  r : n.right.length ≤ 6
  u : n.ahead.length ≤ 6
  v : n.behind.length ≤ 6

theorem box_set {w : World} {B : Nat} {n : Hw.Ln} (h : w.heap[B]? = some (lbox n)) (j : Nat) (u : Value) (hj : (lcell n)[j]? = some u) : (w.setCell ⟨B, j, none⟩ u).heap[B]? = some (lbox n) := by
  unfold lbox at *
  rw [heap_setCell_same _ _ j _ _ _ h]
  congr 2
  apply Array.ext_getElem?
  intro i
  have hj' : #[Value.int .i64 n.how, .string ⟨n.left.toArray⟩, .string ⟨n.right.toArray⟩, .int .i64 n.said, .int .i64 n.a, .int .i64 n.b, .string ⟨n.ahead.toArray⟩, .string ⟨n.behind.toArray⟩][j]? = some u := by simpa [lcell] using hj
  by_cases e : j = i
  · subst e
    rw [Array.getElem?_setIfInBounds]
    have hlt : j < 8 := by have := (Array.getElem?_eq_some_iff.1 hj').1; simpa using this
    rw [if_pos rfl, if_pos (by simpa using hlt)]; exact hj'.symm
  · rw [Array.getElem?_setIfInBounds, if_neg e]

theorem box_below {w w' : World} {B : Nat} {n : Hw.Ln} (h : w.heap[B]? = some (lbox n)) (hb : Below w.heap.size w w') : w'.heap[B]? = some (lbox n) := (hb.block _ (lt_of_block h)).trans h
/-- two words of a box are copied, and laid there again. -/
structure Cp (W0 w' : World) (B : Nat) (n : Hw.Ln) : Prop where
  blk : w'.heap[B]? = some (lbox n)
  size : W0.heap.size ≤ w'.heap.size
  os : w'.os = W0.os
  tape : w'.tape = W0.tape
  output : w'.output = W0.output
  block : ∀ k, k < W0.heap.size → k ≠ B → w'.heap[k]? = W0.heap[k]?
theorem Cp.of_below {W0 w' : World} {B : Nat} {n : Hw.Ln} (h : W0.heap[B]? = some (lbox n)) (hb : Below W0.heap.size W0 w') : Cp W0 w' B n :=
  ⟨box_below h hb, hb.size, hb.os, hb.tape, hb.output, fun k hk _ => hb.block k hk⟩
theorem Cp.set {W0 w' : World} {B : Nat} {n : Hw.Ln} (h : Cp W0 w' B n) (j : Nat) (u : Value) (hj : (lcell n)[j]? = some u) : Cp W0 (w'.setCell ⟨B, j, none⟩ u) B n :=
  ⟨box_set h.blk j u hj, by simpa using h.size, h.os, h.tape, h.output, fun k hk hn => (Below.heap_setCell _ _ _ _ (by simpa using hn)).trans (h.block k hk hn)⟩
theorem Cp.trans {W0 w1 w2 : World} {B : Nat} {n : Hw.Ln} (h : Cp W0 w1 B n) (k : Cp w1 w2 B n) : Cp W0 w2 B n :=
  ⟨k.blk, Nat.le_trans h.size k.size, k.os.trans h.os, k.tape.trans h.tape, k.output.trans h.output, fun i hi hn => (k.block i (Nat.lt_of_lt_of_le hi h.size) hn).trans (h.block i hi hn)⟩
theorem Cp.below {w W0 w' : World} {n : Hw.Ln} {B : Nat} (hB : w.heap.size ≤ B) (hb : Below w.heap.size w W0) (h : Cp W0 w' B n) : Below w.heap.size w w' :=
  ⟨h.os.trans hb.os, h.tape.trans hb.tape, h.output.trans hb.output, Nat.le_trans hb.size h.size, fun k hk => (h.block k (Nat.lt_of_lt_of_le hk hb.size) (by omega)).trans (hb.block k hk)⟩

/-- what is wanted of a line's numbers. -/
def NumOk (n : Hw.Ln) (N : Nat) : Prop := (n.how = 3 → ∃ j k : Nat, n.a = (j : Int) ∧ n.b = (k : Int) ∧ j < N ∧ k < N) ∧ (n.how = 2 ∨ n.how = 4 → ∃ j : Nat, n.a = (j : Int) ∧ j < N)

/-- What renumbered lays. -/
structure Rw (w W0 : World) (n : Hw.Ln) : Prop where
  low : Below w.heap.size w W0
  box : W0.heap[w.heap.size]? = some (lbox n)
  res : W0.heap[w.heap.size + 1]? = some (.cells #[.int .i64 0, .string ⟨#[]⟩, .string ⟨#[]⟩, .int .i64 0, .int .i64 0, .int .i64 0, .string ⟨#[]⟩, .string ⟨#[]⟩] 54 (0, 0))
theorem ren_world (w : World) (n : Hw.Ln) : Rw w ((w.alloc (lbox n)).alloc (.cells #[.int .i64 0, .string ⟨#[]⟩, .string ⟨#[]⟩, .int .i64 0, .int .i64 0, .int .i64 0, .string ⟨#[]⟩, .string ⟨#[]⟩] 54)) n :=
  ⟨below_trans (below_alloc _ _) (below_alloc _ _), (Below.heap_alloc _ _ _ (by simp)).trans (heap_alloc_new _ _), heap_alloc2_new _ _ _⟩
theorem Rw.cp {w W0 W1 : World} {n : Hw.Ln} (h : Rw w W0 n) (hc : Cp W0 W1 w.heap.size n) : Rw w W1 n :=
  ⟨Cp.below (Nat.le_refl _) h.low hc, hc.blk, (hc.block _ (lt_of_block h.res) (by omega)).trans h.res⟩

set_option maxRecDepth 20000 in
set_option maxHeartbeats 6400000 in
theorem renumbered_any (w : World) (n : Hw.Ln) (num : List Nat) (g : Nat) (hs : Short n) (hN : num.length ≤ 100000) (hok : NumOk n num.length) (hg : NumAt w g num) :
    Calls Tryz.prog 94 #[.agg #[.int .i64 n.how, .string ⟨n.left.toArray⟩, .string ⟨n.right.toArray⟩, .int .i64 n.said, .int .i64 n.a, .int .i64 n.b, .string ⟨n.ahead.toArray⟩, .string ⟨n.behind.toArray⟩], .slice (some ⟨g, 0, none⟩) num.length num.length] w fun e w' => e = .returned (lagg (Hw.renum num n)) ∧ Below w.heap.size w w' := by
  have hgl := lt_of_block hg
  have q2 := alloc1_cell hgl
  have q1 := alloc2_cell hgl
  obtain ⟨how, left, right, sd, na, nb, ahead, behind⟩ := n
  simp only
  have HS := hide hs
  clear hs
  by_cases h3 : how = 3
  · obtain ⟨j, k, ha, hb, hj, hk⟩ := hok.1 h3
    simp only at ha hb
    subst h3 ha hb
    have cj := cell_intRow hg j hj
    have ck := cell_intRow hg k hk
    have hjI : (j : Int) < (num.length : Int) := by omega
    have hkI : (k : Int) < (num.length : Int) := by omega
    have hr : Hw.renum num ⟨3, left, right, sd, (j : Int), (k : Int), ahead, behind⟩ = ⟨3, left, right, sd, (num[j] : Nat), (num[k] : Nat), ahead, behind⟩ := by
      simp [Hw.renum, hj, hk]
    rw [hr]
    generalize num[j] = mj at *
    generalize num[k] = mk at *
    clear hr hok hg
    have RR := ren_world w ⟨3, left, right, sd, (mj : Int), (mk : Int), ahead, behind⟩
    have hl6 := HS.out.l
    have hr6 := HS.out.r
    have hu6 := HS.out.u
    have hv6 := HS.out.v
    simp only at hl6 hr6 hu6 hv6
    go_enter Tryz.func94, Tryz.ntmps94
    go_wp2_with fail
    unfold lbox at RR
    simp only at RR
    generalize (w.alloc (.cells #[.int .i64 3, .string ⟨left.toArray⟩, .string ⟨right.toArray⟩, .int .i64 sd, .int .i64 (mj : Int), .int .i64 (mk : Int), .string ⟨ahead.toArray⟩, .string ⟨behind.toArray⟩] 54)).alloc (.cells #[.int .i64 0, .string ⟨#[]⟩, .string ⟨#[]⟩, .int .i64 0, .int .i64 0, .int .i64 0, .string ⟨#[]⟩, .string ⟨#[]⟩] 54) = W0 at RR ⊢
    have x1 : W0.cell? ⟨w.heap.size, 1, none⟩ = some (.string ⟨left.toArray⟩) := cellAt RR.box rfl
    have x2 : W0.cell? ⟨w.heap.size, 2, none⟩ = some (.string ⟨right.toArray⟩) := cellAt RR.box rfl
    have HRR := hide RR
    clear RR
    go_region_held3 (fun w' => w'.cell? ⟨w.heap.size, 1, none⟩ = some (.string ⟨left.toArray⟩) ∧ w'.cell? ⟨w.heap.size, 2, none⟩ = some (.string ⟨right.toArray⟩)) (first | (exact ⟨y0, y1⟩) | (exact ⟨y2, y3⟩) | (exact ⟨y4, y5⟩) | (exact ⟨y6, y7⟩) | (go_keep))
      (first
        | (have hh2 := HC1; clear hh2; go_at_call 32; refine (sclone_any ⟨right.toArray⟩ _ (by simp [ByteArray.size]; exact hr6)).mono ?_; rintro e w2 ⟨rfl, hb2⟩; have HC2 := hide (HC1.out.trans (Cp.of_below HC1.out.blk hb2)); have y2 : w2.cell? ⟨w.heap.size, 1, none⟩ = some (.string ⟨left.toArray⟩) := cellAt HC2.out.blk rfl; have y3 : w2.cell? ⟨w.heap.size, 2, none⟩ = some (.string ⟨right.toArray⟩) := cellAt HC2.out.blk rfl; have yf := frozen_of_row w2 w.heap.size 1 _ _ HC2.out.blk; have HC3 := hide (HC2.out.set 1 (.string ⟨left.toArray⟩) rfl); have y4 : (w2.setCell ⟨w.heap.size, 1, none⟩ (.string ⟨left.toArray⟩)).cell? ⟨w.heap.size, 1, none⟩ = some (.string ⟨left.toArray⟩) := cellAt HC3.out.blk rfl; have y5 : (w2.setCell ⟨w.heap.size, 1, none⟩ (.string ⟨left.toArray⟩)).cell? ⟨w.heap.size, 2, none⟩ = some (.string ⟨right.toArray⟩) := cellAt HC3.out.blk rfl; have yg := frozen_of_row (w2.setCell ⟨w.heap.size, 1, none⟩ (.string ⟨left.toArray⟩)) w.heap.size 2 _ _ HC3.out.blk; have HC4 := hide (HC3.out.set 2 (.string ⟨right.toArray⟩) rfl); have y6 : ((w2.setCell ⟨w.heap.size, 1, none⟩ (.string ⟨left.toArray⟩)).setCell ⟨w.heap.size, 2, none⟩ (.string ⟨right.toArray⟩)).cell? ⟨w.heap.size, 1, none⟩ = some (.string ⟨left.toArray⟩) := cellAt HC4.out.blk rfl; have y7 : ((w2.setCell ⟨w.heap.size, 1, none⟩ (.string ⟨left.toArray⟩)).setCell ⟨w.heap.size, 2, none⟩ (.string ⟨right.toArray⟩)).cell? ⟨w.heap.size, 2, none⟩ = some (.string ⟨right.toArray⟩) := cellAt HC4.out.blk rfl; clear hb2)
        | (go_at_call 32; refine (sclone_any ⟨left.toArray⟩ _ (by simp [ByteArray.size]; exact hl6)).mono ?_; rintro e w1 ⟨rfl, hb1⟩; have HC1 := hide (Cp.of_below HRR.out.box (below_trans (below_same (drew_same W0)) hb1)); have y0 : w1.cell? ⟨w.heap.size, 1, none⟩ = some (.string ⟨left.toArray⟩) := cellAt HC1.out.blk rfl; have y1 : w1.cell? ⟨w.heap.size, 2, none⟩ = some (.string ⟨right.toArray⟩) := cellAt HC1.out.blk rfl; clear hb1))
    have RR := HRR.out.cp HC4.out
    clear y0 y1 y2 y3 y4 y5 y6 y7 yf yg x1 x2 HC1 HC2 HC3 HC4 HRR
    generalize (w2.setCell ⟨w.heap.size, 1, none⟩ (.string ⟨left.toArray⟩)).setCell ⟨w.heap.size, 2, none⟩ (.string ⟨right.toArray⟩) = W1 at RR ⊢
    go_wp2_with fail
    have x6 : W1.cell? ⟨w.heap.size, 6, none⟩ = some (.string ⟨ahead.toArray⟩) := cellAt RR.box rfl
    have x7 : W1.cell? ⟨w.heap.size, 7, none⟩ = some (.string ⟨behind.toArray⟩) := cellAt RR.box rfl
    have HRR := hide RR
    clear RR
    go_region_held3 (fun w' => w'.cell? ⟨w.heap.size, 6, none⟩ = some (.string ⟨ahead.toArray⟩) ∧ w'.cell? ⟨w.heap.size, 7, none⟩ = some (.string ⟨behind.toArray⟩)) (first | (exact ⟨y0, y1⟩) | (exact ⟨y2, y3⟩) | (exact ⟨y4, y5⟩) | (exact ⟨y6, y7⟩) | (go_keep))
      (first
        | (have hh2 := HC1; clear hh2; go_at_call 32; refine (sclone_any ⟨behind.toArray⟩ _ (by simp [ByteArray.size]; exact hv6)).mono ?_; rintro e w2 ⟨rfl, hb2⟩; have HC2 := hide (HC1.out.trans (Cp.of_below HC1.out.blk hb2)); have y2 : w2.cell? ⟨w.heap.size, 6, none⟩ = some (.string ⟨ahead.toArray⟩) := cellAt HC2.out.blk rfl; have y3 : w2.cell? ⟨w.heap.size, 7, none⟩ = some (.string ⟨behind.toArray⟩) := cellAt HC2.out.blk rfl; have yf := frozen_of_row w2 w.heap.size 6 _ _ HC2.out.blk; have HC3 := hide (HC2.out.set 6 (.string ⟨ahead.toArray⟩) rfl); have y4 : (w2.setCell ⟨w.heap.size, 6, none⟩ (.string ⟨ahead.toArray⟩)).cell? ⟨w.heap.size, 6, none⟩ = some (.string ⟨ahead.toArray⟩) := cellAt HC3.out.blk rfl; have y5 : (w2.setCell ⟨w.heap.size, 6, none⟩ (.string ⟨ahead.toArray⟩)).cell? ⟨w.heap.size, 7, none⟩ = some (.string ⟨behind.toArray⟩) := cellAt HC3.out.blk rfl; have yg := frozen_of_row (w2.setCell ⟨w.heap.size, 6, none⟩ (.string ⟨ahead.toArray⟩)) w.heap.size 7 _ _ HC3.out.blk; have HC4 := hide (HC3.out.set 7 (.string ⟨behind.toArray⟩) rfl); have y6 : ((w2.setCell ⟨w.heap.size, 6, none⟩ (.string ⟨ahead.toArray⟩)).setCell ⟨w.heap.size, 7, none⟩ (.string ⟨behind.toArray⟩)).cell? ⟨w.heap.size, 6, none⟩ = some (.string ⟨ahead.toArray⟩) := cellAt HC4.out.blk rfl; have y7 : ((w2.setCell ⟨w.heap.size, 6, none⟩ (.string ⟨ahead.toArray⟩)).setCell ⟨w.heap.size, 7, none⟩ (.string ⟨behind.toArray⟩)).cell? ⟨w.heap.size, 7, none⟩ = some (.string ⟨behind.toArray⟩) := cellAt HC4.out.blk rfl; clear hb2)
        | (go_at_call 32; refine (sclone_any ⟨ahead.toArray⟩ _ (by simp [ByteArray.size]; exact hu6)).mono ?_; rintro e w1 ⟨rfl, hb1⟩; have HC1 := hide (Cp.of_below HRR.out.box (below_trans (below_same (drew_same W1)) hb1)); have y0 : w1.cell? ⟨w.heap.size, 6, none⟩ = some (.string ⟨ahead.toArray⟩) := cellAt HC1.out.blk rfl; have y1 : w1.cell? ⟨w.heap.size, 7, none⟩ = some (.string ⟨behind.toArray⟩) := cellAt HC1.out.blk rfl; clear hb1))
    have RR := HRR.out.cp HC4.out
    clear y0 y1 y2 y3 y4 y5 y6 y7 yf yg x6 x7 HC1 HC2 HC3 HC4 HRR
    generalize (w2.setCell ⟨w.heap.size, 6, none⟩ (.string ⟨ahead.toArray⟩)).setCell ⟨w.heap.size, 7, none⟩ (.string ⟨behind.toArray⟩) = W2 at RR ⊢
    have k0 : W2.cell? ⟨w.heap.size, 0, none⟩ = some (.int .i64 3) := cellAt RR.box rfl
    have k1 : W2.cell? ⟨w.heap.size, 1, none⟩ = some (.string ⟨left.toArray⟩) := cellAt RR.box rfl
    have k2 : W2.cell? ⟨w.heap.size, 2, none⟩ = some (.string ⟨right.toArray⟩) := cellAt RR.box rfl
    have k3 : W2.cell? ⟨w.heap.size, 3, none⟩ = some (.int .i64 sd) := cellAt RR.box rfl
    have k4 : W2.cell? ⟨w.heap.size, 4, none⟩ = some (.int .i64 (mj : Int)) := cellAt RR.box rfl
    have k5 : W2.cell? ⟨w.heap.size, 5, none⟩ = some (.int .i64 (mk : Int)) := cellAt RR.box rfl
    have k6 : W2.cell? ⟨w.heap.size, 6, none⟩ = some (.string ⟨ahead.toArray⟩) := cellAt RR.box rfl
    have k7 : W2.cell? ⟨w.heap.size, 7, none⟩ = some (.string ⟨behind.toArray⟩) := cellAt RR.box rfl
    have r0 : W2.cell? ⟨w.heap.size + 1, 0, none⟩ = some (.int .i64 0) := cellAt RR.res rfl
    have r1 : W2.cell? ⟨w.heap.size + 1, 1, none⟩ = some (.string ⟨#[]⟩) := cellAt RR.res rfl
    have r2 : W2.cell? ⟨w.heap.size + 1, 2, none⟩ = some (.string ⟨#[]⟩) := cellAt RR.res rfl
    have r3 : W2.cell? ⟨w.heap.size + 1, 3, none⟩ = some (.int .i64 0) := cellAt RR.res rfl
    have r4 : W2.cell? ⟨w.heap.size + 1, 4, none⟩ = some (.int .i64 0) := cellAt RR.res rfl
    have r5 : W2.cell? ⟨w.heap.size + 1, 5, none⟩ = some (.int .i64 0) := cellAt RR.res rfl
    have r6 : W2.cell? ⟨w.heap.size + 1, 6, none⟩ = some (.string ⟨#[]⟩) := cellAt RR.res rfl
    have r7 : W2.cell? ⟨w.heap.size + 1, 7, none⟩ = some (.string ⟨#[]⟩) := cellAt RR.res rfl
    have rf : ∀ o, W2.frozen? ⟨w.heap.size + 1, o, none⟩ = false := fun o => frozen_of_row W2 _ o _ _ RR.res
    have HL := hide RR.low
    clear RR
    go_wp2
    refine bodyPost_ret (v := lagg ⟨3, left, right, sd, (mj : Int), (mk : Int), ahead, behind⟩) (by simp [results, Tryz.results94, go_sem, lagg, r0, r1, r2, r3, r4, r5, r6, r7]) rfl ?_
    exact ⟨rfl, (((((((HL.out.setCell (by simp) _).setCell (by simp) _).setCell (by simp) _).setCell (by simp) _).setCell (by simp) _).setCell (by simp) _).setCell (by simp) _).setCell (by simp) _⟩
  · by_cases h24 : how = 2 ∨ how = 4
    · obtain ⟨j, ha, hj⟩ := hok.2 h24
      simp only at ha
      subst ha
      have cj := cell_intRow hg j hj
      have hjI : (j : Int) < (num.length : Int) := by omega
      have hr : Hw.renum num ⟨how, left, right, sd, (j : Int), nb, ahead, behind⟩ = ⟨how, left, right, sd, (num[j] : Nat), nb, ahead, behind⟩ := by
        rcases h24 with rfl | rfl <;> simp [Hw.renum, hj]
      rw [hr]
      generalize num[j] = mj at *
      clear hr hok hg
      have h3' : (how == 3) = false := by simp [h3]
      rcases h24 with rfl | rfl
      · skip
        have RR := ren_world w ⟨2, left, right, sd, (mj : Int), nb, ahead, behind⟩
        have hl6 := HS.out.l
        have hr6 := HS.out.r
        have hu6 := HS.out.u
        have hv6 := HS.out.v
        simp only at hl6 hr6 hu6 hv6
        go_enter Tryz.func94, Tryz.ntmps94
        go_wp2_with fail
        unfold lbox at RR
        simp only at RR
        generalize (w.alloc (.cells #[.int .i64 2, .string ⟨left.toArray⟩, .string ⟨right.toArray⟩, .int .i64 sd, .int .i64 (mj : Int), .int .i64 nb, .string ⟨ahead.toArray⟩, .string ⟨behind.toArray⟩] 54)).alloc (.cells #[.int .i64 0, .string ⟨#[]⟩, .string ⟨#[]⟩, .int .i64 0, .int .i64 0, .int .i64 0, .string ⟨#[]⟩, .string ⟨#[]⟩] 54) = W0 at RR ⊢
        have x1 : W0.cell? ⟨w.heap.size, 1, none⟩ = some (.string ⟨left.toArray⟩) := cellAt RR.box rfl
        have x2 : W0.cell? ⟨w.heap.size, 2, none⟩ = some (.string ⟨right.toArray⟩) := cellAt RR.box rfl
        have HRR := hide RR
        clear RR
        go_region_held3 (fun w' => w'.cell? ⟨w.heap.size, 1, none⟩ = some (.string ⟨left.toArray⟩) ∧ w'.cell? ⟨w.heap.size, 2, none⟩ = some (.string ⟨right.toArray⟩)) (first | (exact ⟨y0, y1⟩) | (exact ⟨y2, y3⟩) | (exact ⟨y4, y5⟩) | (exact ⟨y6, y7⟩) | (go_keep))
          (first
            | (have hh2 := HC1; clear hh2; go_at_call 32; refine (sclone_any ⟨right.toArray⟩ _ (by simp [ByteArray.size]; exact hr6)).mono ?_; rintro e w2 ⟨rfl, hb2⟩; have HC2 := hide (HC1.out.trans (Cp.of_below HC1.out.blk hb2)); have y2 : w2.cell? ⟨w.heap.size, 1, none⟩ = some (.string ⟨left.toArray⟩) := cellAt HC2.out.blk rfl; have y3 : w2.cell? ⟨w.heap.size, 2, none⟩ = some (.string ⟨right.toArray⟩) := cellAt HC2.out.blk rfl; have yf := frozen_of_row w2 w.heap.size 1 _ _ HC2.out.blk; have HC3 := hide (HC2.out.set 1 (.string ⟨left.toArray⟩) rfl); have y4 : (w2.setCell ⟨w.heap.size, 1, none⟩ (.string ⟨left.toArray⟩)).cell? ⟨w.heap.size, 1, none⟩ = some (.string ⟨left.toArray⟩) := cellAt HC3.out.blk rfl; have y5 : (w2.setCell ⟨w.heap.size, 1, none⟩ (.string ⟨left.toArray⟩)).cell? ⟨w.heap.size, 2, none⟩ = some (.string ⟨right.toArray⟩) := cellAt HC3.out.blk rfl; have yg := frozen_of_row (w2.setCell ⟨w.heap.size, 1, none⟩ (.string ⟨left.toArray⟩)) w.heap.size 2 _ _ HC3.out.blk; have HC4 := hide (HC3.out.set 2 (.string ⟨right.toArray⟩) rfl); have y6 : ((w2.setCell ⟨w.heap.size, 1, none⟩ (.string ⟨left.toArray⟩)).setCell ⟨w.heap.size, 2, none⟩ (.string ⟨right.toArray⟩)).cell? ⟨w.heap.size, 1, none⟩ = some (.string ⟨left.toArray⟩) := cellAt HC4.out.blk rfl; have y7 : ((w2.setCell ⟨w.heap.size, 1, none⟩ (.string ⟨left.toArray⟩)).setCell ⟨w.heap.size, 2, none⟩ (.string ⟨right.toArray⟩)).cell? ⟨w.heap.size, 2, none⟩ = some (.string ⟨right.toArray⟩) := cellAt HC4.out.blk rfl; clear hb2)
            | (go_at_call 32; refine (sclone_any ⟨left.toArray⟩ _ (by simp [ByteArray.size]; exact hl6)).mono ?_; rintro e w1 ⟨rfl, hb1⟩; have HC1 := hide (Cp.of_below HRR.out.box (below_trans (below_same (drew_same W0)) hb1)); have y0 : w1.cell? ⟨w.heap.size, 1, none⟩ = some (.string ⟨left.toArray⟩) := cellAt HC1.out.blk rfl; have y1 : w1.cell? ⟨w.heap.size, 2, none⟩ = some (.string ⟨right.toArray⟩) := cellAt HC1.out.blk rfl; clear hb1))
        have RR := HRR.out.cp HC4.out
        clear y0 y1 y2 y3 y4 y5 y6 y7 yf yg x1 x2 HC1 HC2 HC3 HC4 HRR
        generalize (w2.setCell ⟨w.heap.size, 1, none⟩ (.string ⟨left.toArray⟩)).setCell ⟨w.heap.size, 2, none⟩ (.string ⟨right.toArray⟩) = W1 at RR ⊢
        go_wp2_with fail
        have x6 : W1.cell? ⟨w.heap.size, 6, none⟩ = some (.string ⟨ahead.toArray⟩) := cellAt RR.box rfl
        have x7 : W1.cell? ⟨w.heap.size, 7, none⟩ = some (.string ⟨behind.toArray⟩) := cellAt RR.box rfl
        have HRR := hide RR
        clear RR
        go_region_held3 (fun w' => w'.cell? ⟨w.heap.size, 6, none⟩ = some (.string ⟨ahead.toArray⟩) ∧ w'.cell? ⟨w.heap.size, 7, none⟩ = some (.string ⟨behind.toArray⟩)) (first | (exact ⟨y0, y1⟩) | (exact ⟨y2, y3⟩) | (exact ⟨y4, y5⟩) | (exact ⟨y6, y7⟩) | (go_keep))
          (first
            | (have hh2 := HC1; clear hh2; go_at_call 32; refine (sclone_any ⟨behind.toArray⟩ _ (by simp [ByteArray.size]; exact hv6)).mono ?_; rintro e w2 ⟨rfl, hb2⟩; have HC2 := hide (HC1.out.trans (Cp.of_below HC1.out.blk hb2)); have y2 : w2.cell? ⟨w.heap.size, 6, none⟩ = some (.string ⟨ahead.toArray⟩) := cellAt HC2.out.blk rfl; have y3 : w2.cell? ⟨w.heap.size, 7, none⟩ = some (.string ⟨behind.toArray⟩) := cellAt HC2.out.blk rfl; have yf := frozen_of_row w2 w.heap.size 6 _ _ HC2.out.blk; have HC3 := hide (HC2.out.set 6 (.string ⟨ahead.toArray⟩) rfl); have y4 : (w2.setCell ⟨w.heap.size, 6, none⟩ (.string ⟨ahead.toArray⟩)).cell? ⟨w.heap.size, 6, none⟩ = some (.string ⟨ahead.toArray⟩) := cellAt HC3.out.blk rfl; have y5 : (w2.setCell ⟨w.heap.size, 6, none⟩ (.string ⟨ahead.toArray⟩)).cell? ⟨w.heap.size, 7, none⟩ = some (.string ⟨behind.toArray⟩) := cellAt HC3.out.blk rfl; have yg := frozen_of_row (w2.setCell ⟨w.heap.size, 6, none⟩ (.string ⟨ahead.toArray⟩)) w.heap.size 7 _ _ HC3.out.blk; have HC4 := hide (HC3.out.set 7 (.string ⟨behind.toArray⟩) rfl); have y6 : ((w2.setCell ⟨w.heap.size, 6, none⟩ (.string ⟨ahead.toArray⟩)).setCell ⟨w.heap.size, 7, none⟩ (.string ⟨behind.toArray⟩)).cell? ⟨w.heap.size, 6, none⟩ = some (.string ⟨ahead.toArray⟩) := cellAt HC4.out.blk rfl; have y7 : ((w2.setCell ⟨w.heap.size, 6, none⟩ (.string ⟨ahead.toArray⟩)).setCell ⟨w.heap.size, 7, none⟩ (.string ⟨behind.toArray⟩)).cell? ⟨w.heap.size, 7, none⟩ = some (.string ⟨behind.toArray⟩) := cellAt HC4.out.blk rfl; clear hb2)
            | (go_at_call 32; refine (sclone_any ⟨ahead.toArray⟩ _ (by simp [ByteArray.size]; exact hu6)).mono ?_; rintro e w1 ⟨rfl, hb1⟩; have HC1 := hide (Cp.of_below HRR.out.box (below_trans (below_same (drew_same W1)) hb1)); have y0 : w1.cell? ⟨w.heap.size, 6, none⟩ = some (.string ⟨ahead.toArray⟩) := cellAt HC1.out.blk rfl; have y1 : w1.cell? ⟨w.heap.size, 7, none⟩ = some (.string ⟨behind.toArray⟩) := cellAt HC1.out.blk rfl; clear hb1))
        have RR := HRR.out.cp HC4.out
        clear y0 y1 y2 y3 y4 y5 y6 y7 yf yg x6 x7 HC1 HC2 HC3 HC4 HRR
        generalize (w2.setCell ⟨w.heap.size, 6, none⟩ (.string ⟨ahead.toArray⟩)).setCell ⟨w.heap.size, 7, none⟩ (.string ⟨behind.toArray⟩) = W2 at RR ⊢
        have k0 : W2.cell? ⟨w.heap.size, 0, none⟩ = some (.int .i64 2) := cellAt RR.box rfl
        have k1 : W2.cell? ⟨w.heap.size, 1, none⟩ = some (.string ⟨left.toArray⟩) := cellAt RR.box rfl
        have k2 : W2.cell? ⟨w.heap.size, 2, none⟩ = some (.string ⟨right.toArray⟩) := cellAt RR.box rfl
        have k3 : W2.cell? ⟨w.heap.size, 3, none⟩ = some (.int .i64 sd) := cellAt RR.box rfl
        have k4 : W2.cell? ⟨w.heap.size, 4, none⟩ = some (.int .i64 (mj : Int)) := cellAt RR.box rfl
        have k5 : W2.cell? ⟨w.heap.size, 5, none⟩ = some (.int .i64 nb) := cellAt RR.box rfl
        have k6 : W2.cell? ⟨w.heap.size, 6, none⟩ = some (.string ⟨ahead.toArray⟩) := cellAt RR.box rfl
        have k7 : W2.cell? ⟨w.heap.size, 7, none⟩ = some (.string ⟨behind.toArray⟩) := cellAt RR.box rfl
        have r0 : W2.cell? ⟨w.heap.size + 1, 0, none⟩ = some (.int .i64 0) := cellAt RR.res rfl
        have r1 : W2.cell? ⟨w.heap.size + 1, 1, none⟩ = some (.string ⟨#[]⟩) := cellAt RR.res rfl
        have r2 : W2.cell? ⟨w.heap.size + 1, 2, none⟩ = some (.string ⟨#[]⟩) := cellAt RR.res rfl
        have r3 : W2.cell? ⟨w.heap.size + 1, 3, none⟩ = some (.int .i64 0) := cellAt RR.res rfl
        have r4 : W2.cell? ⟨w.heap.size + 1, 4, none⟩ = some (.int .i64 0) := cellAt RR.res rfl
        have r5 : W2.cell? ⟨w.heap.size + 1, 5, none⟩ = some (.int .i64 0) := cellAt RR.res rfl
        have r6 : W2.cell? ⟨w.heap.size + 1, 6, none⟩ = some (.string ⟨#[]⟩) := cellAt RR.res rfl
        have r7 : W2.cell? ⟨w.heap.size + 1, 7, none⟩ = some (.string ⟨#[]⟩) := cellAt RR.res rfl
        have rf : ∀ o, W2.frozen? ⟨w.heap.size + 1, o, none⟩ = false := fun o => frozen_of_row W2 _ o _ _ RR.res
        have HL := hide RR.low
        clear RR
        go_wp2
        refine bodyPost_ret (v := lagg ⟨2, left, right, sd, (mj : Int), nb, ahead, behind⟩) (by simp [results, Tryz.results94, go_sem, lagg, r0, r1, r2, r3, r4, r5, r6, r7]) rfl ?_
        exact ⟨rfl, (((((((HL.out.setCell (by simp) _).setCell (by simp) _).setCell (by simp) _).setCell (by simp) _).setCell (by simp) _).setCell (by simp) _).setCell (by simp) _).setCell (by simp) _⟩
      · skip
        have RR := ren_world w ⟨4, left, right, sd, (mj : Int), nb, ahead, behind⟩
        have hl6 := HS.out.l
        have hr6 := HS.out.r
        have hu6 := HS.out.u
        have hv6 := HS.out.v
        simp only at hl6 hr6 hu6 hv6
        go_enter Tryz.func94, Tryz.ntmps94
        go_wp2_with fail
        unfold lbox at RR
        simp only at RR
        generalize (w.alloc (.cells #[.int .i64 4, .string ⟨left.toArray⟩, .string ⟨right.toArray⟩, .int .i64 sd, .int .i64 (mj : Int), .int .i64 nb, .string ⟨ahead.toArray⟩, .string ⟨behind.toArray⟩] 54)).alloc (.cells #[.int .i64 0, .string ⟨#[]⟩, .string ⟨#[]⟩, .int .i64 0, .int .i64 0, .int .i64 0, .string ⟨#[]⟩, .string ⟨#[]⟩] 54) = W0 at RR ⊢
        have x1 : W0.cell? ⟨w.heap.size, 1, none⟩ = some (.string ⟨left.toArray⟩) := cellAt RR.box rfl
        have x2 : W0.cell? ⟨w.heap.size, 2, none⟩ = some (.string ⟨right.toArray⟩) := cellAt RR.box rfl
        have HRR := hide RR
        clear RR
        go_region_held3 (fun w' => w'.cell? ⟨w.heap.size, 1, none⟩ = some (.string ⟨left.toArray⟩) ∧ w'.cell? ⟨w.heap.size, 2, none⟩ = some (.string ⟨right.toArray⟩)) (first | (exact ⟨y0, y1⟩) | (exact ⟨y2, y3⟩) | (exact ⟨y4, y5⟩) | (exact ⟨y6, y7⟩) | (go_keep))
          (first
            | (have hh2 := HC1; clear hh2; go_at_call 32; refine (sclone_any ⟨right.toArray⟩ _ (by simp [ByteArray.size]; exact hr6)).mono ?_; rintro e w2 ⟨rfl, hb2⟩; have HC2 := hide (HC1.out.trans (Cp.of_below HC1.out.blk hb2)); have y2 : w2.cell? ⟨w.heap.size, 1, none⟩ = some (.string ⟨left.toArray⟩) := cellAt HC2.out.blk rfl; have y3 : w2.cell? ⟨w.heap.size, 2, none⟩ = some (.string ⟨right.toArray⟩) := cellAt HC2.out.blk rfl; have yf := frozen_of_row w2 w.heap.size 1 _ _ HC2.out.blk; have HC3 := hide (HC2.out.set 1 (.string ⟨left.toArray⟩) rfl); have y4 : (w2.setCell ⟨w.heap.size, 1, none⟩ (.string ⟨left.toArray⟩)).cell? ⟨w.heap.size, 1, none⟩ = some (.string ⟨left.toArray⟩) := cellAt HC3.out.blk rfl; have y5 : (w2.setCell ⟨w.heap.size, 1, none⟩ (.string ⟨left.toArray⟩)).cell? ⟨w.heap.size, 2, none⟩ = some (.string ⟨right.toArray⟩) := cellAt HC3.out.blk rfl; have yg := frozen_of_row (w2.setCell ⟨w.heap.size, 1, none⟩ (.string ⟨left.toArray⟩)) w.heap.size 2 _ _ HC3.out.blk; have HC4 := hide (HC3.out.set 2 (.string ⟨right.toArray⟩) rfl); have y6 : ((w2.setCell ⟨w.heap.size, 1, none⟩ (.string ⟨left.toArray⟩)).setCell ⟨w.heap.size, 2, none⟩ (.string ⟨right.toArray⟩)).cell? ⟨w.heap.size, 1, none⟩ = some (.string ⟨left.toArray⟩) := cellAt HC4.out.blk rfl; have y7 : ((w2.setCell ⟨w.heap.size, 1, none⟩ (.string ⟨left.toArray⟩)).setCell ⟨w.heap.size, 2, none⟩ (.string ⟨right.toArray⟩)).cell? ⟨w.heap.size, 2, none⟩ = some (.string ⟨right.toArray⟩) := cellAt HC4.out.blk rfl; clear hb2)
            | (go_at_call 32; refine (sclone_any ⟨left.toArray⟩ _ (by simp [ByteArray.size]; exact hl6)).mono ?_; rintro e w1 ⟨rfl, hb1⟩; have HC1 := hide (Cp.of_below HRR.out.box (below_trans (below_same (drew_same W0)) hb1)); have y0 : w1.cell? ⟨w.heap.size, 1, none⟩ = some (.string ⟨left.toArray⟩) := cellAt HC1.out.blk rfl; have y1 : w1.cell? ⟨w.heap.size, 2, none⟩ = some (.string ⟨right.toArray⟩) := cellAt HC1.out.blk rfl; clear hb1))
        have RR := HRR.out.cp HC4.out
        clear y0 y1 y2 y3 y4 y5 y6 y7 yf yg x1 x2 HC1 HC2 HC3 HC4 HRR
        generalize (w2.setCell ⟨w.heap.size, 1, none⟩ (.string ⟨left.toArray⟩)).setCell ⟨w.heap.size, 2, none⟩ (.string ⟨right.toArray⟩) = W1 at RR ⊢
        go_wp2_with fail
        have x6 : W1.cell? ⟨w.heap.size, 6, none⟩ = some (.string ⟨ahead.toArray⟩) := cellAt RR.box rfl
        have x7 : W1.cell? ⟨w.heap.size, 7, none⟩ = some (.string ⟨behind.toArray⟩) := cellAt RR.box rfl
        have HRR := hide RR
        clear RR
        go_region_held3 (fun w' => w'.cell? ⟨w.heap.size, 6, none⟩ = some (.string ⟨ahead.toArray⟩) ∧ w'.cell? ⟨w.heap.size, 7, none⟩ = some (.string ⟨behind.toArray⟩)) (first | (exact ⟨y0, y1⟩) | (exact ⟨y2, y3⟩) | (exact ⟨y4, y5⟩) | (exact ⟨y6, y7⟩) | (go_keep))
          (first
            | (have hh2 := HC1; clear hh2; go_at_call 32; refine (sclone_any ⟨behind.toArray⟩ _ (by simp [ByteArray.size]; exact hv6)).mono ?_; rintro e w2 ⟨rfl, hb2⟩; have HC2 := hide (HC1.out.trans (Cp.of_below HC1.out.blk hb2)); have y2 : w2.cell? ⟨w.heap.size, 6, none⟩ = some (.string ⟨ahead.toArray⟩) := cellAt HC2.out.blk rfl; have y3 : w2.cell? ⟨w.heap.size, 7, none⟩ = some (.string ⟨behind.toArray⟩) := cellAt HC2.out.blk rfl; have yf := frozen_of_row w2 w.heap.size 6 _ _ HC2.out.blk; have HC3 := hide (HC2.out.set 6 (.string ⟨ahead.toArray⟩) rfl); have y4 : (w2.setCell ⟨w.heap.size, 6, none⟩ (.string ⟨ahead.toArray⟩)).cell? ⟨w.heap.size, 6, none⟩ = some (.string ⟨ahead.toArray⟩) := cellAt HC3.out.blk rfl; have y5 : (w2.setCell ⟨w.heap.size, 6, none⟩ (.string ⟨ahead.toArray⟩)).cell? ⟨w.heap.size, 7, none⟩ = some (.string ⟨behind.toArray⟩) := cellAt HC3.out.blk rfl; have yg := frozen_of_row (w2.setCell ⟨w.heap.size, 6, none⟩ (.string ⟨ahead.toArray⟩)) w.heap.size 7 _ _ HC3.out.blk; have HC4 := hide (HC3.out.set 7 (.string ⟨behind.toArray⟩) rfl); have y6 : ((w2.setCell ⟨w.heap.size, 6, none⟩ (.string ⟨ahead.toArray⟩)).setCell ⟨w.heap.size, 7, none⟩ (.string ⟨behind.toArray⟩)).cell? ⟨w.heap.size, 6, none⟩ = some (.string ⟨ahead.toArray⟩) := cellAt HC4.out.blk rfl; have y7 : ((w2.setCell ⟨w.heap.size, 6, none⟩ (.string ⟨ahead.toArray⟩)).setCell ⟨w.heap.size, 7, none⟩ (.string ⟨behind.toArray⟩)).cell? ⟨w.heap.size, 7, none⟩ = some (.string ⟨behind.toArray⟩) := cellAt HC4.out.blk rfl; clear hb2)
            | (go_at_call 32; refine (sclone_any ⟨ahead.toArray⟩ _ (by simp [ByteArray.size]; exact hu6)).mono ?_; rintro e w1 ⟨rfl, hb1⟩; have HC1 := hide (Cp.of_below HRR.out.box (below_trans (below_same (drew_same W1)) hb1)); have y0 : w1.cell? ⟨w.heap.size, 6, none⟩ = some (.string ⟨ahead.toArray⟩) := cellAt HC1.out.blk rfl; have y1 : w1.cell? ⟨w.heap.size, 7, none⟩ = some (.string ⟨behind.toArray⟩) := cellAt HC1.out.blk rfl; clear hb1))
        have RR := HRR.out.cp HC4.out
        clear y0 y1 y2 y3 y4 y5 y6 y7 yf yg x6 x7 HC1 HC2 HC3 HC4 HRR
        generalize (w2.setCell ⟨w.heap.size, 6, none⟩ (.string ⟨ahead.toArray⟩)).setCell ⟨w.heap.size, 7, none⟩ (.string ⟨behind.toArray⟩) = W2 at RR ⊢
        have k0 : W2.cell? ⟨w.heap.size, 0, none⟩ = some (.int .i64 4) := cellAt RR.box rfl
        have k1 : W2.cell? ⟨w.heap.size, 1, none⟩ = some (.string ⟨left.toArray⟩) := cellAt RR.box rfl
        have k2 : W2.cell? ⟨w.heap.size, 2, none⟩ = some (.string ⟨right.toArray⟩) := cellAt RR.box rfl
        have k3 : W2.cell? ⟨w.heap.size, 3, none⟩ = some (.int .i64 sd) := cellAt RR.box rfl
        have k4 : W2.cell? ⟨w.heap.size, 4, none⟩ = some (.int .i64 (mj : Int)) := cellAt RR.box rfl
        have k5 : W2.cell? ⟨w.heap.size, 5, none⟩ = some (.int .i64 nb) := cellAt RR.box rfl
        have k6 : W2.cell? ⟨w.heap.size, 6, none⟩ = some (.string ⟨ahead.toArray⟩) := cellAt RR.box rfl
        have k7 : W2.cell? ⟨w.heap.size, 7, none⟩ = some (.string ⟨behind.toArray⟩) := cellAt RR.box rfl
        have r0 : W2.cell? ⟨w.heap.size + 1, 0, none⟩ = some (.int .i64 0) := cellAt RR.res rfl
        have r1 : W2.cell? ⟨w.heap.size + 1, 1, none⟩ = some (.string ⟨#[]⟩) := cellAt RR.res rfl
        have r2 : W2.cell? ⟨w.heap.size + 1, 2, none⟩ = some (.string ⟨#[]⟩) := cellAt RR.res rfl
        have r3 : W2.cell? ⟨w.heap.size + 1, 3, none⟩ = some (.int .i64 0) := cellAt RR.res rfl
        have r4 : W2.cell? ⟨w.heap.size + 1, 4, none⟩ = some (.int .i64 0) := cellAt RR.res rfl
        have r5 : W2.cell? ⟨w.heap.size + 1, 5, none⟩ = some (.int .i64 0) := cellAt RR.res rfl
        have r6 : W2.cell? ⟨w.heap.size + 1, 6, none⟩ = some (.string ⟨#[]⟩) := cellAt RR.res rfl
        have r7 : W2.cell? ⟨w.heap.size + 1, 7, none⟩ = some (.string ⟨#[]⟩) := cellAt RR.res rfl
        have rf : ∀ o, W2.frozen? ⟨w.heap.size + 1, o, none⟩ = false := fun o => frozen_of_row W2 _ o _ _ RR.res
        have HL := hide RR.low
        clear RR
        go_wp2
        refine bodyPost_ret (v := lagg ⟨4, left, right, sd, (mj : Int), nb, ahead, behind⟩) (by simp [results, Tryz.results94, go_sem, lagg, r0, r1, r2, r3, r4, r5, r6, r7]) rfl ?_
        exact ⟨rfl, (((((((HL.out.setCell (by simp) _).setCell (by simp) _).setCell (by simp) _).setCell (by simp) _).setCell (by simp) _).setCell (by simp) _).setCell (by simp) _).setCell (by simp) _⟩
    · have hr : Hw.renum num ⟨how, left, right, sd, na, nb, ahead, behind⟩ = ⟨how, left, right, sd, na, nb, ahead, behind⟩ := by
        simp [Hw.renum, h3, h24]
      rw [hr]
      clear hr hok hg
      have h3' : (how == 3) = false := by simp [h3]
      have h2' : (how == 2) = false := by simp; omega
      have h4' : (how == 4) = false := by simp; omega
      have RR := ren_world w ⟨how, left, right, sd, na, nb, ahead, behind⟩
      have hl6 := HS.out.l
      have hr6 := HS.out.r
      have hu6 := HS.out.u
      have hv6 := HS.out.v
      simp only at hl6 hr6 hu6 hv6
      go_enter Tryz.func94, Tryz.ntmps94
      go_wp2_with fail
      unfold lbox at RR
      simp only at RR
      generalize (w.alloc (.cells #[.int .i64 how, .string ⟨left.toArray⟩, .string ⟨right.toArray⟩, .int .i64 sd, .int .i64 na, .int .i64 nb, .string ⟨ahead.toArray⟩, .string ⟨behind.toArray⟩] 54)).alloc (.cells #[.int .i64 0, .string ⟨#[]⟩, .string ⟨#[]⟩, .int .i64 0, .int .i64 0, .int .i64 0, .string ⟨#[]⟩, .string ⟨#[]⟩] 54) = W0 at RR ⊢
      have x1 : W0.cell? ⟨w.heap.size, 1, none⟩ = some (.string ⟨left.toArray⟩) := cellAt RR.box rfl
      have x2 : W0.cell? ⟨w.heap.size, 2, none⟩ = some (.string ⟨right.toArray⟩) := cellAt RR.box rfl
      have HRR := hide RR
      clear RR
      go_region_held3 (fun w' => w'.cell? ⟨w.heap.size, 1, none⟩ = some (.string ⟨left.toArray⟩) ∧ w'.cell? ⟨w.heap.size, 2, none⟩ = some (.string ⟨right.toArray⟩)) (first | (exact ⟨y0, y1⟩) | (exact ⟨y2, y3⟩) | (exact ⟨y4, y5⟩) | (exact ⟨y6, y7⟩) | (go_keep))
        (first
          | (have hh2 := HC1; clear hh2; go_at_call 32; refine (sclone_any ⟨right.toArray⟩ _ (by simp [ByteArray.size]; exact hr6)).mono ?_; rintro e w2 ⟨rfl, hb2⟩; have HC2 := hide (HC1.out.trans (Cp.of_below HC1.out.blk hb2)); have y2 : w2.cell? ⟨w.heap.size, 1, none⟩ = some (.string ⟨left.toArray⟩) := cellAt HC2.out.blk rfl; have y3 : w2.cell? ⟨w.heap.size, 2, none⟩ = some (.string ⟨right.toArray⟩) := cellAt HC2.out.blk rfl; have yf := frozen_of_row w2 w.heap.size 1 _ _ HC2.out.blk; have HC3 := hide (HC2.out.set 1 (.string ⟨left.toArray⟩) rfl); have y4 : (w2.setCell ⟨w.heap.size, 1, none⟩ (.string ⟨left.toArray⟩)).cell? ⟨w.heap.size, 1, none⟩ = some (.string ⟨left.toArray⟩) := cellAt HC3.out.blk rfl; have y5 : (w2.setCell ⟨w.heap.size, 1, none⟩ (.string ⟨left.toArray⟩)).cell? ⟨w.heap.size, 2, none⟩ = some (.string ⟨right.toArray⟩) := cellAt HC3.out.blk rfl; have yg := frozen_of_row (w2.setCell ⟨w.heap.size, 1, none⟩ (.string ⟨left.toArray⟩)) w.heap.size 2 _ _ HC3.out.blk; have HC4 := hide (HC3.out.set 2 (.string ⟨right.toArray⟩) rfl); have y6 : ((w2.setCell ⟨w.heap.size, 1, none⟩ (.string ⟨left.toArray⟩)).setCell ⟨w.heap.size, 2, none⟩ (.string ⟨right.toArray⟩)).cell? ⟨w.heap.size, 1, none⟩ = some (.string ⟨left.toArray⟩) := cellAt HC4.out.blk rfl; have y7 : ((w2.setCell ⟨w.heap.size, 1, none⟩ (.string ⟨left.toArray⟩)).setCell ⟨w.heap.size, 2, none⟩ (.string ⟨right.toArray⟩)).cell? ⟨w.heap.size, 2, none⟩ = some (.string ⟨right.toArray⟩) := cellAt HC4.out.blk rfl; clear hb2)
          | (go_at_call 32; refine (sclone_any ⟨left.toArray⟩ _ (by simp [ByteArray.size]; exact hl6)).mono ?_; rintro e w1 ⟨rfl, hb1⟩; have HC1 := hide (Cp.of_below HRR.out.box (below_trans (below_same (drew_same W0)) hb1)); have y0 : w1.cell? ⟨w.heap.size, 1, none⟩ = some (.string ⟨left.toArray⟩) := cellAt HC1.out.blk rfl; have y1 : w1.cell? ⟨w.heap.size, 2, none⟩ = some (.string ⟨right.toArray⟩) := cellAt HC1.out.blk rfl; clear hb1))
      have RR := HRR.out.cp HC4.out
      clear y0 y1 y2 y3 y4 y5 y6 y7 yf yg x1 x2 HC1 HC2 HC3 HC4 HRR
      generalize (w2.setCell ⟨w.heap.size, 1, none⟩ (.string ⟨left.toArray⟩)).setCell ⟨w.heap.size, 2, none⟩ (.string ⟨right.toArray⟩) = W1 at RR ⊢
      go_wp2_with fail
      have x6 : W1.cell? ⟨w.heap.size, 6, none⟩ = some (.string ⟨ahead.toArray⟩) := cellAt RR.box rfl
      have x7 : W1.cell? ⟨w.heap.size, 7, none⟩ = some (.string ⟨behind.toArray⟩) := cellAt RR.box rfl
      have HRR := hide RR
      clear RR
      go_region_held3 (fun w' => w'.cell? ⟨w.heap.size, 6, none⟩ = some (.string ⟨ahead.toArray⟩) ∧ w'.cell? ⟨w.heap.size, 7, none⟩ = some (.string ⟨behind.toArray⟩)) (first | (exact ⟨y0, y1⟩) | (exact ⟨y2, y3⟩) | (exact ⟨y4, y5⟩) | (exact ⟨y6, y7⟩) | (go_keep))
        (first
          | (have hh2 := HC1; clear hh2; go_at_call 32; refine (sclone_any ⟨behind.toArray⟩ _ (by simp [ByteArray.size]; exact hv6)).mono ?_; rintro e w2 ⟨rfl, hb2⟩; have HC2 := hide (HC1.out.trans (Cp.of_below HC1.out.blk hb2)); have y2 : w2.cell? ⟨w.heap.size, 6, none⟩ = some (.string ⟨ahead.toArray⟩) := cellAt HC2.out.blk rfl; have y3 : w2.cell? ⟨w.heap.size, 7, none⟩ = some (.string ⟨behind.toArray⟩) := cellAt HC2.out.blk rfl; have yf := frozen_of_row w2 w.heap.size 6 _ _ HC2.out.blk; have HC3 := hide (HC2.out.set 6 (.string ⟨ahead.toArray⟩) rfl); have y4 : (w2.setCell ⟨w.heap.size, 6, none⟩ (.string ⟨ahead.toArray⟩)).cell? ⟨w.heap.size, 6, none⟩ = some (.string ⟨ahead.toArray⟩) := cellAt HC3.out.blk rfl; have y5 : (w2.setCell ⟨w.heap.size, 6, none⟩ (.string ⟨ahead.toArray⟩)).cell? ⟨w.heap.size, 7, none⟩ = some (.string ⟨behind.toArray⟩) := cellAt HC3.out.blk rfl; have yg := frozen_of_row (w2.setCell ⟨w.heap.size, 6, none⟩ (.string ⟨ahead.toArray⟩)) w.heap.size 7 _ _ HC3.out.blk; have HC4 := hide (HC3.out.set 7 (.string ⟨behind.toArray⟩) rfl); have y6 : ((w2.setCell ⟨w.heap.size, 6, none⟩ (.string ⟨ahead.toArray⟩)).setCell ⟨w.heap.size, 7, none⟩ (.string ⟨behind.toArray⟩)).cell? ⟨w.heap.size, 6, none⟩ = some (.string ⟨ahead.toArray⟩) := cellAt HC4.out.blk rfl; have y7 : ((w2.setCell ⟨w.heap.size, 6, none⟩ (.string ⟨ahead.toArray⟩)).setCell ⟨w.heap.size, 7, none⟩ (.string ⟨behind.toArray⟩)).cell? ⟨w.heap.size, 7, none⟩ = some (.string ⟨behind.toArray⟩) := cellAt HC4.out.blk rfl; clear hb2)
          | (go_at_call 32; refine (sclone_any ⟨ahead.toArray⟩ _ (by simp [ByteArray.size]; exact hu6)).mono ?_; rintro e w1 ⟨rfl, hb1⟩; have HC1 := hide (Cp.of_below HRR.out.box (below_trans (below_same (drew_same W1)) hb1)); have y0 : w1.cell? ⟨w.heap.size, 6, none⟩ = some (.string ⟨ahead.toArray⟩) := cellAt HC1.out.blk rfl; have y1 : w1.cell? ⟨w.heap.size, 7, none⟩ = some (.string ⟨behind.toArray⟩) := cellAt HC1.out.blk rfl; clear hb1))
      have RR := HRR.out.cp HC4.out
      clear y0 y1 y2 y3 y4 y5 y6 y7 yf yg x6 x7 HC1 HC2 HC3 HC4 HRR
      generalize (w2.setCell ⟨w.heap.size, 6, none⟩ (.string ⟨ahead.toArray⟩)).setCell ⟨w.heap.size, 7, none⟩ (.string ⟨behind.toArray⟩) = W2 at RR ⊢
      have k0 : W2.cell? ⟨w.heap.size, 0, none⟩ = some (.int .i64 how) := cellAt RR.box rfl
      have k1 : W2.cell? ⟨w.heap.size, 1, none⟩ = some (.string ⟨left.toArray⟩) := cellAt RR.box rfl
      have k2 : W2.cell? ⟨w.heap.size, 2, none⟩ = some (.string ⟨right.toArray⟩) := cellAt RR.box rfl
      have k3 : W2.cell? ⟨w.heap.size, 3, none⟩ = some (.int .i64 sd) := cellAt RR.box rfl
      have k4 : W2.cell? ⟨w.heap.size, 4, none⟩ = some (.int .i64 na) := cellAt RR.box rfl
      have k5 : W2.cell? ⟨w.heap.size, 5, none⟩ = some (.int .i64 nb) := cellAt RR.box rfl
      have k6 : W2.cell? ⟨w.heap.size, 6, none⟩ = some (.string ⟨ahead.toArray⟩) := cellAt RR.box rfl
      have k7 : W2.cell? ⟨w.heap.size, 7, none⟩ = some (.string ⟨behind.toArray⟩) := cellAt RR.box rfl
      have r0 : W2.cell? ⟨w.heap.size + 1, 0, none⟩ = some (.int .i64 0) := cellAt RR.res rfl
      have r1 : W2.cell? ⟨w.heap.size + 1, 1, none⟩ = some (.string ⟨#[]⟩) := cellAt RR.res rfl
      have r2 : W2.cell? ⟨w.heap.size + 1, 2, none⟩ = some (.string ⟨#[]⟩) := cellAt RR.res rfl
      have r3 : W2.cell? ⟨w.heap.size + 1, 3, none⟩ = some (.int .i64 0) := cellAt RR.res rfl
      have r4 : W2.cell? ⟨w.heap.size + 1, 4, none⟩ = some (.int .i64 0) := cellAt RR.res rfl
      have r5 : W2.cell? ⟨w.heap.size + 1, 5, none⟩ = some (.int .i64 0) := cellAt RR.res rfl
      have r6 : W2.cell? ⟨w.heap.size + 1, 6, none⟩ = some (.string ⟨#[]⟩) := cellAt RR.res rfl
      have r7 : W2.cell? ⟨w.heap.size + 1, 7, none⟩ = some (.string ⟨#[]⟩) := cellAt RR.res rfl
      have rf : ∀ o, W2.frozen? ⟨w.heap.size + 1, o, none⟩ = false := fun o => frozen_of_row W2 _ o _ _ RR.res
      have HL := hide RR.low
      clear RR
      go_wp2
      refine bodyPost_ret (v := lagg ⟨how, left, right, sd, na, nb, ahead, behind⟩) (by simp [results, Tryz.results94, go_sem, lagg, r0, r1, r2, r3, r4, r5, r6, r7]) rfl ?_
      exact ⟨rfl, (((((((HL.out.setCell (by simp) _).setCell (by simp) _).setCell (by simp) _).setCell (by simp) _).setCell (by simp) _).setCell (by simp) _).setCell (by simp) _).setCell (by simp) _⟩

end Dr
end Go.Proofs.YtfiebibpgbadlaaGreat
namespace Go.Proofs.YtfiebibpgbadlaaGreat
open Go.RowKit
set_option linter.unusedVariables false
set_option linter.unusedSimpArgs false
namespace Dr

def boolRow (nd : List Bool) : Array Value := (nd.map Value.bool).toArray
theorem set_boolRow (nd : List Bool) (k : Nat) (v : Bool) : (boolRow nd).setIfInBounds k (.bool v) = boolRow (nd.set k v) := by
  apply Array.ext'
  simp [boolRow]
theorem cell_boolRow {w : World} {g : Nat} {nd : List Bool} {t : TypeId} (hg : w.heap[g]? = some (.cells (boolRow nd) t (0, 0))) (k : Nat) (h : k < nd.length) : w.cell? ⟨g, k, none⟩ = some (.bool (nd[k])) := by
  refine cellAt hg ?_
  simp [boolRow, h]
theorem infoBool : (Tryz.prog.info? 4).map (fun i => (i.zero, i.size, i.bytes)) = some (some (.bool false), 1, 1) := by kernel_rfl
theorem run_make_bools (c : Nat) (hn : c ≤ 65536) (W : World) :
    (Instr.makeSlice 160 (.int .i64 ((c : Int) + 1)) (.int .i64 ((c : Int) + 1))).run Tryz.prog W = .ok (.slice (some ⟨W.heap.size, 0, none⟩) (c + 1) (c + 1)) (W.alloc (.cells (boolRow (List.replicate (c + 1) false)) 4)) := by
  obtain ⟨i, hi, hz, hs, hb⟩ := info_parts infoBool
  rw [run_make (P := Tryz.prog) W 160 4 i (.bool false) Tryz.underlying160 hi hz .i64 .i64 _ _ (by omega) (by omega) (by rw [hb]; omega) (by omega)]
  have e0 : ((c : Int) + 1).toNat = c + 1 := by omega
  have e : madeCells (Value.cells (.bool false)) (((c : Int) + 1).toNat * i.size) = boolRow (List.replicate (c + 1) false) := by
    apply Array.ext'
    rw [hs, Nat.mul_one, e0]
    rw [show Value.cells (.bool false) = #[Value.bool false] from rfl, toList_madeCells_one]
    simp [boolRow]
  rw [e, e0]
theorem run_make_ints1 (c : Nat) (hn : c ≤ 65000) (W : World) :
    (Instr.makeSlice 37 (.int .i64 ((c : Int) + 1)) (.int .i64 ((c : Int) + 1))).run Tryz.prog W = .ok (.slice (some ⟨W.heap.size, 0, none⟩) (c + 1) (c + 1)) (W.alloc (.cells (intRow (List.replicate (c + 1) 0)) 3)) := by
  have h := run_make_ints (c + 1) (by omega) W
  rw [initTo_zero] at h
  exact h
theorem run_make_lines (n : Nat) (hn : n ≤ 65536) : ∃ cur : Array Value, cur.size = n * 8 ∧ ∀ W : World,
    (Instr.makeSlice 50 (.int .i64 0) (.int .i64 (n : Int))).run Tryz.prog W = .ok (.slice (some ⟨W.heap.size, 0, none⟩) 0 n) (W.alloc (.cells cur 54)) := by
  obtain ⟨i, hi, hz, hs, hb⟩ := info_parts infoLn
  refine ⟨madeCells (Value.cells (.agg #[.int .i64 0, .string ⟨#[]⟩, .string ⟨#[]⟩, .int .i64 0, .int .i64 0, .int .i64 0, .string ⟨#[]⟩, .string ⟨#[]⟩])) ((n : Int).toNat * i.size), ?_, fun W => ?_⟩
  · rw [size_madeCells, hs]; simp
  · rw [run_make (P := Tryz.prog) W 50 54 i _ Tryz.underlying50 hi hz .i64 .i64 0 (n : Int) (by omega) (by omega) (by rw [hb]; omega) (by omega)]
    simp

/-- what is needed of the lines from one on. -/
structure Nd (ls : List Hw.Ln) (c : Nat) (nd : List Bool) (k : Nat) : Prop where
  len : nd.length = c + 1
  last : nd[c]? = some true
  clo : ∀ j n r, k ≤ j → nd[j]? = some true → ls[j]? = some n → r ∈ n.refs → nd[r]? = some true

theorem Nd.start (ls : List Hw.Ln) (c : Nat) : Nd ls c ((List.replicate (c + 1) false).set c true) (c + 1) := by
  refine ⟨by simp, by simp, fun j n r hj h1 => ?_⟩
  have := (List.getElem?_eq_some_iff.1 h1).1
  simp at this
  omega
theorem Nd.mark {ls : List Hw.Ln} {c : Nat} {nd nd' : List Bool} {k : Nat} (h : Nd ls c nd (k + 1)) {n : Hw.Ln} (hn : ls[k]? = some n) (hl : nd'.length = nd.length) (hup : ∀ j : Nat, nd[j]? = some true → nd'[j]? = some true) (hr : ∀ r : Nat, r ∈ n.refs → nd'[r]? = some true)
    (hsame : ∀ j : Nat, k < j → nd'[j]? = nd[j]?) : Nd ls c nd' k := by
  refine ⟨hl.trans h.len, hup _ h.last, fun j m r hj h1 h2 h3 => ?_⟩
  by_cases e : j = k
  · subst e
    rw [hn] at h2; cases h2
    exact hr r h3
  · rw [hsame j (by omega)] at h1
    exact hup _ (h.clo j m r (by omega) h1 h2 h3)
theorem Nd.skip {ls : List Hw.Ln} {c : Nat} {nd : List Bool} {k : Nat} (h : Nd ls c nd (k + 1)) (hf : nd[k]? = some false) : Nd ls c nd k := by
  refine ⟨h.len, h.last, fun j m r hj h1 h2 h3 => ?_⟩
  by_cases e : j = k
  · subst e
    rw [hf] at h1; cases h1
  · exact h.clo j m r (by omega) h1 h2 h3
theorem set_up {nd : List Bool} {a : Nat} : ∀ j : Nat, nd[j]? = some true → (nd.set a true)[j]? = some true := by
  intro j hj
  have hl := (List.getElem?_eq_some_iff.1 hj).1
  by_cases e : a = j
  · subst e; simp [hl]
  · rw [List.getElem?_set_ne e]; exact hj
theorem set_at {nd : List Bool} {a : Nat} (h : a < nd.length) : (nd.set a true)[a]? = some true := by simp [h]

theorem below_sc {w wr W : World} {a : Nat} {u : Value} (h : Below w.heap.size w wr) (hW : SameW (wr.setCell ⟨w.heap.size, a, none⟩ u) W) : Below w.heap.size w W := by
  have h1 : Below w.heap.size w (wr.setCell ⟨w.heap.size, a, none⟩ u) := h.setCell (by simp) _
  exact h1.trans ((below_same hW).mono h1.size)
/-- while what is needed is marked. -/
structure TI (w wr : World) (ls : List Hw.Ln) (c : Nat) (nd : List Bool) (k : Nat) : Prop where
  blk : wr.heap[w.heap.size]? = some (.cells (boolRow nd) 4 (0, 0))
  low : Below w.heap.size w wr
  nd : Nd ls c nd k
theorem ti_start (w : World) (ls : List Hw.Ln) (c : Nat) : TI w (w.alloc (.cells ((boolRow (List.replicate (c + 1) false)).setIfInBounds c (.bool true)) 4)) ls c ((List.replicate (c + 1) false).set c true) (c + 1) := by
  refine ⟨?_, (Below.refl _ _).alloc (Nat.le_refl _) _, Nd.start ls c⟩
  rw [heap_alloc_new w _, set_boolRow]
theorem TI.mark0 {w wr : World} {ls : List Hw.Ln} {c : Nat} {nd : List Bool} {k : Nat} (h : TI w wr ls c nd (k + 1)) {n : Hw.Ln} (hn : ls[k]? = some n) (hr : n.refs = []) {W : World} (hW : SameW wr W) : TI w W ls c nd k :=
  ⟨by rw [hW.1]; exact h.blk, h.low.trans ((below_same hW).mono h.low.size), h.nd.mark hn rfl (fun _ h => h) (fun r hr' => by rw [hr] at hr'; cases hr') (fun _ _ => rfl)⟩
theorem TI.mark1 {w wr : World} {ls : List Hw.Ln} {c : Nat} {nd : List Bool} {k a : Nat} (h : TI w wr ls c nd (k + 1)) {n : Hw.Ln} (hn : ls[k]? = some n) (hr : n.refs = [a]) (ha : a < k) (hk : k ≤ c) {W : World} (hW : SameW (wr.setCell ⟨w.heap.size, a, none⟩ (.bool true)) W) : TI w W ls c (nd.set a true) k := by
  have hl := h.nd.len
  refine ⟨?_, below_sc h.low hW, h.nd.mark hn (by simp) set_up ?_ ?_⟩
  · rw [hW.1, heap_setCell_same _ _ a _ _ _ h.blk, set_boolRow]
  · intro r hr'
    rw [hr] at hr'; simp at hr'; subst hr'
    exact set_at (by omega)
  · intro j hj
    exact List.getElem?_set_ne (by omega)
theorem TI.mark2 {w wr : World} {ls : List Hw.Ln} {c : Nat} {nd : List Bool} {k a b : Nat} (h : TI w wr ls c nd (k + 1)) {n : Hw.Ln} (hn : ls[k]? = some n) (hr : n.refs = [a, b]) (ha : a < k) (hb : b < k) (hk : k ≤ c) {W1 W2 : World} (hW1 : SameW (wr.setCell ⟨w.heap.size, b, none⟩ (.bool true)) W1) (hW2 : SameW (W1.setCell ⟨w.heap.size, a, none⟩ (.bool true)) W2) : TI w W2 ls c ((nd.set b true).set a true) k := by
  have hl := h.nd.len
  have h1 : W1.heap[w.heap.size]? = some (.cells (boolRow (nd.set b true)) 4 (0, 0)) := by
    rw [hW1.1, heap_setCell_same _ _ b _ _ _ h.blk, set_boolRow]
  refine ⟨?_, below_sc (below_sc h.low hW1) hW2, h.nd.mark hn (by simp) (fun j hj => set_up j (set_up j hj)) ?_ ?_⟩
  · rw [hW2.1, heap_setCell_same _ _ a _ _ _ h1, set_boolRow]
  · intro r hr'
    rw [hr] at hr'; simp at hr'
    rcases hr' with rfl | rfl
    · exact set_at (by simp; omega)
    · exact set_up _ (set_at (by omega))
  · intro j hj
    rw [List.getElem?_set_ne (by omega), List.getElem?_set_ne (by omega)]

/-- while it is told. -/
structure T2 (w wr : World) (L M : Nat) (said : List Hw.Rl) (ls : List Hw.Ln) (c : Nat) (nd : List Bool) (gN : Nat) (tv : Value) (told : List Hw.Ln) (num : List Nat) (i : Nat) : Prop where
  low : Below w.heap.size w wr
  nb : wr.heap[w.heap.size]? = some (.cells (boolRow nd) 4 (0, 0))
  nm : NumAt wr gN num
  gn : w.heap.size ≤ gN
  nl : num.length = c + 1
  own : LinesAt wr w.heap.size tv told
  told : Hw.Told L M said ls told (fun j => nd.getD j false) num i
theorem T2.start {w wr W : World} {L M : Nat} {said : List Hw.Rl} {ls : List Hw.Ln} {c : Nat} {nd : List Bool} (h : TI w wr ls c nd 0) (hb : Below wr.heap.size wr W) {gL gN m : Nat} {cur : Array Value} (hcs : cur.size = m * 8) (hm : m ≤ 65536)
    (h1 : W.heap[gL]? = some (.cells cur 54 (0, 0))) (hgL : wr.heap.size ≤ gL) (h2 : NumAt W gN (List.replicate (c + 1) 0)) (hgN : wr.heap.size ≤ gN) : T2 w W L M said ls c nd gN (.slice (some ⟨gL, 0, none⟩) 0 m) [] (List.replicate (c + 1) 0) 0 := by
  have hz := h.low.size
  refine ⟨h.low.trans (hb.mono hz), (hb.block _ (lt_of_block h.blk)).trans h.blk, h2, Nat.le_trans hz hgN, by simp, ⟨rfl, .inr ⟨gL, m, cur, rfl, Nat.le_trans hz hgL, h1, Nat.zero_le _, ?_, hcs, ?_⟩⟩, Hw.Told.start _ _ _ _ _ _⟩
  · unfold maxLen; omega
  · simp [lcells]

/-- all of it but what is told. -/
structure TN (w wr : World) (c : Nat) (nd : List Bool) (gN : Nat) (tv : Value) (told : List Hw.Ln) (num : List Nat) : Prop where
  low : Below w.heap.size w wr
  nb : wr.heap[w.heap.size]? = some (.cells (boolRow nd) 4 (0, 0))
  nm : NumAt wr gN num
  gn : w.heap.size ≤ gN
  nl : num.length = c + 1
  own : LinesAt wr w.heap.size tv told
theorem TN.below {w wr W : World} {c : Nat} {nd : List Bool} {gN : Nat} {tv : Value} {told : List Hw.Ln} {num : List Nat} (h : TN w wr c nd gN tv told num) (hb : Below wr.heap.size wr W) : TN w W c nd gN tv told num :=
  ⟨h.low.trans (hb.mono h.low.size), (hb.block _ (lt_of_block h.nb)).trans h.nb, (hb.block _ (lt_of_block h.nm)).trans h.nm, h.gn, h.nl, LinesAt.kept h.own (S := []) (Kept.of_below_size hb) (by simp)⟩
theorem T2.num {w wr : World} {L M : Nat} {said : List Hw.Rl} {ls : List Hw.Ln} {c : Nat} {nd : List Bool} {gN : Nat} {tv : Value} {told : List Hw.Ln} {num : List Nat} {i : Nat} (h : T2 w wr L M said ls c nd gN tv told num i) (q : Nat) : TN w (wr.setCell ⟨gN, i, none⟩ (.int .i64 (q : Int))) c nd gN tv told (num.set i q) := by
  have hK : Kept [gN] wr (wr.setCell ⟨gN, i, none⟩ (.int .i64 (q : Int))) := (Kept.refl [gN] wr).setCell (Or.inl (by simp)) _
  refine ⟨h.low.setCell h.gn _, hK.at h.nb ?_, ?_, h.gn, by simp [h.nl], LinesAt.kept h.own hK ?_⟩
  · intro hm
    simp at hm
    have := h.nm
    unfold NumAt at this
    rw [← hm, h.nb] at this
    simp at this
  · unfold NumAt
    rw [heap_setCell_same _ _ i _ _ _ h.nm, set_intRow]
  · intro k hk e
    simp at hk; subst hk
    obtain ⟨_, cur, hc⟩ := LinesAt.type h.own e
    have := h.nm
    unfold NumAt at this
    rw [hc] at this
    simp at this
theorem TN.append {w wr w3 : World} {c : Nat} {nd : List Bool} {gN : Nat} {tv v' : Value} {told : List Hw.Ln} {num : List Nat} {n : Hw.Ln} {o : Obj} (h : TN w wr c nd gN tv told num) (hown : w3.ownsRow w.heap.size 54 8 v' (told.length + 1) (lcells told ++ lcell n)) (hgrow : (wr.alloc o).grownBy w3 tv.ownBlock) :
    TN w w3 c nd gN v' (told ++ [n]) num := by
  have h1 := h.below (below_alloc wr o)
  have hK : Kept tv.ownBlock.toList (wr.alloc o) w3 := Kept.of_grown hgrow (fun k hk => by simp [hk])
  have hcell : ∀ k cc t fr, (wr.alloc o).heap[k]? = some (.cells cc t fr) → t ≠ 54 → k ∉ tv.ownBlock.toList := by
    intro k cc t fr e n1 hm
    obtain ⟨_, cur, hc⟩ := LinesAt.type h1.own (by simpa using hm)
    rw [e] at hc; simp at hc; exact n1 hc.2.1
  refine ⟨h1.low.trans (hK.below h1.low.size (fun k hk => ?_)), hK.at h1.nb (hcell _ _ _ _ h1.nb (by decide)), hK.at h1.nm (hcell _ _ _ _ h1.nm (by decide)), h.gn, h.nl, ?_⟩
  · exact (LinesAt.type h1.own (by simpa using hk)).1
  · unfold LinesAt
    rw [lcells_snoc, show (told ++ [n]).length = told.length + 1 by simp]
    exact hown
theorem TN.t2 {w wr : World} {L M : Nat} {said : List Hw.Rl} {ls : List Hw.Ln} {c : Nat} {nd : List Bool} {gN : Nat} {tv : Value} {told : List Hw.Ln} {num : List Nat} {i : Nat} (h : TN w wr c nd gN tv told num) (ht : Hw.Told L M said ls told (fun j => nd.getD j false) num i) : T2 w wr L M said ls c nd gN tv told num i :=
  ⟨h.low, h.nb, h.nm, h.gn, h.nl, h.own, ht⟩
theorem line_new1 (w : World) (n : Hw.Ln) (t : TypeId) : ∀ j x, (lcell n)[j]? = some x → ((w.alloc (.cells #[.int .i64 n.how, .string ⟨n.left.toArray⟩, .string ⟨n.right.toArray⟩, .int .i64 n.said, .int .i64 n.a, .int .i64 n.b, .string ⟨n.ahead.toArray⟩, .string ⟨n.behind.toArray⟩] t))).cell? ((⟨w.heap.size, 0, none⟩ : Addr).add j) = some x := by
  intro j x hj
  have hadd : (⟨w.heap.size, 0, none⟩ : Addr).add j = ⟨w.heap.size, j, none⟩ := by unfold Addr.add; split <;> simp_all
  rw [hadd]
  exact cellAt (heap_alloc_new w _) (by simpa [lcell] using hj)
theorem renum_set {n : Hw.Ln} {num : List Nat} {i q : Nat} {said : List Hw.Rl} {ls : List Hw.Ln} (hd : Hw.Drawn said ls i n) : Hw.renum (num.set i q) n = Hw.renum num n := by
  cases hd with
  | self x => rfl
  | said k x y h => rfl
  | back j m hj hm => simp [Hw.renum, List.getD, List.getElem?_set_ne (show i ≠ j by omega)]
  | thn j k m o hj hk hm ho h => simp [Hw.renum, List.getD, List.getElem?_set_ne (show i ≠ j by omega), List.getElem?_set_ne (show i ≠ k by omega)]
  | within j m u v hj hm => simp [Hw.renum, List.getD, List.getElem?_set_ne (show i ≠ j by omega)]
theorem drawn_short {n : Hw.Ln} {i L M : Nat} {said : List Hw.Rl} {ls : List Hw.Ln} (hd : Hw.Drawn said ls i n) (h1 : Hw.isWord L M n.left = true) (h2 : Hw.isWord L M n.right = true) (hM : M ≤ 6) : Short n := by
  have l1 := Hw.isWord_len h1
  have l2 := Hw.isWord_len h2
  cases hd with
  | within j m u v hj hm =>
    simp at l1 l2
    exact ⟨by simp; omega, by simp; omega, by simp; omega, by simp; omega⟩
  | _ => exact ⟨by simp at *; omega, by simp at *; omega, by simp, by simp⟩
theorem drawn_numOk {n : Hw.Ln} {i N : Nat} {said : List Hw.Rl} {ls : List Hw.Ln} (hd : Hw.Drawn said ls i n) (hi : i < N) : NumOk n N := by
  cases hd with
  | self x => exact ⟨by simp, by simp⟩
  | said k x y h => exact ⟨by simp, by simp⟩
  | back j m hj hm => exact ⟨by simp, fun _ => ⟨j, rfl, by omega⟩⟩
  | thn j k m o hj hk hm ho h => exact ⟨fun _ => ⟨j, k, rfl, rfl, by omega, by omega⟩, by simp⟩
  | within j m u v hj hm => exact ⟨by simp, fun _ => ⟨j, rfl, by omega⟩⟩
theorem ren_call {w W : World} {L M : Nat} {said : List Hw.Rl} {ls : List Hw.Ln} {c : Nat} {nd : List Bool} {gN : Nat} {tv : Value} {told : List Hw.Ln} {num : List Nat} {i q : Nat} {n : Hw.Ln} (h : TN w W c nd gN tv told (num.set i q)) (hs : Hw.Sheet L M said ls) (hn : ls[i]? = some n) (hM : M ≤ 6) (hc : c ≤ 60000) (hi : i < c + 1) :
    Calls Tryz.prog 94 #[.agg #[.int .i64 n.how, .string ⟨n.left.toArray⟩, .string ⟨n.right.toArray⟩, .int .i64 n.said, .int .i64 n.a, .int .i64 n.b, .string ⟨n.ahead.toArray⟩, .string ⟨n.behind.toArray⟩], .slice (some ⟨gN, 0, none⟩) (c + 1) (c + 1)] W fun e w' => e = .returned (lagg (Hw.renum num n)) ∧ TN w w' c nd gN tv told (num.set i q) := by
  have hd := hs.drawn i n hn
  have hw := hs.words n (List.mem_of_getElem? hn)
  have e := h.nl
  have := renumbered_any W n (num.set i q) gN (drawn_short hd hw.1 hw.2 hM) (by omega) (drawn_numOk hd (by omega)) h.nm
  rw [e, renum_set hd] at this
  refine this.mono ?_
  rintro e w' ⟨rfl, hb⟩
  exact ⟨rfl, h.below hb⟩
theorem T2.skip {w wr : World} {L M : Nat} {said : List Hw.Rl} {ls : List Hw.Ln} {c : Nat} {nd : List Bool} {gN : Nat} {tv : Value} {told : List Hw.Ln} {num : List Nat} {i : Nat} (h : T2 w wr L M said ls c nd gN tv told num i) (hf : nd.getD i false = false) : T2 w wr L M said ls c nd gN tv told num (i + 1) :=
  ⟨h.low, h.nb, h.nm, h.gn, h.nl, h.own, h.told.skip hf⟩
theorem T2.below {w wr W : World} {L M : Nat} {said : List Hw.Rl} {ls : List Hw.Ln} {c : Nat} {nd : List Bool} {gN : Nat} {tv : Value} {told : List Hw.Ln} {num : List Nat} {i : Nat} (h : T2 w wr L M said ls c nd gN tv told num i) (hb : Below wr.heap.size wr W) : T2 w W L M said ls c nd gN tv told num i :=
  ⟨h.low.trans (hb.mono h.low.size), (hb.block _ (lt_of_block h.nb)).trans h.nb, (hb.block _ (lt_of_block h.nm)).trans h.nm, h.gn, h.nl, LinesAt.kept h.own (S := []) (Kept.of_below_size hb) (by simp), h.told⟩
theorem T2.fin {w wr : World} {L M : Nat} {said : List Hw.Rl} {ls : List Hw.Ln} {c : Nat} {nd : List Bool} {gN : Nat} {tv : Value} {told : List Hw.Ln} {num : List Nat} {x y : Hw.Wd} (h : T2 w wr L M said ls c nd gN tv told num (c + 1)) (hn : Nd ls c nd 0) (hs : Hw.Says ls c x y) :
    LinesAt wr w.heap.size tv told ∧ Below w.heap.size w wr ∧ Hw.Sheet L M said told ∧ told.length ≤ c + 1 ∧ ∃ t n, told = t ++ [n] ∧ n.left = x ∧ n.right = y := by
  refine ⟨h.own, h.low, h.told.sheet, h.told.len, ?_⟩
  obtain ⟨t, n, x', y', e, h1, h2, h3⟩ := h.told.last c rfl (by simp [hn.last])
  obtain ⟨rfl, rfl⟩ := Hw.Says.uniq hs h3
  exact ⟨t, n, e, h1, h2⟩

set_option maxRecDepth 20000 in
set_option maxHeartbeats 3200000 in
theorem tell_any (w : World) (base d bm L M pm qb : Nat) (lv : Value) (said : List Hw.Rl) (ls : List Hw.Ln) (c : Nat) (x y : Hw.Wd) (hM6 : M ≤ 6) (hS : Sh w base d bm L M pm qb lv said ls) (hf : ls.length ≤ 50000) (hs : Hw.Says ls c x y) :
    Calls Tryz.prog 61 #[.pointer (some ⟨d, 0, none⟩), .int .i64 (c : Int)] w fun e w' => ∃ ov told, e = .returned ov ∧ LinesAt w' w.heap.size ov told ∧ Below w.heap.size w w' ∧ Hw.Sheet L M said told ∧ told.length ≤ c + 1 ∧ ∃ t n, told = t ++ [n] ∧ n.left = x ∧ n.right = y := by
  obtain ⟨g, cap, rfl, hgl, hline⟩ := hS.line hs
  have hcl := hs.lt
  have hcap : ls.length ≤ cap := by
    rcases hS.own.2 with ⟨h1, h2⟩ | ⟨g', cap', cur, h1, _, _, hn, _⟩
    · omega
    · simp at h1; omega
  have hmk := run_make_bools c (by omega)
  have HS := hide hS
  have HL := hide hline
  have HY := hide hs
  clear hS hline hs
  have hc5 : c ≤ 60000 := by omega
  have H0 := hide (ti_start w ls c)
  have hrb : (boolRow (List.replicate (c + 1) false))[c]? = some (.bool false) := by simp [boolRow]
  generalize boolRow (List.replicate (c + 1) false) = rb at *
  go_enter Tryz.func61, Tryz.ntmps61
  go_wp2_with fail
  clear hrb hmk
  go_loopw [6, 7] (fun cv iv wr => ∃ (k m : Nat) (nd : List Bool), cv = .int .i64 (m : Int) ∧ iv = .int .i64 ((k : Int) - 1) ∧ m + k ≤ c + 1 ∧ Hid (TI w wr ls c nd k)) (fun _ iv _ => (intOf iv + 1).toNat)
  case atStart => exact ⟨c + 1, 0, _, rfl, by congr 1; omega, by omega, H0⟩
  case round =>
    clear H0
    obtain ⟨k, m, nd, rfl, rfl, hkm, HT⟩ := hrel
    cases k with
    | zero =>
      have e1 : ((0 : Nat) : Int) - 1 = -1 := rfl
      rw [e1]
      clear e1
      obtain ⟨cur, hcs, hml⟩ := run_make_lines m (by omega)
      have hmi := run_make_ints1 c (by omega)
      have hdb := (HT.out.low.block d (lt_of_block HS.out.blk)).trans HS.out.blk
      have e0 := cellAt hdb (j := 0) (v := .slice (some ⟨g, 0, none⟩) ls.length cap) rfl
      have hm5 : m ≤ 65536 := by omega
      have HST1 : Hid (∀ W, Below wr.heap.size wr W → W.heap[wr.heap.size]? = some (.cells cur 54 (0, 0)) → NumAt W (wr.heap.size + 1) (List.replicate (c + 1) 0) → T2 w W L M said ls c nd (wr.heap.size + 1) (.slice (some ⟨wr.heap.size, 0, none⟩) 0 m) [] (List.replicate (c + 1) 0) 0) := fun W a1 a2 a3 => T2.start HT.out a1 hcs hm5 a2 (Nat.le_refl _) a3 (by omega)
      have HST2 : Hid (∀ W, Below wr.heap.size wr W → W.heap[wr.heap.size + 1]? = some (.cells cur 54 (0, 0)) → NumAt W wr.heap.size (List.replicate (c + 1) 0) → T2 w W L M said ls c nd wr.heap.size (.slice (some ⟨wr.heap.size + 1, 0, none⟩) 0 m) [] (List.replicate (c + 1) 0) 0) := fun W a1 a2 a3 => T2.start HT.out a1 hcs hm5 a2 (by omega) a3 (Nat.le_refl _)
      generalize hir : intRow (List.replicate (c + 1) 0) = ir at hmi
      have HIR := hide hir
      clear hir
      go_wp2_with fail
      go_cut [8, 9] from 63 (fun t8 t9 wx => ∃ (gL gN : Nat), t8 = .slice (some ⟨gL, 0, none⟩) 0 m ∧ t9 = .slice (some ⟨gN, 0, none⟩) (c + 1) (c + 1) ∧ Hid (T2 w wx L M said ls c nd gN (.slice (some ⟨gL, 0, none⟩) 0 m) [] (List.replicate (c + 1) 0) 0))
      case first =>
        go_region
        all_goals
          go_wp2_with fail
          go_meet
        · refine ⟨_, _, rfl, rfl, HST1.out _ (below_trans (below_trans (below_alloc _ _) (below_alloc _ _)) (below_same (drew_same _))) ?_ ?_⟩
          · exact (Below.heap_alloc _ _ _ (by simp)).trans (heap_alloc_new wr _)
          · unfold NumAt; rw [HIR.out]; exact heap_alloc2_new wr _ _
        · refine ⟨_, _, rfl, rfl, HST2.out _ (below_trans (below_trans (below_alloc _ _) (below_alloc _ _)) (below_same (drew_same _))) ?_ ?_⟩
          · exact heap_alloc2_new wr _ _
          · unfold NumAt; rw [HIR.out]; exact (Below.heap_alloc _ _ _ (by simp)).trans (heap_alloc_new wr _)
      case rest =>
        obtain ⟨gL, gN, rfl, rfl, H2⟩ := hcut
        clear HST1 HST2 e0 hdb hml hmi
        have hdb := (H2.out.low.block d (lt_of_block HS.out.blk)).trans HS.out.blk
        have e0 := cellAt hdb (j := 0) (v := .slice (some ⟨g, 0, none⟩) ls.length cap) rfl
        clear hdb
        have hcc : (c : Int) + 1 ≤ (cap : Int) := by omega
        have hc0 : ¬ cap = 0 := by omega
        go_wp2_with fail
        go_loopw [8, 76] (fun tv iv wr => ∃ (i : Nat) (told : List Hw.Ln) (num : List Nat), i ≤ c + 1 ∧ iv = .int .i64 (i : Int) ∧ Hid (T2 w wr L M said ls c nd gN tv told num i)) (fun _ iv _ => c + 1 - (intOf iv).toNat)
        case atStart => exact ⟨0, [], _, Nat.zero_le _, rfl, H2⟩
        case round =>
          clear H2 e0
          obtain ⟨i, told, num, hi, rfl, H2⟩ := hrel
          obtain ⟨sa, cap2, rfl⟩ := LinesAt.shape H2.out.own
          by_cases hlt : i < c + 1
          · have hil : i < ls.length := by omega
            have hn := List.getElem?_eq_getElem hil
            generalize ls[i] = n at hn
            obtain ⟨b0, b1, b2, b3, b4, b5, b6, b7⟩ := (HL.out i n hn).below H2.out.low
            have hnl := HT.out.nd.len
            have cn := cell_boolRow H2.out.nb i (by omega)
            have hiI : (i : Int) < (c : Int) + 1 := by omega
            have HN := hide hn
            clear hn
            have hwr : w.heap.size < wr.heap.size := lt_of_block H2.out.nb
            have hgr : gN < wr.heap.size := lt_of_block H2.out.nm
            have q1 := alloc1_cell hwr
            have q2 := alloc1_cell hgr
            have HBX := hide (below_alloc wr (lbox n))
            cases hq : nd[i] with
            | false =>
              rw [hq] at cn
              have HR := hide (H2.out.skip (by simp [hq, show i < nd.length by omega]))
              clear hq
              go_wp2
              go_roundw
              case rel => exact ⟨i + 1, told, num, by omega, by go_num, HR.out.below HBX.out⟩
              case measure => simp [intOf]; omega
            | true =>
              rw [hq] at cn
              have hq2 : nd[i]? = some true := by rw [List.getElem?_eq_getElem (by omega), hq]
              have HQ := hide hq2
              clear hq hq2
              have hnN := H2.out.nl
              have cN := cell_intRow H2.out.nm i (by omega)
              have fN : ∀ o, (wr.alloc o).frozen? ⟨gN, i, none⟩ = false := fun o => frozen_of_row _ gN i _ _ ((Below.heap_alloc _ _ _ hgr).trans H2.out.nm)
              have hne : gN ≠ wr.heap.size := Nat.ne_of_lt hgr
              have hne2 : wr.heap.size ≠ gN := Nat.ne_of_gt hgr
              have HTN := hide ((H2.out.num told.length).below (below_alloc _ (lbox n)))
              have hti : i = i := rfl
              have HTD : Hid (Hw.Told L M said ls (told ++ [Hw.renum num n]) (fun j => nd.getD j false) (num.set i told.length) (i + 1)) := H2.out.told.step HS.out.sheet HN.out (fun r hr => by
                have := HT.out.nd.clo i n r (Nat.zero_le _) HQ.out HN.out hr
                simp [this]) (by omega)
              have HRC := hide (ren_call HTN.out HS.out.sheet HN.out hM6 hc5 hlt)
              unfold lbox at HRC
              clear HTN hti
              go_wp2_with fail
              have hc := HRC.out
              refine Calls.mono hc ?_
              rintro e w2 ⟨rfl, hTN⟩
              have HTN := hide hTN
              clear hTN hc HRC q1 q2 fN cN cn b0 b1 b2 b3 b4 b5 b6 b7
              generalize Hw.renum num n = n' at *
              unfold lagg
              have htl := H2.out.told.len
              obtain ⟨i0, hi0, hz0, hz1, hz2⟩ := info_parts infoLn
              have HI0 := hide hi0
              have HZ0 := hide hz0
              have HZ1 := hide hz1
              have HZ2 := hide hz2
              clear hi0 hz0 hz1 hz2
              have HOWN : Hid (∀ o, (w2.alloc o).ownsRow w.heap.size 54 8 (.slice sa told.length cap2) told.length (lcells told)) := fun o => HTN.out.own.alloc o
              have hw2 := HTN.out.low.size
              go_wp2_with (at_builtin; refine wpList_append_exact _ rfl (.tmp 90) (.tmp 94) 50 rfl w.heap.size 54 i0 (.agg #[.int .i64 0, .string ⟨#[]⟩, .string ⟨#[]⟩, .int .i64 0, .int .i64 0, .int .i64 0, .string ⟨#[]⟩, .string ⟨#[]⟩]) 8 96 Tryz.underlying50 HI0.out HZ0.out HZ1.out HZ2.out rfl (by decide) (.slice sa told.length cap2) told.length (lcells told) rfl (HOWN.out _) ⟨w2.heap.size, 0, none⟩ 1 1 (lcell n') rfl rfl (line_new1 w2 n' _) (one_line n') (by unfold maxLen; omega) (by omega) (by simp; omega) ?_; intro v' w3 hown hgrow hex; have HFIN := hide ((HTN.out.append hown hgrow).t2 HTD.out); clear hown hgrow hex)
              go_roundw
              case rel => exact ⟨i + 1, _, _, by omega, by go_num, HFIN⟩
              case measure => simp [intOf]; omega
          · obtain rfl : i = c + 1 := by omega
            have HF := hide (H2.out.fin HT.out.nd HY.out)
            go_wp2
            go_ret
            exact ⟨_, told, rfl, HF.out⟩
    | succ k =>
      have ek : (((k + 1 : Nat) : Int) - 1) = (k : Int) := by omega
      rw [ek]
      clear ek
      have hkc : k ≤ c := by omega
      have hkl : k < ls.length := by omega
      have hnl := HT.out.nd.len
      have hkn : k < nd.length := by omega
      have cn := cell_boolRow HT.out.blk k hkn
      have hkI : (k : Int) < (c : Int) + 1 := by omega
      cases hq : nd[k] with
      | false =>
        rw [hq] at cn
        have HN := hide (HT.out.nd.skip (k := k) (by rw [List.getElem?_eq_getElem hkn, hq]))
        go_wp2
        go_roundw
        case rel => exact ⟨k, m, nd, rfl, rfl, by omega, HT.out.blk, HT.out.low, HN.out⟩
        case measure => simp [intOf]
      | true =>
        rw [hq] at cn
        have hn := List.getElem?_eq_getElem hkl
        generalize ls[k] = n at hn
        have hd := HS.out.sheet.drawn k n hn
        obtain ⟨b0, _, _, _, b4, b5, _, _⟩ := (HL.out k n hn).below HT.out.low
        have hdb := (HT.out.low.block d (lt_of_block HS.out.blk)).trans HS.out.blk
        have e0 := cellAt hdb (j := 0) (v := .slice (some ⟨g, 0, none⟩) ls.length cap) rfl
        have hfz : ∀ o, wr.frozen? ⟨w.heap.size, o, none⟩ = false := fun o => frozen_of_row wr _ o _ _ HT.out.blk
        have hall : ∀ a : Nat, a < k → wr.cell? ⟨w.heap.size, a, none⟩ = some (.bool (nd.getD a false)) := fun a ha => by
          rw [cell_boolRow HT.out.blk a (by omega)]; simp [show a < nd.length by omega]
        have hkL : (k : Int) < (ls.length : Int) := by omega
        have HN := hide hn
        clear hdb hn hq
        cases hd with
        | self z =>
          clear hall
          go_wp2
          go_roundw
          case rel => exact ⟨k, m + 1, nd, by go_num, rfl, by omega, HT.out.mark0 HN.out rfl ⟨rfl, rfl, rfl, rfl⟩⟩
          case measure => simp [intOf]
        | said q z1 z2 hz =>
          clear hall
          go_wp2
          go_roundw
          case rel => exact ⟨k, m + 1, nd, by go_num, rfl, by omega, HT.out.mark0 HN.out rfl ⟨rfl, rfl, rfl, rfl⟩⟩
          case measure => simp [intOf]
        | back j p hj hp =>
          have hj1 := hall j hj
          clear hall
          have hjc : (j : Int) < (c : Int) + 1 := by omega
          go_wp2
          go_roundw
          case rel => exact ⟨k, m + 1, _, by go_num, rfl, by omega, HT.out.mark1 HN.out rfl hj hkc ⟨rfl, rfl, rfl, rfl⟩⟩
          case measure => simp [intOf]
        | thn j i p q hj hi hp hq2 he =>
          have hj1 := hall j hj
          have hi1 := hall i hi
          clear hall
          have hjc : (j : Int) < (c : Int) + 1 := by omega
          have hic : (i : Int) < (c : Int) + 1 := by omega
          have hdne : d ≠ w.heap.size := Nat.ne_of_lt (lt_of_block HS.out.blk)
          have hgne : g ≠ w.heap.size := Nat.ne_of_lt hgl
          by_cases hij : j = i
          · subst hij
            go_wp2
            go_roundw
            case rel => exact ⟨k, m + 1, _, by go_num, rfl, by omega, HT.out.mark2 HN.out rfl hj hj hkc ⟨rfl, rfl, rfl, rfl⟩ ⟨rfl, rfl, rfl, rfl⟩⟩
            case measure => simp [intOf]
          · go_wp2
            go_roundw
            case rel => exact ⟨k, m + 1, _, by go_num, rfl, by omega, HT.out.mark2 HN.out rfl hj hi hkc ⟨rfl, rfl, rfl, rfl⟩ ⟨rfl, rfl, rfl, rfl⟩⟩
            case measure => simp [intOf]
        | within j p u v hj hp =>
          have hj1 := hall j hj
          clear hall
          have hjc : (j : Int) < (c : Int) + 1 := by omega
          go_wp2
          go_roundw
          case rel => exact ⟨k, m + 1, _, by go_num, rfl, by omega, HT.out.mark1 HN.out rfl hj hkc ⟨rfl, rfl, rfl, rfl⟩⟩
          case measure => simp [intOf]
end Dr
end Go.Proofs.YtfiebibpgbadlaaGreat
