import Derived.Test.YtfiebibpgbadlaaGreatProgT
import Derived.Test.YtfiebibpgbadlaaGreatCnt
namespace Go.Proofs.YtfiebibpgbadlaaGreat
open Go.RowKit
set_option linter.unusedVariables false
set_option linter.unusedSimpArgs false

theorem take_set {R T : List Hw.Rl} {i : Nat} (hl : T.length = R.length) (ht : T.take i = R.take i) (hi : i < R.length) : (T.set i R[i]).take (i + 1) = R.take (i + 1) := by
  apply List.ext_getElem?
  intro j
  rw [List.getElem?_take, List.getElem?_take]
  by_cases hj : j < i + 1
  · rw [if_pos hj, if_pos hj]
    by_cases e : j = i
    · subst e
      rw [List.getElem?_set_self (by omega), List.getElem?_eq_getElem hi]
    · rw [List.getElem?_set_ne (by omega)]
      have h := congrArg (fun l => l[j]?) ht
      simp only [List.getElem?_take] at h
      rwa [if_pos (by omega), if_pos (by omega)] at h
  · rw [if_neg hj, if_neg hj]

theorem run_make_rules (n : Nat) (hn : n ≤ 65536) (W : World) :
    (Instr.makeSlice 68 (.int .i64 (n : Int)) (.int .i64 (n : Int))).run Tryz.prog W = .ok (.slice (some ⟨W.heap.size, 0, none⟩) n n) (W.alloc (.cells (rcells (List.replicate n ([], []))).toArray 77)) := by
  obtain ⟨i, hi, hz, hs, hb⟩ := info_parts Tryz.infoRule
  rw [run_make (P := Tryz.prog) W 68 77 i (.agg #[.string ⟨#[]⟩, .string ⟨#[]⟩]) Tryz.underlying68 hi hz .i64 .i64 n n (by omega) (by omega) (by rw [hb]; omega) (by omega)]
  have e : madeCells (Value.cells (.agg #[.string ⟨#[]⟩, .string ⟨#[]⟩])) ((n : Int).toNat * i.size) = (rcells (List.replicate n ([], []))).toArray := by
    rw [hs, Int.toNat_natCast]
    apply Array.ext_getElem?
    intro j
    rw [show Value.cells (.agg #[.string ⟨#[]⟩, .string ⟨#[]⟩]) = #[Value.string ⟨#[]⟩, Value.string ⟨#[]⟩] from rfl]
    by_cases hj : j < n * 2
    · have h := rcells_at (List.replicate n (([], []) : Hw.Rl)) (j / 2) (by simp; omega)
      simp only [List.getElem_replicate] at h
      have h2 : (rcells (List.replicate n (([], []) : Hw.Rl)))[j]? = some (.string ⟨#[]⟩) := by
        rcases Nat.mod_two_eq_zero_or_one j with hm | hm
        · exact (congrArg (fun k => (rcells (List.replicate n (([], []) : Hw.Rl)))[k]?) (show j = j / 2 * 2 by omega)).trans h.1
        · exact (congrArg (fun k => (rcells (List.replicate n (([], []) : Hw.Rl)))[k]?) (show j = j / 2 * 2 + 1 by omega)).trans h.2
      rw [show (rcells (List.replicate n (([], []) : Hw.Rl))).toArray[j]? = (rcells (List.replicate n (([], []) : Hw.Rl)))[j]? from by simp, h2]
      unfold madeCells
      rw [Array.getElem?_map, Array.getElem?_range, if_pos hj]
      simp only [Option.map_some]
      rcases Nat.mod_two_eq_zero_or_one j with hm | hm <;> simp [hm]
    · rw [Array.getElem?_eq_none (by rw [size_madeCells]; omega), Array.getElem?_eq_none (by rw [List.size_toArray, length_rcells]; simp; omega)]
  rw [e, Int.toNat_natCast]

/-- While Rules tells them. -/
structure TlI (w wr : World) (R T : List Hw.Rl) (i : Nat) : Prop where
  len : T.length = R.length
  pre : T.take i = R.take i
  blk : wr.heap[w.heap.size]? = some (.cells (rcells T).toArray 77 (0, 0))
  below : Below w.heap.size w wr

theorem tli_start (w : World) (R : List Hw.Rl) : TlI w (w.alloc (.cells (rcells (List.replicate R.length ([], []))).toArray 77)) R (List.replicate R.length ([], [])) 0 :=
  ⟨by simp, by simp, heap_alloc_new w _, (Below.refl _ w).alloc (Nat.le_refl _) _⟩

theorem box_first {wr W wa : World} {f t : Hw.Wd} (h : SameW (wr.alloc (rbox (f, t))) W) (hb : Below W.heap.size W wa) : Below wr.heap.size wr wa ∧ wa.cell? ⟨wr.heap.size, 0, none⟩ = some (.string ⟨f.toArray⟩) ∧ wa.cell? ⟨wr.heap.size, 1, none⟩ = some (.string ⟨t.toArray⟩) := by
  have h1 : W.heap[wr.heap.size]? = some (rbox (f, t)) := by rw [h.1]; exact heap_alloc_new wr _
  have h2 := (hb.block _ (lt_of_block h1)).trans h1
  exact ⟨below_call (rbox (f, t)) h hb, cellAt h2 rfl, cellAt h2 rfl⟩

theorem box_next {wr wa W wb : World} {f t : Hw.Wd} (h : Below wr.heap.size wr wa ∧ wa.cell? ⟨wr.heap.size, 0, none⟩ = some (.string ⟨f.toArray⟩) ∧ wa.cell? ⟨wr.heap.size, 1, none⟩ = some (.string ⟨t.toArray⟩)) (hs : SameW wa W) (hb : Below W.heap.size W wb) :
    Below wr.heap.size wr wb ∧ wb.cell? ⟨wr.heap.size, 0, none⟩ = some (.string ⟨f.toArray⟩) ∧ wb.cell? ⟨wr.heap.size, 1, none⟩ = some (.string ⟨t.toArray⟩) := by
  have hK : Kept [] wa wb := (hs.kept []).trans (Kept.of_below_size hb)
  exact ⟨h.1.trans (hK.below h.1.size (by simp)), hK.cell h.2.1 (by simp), hK.cell h.2.2 (by simp)⟩

theorem TlI.cells {w wr wb : World} {R T : List Hw.Rl} {i : Nat} (h : TlI w wr R T i) (hi : i < R.length) (hb : Below wr.heap.size wr wb) :
    (∃ u, wb.cell? ⟨w.heap.size, i * 2, none⟩ = some u) ∧ (∃ u, wb.cell? ⟨w.heap.size, i * 2 + 1, none⟩ = some u) ∧ (∀ o, wb.frozen? ⟨w.heap.size, o, none⟩ = false) ∧ w.heap.size ≠ wr.heap.size := by
  have hg := (hb.block _ (lt_of_block h.blk)).trans h.blk
  have hr := rcells_at T i (by rw [h.len]; exact hi)
  exact ⟨⟨_, cellAt hg (by simpa using hr.1)⟩, ⟨_, cellAt hg (by simpa using hr.2)⟩, fun o => frozen_of_row wb _ o _ _ hg, by have := lt_of_block h.blk; omega⟩

theorem TlI.next {w wr wb : World} {R T : List Hw.Rl} {i : Nat} {f t : Hw.Wd} (h : TlI w wr R T i) (hi : i < R.length) (hb : Below wr.heap.size wr wb) (hft : R[i] = (f, t)) :
    TlI w ((wb.setCell ⟨w.heap.size, i * 2, none⟩ (.string ⟨f.toArray⟩)).setCell ⟨w.heap.size, i * 2 + 1, none⟩ (.string ⟨t.toArray⟩)) R (T.set i (f, t)) (i + 1) := by
  have hg := (hb.block _ (lt_of_block h.blk)).trans h.blk
  have h1 : (wb.setCell ⟨w.heap.size, i * 2, none⟩ (.string ⟨f.toArray⟩)).heap[w.heap.size]? = some (.cells ((rcells T).toArray.setIfInBounds (i * 2) (.string ⟨f.toArray⟩)) 77 (0, 0)) := heap_setCell_same _ _ _ _ _ _ hg
  have h2 : ((wb.setCell ⟨w.heap.size, i * 2, none⟩ (.string ⟨f.toArray⟩)).setCell ⟨w.heap.size, i * 2 + 1, none⟩ (.string ⟨t.toArray⟩)).heap[w.heap.size]? = some (.cells (((rcells T).toArray.setIfInBounds (i * 2) (.string ⟨f.toArray⟩)).setIfInBounds (i * 2 + 1) (.string ⟨t.toArray⟩)) 77 (0, 0)) := heap_setCell_same _ _ _ _ _ _ h1
  refine ⟨by simp [h.len], ?_, ?_, ?_⟩
  · have e := take_set h.len h.pre hi
    rw [hft] at e; exact e
  · rw [h2, ← rcells_set T i (f, t) (by rw [h.len]; exact hi)]
    simp
  · exact ((h.below.trans (hb.mono h.below.size)).setCell (Nat.le_refl _) _).setCell (Nat.le_refl _) _

theorem TlI.done {w wr : World} {R T : List Hw.Rl} {i : Nat} (h : TlI w wr R T i) (hi : R.length ≤ i) (hl : R.length ≤ 65536) : RulesAt wr w.heap.size (.slice (some ⟨w.heap.size, 0, none⟩) R.length R.length) R := by
  have e : T = R := by
    have := h.pre
    rwa [List.take_of_length_le (by rw [h.len]; exact hi), List.take_of_length_le hi] at this
  subst e
  refine ⟨by rw [length_rcells], .inr ⟨w.heap.size, T.length, (rcells T).toArray, rfl, Nat.le_refl _, h.blk, Nat.le_refl _, by unfold maxLen; omega, by simp [length_rcells], by rw [List.toList_toArray, List.take_of_length_le (by rw [length_rcells]; exact Nat.le_refl _)]⟩⟩

set_option maxHeartbeats 1600000 in
theorem prules_any (w : World) (bb L M : Nat) (rv : Value) (said R : List Hw.Rl) (hB : BookR w bb L M rv said R) :
    Calls Tryz.prog 44 #[.pointer (some ⟨bb, 0, none⟩)] w fun e w' => ∃ ov, e = .returned ov ∧ RulesAt w' w.heap.size ov R ∧ Below w.heap.size w w' := by
  obtain ⟨sa, cap, hrv⟩ := hB.rul.shape
  subst hrv
  have c0 : w.cell? ⟨bb, 0, none⟩ = some (.int .i64 L) := cellAt hB.blk rfl
  have c3 : w.cell? ⟨bb, 3, none⟩ = some (.slice sa R.length cap) := cellAt hB.blk rfl
  have hL1 := hB.L1
  have hlen : R.length ≤ 1093 := by have := hB.cnt; omega
  have hmk := run_make_rules R.length (by omega)
  have c3a : ∀ o, (w.alloc o).cell? ⟨bb, 3, none⟩ = some (.slice sa R.length cap) := fun o => ((Kept.refl [] w).alloc o).cell c3 (by simp)
  have HB := hide hB
  clear hB
  go_enter Tryz.func44, Tryz.ntmps44
  go_wp2_with fail
  refine (closed_any _ bb L hL1 c0).mono ?_
  rintro e w2 ⟨rfl, rfl⟩
  go_wp2_with fail
  clear hmk c3a c3 c0
  go_loopw [19] (fun iv wr => ∃ (i : Nat) (T : List Hw.Rl), i ≤ R.length ∧ iv = .int .i64 (i : Int) ∧ TlI w2 wr R T i) (fun iv _ => R.length - (intOf iv).toNat)
  case atStart => exact ⟨0, _, Nat.zero_le _, rfl, tli_start w2 R⟩
  case round =>
    obtain ⟨i, T, hi, rfl, hT⟩ := hrel
    by_cases hlt : i < R.length
    · have hB1 := HB.out.same hT.below
      obtain ⟨g, cap1, cur, hrv, _, hg, d0, d1⟩ := hB1.rul.read hlt
      simp only [Value.slice.injEq] at hrv
      obtain ⟨rfl, -, rfl⟩ := hrv
      have hf6 := Hw.isWord_len (hB1.fin.rules.from_ _ (List.getElem_mem hlt))
      have ht6 := Hw.isWord_len (hB1.fin.rules.to_ _ (List.getElem_mem hlt))
      have hM6 := hB1.M6
      have HFT : Hid (R[i] = ((R[i]).1, (R[i]).2)) := hide rfl
      generalize (R[i]).1 = f at *
      generalize (R[i]).2 = t at *
      have HT := hide hT
      have hne : w2.heap.size ≠ wr.heap.size := (hT.cells hlt (Below.refl _ _)).2.2.2
      clear hB1 hT hg
      go_wp2_with fail
      go_region_held3 (fun w' => w'.cell? ⟨wr.heap.size, 0, none⟩ = some (.string ⟨f.toArray⟩) ∧ w'.cell? ⟨wr.heap.size, 1, none⟩ = some (.string ⟨t.toArray⟩)) (first | (go_keep) | (exact ⟨set_other (set_other (by assumption) hne.symm) hne.symm, set_other (set_other (by assumption) hne.symm) hne.symm⟩))
        (first
          | (have hh2 := HBa; clear hh2; go_at_call 32; refine (sclone_any ⟨t.toArray⟩ _ (by simp [ByteArray.size]; omega)).mono ?_; rintro e wb ⟨rfl, hbb⟩; have hxb := box_next HBa.out (by exact ⟨rfl, rfl, rfl, rfl⟩) hbb; have y0 := hxb.2.1; have y1 := hxb.2.2; obtain ⟨⟨v0, q0⟩, ⟨v1, q1⟩, qf, _⟩ := HT.out.cells hlt hxb.1; have HBb := hide hxb.1; clear hxb hbb)
          | (go_at_call 32; refine (sclone_any ⟨f.toArray⟩ _ (by simp [ByteArray.size]; omega)).mono ?_; rintro e wa ⟨rfl, hba⟩; have HBa := hide (box_first (f := f) (t := t) (by exact ⟨rfl, rfl, rfl, rfl⟩) hba); have x0 := HBa.out.2.1; have x1 := HBa.out.2.2; clear hba))
      all_goals
        have HN := hide (HT.out.next hlt HBb.out HFT.out)
        clear q0 q1 qf y0 y1
        go_wp2
        go_roundw
        case rel => exact ⟨i + 1, _, by omega, by go_num, HN.out⟩
        case measure => simp [intOf]; omega
    · have HT := hide hT
      clear hT
      go_wp2
      go_ret
      exact ⟨_, rfl, HT.out.done (by omega) (by omega), HT.out.below⟩

theorem pcount_any (w : World) (bb L M : Nat) (rv : Value) (said R : List Hw.Rl) (hB : BookR w bb L M rv said R) :
    Calls Tryz.prog 21 #[.pointer (some ⟨bb, 0, none⟩)] w fun e w' => e = .returned (.int .i64 ((Hw.cntIrr L M R : Nat) : Int)) ∧ Below w.heap.size w w' := by
  obtain ⟨sa, cap, hrv⟩ := hB.rul.shape
  subst hrv
  have c0 : w.cell? ⟨bb, 0, none⟩ = some (.int .i64 L) := cellAt hB.blk rfl
  have c1 : w.cell? ⟨bb, 1, none⟩ = some (.int .i64 M) := cellAt hB.blk rfl
  have c3 : w.cell? ⟨bb, 3, none⟩ = some (.slice sa R.length cap) := cellAt hB.blk rfl
  have hL1 := hB.L1
  have HB := hide hB
  clear hB
  go_enter Tryz.func21, Tryz.ntmps21
  go_wp2_with fail
  refine (closed_any _ bb L hL1 c0).mono ?_
  rintro e w2 ⟨rfl, rfl⟩
  go_wp2_with fail
  go_region_held3 (fun w' => w'.cell? ⟨bb, 0, none⟩ = some (.int .i64 L) ∧ w'.cell? ⟨bb, 1, none⟩ = some (.int .i64 M) ∧ w'.cell? ⟨bb, 3, none⟩ = some (.slice sa R.length cap)) (go_keep)
    (first | (go_at_call 42; refine (count_any _ 0 L M _ R HB.out.L1 HB.out.L3 HB.out.M6 HB.out.fin.rules HB.out.cnt (by exact (HB.out.same (below_same (a_same w2))).rul)).mono ?_; rintro e w3 ⟨rfl, hb⟩; have HB3 := hide (below_trans (below_same (a_same w2)) hb); have k0 := (HB3.out.cell (p := ⟨bb, 0, none⟩) (lt_of_cell c0)).trans c0; have k1 := (HB3.out.cell (p := ⟨bb, 1, none⟩) (lt_of_cell c1)).trans c1; have k3 := (HB3.out.cell (p := ⟨bb, 3, none⟩) (lt_of_cell c3)).trans c3; clear hb))
  all_goals
    clear k0 k1 k3
    go_wp2
    go_ret
    exact ⟨rfl, HB3.out⟩

/-- What Rules and Count are to answer. -/
def RulesC : Prop := ∀ (w : World) (bb L M : Nat) (rv : Value) (said R : List Hw.Rl), BookR w bb L M rv said R →
  Calls Tryz.prog 44 #[.pointer (some ⟨bb, 0, none⟩)] w fun e w' => ∃ l ov, e = .returned ov ∧ Hw.RulesAns L M said l ∧ RulesAt w' w.heap.size ov l ∧ Below w.heap.size w w'
def CountC : Prop := ∀ (w : World) (bb L M : Nat) (rv : Value) (said R : List Hw.Rl), BookR w bb L M rv said R →
  Calls Tryz.prog 21 #[.pointer (some ⟨bb, 0, none⟩)] w fun e w' => e = .returned (.int .i64 ((Hw.cntIrr L M R : Nat) : Int)) ∧ Below w.heap.size w w'

theorem rulesC : RulesC := fun w bb L M rv said R hB => (prules_any w bb L M rv said R hB).mono fun e w' ⟨ov, he, hR, hb⟩ => ⟨R, ov, he, hB.fin.rulesAns hB.L1 hB.L3 hB.words hB.toirr (fun _ => Iff.rfl) hB.srt, hR, hb⟩
theorem countC : CountC := fun w bb L M rv said R hB => pcount_any w bb L M rv said R hB
end Go.Proofs.YtfiebibpgbadlaaGreat
