import Derived.Test.YtfiebibpgbadlaaGreatProgT
import Derived.Deep.RegionWith
import Derived.Deep.Cut
namespace Go.Proofs.YtfiebibpgbadlaaGreat
open Go.RowKit
set_option linter.unusedVariables false
set_option linter.unusedSimpArgs false

set_option maxHeartbeats 1600000 in
theorem psay_any (s t : ByteArray) (w : World) (bb L M : Nat) (rv : Value) (said R : List Hw.Rl) (hs : s.size ≤ maxLen) (ht : t.size ≤ maxLen) (hB : BookR w bb L M rv said R) :
    Calls Tryz.prog 30 #[.pointer (some ⟨bb, 0, none⟩), .string s, .string t] w fun e w' => PSaid w bb L M rv said R s.data.toList t.data.toList e w' := by
  have HB := hide hB
  obtain ⟨sa, cap, hrv⟩ := hB.rul.shape
  subst hrv
  clear hB
  go_enter Tryz.func30, Tryz.ntmps30
  go_wp2_with fail
  refine (check_any _ bb w.heap.size L M _ _ [s, t] HB.out.L1 HB.out.L3 HB.out.M6 (by simp) (by simp; exact ⟨hs, ht⟩) (by exact (HB.out.same (below_alloc _ _)).blk) (by exact two_cells)).mono ?_
  rintro e w1 ⟨rfl, hsw⟩
  have HB1 := hide (below_trans (below_alloc _ _) (below_same hsw))
  have HR1 := hide (HB.out.same HB1.out)
  obtain ⟨da, dcap, hd⟩ := HR1.out.sad.shape
  have HD := hide hd
  clear hsw hd
  by_cases hw : Hw.isWord L M s.data.toList = true ∧ Hw.isWord L M t.data.toList = true
  · rw [errW_two, if_pos hw]
    have HW := hide hw
    clear hw
    have c1 : w1.cell? ⟨bb, 1, none⟩ = some (.int .i64 M) := cellAt HR1.out.blk rfl
    have c2 : w1.cell? ⟨bb, 2, none⟩ = some (.slice da said.length dcap) := (cellAt HR1.out.blk rfl).trans (congrArg some HD.out)
    have c3 : w1.cell? ⟨bb, 3, none⟩ = some (.slice sa R.length cap) := cellAt HR1.out.blk rfl
    by_cases h12 : said.length < 12
    · have hd : decide ((12 : Int) ≤ (said.length : Int)) = false := by simp; omega
      have hs6 : s.size ≤ 6 := by have := Hw.isWord_len HW.out.1; have := HB.out.M6; simp at *; omega
      have ht6 : t.size ≤ 6 := by have := Hw.isWord_len HW.out.2; have := HB.out.M6; simp at *; omega
      go_wp2_with fail
      refine (sclone_any s _ hs6).mono ?_
      rintro e wa ⟨rfl, hba⟩
      have HBa := hide hba
      clear hba
      go_wp2_with fail
      refine (sclone_any t _ ht6).mono ?_
      rintro e wb ⟨rfl, hbb⟩
      have HBb := hide (below_trans HBa.out hbb)
      clear hbb
      go_wp2_with fail
      have HBp := hide (below_trans HBb.out (below_alloc wb (.cells #[.string s, .string t] 102)))
      have hx := heap_alloc_new wb (.cells #[.string s, .string t] 102)
      generalize wb.alloc (.cells #[.string s, .string t] 102) = wp at HBp hx ⊢
      generalize wb.heap.size = xb at hx ⊢
      have x0 : wp.cell? ⟨xb, 0, none⟩ = some (.string s) := cellAt hx rfl
      have x1 : wp.cell? ⟨xb, 1, none⟩ = some (.string t) := cellAt hx rfl
      have k1 : wp.cell? ⟨bb, 1, none⟩ = some (.int .i64 M) := (HBp.out.cell (p := ⟨bb, 1, none⟩) (lt_of_cell c1)).trans c1
      have k3 : wp.cell? ⟨bb, 3, none⟩ = some (.slice sa R.length cap) := (HBp.out.cell (p := ⟨bb, 3, none⟩) (lt_of_cell c3)).trans c3
      have HX := hide hx
      clear c1 c2 c3 hx
      have HLEARN := hide (say_learn HR1.out HBp.out HX.out h12 HW.out.1 HW.out.2)
      go_cut [] from 29 (fun wx => ∃ rv', Hid (SayM w1 wx bb xb L M said s t rv'))
      case first =>
        go_region_with
          (first
            | (go_at_call 50; refine (HLEARN.out _ (by exact ⟨rfl, rfl, rfl, rfl⟩)).mono ?_; rintro e wc ⟨sa', n', cap', rfl, k8, k9, HM⟩))
        all_goals
          go_wp2_with fail
          go_meet
          exact ⟨_, HM⟩
      case rest =>
        obtain ⟨rv', HM⟩ := hcut
        have c2 := HM.out.1
        rw [HD.out] at c2
        have hx := HM.out.2.1
        have x0 : wc.cell? ⟨xb, 0, none⟩ = some (.string s) := cellAt hx rfl
        have x1 : wc.cell? ⟨xb, 1, none⟩ = some (.string t) := cellAt hx rfl
        clear hx x0 x1 k1 k3
        have x0 : wc.cell? ⟨xb, 0, none⟩ = some (.string s) := cellAt HM.out.2.1 rfl
        have x1 : wc.cell? ⟨xb, 1, none⟩ = some (.string t) := cellAt HM.out.2.1 rfl
        have hW : (((wc.alloc (.cells #[.string s, .string t] 102)).alloc (.cells #[.slice da said.length dcap, .slice (some ⟨wc.heap.size, 0, none⟩) 1 1] 84)).drew).heap[wc.heap.size + 1]? = some (.cells #[.slice da said.length dcap, .slice (some ⟨wc.heap.size, 0, none⟩) 1 1] 84) := heap_alloc2_new _ _ _
        have hP : (((wc.alloc (.cells #[.string s, .string t] 102)).alloc (.cells #[.slice da said.length dcap, .slice (some ⟨wc.heap.size, 0, none⟩) 1 1] 84)).drew).heap[wc.heap.size]? = some (.cells #[.string s, .string t] 102) := (Below.heap_alloc _ _ _ (by simp)).trans (heap_alloc_new _ _)
        have HCAT := hide (say_cat (vg := wc.heap.size + 1) (pg := wc.heap.size) HD.out HM.out h12 ((((Below.refl wc.heap.size wc).alloc (Nat.le_refl _) (.cells #[.string s, .string t] 102)).alloc (by simp) (.cells #[.slice da said.length dcap, .slice (some ⟨wc.heap.size, 0, none⟩) 1 1] 84)).drew) (cellAt hW rfl) (cellAt hW rfl) hP)
        clear hW hP
        have c2a : ∀ o, (wc.alloc o).cell? ⟨bb, 2, none⟩ = some (.slice da said.length dcap) := fun o => ((Kept.refl [] wc).alloc o).cell c2 (by simp)
        have x0a : ∀ o, (wc.alloc o).cell? ⟨xb, 0, none⟩ = some (.string s) := fun o => ((Kept.refl [] wc).alloc o).cell x0 (by simp)
        have x1a : ∀ o, (wc.alloc o).cell? ⟨xb, 1, none⟩ = some (.string t) := fun o => ((Kept.refl [] wc).alloc o).cell x1 (by simp)
        go_wp2_with fail
        go_region_with
          (first
            | (go_at_call 51; refine HCAT.out.mono ?_; rintro e wd ⟨na, ncap, rfl, k8, k9, k10, HE⟩; rw [HD.out] at k8))
        all_goals
          clear k8 k9 c2 x0 x1 c2a x0a x1a
          generalize wd.setCell ⟨bb, 2, none⟩ (.slice na (said.length + 1) ncap) = we at *
          go_wp2
          go_ret2
          unfold PSaid
          rw [if_pos HW.out, if_pos h12]
          refine ⟨?_, (Kept.of_below_size HB1.out).trans HE.out.1, _, HE.out.2⟩
          simp
    · go_wp2
      go_ret2
      unfold PSaid
      rw [if_pos HW.out, if_neg h12]
      exact ⟨rfl, HB1.out⟩
  · rw [errW_two, if_neg hw]
    have HW := hide hw
    clear hw
    go_wp2
    go_ret2
    unfold PSaid
    rw [if_neg HW.out]
    exact ⟨rfl, HB1.out⟩
end Go.Proofs.YtfiebibpgbadlaaGreat
