import Derived.Test.YtajhljmjkhhboaaProgT
import Derived.Deep.RegionWith
namespace Go.Proofs.Ytajhljmjkhhboaa
open Go.RowKit
set_option linter.unusedVariables false
set_option linter.unusedSimpArgs false

set_option maxHeartbeats 1600000 in
theorem psay_any (s t : ByteArray) (w : World) (bb L M : Nat) (rv : Value) (said R : List Hw.Rl) (hs : s.size ≤ maxLen) (ht : t.size ≤ maxLen) (hB : BookR w bb L M rv said R) :
    Calls Try.prog 15 #[.pointer (some ⟨bb, 0, none⟩), .string s, .string t] w fun e w' => PSaid w bb L M rv said R s.data.toList t.data.toList e w' := by
  have HB := hide hB
  obtain ⟨sa, cap, hrv⟩ := hB.rul.shape
  subst hrv
  clear hB
  go_enter Try.func15, Try.ntmps15
  go_wp2_with fail
  refine (check_any _ bb w.heap.size L M said.length _ [s, t] HB.out.L1 HB.out.L3 HB.out.M6 (by simp) (by simp; exact ⟨hs, ht⟩) (by exact (HB.out.same (below_alloc _ _)).blk) (by exact two_cells)).mono ?_
  rintro e w1 ⟨rfl, hsw⟩
  have HB1 := hide (below_trans (below_alloc _ _) (below_same hsw))
  have HR1 := hide (HB.out.same HB1.out)
  clear hsw
  by_cases hw : Hw.isWord L M s.data.toList = true ∧ Hw.isWord L M t.data.toList = true
  · rw [errW_two, if_pos hw]
    have HW := hide hw
    clear hw
    have c1 : w1.cell? ⟨bb, 1, none⟩ = some (.int .i64 M) := cellAt HR1.out.blk rfl
    have c2 : w1.cell? ⟨bb, 2, none⟩ = some (.int .i64 said.length) := cellAt HR1.out.blk rfl
    have c3 : w1.cell? ⟨bb, 3, none⟩ = some (.slice sa R.length cap) := cellAt HR1.out.blk rfl
    by_cases h12 : said.length < 12
    · have hd : decide ((12 : Int) ≤ (said.length : Int)) = false := by simp; omega
      have hs6 : s.size ≤ 6 := by have := Hw.isWord_len HW.out.1; have := HB.out.M6; simp at *; omega
      have ht6 : t.size ≤ 6 := by have := Hw.isWord_len HW.out.2; have := HB.out.M6; simp at *; omega
      go_wp2_with fail
      go_region_with
        (first
          | (have hh2 := HBb; clear hh2; go_at_call 34; refine (plearn s t _ bb L M _ said R (by exact HR1.out.same HBb.out) HW.out.1 HW.out.2).mono ?_; rintro e wc ⟨sa', n', cap', R', rfl, hbc, hR', hF', hc', hto', hsr'⟩; have HFIN := hide (say_fin HR1.out HBb.out hbc hR' hF' hc' hto' hsr' h12 HW.out.1 HW.out.2); have k7 : wc.cell? ⟨bb, 1, none⟩ = some (.int .i64 M) := cellAt HFIN.out.1 rfl; have k8 : wc.cell? ⟨bb, 3, none⟩ = some (.slice sa R.length cap) := cellAt HFIN.out.1 rfl; have k9 := frozen_of_row wc bb 3 _ _ HFIN.out.1; clear hbc hR' hF' hc' hto' hsr')
          | (have hh2 := HBa; clear hh2; go_at_call 35; refine (sclone_any t _ ht6).mono ?_; rintro e wb ⟨rfl, hbb⟩; have k3 : wb.cell? ⟨bb, 3, none⟩ = some (.slice sa R.length cap) := (hbb.cell (p := ⟨bb, 3, none⟩) (lt_of_cell k1)).trans k1; have k4 : wb.cell? ⟨bb, 1, none⟩ = some (.int .i64 M) := (hbb.cell (p := ⟨bb, 1, none⟩) (lt_of_cell k2)).trans k2; have HBb := hide (below_trans HBa.out hbb); clear hbb)
          | (go_at_call 35; refine (sclone_any s _ hs6).mono ?_; rintro e wa ⟨rfl, hba⟩; have HBa := hide (below_trans (below_same (a_same w1)) hba); have k1 : wa.cell? ⟨bb, 3, none⟩ = some (.slice sa R.length cap) := (HBa.out.cell (p := ⟨bb, 3, none⟩) (lt_of_cell c3)).trans c3; have k2 : wa.cell? ⟨bb, 1, none⟩ = some (.int .i64 M) := (HBa.out.cell (p := ⟨bb, 1, none⟩) (lt_of_cell c1)).trans c1; clear hba))
      all_goals
        have k10 : (wc.setCell ⟨bb, 3, none⟩ (.slice sa' n' cap')).cell? ⟨bb, 2, none⟩ = some (.int .i64 said.length) := cellAt HFIN.out.2.1 rfl
        have k11 := frozen_of_row (wc.setCell ⟨bb, 3, none⟩ (.slice sa' n' cap')) bb 2 _ _ HFIN.out.2.1
        have HFIN2 := hide HFIN.out.2.2
        clear k1 k2 k3 k4 k7 k8 k9 HFIN c1 c2 c3
        generalize wc.setCell ⟨bb, 3, none⟩ (.slice sa' n' cap') = wd at *
        go_wp2
        go_ret2
        unfold PSaid
        rw [if_pos HW.out, if_pos h12]
        refine ⟨?_, (Kept.of_below_size HB1.out).trans HFIN2.out.1, _, R', HFIN2.out.2⟩
        simp
    · go_wp2
      go_ret2
      unfold PSaid
      rw [if_pos HW.out, if_neg h12]
      exact ⟨rfl, HB1.out⟩
  · rw [errW_two, if_neg hw]
    have HW := hide hw
    clear hw
    go_wp2
    go_ret2
    unfold PSaid
    rw [if_neg HW.out]
    exact ⟨rfl, HB1.out⟩
end Go.Proofs.Ytajhljmjkhhboaa
