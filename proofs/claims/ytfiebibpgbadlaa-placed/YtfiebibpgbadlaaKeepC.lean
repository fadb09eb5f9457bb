import Derived.Test.YtfiebibpgbadlaaKeepA
import Derived.Test.YtfiebibpgbadlaaLawR
namespace Go.Proofs.Ytfiebibpgbadlaa
open Go.RowKit
set_option linter.unusedVariables false
set_option linter.unusedSimpArgs false

theorem new_book {w : World} {L M : Nat} {m : Int} (hL1 : 1 ≤ L) (hL3 : L ≤ 3) (hM1 : 1 ≤ M) (hM6 : M ≤ 6) (hm : w.cell? ⟨0, 0, none⟩ = some (.int .i64 m)) :
    BookR (w.alloc (bookBlock L M (.slice none 0 0) (.slice none 0 0))) w.heap.size L M (.slice none 0 0) [] [] := by
  have hpos : 0 < w.heap.size := lt_of_cell hm
  exact book_new hL1 hL3 hM1 hM6 (heap_alloc_new _ _) ⟨m, ((Kept.refl [] w).alloc _).cell hm (by simp)⟩ hpos

theorem BookR.uniq {w : World} {bb L M : Nat} {rv : Value} {said R R0 l : List Hw.Rl} (h : BookR w bb L M rv said R) (f : Hw.Fin L M said R0) (hT : Hw.ToIrr R0) (hs : R0.Pairwise fun a b => Hw.fold L a.1 < Hw.fold L b.1) (hl : Hw.RulesAns L M said l) : l = R0 ∧ Hw.cntIrr L M R = Hw.cntIrr L M R0 :=
  ⟨hl.uniq (f.rulesAns h.L1 h.L3 h.words hT (fun r => Iff.rfl) hs), h.fin.cnt_uniq h.L1 h.L3 f h.words⟩

theorem sr2_sorted : (Hw.sr 2).Pairwise fun a b => Hw.fold 2 a.1 < Hw.fold 2 b.1 := List.pairwise_singleton _ _

theorem first_least {m : Hw.Wd} {c : Nat} (h : LeastAns 2 4 (Hw.sr 2) [98, 97, 98, 97] m c) : m = [97, 97, 98, 98] ∧ c = 0 := by
  have hw : Hw.isWord 2 4 [98, 97, 98, 97] = true := by decide +kernel
  exact ⟨((h.1 hw).1).uniq (by omega) Hw.first_fin.2.2, (h.1 hw).2⟩

set_option maxHeartbeats 1600000 in
theorem opened_any (HP : RulesC) (HQ : CountC) (L M : Nat) (m : Int) (w : World) (hL1 : 1 ≤ L) (hL3 : L ≤ 3) (hM1 : 1 ≤ M) (hM6 : M ≤ 6) (hm : w.cell? ⟨0, 0, none⟩ = some (.int .i64 m)) :
    Calls Try.prog 11 #[.int .i64 (L : Int), .int .i64 (M : Int)] w fun e w' => ∃ bb, e = .returned (.pointer (some ⟨bb, 0, none⟩)) ∧ w.heap.size ≤ bb ∧ Below w.heap.size w w' ∧ BookR w' bb L M (.slice none 0 0) [] [] := by
  have HB0 := hide (new_book (w := w) (L := 2) (M := 4) (by omega) (by omega) (by omega) (by omega) hm)
  go_enter Try.func11, Try.ntmps11
  go_wp2_with fail
  refine (pnew_any 2 4 _ (by omega) (by omega) (by omega) (by omega)).mono ?_
  rintro e w1 ⟨rfl, hw1⟩
  have hb1 := below_alloc w (bookBlock 2 4 (.slice none 0 0) (.slice none 0 0))
  rw [← hw1] at hb1 HB0
  have HB1 := hide hb1
  clear hw1 hb1
  go_wp2_with fail
  refine (psay_any ⟨#[98, 97]⟩ ⟨#[97, 98]⟩ _ w.heap.size 2 4 _ [] [] (by decide) (by decide) (by exact HB0.out)).mono ?_
  rintro e w2 hS
  unfold PSaid at hS
  rw [if_pos (by decide +kernel), if_pos (by decide)] at hS
  obtain ⟨rfl, hK2, rv2, R2, hB2'⟩ := hS
  have hB2 : BookR w2 w.heap.size 2 4 rv2 (Hw.sr 2) R2 := hB2'
  have HK2 := hide (HB1.out.trans (hK2.below HB1.out.size (by simp)))
  have HBk := hide hB2
  clear hK2 hB2 hB2' HB0
  go_wp2_with fail
  refine (pleast_any ⟨#[98, 97, 98, 97]⟩ _ w.heap.size 2 4 rv2 (Hw.sr 2) R2 (by decide) (by exact HBk.out)).mono ?_
  rintro e w3 ⟨mm, c, rfl, hA, hb3⟩
  obtain ⟨rfl, rfl⟩ := first_least hA
  have HB3 := hide hb3
  have HK3 := hide (HBk.out.same hb3)
  clear hA hb3
  go_wp2_with fail
  refine (HP _ w.heap.size 2 4 rv2 (Hw.sr 2) R2 (by exact HK3.out)).mono ?_
  rintro e w4 ⟨l, ov, rfl, hA, hL, hb4⟩
  obtain ⟨rfl, hcnt⟩ := HK3.out.uniq Hw.first_fin.1.1 Hw.first_fin.1.2.1 sr2_sorted hA
  rw [Hw.first_fin.2.1] at hcnt
  obtain ⟨g, cap, cur, rfl, _, _, d0, d1⟩ := hL.read (i := 0) (by decide)
  have HCNT := hide hcnt
  have HB4 := hide hb4
  have HK4 := hide (HK3.out.same hb4)
  have d0' : w4.cell? ⟨g, 0, none⟩ = some (.string ⟨#[98, 97]⟩) := d0
  have d1' : w4.cell? ⟨g, 1, none⟩ = some (.string ⟨#[97, 98]⟩) := d1
  rw [show (Hw.sr 2).length = 1 from rfl]
  clear d0 d1 hL hA hcnt hb4
  go_wp2_with fail
  refine (HQ _ w.heap.size 2 4 rv2 (Hw.sr 2) R2 (by exact HK4.out.same (below_same ⟨rfl, rfl, rfl, rfl⟩))).mono ?_
  rintro e w5 ⟨rfl, hb5⟩
  rw [HCNT.out]
  have HB5 := hide hb5
  clear hb5
  have hbe : Below w.heap.size w w5 := HK2.out.trans ((below_trans (below_trans HB3.out HB4.out) HB5.out).mono HK2.out.size)
  have hm5 : w5.cell? ⟨0, 0, none⟩ = some (.int .i64 m) := (hbe.cell (p := ⟨0, 0, none⟩) (lt_of_cell hm)).trans hm
  have HBE := hide hbe
  have HNB := hide (new_book (w := w5) hL1 hL3 hM1 hM6 hm5)
  clear d0' d1' hbe hm5
  go_wp2_with fail
  refine (pnew_any L M _ hL1 hL3 hM1 hM6).mono ?_
  rintro e w6 ⟨rfl, hw6⟩
  rw [← hw6] at HNB
  have HB6 := hide (HBE.out.trans ((below_alloc w5 (bookBlock L M (.slice none 0 0) (.slice none 0 0))).mono HBE.out.size))
  rw [← hw6] at HB6
  have hsz := HBE.out.size
  clear hw6
  go_wp2
  go_ret
  exact ⟨_, rfl, hsz, HB6.out, HNB.out⟩
end Go.Proofs.Ytfiebibpgbadlaa
