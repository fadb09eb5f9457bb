import Derived.Test.YtfiebibpgbadlaaRefA
namespace Go.Proofs.Ytfiebibpgbadlaa
open Go.RowKit
set_option linter.unusedVariables false
set_option linter.unusedSimpArgs false

section
end

theorem strs_ne_ints {w : World} {g h : Nat} {c d : Array Value} {fr : Nat × Nat} (hg : w.heap[g]? = some (.cells c 9 fr)) (hh : w.heap[h]? = some (.cells d 3 (0, 0))) : g ≠ h := by
  rintro rfl; rw [hg] at hh; simp at hh

theorem join_round {w wr : World} {g x y j : Nat} {xs : List Nat} (hlt : j < xs.length) (hv : xs[j] = y) (hK : Kept [g] w wr)
    (hg : wr.heap[g]? = some (.cells (intRow (Hw.joinTo xs x y j)) 3 (0, 0))) :
    (wr.setCell ⟨g, j, none⟩ (.int .i64 (x : Int))).heap[g]? = some (.cells (intRow (Hw.joinTo xs x y (j + 1))) 3 (0, 0)) ∧ Kept [g] w (wr.setCell ⟨g, j, none⟩ (.int .i64 (x : Int))) := by
  refine ⟨?_, hK.setCell (by simp) _⟩
  rw [heap_setCell_same wr g j _ _ _ hg, set_intRow, Hw.joinTo_succ xs x y j hlt]
  simp [Hw.swapTo, hv]

end Go.Proofs.Ytfiebibpgbadlaa
