import Derived.Test.YtfiebibpgbadlaaRows
import Derived.Test.YtfiebibpgbadlaaProgX
import Derived.HandedShaped
import Derived.ProofKit
import Derived.OpenShut
import Derived.Deep.Slices
import Derived.Shelf.Vars
namespace Go.Proofs.Ytfiebibpgbadlaa
open Go.ChangeShapes Go.WideShapes Go.ChangeAt Go.RowKit
set_option linter.unusedVariables false

theorem Row.own : ownKnob Try.prog.godebug = none := by kernel_rfl
theorem Row.laidOut : laidOutB Try.prog = true := by kernel_rfl
theorem Row.cellsI : Try.prog.cellsOf 3 = 1 := by kernel_rfl
theorem Row.cellsS : Try.prog.cellsOf 9 = 1 := by kernel_rfl

theorem Row.max {W : World} (hsh : W.ShapedOpen Try.prog) : ∃ m, W.cell? ⟨0, 0, none⟩ = some (.int .i64 m) :=
  Go.Proofs.cell_of_shapedOpen_int (zero := #[.int .i64 0]) (t := 3) hsh (of_decide_eq_true (by kernel_rfl)) (by kernel_rfl) rfl (by kernel_rfl) (by kernel_rfl) Try.underlying3

theorem Row.six {α : Type} {l : List α} (h : l.length = 6) : ∃ a b c d e f, l = [a, b, c, d, e, f] := by
  match l, h with
  | [a, b, c, d, e, f], _ => exact ⟨a, b, c, d, e, f, rfl⟩

end Go.Proofs.Ytfiebibpgbadlaa
