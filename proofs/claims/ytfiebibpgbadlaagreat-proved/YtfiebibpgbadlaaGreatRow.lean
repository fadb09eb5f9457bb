import Derived.Test.YtfiebibpgbadlaaGreatRows
import Derived.Test.YtfiebibpgbadlaaGreatProgV
import Derived.HandedShaped
import Derived.ProofKit
import Derived.OpenShut
import Derived.Deep.Slices
import Derived.Shelf.Vars
namespace Go.Proofs.YtfiebibpgbadlaaGreat
open Go.ChangeShapes Go.WideShapes Go.ChangeAt Go.RowKit
set_option linter.unusedVariables false

theorem Row.own : ownKnob Tryz.prog.godebug = none := by kernel_rfl
theorem Row.laidOut : laidOutB Tryz.prog = true := by kernel_rfl
theorem Row.cells : Tryz.prog.cellsOf 34 = 6 := by kernel_rfl
theorem Row.cellsI : Tryz.prog.cellsOf 3 = 1 := by kernel_rfl
theorem Row.cellsS : Tryz.prog.cellsOf 9 = 1 := by kernel_rfl

theorem Row.max {W : World} (hsh : W.ShapedOpen Tryz.prog) : ∃ m, W.cell? ⟨0, 0, none⟩ = some (.int .i64 m) :=
  Go.Proofs.cell_of_shapedOpen_int (zero := #[.int .i64 0]) (t := 3) hsh (of_decide_eq_true (by kernel_rfl)) (by kernel_rfl) rfl (by kernel_rfl) (by kernel_rfl) Tryz.underlying3

theorem Row.six {α : Type} {l : List α} (h : l.length = 6) : ∃ a b c d e f, l = [a, b, c, d, e, f] := by
  match l, h with
  | [a, b, c, d, e, f], _ => exact ⟨a, b, c, d, e, f, rfl⟩

theorem Row.script {H : Type} {enc : TypeId × Value → H} {W : World} {v : Value} {d : DataW H} {p : List MemPlace} (h : DataW.Trod enc Tryz.prog W 0 (fun _ => true) true 22 v d p) (hv : ∃ sv n cap, v = .slice sv n cap) :
    ∃ sv n cap, v = .slice sv n cap ∧ ScriptAt W sv n cap := by
  obtain ⟨sv, n, cap, rfl⟩ := hv
  refine ⟨sv, n, cap, rfl, ?_⟩
  obtain ⟨fuel, hf⟩ := h
  rcases Go.Deep.open_slice Tryz.underlying22 hf with ⟨h0, _⟩ | ⟨a, len, cap', m, n', D, Pl, hcs, hb, hl, hm, hmm, hx, hall⟩
  · simp [Value.cells] at h0
    obtain ⟨rfl, rfl, rfl⟩ := h0
    exact ⟨Nat.zero_le _, fun i hi => absurd hi (Nat.not_lt_zero _)⟩
  · simp [Value.cells] at hcs
    obtain ⟨rfl, rfl, rfl⟩ := hcs
    refine ⟨by omega, fun i hi => ?_⟩
    have him : i < m := by rw [hmm]; simp; omega
    obtain ⟨cs', h1, h2⟩ := hall i him
    rw [Row.cells] at h1
    obtain ⟨_, hlen, hcell⟩ := World.cells?_some h1
    obtain ⟨xs, k, hk, hxy, _, hxl, hfs⟩ := DataW.trod_struct Tryz.underlying34 h2
    obtain ⟨y0, y1, y2, y3, y4, y5, rfl⟩ := Row.six (show xs.length = 6 from hxl)
    obtain ⟨v0, v1, v2, v3, v4, v5, rfl⟩ := Row.six hlen
    have g0 := hfs 0 _ rfl
    have g1 := hfs 1 _ rfl
    have g2 := hfs 2 _ rfl
    have g3 := hfs 3 _ rfl
    have g4 := hfs 4 _ rfl
    have g5 := hfs 5 _ rfl
    simp [Row.cellsI, Row.cellsS] at g0 g1 g2 g3 g4 g5
    obtain ⟨i0, e0, _⟩ := DataW.trod_int Tryz.underlying3 g0
    obtain ⟨i1, e1, _⟩ := DataW.trod_int Tryz.underlying3 g1
    obtain ⟨i2, e2, _⟩ := DataW.trod_int Tryz.underlying3 g2
    obtain ⟨i3, e3, _⟩ := DataW.trod_int Tryz.underlying3 g3
    obtain ⟨s4, e4, _, l4⟩ := DataW.trod_string Tryz.underlying9 g4
    obtain ⟨s5, e5, _, l5⟩ := DataW.trod_string Tryz.underlying9 g5
    simp at e0 e1 e2 e3 e4 e5
    subst e0 e1 e2 e3 e4 e5
    have c0 := hcell 0 (by omega)
    have c1 := hcell 1 (by omega)
    have c2 := hcell 2 (by omega)
    have c3 := hcell 3 (by omega)
    have c4 := hcell 4 (by omega)
    have c5 := hcell 5 (by omega)
    have z : ∀ q : Addr, q.add 0 = q := fun q => by simp [Addr.add]
    rw [z] at c0
    exact ⟨a, i0, i1, i2, i3, s4, s5, rfl, by simpa using c0, by exact c1, by exact c2, by exact c3, by exact c4, by exact c5, l4, l5⟩
end Go.Proofs.YtfiebibpgbadlaaGreat
