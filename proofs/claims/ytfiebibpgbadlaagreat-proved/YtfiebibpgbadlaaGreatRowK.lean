import Derived.Test.YtfiebibpgbadlaaGreatRows
import Derived.Test.YtfiebibpgbadlaaGreatRow
import Derived.Test.YtfiebibpgbadlaaGreatKeepE
namespace Go.Proofs.YtfiebibpgbadlaaGreat
open Go.ChangeShapes Go.WideShapes Go.ChangeAt Go.RowKit
set_option linter.unusedVariables false

theorem Row.wf {n : Int} (h : (Lit.int .i64 n).wf = true) : -9223372036854775808 ≤ n ∧ n ≤ 9223372036854775807 := by
  simp only [Lit.wf, Bool.and_eq_true, decide_eq_true_eq] at h
  have h1 : IntKind.i64.min = -9223372036854775808 := by kernel_rfl
  have h2 : IntKind.i64.max = 9223372036854775807 := by kernel_rfl
  rw [h1, h2] at h
  exact h

theorem Row.ints {H : Type} {enc : TypeId × Value → H} {W : World} {fuel : Nat} {sv : Option Addr} {n cap : Nat} {x : DataW H × List MemPlace} (hf : DataW.trod enc Tryz.prog W 0 (fun _ => true) true fuel 37 [.slice sv n cap] = some x) :
    ∃ cs : List Int, cs.length = n ∧ PutsAt W sv cs := by
  rcases Go.Deep.open_slice1 Tryz.underlying37 Row.cellsI hf with ⟨h0, _⟩ | ⟨a, len, cap', m, n', V, D, Pl, hcs, hb, hl, hm, hmm, hx, hall⟩
  · simp at h0
    obtain ⟨rfl, rfl, rfl⟩ := h0
    exact ⟨[], rfl, Nat.zero_le _, fun i hi => absurd hi (Nat.not_lt_zero _)⟩
  · simp at hcs
    obtain ⟨rfl, rfl, rfl⟩ := hcs
    have key : ∀ i, i < n → ∃ k : Int, (-9223372036854775808 ≤ k ∧ k ≤ 9223372036854775807) ∧ W.cell? (a.add i) = some (.int .i64 k) := by
      intro i hi
      have him : i < m := by rw [hmm]; simp; omega
      obtain ⟨h1, h2⟩ := hall i him
      obtain ⟨k, e, _, hw⟩ := DataW.trod_int Tryz.underlying3 h2
      simp at e
      rw [e] at h1
      exact ⟨k, Row.wf hw, h1⟩
    obtain ⟨f, hfk⟩ := Go.Deep.choose_lt key
    refine ⟨(List.range n).map f, by simp, by simp; omega, fun i hi => ?_⟩
    simp at hi
    have := hfk i hi
    simp
    exact ⟨this.1, this.2⟩

theorem Row.three {α : Type} {l : List α} (h : l.length = 3) : ∃ a b c, l = [a, b, c] := by
  match l, h with
  | [a, b, c], _ => exact ⟨a, b, c, rfl⟩
theorem Row.cellsL : Tryz.prog.cellsOf 37 = 1 := by kernel_rfl
theorem Row.cellsP : Tryz.prog.cellsOf 39 = 3 := by kernel_rfl

theorem Row.put {H : Type} {enc : TypeId × Value → H} {W : World} {v : Value} {d : DataW H} {p : List MemPlace} (h : DataW.Trod enc Tryz.prog W 0 (fun _ => true) true 39 v d p) (hv : ∃ cs, v = .agg cs ∧ cs.size = Tryz.prog.cellsOf 39) :
    ∃ (lt mo : Int) (sv : Option Addr) (cap : Nat) (cs : List Int), v = .agg #[.int .i64 lt, .int .i64 mo, .slice sv cs.length cap] ∧ (-9223372036854775808 ≤ lt ∧ lt ≤ 9223372036854775807) ∧ (-9223372036854775808 ≤ mo ∧ mo ≤ 9223372036854775807) ∧ PutsAt W sv cs := by
  obtain ⟨arr, rfl, hsz⟩ := hv
  obtain ⟨fuel, hf⟩ := h
  rw [Row.cellsP] at hsz
  obtain ⟨v0, v1, v2, harr⟩ := Row.three (l := arr.toList) (by simpa using hsz)
  have harr' : arr = #[v0, v1, v2] := by apply Array.toList_inj.1; simpa using harr
  subst harr'
  simp only [Value.cells] at hf
  obtain ⟨xs, k, hk, hxy, _, hxl, hfs⟩ := DataW.trod_struct Tryz.underlying39 hf
  obtain ⟨y0, y1, y2, rfl⟩ := Row.three (show xs.length = 3 from hxl)
  have g0 := hfs 0 _ rfl
  have g1 := hfs 1 _ rfl
  have g2 := hfs 2 _ rfl
  simp [Row.cellsI, Row.cellsL] at g0 g1 g2
  obtain ⟨i0, e0, _, w0⟩ := DataW.trod_int Tryz.underlying3 g0
  obtain ⟨i1, e1, _, w1⟩ := DataW.trod_int Tryz.underlying3 g1
  simp at e0 e1
  subst e0 e1
  have hsl : ∃ sv n cap, v2 = .slice sv n cap := by
    rcases Go.Deep.open_slice1 Tryz.underlying37 Row.cellsI g2 with ⟨h0, _⟩ | ⟨a, len, cap', m, n', V, D, Pl, hcs, _⟩
    · simp at h0; exact ⟨_, _, _, h0⟩
    · simp at hcs; exact ⟨_, _, _, hcs⟩
  obtain ⟨sv, n, cap, rfl⟩ := hsl
  obtain ⟨cs, rfl, hP⟩ := Row.ints g2
  exact ⟨i0, i1, sv, cap, cs, rfl, Row.wf w0, Row.wf w1, hP⟩
end Go.Proofs.YtfiebibpgbadlaaGreat
