import Derived.Test.YtfiebibpgbadlaaProgW
namespace Go.Proofs.Ytfiebibpgbadlaa
open Go.RowKit
set_option linter.unusedVariables false
set_option linter.unusedSimpArgs false

theorem fin_nil (L M : Nat) : Hw.Fin L M [] [] := by
  refine ⟨?_, by simp, List.Pairwise.nil, ?_, by simp⟩
  · constructor <;> simp
  · intro a b ha; simp at ha

theorem cnt_nil {L M : Nat} (hL : L ≤ 3) (hM : M ≤ 6) : ([] : List Hw.Rl).length + Hw.cntIrr L M [] ≤ 1093 := by
  have := upTo_small hL hM
  have h2 : Hw.cntIrr L M [] ≤ (Hw.upTo L M).length := by unfold Hw.cntIrr; exact List.countP_le_length
  simp; omega

theorem book_new {w : World} {bb L M : Nat} (hL1 : 1 ≤ L) (hL3 : L ≤ 3) (hM1 : 1 ≤ M) (hM6 : M ≤ 6) (hb : w.heap[bb]? = some (bookBlock L M (.slice none 0 0) (.slice none 0 0))) (hm : ∃ m, w.cell? ⟨0, 0, none⟩ = some (.int .i64 m)) (hpos : 0 < bb) : BookR w bb L M (.slice none 0 0) [] [] := by
  have e : sdv w bb = .slice none 0 0 := sdv_of hb
  refine ⟨hL1, hL3, hM1, hM6, by simp, by rw [e]; exact hb, ?_, fin_nil L M, cnt_nil hL3 hM6, hm, hpos, by simp, Hw.ToIrr.nil, Hw.Rises.nil L, ?_⟩
  · exact World.ownsRow_nil _ _ _ _
  · rw [e]; exact World.ownsRow_nil _ _ _ _

/-- A script, as it lies. -/
def ScriptAt (w : World) (sv : Option Addr) (n cap : Nat) : Prop :=
  n ≤ maxLen ∧ ∀ i, i < n → ∃ a kd k x y s t, sv = some a ∧ w.cell? (a.add (i * 6)) = some (.int .i64 kd) ∧ w.cell? ⟨(a.add (i * 6)).block, (a.add (i * 6)).off + 1, none⟩ = some (.int .i64 k) ∧ w.cell? ⟨(a.add (i * 6)).block, (a.add (i * 6)).off + 2, none⟩ = some (.int .i64 x) ∧ w.cell? ⟨(a.add (i * 6)).block, (a.add (i * 6)).off + 3, none⟩ = some (.int .i64 y) ∧
    w.cell? ⟨(a.add (i * 6)).block, (a.add (i * 6)).off + 4, none⟩ = some (.string s) ∧ w.cell? ⟨(a.add (i * 6)).block, (a.add (i * 6)).off + 5, none⟩ = some (.string t) ∧ s.size ≤ maxLen ∧ t.size ≤ maxLen

theorem below_cell {B : Nat} {w w' : World} (h : Below B w w') (hB : w.heap.size = B) {p : Addr} {v : Value} (hp : w.cell? p = some v) : w'.cell? p = some v :=
  (h.cell (by have := World.block_lt_of_cell? w p hp; omega)).trans hp

theorem ScriptAt.below {w w' : World} {sv : Option Addr} {n cap : Nat} (h : ScriptAt w sv n cap) (hb : Below w.heap.size w w') : ScriptAt w' sv n cap := by
  refine ⟨h.1, fun i hi => ?_⟩
  obtain ⟨a, kd, k, x, y, s, t, rfl, h0, h1, h2, h3, h4, h5, h6, h7⟩ := h.2 i hi
  exact ⟨a, kd, k, x, y, s, t, rfl, below_cell hb rfl h0, below_cell hb rfl h1, below_cell hb rfl h2, below_cell hb rfl h3, below_cell hb rfl h4, below_cell hb rfl h5, h6, h7⟩

theorem below_drewN {B : Nat} {w : World} (h : B ≤ w.heap.size) (n : Nat) : Below B w (w.drewN n) := ((Kept.of_drewN [] w n).below (Nat.le_refl _) (by simp)).mono h

end Go.Proofs.Ytfiebibpgbadlaa
