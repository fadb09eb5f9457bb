import Derived.Test.YtfiebibpgbadlaaGreatProgP
import Derived.Lib.SliceRun
namespace Go.Proofs.YtfiebibpgbadlaaGreat
open Go.RowKit
set_option linter.unusedVariables false
set_option linter.unusedSimpArgs false

theorem eql_nil (w : World) (a : Option Addr) (n c : Nat) : (binOp .eql 68 (.slice a n c) (.slice none 0 0)).run Tryz.prog w = .ok (.bool a.isNone) w :=
  Lib.run_eql_slice_nil w _ _ a n c 0 0 Tryz.underlying68
attribute [local go_sem] eql_nil

theorem clone_cells {w : World} {B g n cap : Nat} {R : List Hw.Rl} (h : RulesAt w B (.slice (some ⟨g, 0, none⟩) n cap) R) : ∀ j u, (rcells R)[j]? = some u → w.cell? ((⟨g, 0, none⟩ : Addr).add j) = some u := by
  intro j u hj
  have hadd : (⟨g, 0, none⟩ : Addr).add j = ⟨g, j, none⟩ := by unfold Addr.add; split <;> simp_all
  rw [hadd]
  rcases h.2 with ⟨h1, _⟩ | ⟨g', cap', cur, h1, hb, hg, hn, hm, hsz, ht⟩
  · simp at h1
  · simp only [Value.slice.injEq, Option.some.injEq, Addr.mk.injEq] at h1
    obtain ⟨⟨rfl, -, -⟩, -, rfl⟩ := h1
    rw [cell_of_row w g j cur _ _ hg]
    rw [← ht, List.getElem?_take] at hj
    split at hj
    · simpa using hj
    · cases hj

theorem clone_one (R : List Hw.Rl) : ∀ u ∈ rcells R, u.oneCell' = true := by
  intro u hu
  unfold rcells at hu
  rw [List.mem_flatMap] at hu
  obtain ⟨a, _, hu⟩ := hu
  simp at hu
  rcases hu with rfl | rfl <;> rfl

theorem clone_fin {w w0 w3 : World} {R : List Hw.Rl} {v3 : Value} {o : Obj} (h0 : SameW (w.alloc o) w0) (hown : w3.ownsRow w.heap.size 77 2 v3 R.length (rcells R)) (hgrow : w0.grownBy w3 (Value.slice (some ⟨w.heap.size, 0, none⟩) 0 0).ownBlock) :
    Below w.heap.size w w3 ∧ RulesAt w3 w.heap.size v3 R := by
  refine ⟨?_, ?_⟩
  · have hK : Kept [w.heap.size] w w3 := (((Kept.refl _ w).alloc o).trans (h0.kept _)).trans (Kept.of_grown hgrow (by simp [Value.ownBlock]))
    exact hK.below (Nat.le_refl _) (by simp)
  · exact hown

theorem clone_own {w w0 : World} (h0 : SameW (w.alloc (.cells #[] 77)) w0) : w0.ownsRow w.heap.size 77 2 (.slice (some ⟨w.heap.size, 0, none⟩) 0 0) 0 [] := by
  refine ⟨rfl, .inr ⟨w.heap.size, 0, #[], rfl, Nat.le_refl _, ?_, Nat.le_refl _, Nat.zero_le _, rfl, rfl⟩⟩
  rw [h0.1]; exact heap_alloc_new w _

set_option maxRecDepth 100000 in
set_option maxHeartbeats 3200000 in
theorem clone_any (w : World) (B : Nat) (rv : Value) (R : List Hw.Rl) (hRl : R.length ≤ 65536) (hR : RulesAt w B rv R) :
    Calls Tryz.prog 72 #[rv] w fun e w' => ∃ rv', e = .returned rv' ∧ Below w.heap.size w w' ∧ RulesAt w' w.heap.size rv' R := by
  have HR := hide hR
  rcases hR.2 with ⟨rfl, h2⟩ | ⟨g, cap, cur, rfl, hb, hg, hn, hm, hsz, ht⟩
  · have hR0 : R = [] := List.length_eq_zero_iff.1 h2
    subst hR0
    clear HR hR
    go_enter Tryz.func72, Tryz.ntmps72
    go_wp2
    go_ret
    exact ⟨_, rfl, Below.refl _ _, World.ownsRow_nil _ _ _ _⟩
  · obtain ⟨i0, hi0, hz0, hz1, hz2⟩ := info_parts Tryz.infoRule
    have HI0 := hide hi0
    have HZ0 := hide hz0
    have HZ1 := hide hz1
    have HZ2 := hide hz2
    clear hi0 hz0 hz1 hz2 hR hb hg hn hm hsz ht
    go_enter Tryz.func72, Tryz.ntmps72
    go_wp2_with (at_builtin; refine wpList_append_exact _ rfl (.tmp 5) (.tmp 6) 68 rfl w.heap.size 77 i0 (.agg #[.string ⟨#[]⟩, .string ⟨#[]⟩]) 2 32 Tryz.underlying68 HI0.out HZ0.out HZ1.out HZ2.out rfl (by decide) (.slice (some ⟨w.heap.size, 0, none⟩) 0 0) 0 [] rfl ?c1 ⟨g, 0, none⟩ R.length cap (rcells R) rfl ?c2 ?c3 (clone_one R) ?c4 ?c5 ?c6 ?_)
    case c1 => exact clone_own ⟨rfl, rfl, rfl, rfl⟩
    case c2 => rw [length_rcells]
    case c3 => exact clone_cells (HR.out.kept (S := []) ((Kept.refl [] w).alloc _) (by simp))
    case c4 => unfold maxLen; omega
    case c5 => omega
    case c6 => simp
    intro v3 w3 hown hgrow hex
    have R1 := hide (clone_fin (o := .cells #[] 77) (by exact ⟨rfl, rfl, rfl, rfl⟩) hown hgrow)
    clear hown hgrow hex
    go_wp2
    go_ret
    exact ⟨_, rfl, R1.out⟩
end Go.Proofs.YtfiebibpgbadlaaGreat
