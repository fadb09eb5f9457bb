import Derived.Test.YtbpfcnhihchemaaProgL
namespace Go.Proofs.Ytbpfcnhihchemaa
open Go.RowKit
set_option linter.unusedVariables false
set_option linter.unusedSimpArgs false

/-- the less word of a rule is written anew. -/
theorem RulesAt.setTo {w : World} {B g n cap : Nat} {R : List Hw.Rl} (h : RulesAt w B (.slice (some ⟨g, 0, none⟩) n cap) R) {j : Nat} (hj : j < R.length) (t : Hw.Wd) :
    RulesAt (w.setCell ⟨g, j * 2 + 1, none⟩ (.string ⟨t.toArray⟩)) B (.slice (some ⟨g, 0, none⟩) n cap) (R.set j ((R[j]).1, t)) := by
  rcases h.2 with ⟨_, h2⟩ | ⟨g', cap', cur, h1, hb, hg, hn, hm, hsz, ht⟩
  · omega
  · simp only [Value.slice.injEq, Option.some.injEq, Addr.mk.injEq] at h1
    obtain ⟨⟨rfl, -, -⟩, e, rfl⟩ := h1
    have el : (R.set j ((R[j]).1, t)).length = R.length := by simp
    unfold RulesAt
    rw [el]
    refine ⟨by rw [length_rcells, el], .inr ⟨g, cap, _, by rw [e], hb, heap_setCell_same w g _ _ _ _ hg, hn, hm, by simpa using hsz, ?_⟩⟩
    simp only [Array.toList_setIfInBounds, List.take_set]
    rw [ht, ← rcells_set R j ((R[j]).1, t) hj]
    congr 1
    have h0 := (rcells_at R j hj).1
    have hlt : j * 2 < (rcells R).length := by rw [length_rcells]; omega
    rw [List.getElem?_eq_getElem hlt] at h0
    rw [← Option.some.inj h0, List.set_getElem_self]
end Go.Proofs.Ytbpfcnhihchemaa
