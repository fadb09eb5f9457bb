import Derived.Test.YtfiebibpgbadlaaProgX
import Derived.Test.YtfiebibpgbadlaaRulA
import Derived.Test.YtfiebibpgbadlaaRefH
namespace Go.Proofs.Ytfiebibpgbadlaa
open Go.RowKit
set_option linter.unusedVariables false
set_option linter.unusedSimpArgs false

theorem RulesAt.le {w : World} {base : Nat} {rv : Value} {R : List Hw.Rl} (h : RulesAt w base rv R) : R.length ≤ maxLen := by
  rcases h.2 with ⟨h1, h2⟩ | ⟨g, cap, cur, h1, hb, hg, hn, hm, _⟩
  · omega
  · omega

theorem RulesAt.ref_kept {w w1 : World} {base rb : Nat} {rv : Value} {R : List Hw.Rl} {o : Obj} (h : RulesAt w base rv R) (hK : Kept [rb] w w1) (hr : w.heap[rb]? = some o) (ho : ∀ c fr, o ≠ .cells c 42 fr) : RulesAt w1 base rv R := by
  refine h.kept hK ?_
  simp only [List.mem_singleton]
  rintro k rfl e
  rcases h.2 with ⟨h1, _⟩ | ⟨g, cap, cur, h1, _, hg, _⟩
  · rw [h1] at e; simp [Value.ownBlock] at e
  · rw [h1] at e; simp [Value.ownBlock] at e; subst e; rw [hr] at hg; exact ho _ _ (Option.some.inj hg)

theorem RulesAt.lt {w : World} {base : Nat} {rv : Value} {R : List Hw.Rl} (h : RulesAt w base rv R) : ∀ k, rv.ownBlock = some k → k < w.heap.size := by
  intro k hk
  rcases h.2 with ⟨h1, _⟩ | ⟨g, cap, cur, h1, _, hg, _⟩
  · rw [h1] at hk; simp [Value.ownBlock] at hk
  · rw [h1] at hk; simp [Value.ownBlock] at hk; subst hk; exact lt_of_block hg

end Go.Proofs.Ytfiebibpgbadlaa
