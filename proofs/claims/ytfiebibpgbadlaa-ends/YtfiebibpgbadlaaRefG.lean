import Derived.Test.YtfiebibpgbadlaaRefF
import Derived.Test.YtfiebibpgbadlaaKb
namespace Go.Proofs.Ytfiebibpgbadlaa
open Go.RowKit
set_option linter.unusedVariables false
set_option linter.unusedSimpArgs false

def Fix (L : Nat) (xs : List Nat) (S : Hw.Wd) (a t : Nat) : Prop := Hw.of xs (Hw.fold L ((S.take t).drop a)) = Hw.fold L ((S.take t).drop a)

theorem whole_no {L M : Nat} {xs : List Nat} {i : Nat} {S : Hw.Wd} (hS : Hw.wordAt L M i = S) {a t : Nat} (h1 : a ≤ t) (h2 : t ≤ S.length) (h : ¬ Fix L xs S a t) : ¬ Hw.Whole L M xs i := by
  intro k
  have := k a t h1 (by rw [hS]; exact h2)
  rw [hS] at this
  exact h this
theorem whole_yes {L M : Nat} {xs : List Nat} {i : Nat} {S : Hw.Wd} (hS : Hw.wordAt L M i = S) {at_ : Nat} (h0 : S.length < at_) (h : ∀ a t, a < at_ → a ≤ t → t ≤ S.length → Fix L xs S a t) : Hw.Whole L M xs i := by
  intro a t h1 h2
  rw [hS] at h2 ⊢
  exact h a t (by omega) h1 h2

def cntTo (xs : List Nat) (i : Nat) : Nat := (List.range i).countP fun k => Hw.of xs k == k
theorem cntTo_succ (xs : List Nat) (i : Nat) : cntTo xs (i + 1) = cntTo xs i + if Hw.of xs i = i then 1 else 0 := by
  unfold cntTo; rw [List.range_succ, List.countP_append]; simp [List.countP_cons]
theorem cntTo_le (xs : List Nat) (i : Nat) : cntTo xs i ≤ i := by
  have := List.countP_le_length (p := fun k => Hw.of xs k == k) (l := List.range i)
  simpa [cntTo] using this

end Go.Proofs.Ytfiebibpgbadlaa
