import Derived.Test.YtfiebibpgbadlaaRefD
import Derived.Test.YtfiebibpgbadlaaMe
namespace Go.Proofs.Ytfiebibpgbadlaa
open Go.RowKit
set_option linter.unusedVariables false
set_option linter.unusedSimpArgs false

/-- What the document's Least answers. -/
def LeastAns (L M : Nat) (said : List (Hw.Wd × Hw.Wd)) (s m : Hw.Wd) (c : Nat) : Prop :=
  (Hw.isWord L M s = true → Hw.IsLeast L M said s m ∧ c = 0) ∧ (Hw.isWord L M s = false → m = [] ∧ c = 2)

theorem LeastAns.uniq {L M : Nat} (hL : L ≤ 3) {said : List (Hw.Wd × Hw.Wd)} {s m m' : Hw.Wd} {c c' : Nat} (h : LeastAns L M said s m c) (h' : LeastAns L M said s m' c') : m = m' ∧ c = c' := by
  cases e : Hw.isWord L M s with
  | true => exact ⟨((h.1 e).1).uniq hL (h'.1 e).1, by rw [(h.1 e).2, (h'.1 e).2]⟩
  | false => exact ⟨by rw [(h.2 e).1, (h'.2 e).1], by rw [(h.2 e).2, (h'.2 e).2]⟩

theorem Try.infoStrs : (Try.prog.info? 71).map (fun i => (i.zero, i.size, i.bytes)) = some (some (.slice none 0 0), 1, 24) := by kernel_rfl

theorem cell_second (w : World) (o1 : Obj) (c : Array Value) (t : TypeId) (j : Nat) : ((w.alloc o1).alloc (.cells c t)).cell? ⟨w.heap.size + 1, j, none⟩ = c[j]? := by
  have h := heap_alloc_new (w.alloc o1) (.cells c t)
  rw [World.size_alloc] at h
  exact cell_of_row _ _ j _ _ _ h

end Go.Proofs.Ytfiebibpgbadlaa
