import Derived.Test.YtfiebibpgbadlaaProgU
namespace Go.Proofs.Ytfiebibpgbadlaa
open Go.RowKit
set_option linter.unusedVariables false
set_option linter.unusedSimpArgs false

theorem BookR.kept {w w' : World} {bb L M : Nat} {rv : Value} {said R : List Hw.Rl} {S : List Nat} (h : BookR w bb L M rv said R) (hK : Kept S w w') (h0 : 0 ∉ S) (hS : ∀ k, k ∈ S → ∀ c t fr, w.heap[k]? = some (.cells c t fr) → t ≠ 27 ∧ t ≠ 42 ∧ t ≠ 65) : BookR w' bb L M rv said R := by
  obtain ⟨m, hm⟩ := h.mx
  refine h.move (hK.block _ (lt_of_block h.blk) (fun hk => (hS _ hk _ _ _ h.blk).1 rfl)) (h.rul.kept hK ?_) (h.sad.kept hK (fun k hk c fr e => (hS k hk _ _ _ e).2.2 rfl)) ⟨m, hK.cell hm (by simpa using h0)⟩
  intro k hk e
  rcases h.rul.2 with ⟨h1, _⟩ | ⟨g, cap, cur, h1, _, hg, _⟩
  · rw [h1] at e; simp [Value.ownBlock] at e
  · rw [h1] at e; simp [Value.ownBlock] at e; subst e
    exact (hS _ hk _ _ _ hg).2.1 rfl

/-- But for the blocks of A, and for new ones, all is as it was. -/
structure BA (A : Nat → Prop) (w w' : World) : Prop where
  os : w'.os = w.os
  tape : w'.tape = w.tape
  output : w'.output = w.output
  size : w.heap.size ≤ w'.heap.size
  block : ∀ k, k < w.heap.size → ¬ A k → w'.heap[k]? = w.heap[k]?
theorem BA.trans {A : Nat → Prop} {a b c : World} (h : BA A a b) (k : BA A b c) : BA A a c :=
  ⟨k.os.trans h.os, k.tape.trans h.tape, k.output.trans h.output, Nat.le_trans h.size k.size, fun i hi hn => (k.block i (Nat.lt_of_lt_of_le hi h.size) hn).trans (h.block i hi hn)⟩
theorem BA.of_below {A : Nat → Prop} {w w' : World} (h : Below w.heap.size w w') : BA A w w' :=
  have hK := Kept.of_below_size (S := []) h
  ⟨hK.os, hK.tape, hK.output, hK.size, fun k hk _ => hK.block k hk (by simp)⟩
theorem BA.of_kept {A : Nat → Prop} {S : List Nat} {w w' : World} (h : Kept S w w') (hS : ∀ k, k ∈ S → A k) : BA A w w' :=
  ⟨h.os, h.tape, h.output, h.size, fun k hk hn => h.block k hk (fun hm => hn (hS k hm))⟩
/-- All blocks from one on. -/
def Up (B : Nat) : Nat → Prop := fun k => B ≤ k
theorem BA.up {B : Nat} {w w' : World} (h : BA (Up B) w w') (hB : B ≤ w.heap.size) : Below B w w' :=
  ⟨h.os, h.tape, h.output, h.size, fun k hk => h.block k (by omega) (by unfold Up; omega)⟩

end Go.Proofs.Ytfiebibpgbadlaa
