import Derived.WalkKit
import Derived.Deep.Draws
namespace Go.Proofs.Ytbpfcnhihchemaa
open Go.RowKit
set_option linter.unusedVariables false
set_option linter.unusedSimpArgs false

theorem hide {p : Prop} (h : p) : Hid p := h

/-- Every block but those of S is as it was. -/
structure Kept (S : List Nat) (w w' : World) : Prop where
  os : w'.os = w.os
  tape : w'.tape = w.tape
  output : w'.output = w.output
  size : w.heap.size ≤ w'.heap.size
  block : ∀ k, k < w.heap.size → k ∉ S → w'.heap[k]? = w.heap[k]?

theorem Kept.refl (S : List Nat) (w : World) : Kept S w w := ⟨rfl, rfl, rfl, Nat.le_refl _, fun _ _ _ => rfl⟩
theorem Kept.trans {S : List Nat} {a b c : World} (h : Kept S a b) (k : Kept S b c) : Kept S a c :=
  ⟨k.os.trans h.os, k.tape.trans h.tape, k.output.trans h.output, Nat.le_trans h.size k.size, fun i hi hn => (k.block i (Nat.lt_of_lt_of_le hi h.size) hn).trans (h.block i hi hn)⟩
theorem Kept.mono {S S' : List Nat} {a b : World} (h : Kept S a b) (hs : ∀ k, k ∈ S → k < a.heap.size → k ∈ S') : Kept S' a b :=
  ⟨h.os, h.tape, h.output, h.size, fun k hk hn => h.block k hk (fun hm => hn (hs k hm hk))⟩
theorem Kept.drewN {S : List Nat} {a b : World} (h : Kept S a b) (n : Nat) : Kept S a (b.drewN n) := ⟨h.os, h.tape, h.output, h.size, h.block⟩
theorem Kept.drew {S : List Nat} {a b : World} (h : Kept S a b) : Kept S a b.drew := ⟨h.os, h.tape, h.output, h.size, h.block⟩
theorem Kept.alloc {S : List Nat} {a b : World} (h : Kept S a b) (o : Obj) : Kept S a (b.alloc o) :=
  h.trans ⟨rfl, rfl, rfl, by simp, fun k hk _ => Below.heap_alloc _ _ _ hk⟩
theorem Kept.setCell {S : List Nat} {a b : World} (h : Kept S a b) {p : Addr} (hp : p.block ∈ S ∨ a.heap.size ≤ p.block) (u : Value) : Kept S a (b.setCell p u) := by
  refine ⟨h.os, h.tape, h.output, by simpa using h.size, fun k hk hn => ?_⟩
  rw [Below.heap_setCell _ _ _ _ (fun e => by rcases hp with hp | hp; exact hn (e ▸ hp); omega)]
  exact h.block k hk hn
theorem Kept.of_below {S : List Nat} {a b : World} {B : Nat} (h : Below B a b) (hS : ∀ k, B ≤ k → k < a.heap.size → k ∈ S) : Kept S a b :=
  ⟨h.os, h.tape, h.output, h.size, fun k hk hn => h.block k (Nat.lt_of_not_le fun hB => hn (hS k hB hk))⟩
theorem Kept.of_below_size {S : List Nat} {a b : World} (h : Below a.heap.size a b) : Kept S a b := Kept.of_below h (fun k h1 h2 => by omega)
theorem Kept.below {S : List Nat} {a b : World} {B : Nat} (h : Kept S a b) (hB : B ≤ a.heap.size) (hS : ∀ k, k ∈ S → B ≤ k) : Below B a b :=
  ⟨h.os, h.tape, h.output, h.size, fun k hk => h.block k (by omega) (fun hm => by have := hS k hm; omega)⟩
theorem Kept.at {S : List Nat} {a b : World} (h : Kept S a b) {k : Nat} {o : Obj} (hk : a.heap[k]? = some o) (hn : k ∉ S) : b.heap[k]? = some o :=
  (h.block k (lt_of_block hk) hn).trans hk
theorem Kept.cell {S : List Nat} {a b : World} (h : Kept S a b) {p : Addr} {v : Value} (hk : a.cell? p = some v) (hn : p.block ∉ S) : b.cell? p = some v :=
  (World.cell?_of_block (w := a) (h.block p.block (World.block_lt_of_cell? a p hk) hn)).trans hk
theorem Kept.of_drewN (S : List Nat) (w : World) (n : Nat) : Kept S w (w.drewN n) := (Kept.refl S w).drewN n
theorem Kept.of_grown {S : List Nat} {a b : World} {row : Option Nat} (h : a.grownBy b row) (hS : ∀ k, row = some k → k ∈ S) : Kept S a b :=
  ⟨h.os, h.tape, h.output, h.size, fun k hk hn => h.block k hk (fun e => hn (hS k e.symm))⟩

/-- The same but for draws. -/
def SameW (a b : World) : Prop := b.heap = a.heap ∧ b.os = a.os ∧ b.tape = a.tape ∧ b.output = a.output
theorem SameW.kept {a b : World} (h : SameW a b) (S : List Nat) : Kept S a b := ⟨h.2.1, h.2.2.1, h.2.2.2, by rw [h.1]; exact Nat.le_refl _, fun k _ _ => by rw [h.1]⟩

/-- A row of ints, whole. -/
def intRow (xs : List Nat) : Array Value := (xs.map fun (n : Nat) => Value.int .i64 (n : Int)).toArray

theorem size_intRow (xs : List Nat) : (intRow xs).size = xs.length := by simp [intRow]
theorem get_intRow (xs : List Nat) (k : Nat) (h : k < xs.length) : (intRow xs)[k]? = some (.int .i64 ((xs[k]'h : Nat) : Int)) := by
  simp [intRow, List.getElem?_eq_getElem h]
theorem cell_intRow {w : World} {g : Nat} {xs : List Nat} {t : TypeId} (hg : w.heap[g]? = some (.cells (intRow xs) t (0, 0))) (k : Nat) (h : k < xs.length) :
    w.cell? ⟨g, k, none⟩ = some (.int .i64 ((xs[k]'h : Nat) : Int)) := by
  rw [cell_of_row w g k _ t _ hg, get_intRow xs k h]
theorem set_intRow (xs : List Nat) (k v : Nat) : (intRow xs).setIfInBounds k (.int .i64 (v : Int)) = intRow (xs.set k v) := by
  simp [intRow, List.map_set]

/-- A row of strings, whole. -/
def strRow (xs : List (List UInt8)) : Array Value := (xs.map fun s => Value.string ⟨s.toArray⟩).toArray

theorem size_strRow (xs : List (List UInt8)) : (strRow xs).size = xs.length := by simp [strRow]
theorem get_strRow (xs : List (List UInt8)) (k : Nat) (h : k < xs.length) : (strRow xs)[k]? = some (.string ⟨(xs[k]'h).toArray⟩) := by
  simp [strRow, List.getElem?_eq_getElem h]
theorem cell_strRow {w : World} {g : Nat} {xs : List (List UInt8)} {t : TypeId} {fr : Nat × Nat} (hg : w.heap[g]? = some (.cells (strRow xs) t fr)) (k : Nat) (h : k < xs.length) :
    w.cell? ⟨g, k, none⟩ = some (.string ⟨(xs[k]'h).toArray⟩) := by
  rw [cell_of_row w g k _ t _ hg, get_strRow xs k h]

theorem cellAt {w : World} {g : Nat} {cs : Array Value} {t : TypeId} {fr : Nat × Nat} (hg : w.heap[g]? = some (.cells cs t fr)) {j : Nat} {v : Value} (h : cs[j]? = some v) : w.cell? ⟨g, j, none⟩ = some v :=
  (cell_of_row w g j cs t fr hg).trans h
end Go.Proofs.Ytbpfcnhihchemaa
