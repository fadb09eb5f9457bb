import Derived.Test.YtbpfcnhihchemaaProgC
namespace Go.Proofs.Ytbpfcnhihchemaa
open Go.RowKit
set_option linter.unusedVariables false
set_option linter.unusedSimpArgs false

attribute [local go_sem] run_store_float

def icells (items : List Item) : List Value := items.flatMap icell
def fv : Value := .func (.func 42) #[] #[]

/-- What waits. -/
structure QAt (w : World) (base qb : Nat) (iv : Value) (items : List Item) : Prop where
  blk : w.heap[qb]? = some (.cells #[iv, .func (.func 42) #[] #[]] 102 (0, 0))
  own : w.ownsRow base 91 4 iv items.length (icells items)

theorem length_icells (R : List Item) : (icells R).length = R.length * 4 := by
  induction R with
  | nil => rfl
  | cons r R ih => simp [icells, icell, List.flatMap_cons] at *; omega
theorem icells_at (R : List Item) (i : Nat) (h : i < R.length) : (icells R)[i * 4]? = some (.string ⟨(R[i]).1.toArray⟩) ∧ (icells R)[i * 4 + 1]? = some (.string ⟨(R[i]).2.1.toArray⟩) ∧
    (icells R)[i * 4 + 2]? = some (.float .f64 (R[i]).2.2.1) ∧ (icells R)[i * 4 + 3]? = some (.int .i64 (R[i]).2.2.2) := by
  induction R generalizing i with
  | nil => simp at h
  | cons r R ih =>
    have e : icells (r :: R) = Value.string ⟨r.1.toArray⟩ :: Value.string ⟨r.2.1.toArray⟩ :: Value.float .f64 r.2.2.1 :: Value.int .i64 r.2.2.2 :: icells R := rfl
    cases i with
    | zero => rw [e]; simp
    | succ i =>
      have := ih i (by simpa using h)
      rw [e, show (i + 1) * 4 = i * 4 + 4 by omega]
      simpa using this

theorem QAt.shape {w : World} {base qb : Nat} {iv : Value} {items : List Item} (h : QAt w base qb iv items) : ∃ sa cap, iv = .slice sa items.length cap := by
  rcases h.own.2 with ⟨h1, h2⟩ | ⟨g, cap, cur, h1, _⟩
  · exact ⟨none, 0, by rw [h1, h2]⟩
  · exact ⟨_, _, h1⟩

theorem QAt.read {w : World} {base qb : Nat} {iv : Value} {items : List Item} (h : QAt w base qb iv items) (hp : 0 < items.length) :
    ∃ g cap cur, iv = .slice (some ⟨g, 0, none⟩) items.length cap ∧ base ≤ g ∧ w.heap[g]? = some (.cells cur 91 (0, 0)) ∧ items.length ≤ cap ∧ cap ≤ maxLen ∧ cur.size = cap * 4 ∧ cur.toList.take (items.length * 4) = icells items := by
  rcases h.own.2 with ⟨h1, h2⟩ | ⟨g, cap, cur, h1, hb, hg, hn, hm, hsz, ht⟩
  · omega
  · exact ⟨g, cap, cur, h1, hb, hg, hn, hm, hsz, ht⟩

theorem cell_item {w : World} {g : Nat} {cur : Array Value} {items : List Item} {n : Nat} (hg : w.heap[g]? = some (.cells cur 91 (0, 0))) (hn : n = items.length * 4) (ht : cur.toList.take n = icells items) {i : Nat} (hi : i < items.length) :
    w.cell? ⟨g, i * 4, none⟩ = some (.string ⟨(items[i]).1.toArray⟩) ∧ w.cell? ⟨g, i * 4 + 1, none⟩ = some (.string ⟨(items[i]).2.1.toArray⟩) ∧
    w.cell? ⟨g, i * 4 + 2, none⟩ = some (.float .f64 (items[i]).2.2.1) ∧ w.cell? ⟨g, i * 4 + 3, none⟩ = some (.int .i64 (items[i]).2.2.2) := by
  obtain ⟨e0, e1, e2, e3⟩ := icells_at items i hi
  rw [← ht] at e0 e1 e2 e3
  rw [List.getElem?_take, if_pos (by omega)] at e0 e1 e2 e3
  rw [cell_of_row w g _ cur _ _ hg, cell_of_row w g _ cur _ _ hg, cell_of_row w g _ cur _ _ hg, cell_of_row w g _ cur _ _ hg]
  exact ⟨by simpa using e0, by simpa using e1, by simpa using e2, by simpa using e3⟩

theorem drew_same (w : World) : SameW w w.drew := ⟨rfl, rfl, rfl, rfl⟩
theorem SameW.trans {a b c : World} (h : SameW a b) (k : SameW b c) : SameW a c := ⟨k.1.trans h.1, k.2.1.trans h.2.1, k.2.2.1.trans h.2.2.1, k.2.2.2.trans h.2.2.2⟩

set_option maxRecDepth 100000 in
set_option maxHeartbeats 3200000 in
theorem swap_walk (w : World) (qb g n cap i j : Nat) (fv a0 a1 a2 a3 b0 b1 b2 b3 : Value) (l1 r1 l2 r2 : ByteArray) (f1 f2 : Nat) (g1 g2 : Int) (hn : n ≤ 1000000000) (hi : i < n) (hj : j < n) (hij : i ≠ j)
    (c0 : w.cell? ⟨qb, 0, none⟩ = some (.slice (some ⟨g, 0, none⟩) n cap)) (hq : qb ≠ g)
    (p0 : w.cell? ⟨g, i * 4, none⟩ = some (.string l1)) (p1 : w.cell? ⟨g, i * 4 + 1, none⟩ = some (.string r1)) (p2 : w.cell? ⟨g, i * 4 + 2, none⟩ = some (.float .f64 f1)) (p3 : w.cell? ⟨g, i * 4 + 3, none⟩ = some (.int .i64 g1))
    (q0 : w.cell? ⟨g, j * 4, none⟩ = some (.string l2)) (q1 : w.cell? ⟨g, j * 4 + 1, none⟩ = some (.string r2)) (q2 : w.cell? ⟨g, j * 4 + 2, none⟩ = some (.float .f64 f2)) (q3 : w.cell? ⟨g, j * 4 + 3, none⟩ = some (.int .i64 g2))
    (hfz : ∀ o, w.frozen? ⟨g, o, none⟩ = false) :
    Calls Try.prog 56 #[.pointer (some ⟨qb, 0, none⟩), .int .i64 (i : Int), .int .i64 (j : Int)] w fun e w' => e = .returned (.tuple #[]) ∧ SameW
      ((((((((w.setCell ⟨g, i * 4, none⟩ (.string l2)).setCell ⟨g, i * 4 + 1, none⟩ (.string r2)).setCell ⟨g, i * 4 + 2, none⟩ (.float .f64 f2)).setCell ⟨g, i * 4 + 3, none⟩ (.int .i64 g2)).setCell ⟨g, j * 4, none⟩ (.string l1)).setCell ⟨g, j * 4 + 1, none⟩ (.string r1)).setCell ⟨g, j * 4 + 2, none⟩ (.float .f64 f1)).setCell ⟨g, j * 4 + 3, none⟩ (.int .i64 g1)) w' := by
  have hiI : (i : Int) < (n : Int) := by omega
  have hjI : (j : Int) < (n : Int) := by omega
  go_enter Try.func56, Try.ntmps56
  go_wp2
  go_region
  all_goals go_end0
  all_goals exact ⟨rfl, drew_same _⟩

end Go.Proofs.Ytbpfcnhihchemaa
