import Derived.Test.YtbpfcnhihchemaaProgD
namespace Go.Proofs.Ytbpfcnhihchemaa
open Go.RowKit
set_option linter.unusedVariables false
set_option linter.unusedSimpArgs false
attribute [local go_sem] run_store_float

theorem icells_set (R : List Item) (i : Nat) (p : Item) (h : i < R.length) :
    ((((icells R).set (i * 4) (.string ⟨p.1.toArray⟩)).set (i * 4 + 1) (.string ⟨p.2.1.toArray⟩)).set (i * 4 + 2) (.float .f64 p.2.2.1)).set (i * 4 + 3) (.int .i64 p.2.2.2) = icells (R.set i p) := by
  induction R generalizing i with
  | nil => simp at h
  | cons r R ih =>
    have e : ∀ r : Item, ∀ R, icells (r :: R) = Value.string ⟨r.1.toArray⟩ :: Value.string ⟨r.2.1.toArray⟩ :: Value.float .f64 r.2.2.1 :: Value.int .i64 r.2.2.2 :: icells R := fun _ _ => rfl
    cases i with
    | zero => rw [List.set_cons_zero, e, e]; simp
    | succ i =>
      have := ih i (by simpa using h)
      rw [List.set_cons_succ, e, e, show (i + 1) * 4 = i * 4 + 4 by omega, ← this]
      simp

theorem item_eta (p : Item) : p = (p.1, p.2.1, p.2.2.1, p.2.2.2) := rfl

def swapL (R : List Item) (i j : Nat) (hi : i < R.length) (hj : j < R.length) : List Item := (R.set i R[j]).set j R[i]

theorem mem_swapL (R : List Item) (i j : Nat) (hi : i < R.length) (hj : j < R.length) (e : Item) : e ∈ swapL R i j hi hj ↔ e ∈ R := by
  unfold swapL
  constructor
  · intro h
    rcases List.mem_or_eq_of_mem_set h with h | rfl
    · rcases List.mem_or_eq_of_mem_set h with h | rfl
      · exact h
      · exact List.getElem_mem hj
    · exact List.getElem_mem hi
  · intro h
    obtain ⟨k, hk, rfl⟩ := List.getElem_of_mem h
    rw [List.mem_iff_getElem]
    by_cases hkj : k = j
    · subst hkj
      by_cases hik : i = k
      · subst hik
        exact ⟨i, by simpa using hk, by simp⟩
      · refine ⟨i, by simpa using hi, ?_⟩
        rw [List.getElem_set_ne (by omega), List.getElem_set_self]
    · by_cases hki : k = i
      · subst hki
        exact ⟨j, by simpa using hj, by simp⟩
      · refine ⟨k, by simpa using hk, ?_⟩
        rw [List.getElem_set_ne (by omega), List.getElem_set_ne (by omega)]

/-- cells of a row, set one after the other. -/
theorem row_set4 {w : World} {g k : Nat} {cur : Array Value} {t : TypeId} {items : List Item} {n : Nat} (p : Item) (hg : w.heap[g]? = some (.cells cur t (0, 0))) (hn : n = items.length * 4) (ht : cur.toList.take n = icells items) (hk : k < items.length) :
    ∃ cur', ((((w.setCell ⟨g, k * 4, none⟩ (.string ⟨p.1.toArray⟩)).setCell ⟨g, k * 4 + 1, none⟩ (.string ⟨p.2.1.toArray⟩)).setCell ⟨g, k * 4 + 2, none⟩ (.float .f64 p.2.2.1)).setCell ⟨g, k * 4 + 3, none⟩ (.int .i64 p.2.2.2)).heap[g]? = some (.cells cur' t (0, 0)) ∧
      cur'.size = cur.size ∧ cur'.toList.take n = icells (items.set k p) := by
  refine ⟨_, heap_setCell_same _ g _ _ _ _ (heap_setCell_same _ g _ _ _ _ (heap_setCell_same _ g _ _ _ _ (heap_setCell_same w g _ _ _ _ hg))), by simp, ?_⟩
  simp only [Array.toList_setIfInBounds, List.take_set]
  rw [ht]
  exact icells_set items k p hk

theorem swap_any (w : World) (base qb i j : Nat) (iv : Value) (items : List Item) (hn : items.length ≤ 1000000000) (hi : i < items.length) (hj : j < items.length) (hij : i ≠ j) (hQ : QAt w base qb iv items) :
    Calls Try.prog 56 #[.pointer (some ⟨qb, 0, none⟩), .int .i64 (i : Int), .int .i64 (j : Int)] w fun e w' => e = .returned (.tuple #[]) ∧ Kept iv.ownBlock.toList w w' ∧ ∃ items', items'.length = items.length ∧ (∀ e, e ∈ items' ↔ e ∈ items) ∧ QAt w' base qb iv items' := by
  obtain ⟨g, cap, cur, rfl, hbg, hg, hnc, hcm, hsz, ht⟩ := hQ.read (by omega)
  obtain ⟨p0, p1, p2, p3⟩ := cell_item hg rfl ht hi
  obtain ⟨q0, q1, q2, q3⟩ := cell_item hg rfl ht hj
  have hqg : qb ≠ g := by rintro rfl; rw [hQ.blk] at hg; simp at hg
  refine (swap_walk w qb g items.length cap i j fv fv fv fv fv fv fv fv fv _ _ _ _ _ _ _ _ hn hi hj hij (cellAt hQ.blk rfl) hqg p0 p1 p2 p3 q0 q1 q2 q3 (fun o => frozen_of_row w g o _ _ hg)).mono ?_
  rintro e w' ⟨rfl, hal⟩
  obtain ⟨cur1, h1, hs1, ht1⟩ := row_set4 (items[j]) hg rfl ht hi
  obtain ⟨cur2, h2, hs2, ht2⟩ := row_set4 (items[i]) h1 (items := items.set i items[j]) (by simp) ht1 (by simpa using hj)
  have hK : Kept [g] w w' := by
    exact Kept.trans (((((((((Kept.refl [g] w).setCell (Or.inl (by simp)) _).setCell (Or.inl (by simp)) _).setCell (Or.inl (by simp)) _).setCell (Or.inl (by simp)) _).setCell (Or.inl (by simp)) _).setCell (Or.inl (by simp)) _).setCell (Or.inl (by simp)) _).setCell (Or.inl (by simp)) _) (hal.kept [g])
  refine ⟨rfl, by simpa [Value.ownBlock] using hK, swapL items i j hi hj, by simp [swapL], mem_swapL items i j hi hj, hK.at hQ.blk (by simpa using hqg), ?_⟩
  have hlen : (swapL items i j hi hj).length = items.length := by simp [swapL]
  rw [hlen]
  refine ⟨by rw [length_icells, hlen], .inr ⟨g, cap, cur2, rfl, hbg, ?_, hnc, hcm, by rw [hs2, hs1]; exact hsz, ?_⟩⟩
  · rw [hal.1]; exact h2
  · exact ht2
end Go.Proofs.Ytbpfcnhihchemaa
