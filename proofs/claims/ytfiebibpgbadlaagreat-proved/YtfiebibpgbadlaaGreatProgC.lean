import Derived.Test.YtfiebibpgbadlaaGreatProgB
import Derived.BigRegion
import Derived.Laws.Cover2
import Derived.Laws.FloatArith
namespace Go.Proofs.YtfiebibpgbadlaaGreat
open Go.RowKit
set_option linter.unusedVariables false
set_option linter.unusedSimpArgs false

abbrev Item := Hw.Wd × Hw.Wd × Nat × Int
def icell (p : Item) : List Value := [Value.string ⟨p.1.toArray⟩, Value.string ⟨p.2.1.toArray⟩, Value.float .f64 p.2.2.1, Value.int .i64 p.2.2.2]
def iagg (p : Item) : Value := .agg #[Value.string ⟨p.1.toArray⟩, Value.string ⟨p.2.1.toArray⟩, Value.float .f64 p.2.2.1, Value.int .i64 p.2.2.2]

theorem lighter_any (l1 r1 l2 r2 : ByteArray) (f1 f2 : Nat) (a1 a2 : Int) (w : World) :
    Calls Tryz.prog 74 #[.agg #[.string l1, .string r1, .float .f64 f1, .int .i64 a1], .agg #[.string l2, .string r2, .float .f64 f2, .int .i64 a2]] w fun e w' => ∃ b, e = .returned (.bool b) ∧ Below w.heap.size w w' := by
  go_enter Tryz.func74, Tryz.ntmps74
  go_wp2
  all_goals go_ret
  all_goals exact ⟨_, rfl, ((Below.refl _ _).alloc (Nat.le_refl _) _).alloc (by simp) _⟩

theorem run_store_float (P : Program) (w : World) (a : Addr) (m : Mode) (k : FloatKind) (n : Nat) : (store a (.float k n) m).run P w = stored P w a (.float k n) m := run_store P w a _ m rfl

theorem run_float_any {P : Program} (w : World) (bop : BinOp) (hb : bop = .add ∨ bop = .quo) (t : TypeId) (k : FloatKind) (x y : Nat) :
    ∃ r n, (binOp bop t (.float k x) (.float k y)).run P w = .ok (.float k r) (w.drewN n) := by
  cases h : floatBits bop k x y with
  | some r => exact ⟨r, 0, run_float_arith w bop t k x y r h⟩
  | none =>
    rcases hb with rfl | rfl
    · have h' : k.format.add x y = none := h
      exact ⟨_, 1, by simp [binOp, Op.floatArith, h']; rfl⟩
    · have h' : k.format.div x y = none := h
      exact ⟨_, 1, by simp [binOp, Op.floatArith, h']; rfl⟩

theorem wpList_float {P : Program} (w : World) {ops : Array Oper} {rest : List Oper} {o : Oper} {a : Act} {Q : Exit → Act → World → Prop}
    (hg : o.guard = none) (bop : BinOp) (hb : bop = .add ∨ bop = .quo) (t t2 : TypeId) (s x : Operand) (hop : o.op = Op.binOp bop t s x t2) (k : FloatKind) (fx fy : Nat) (hs : a.eval s = .float k fx) (hx : a.eval x = .float k fy)
    (hK : ∀ r n, wpList P ops Q rest (a.put o.dst (.float k r)) (w.drewN n)) : wpList P ops Q (o :: rest) a w := by
  refine wpList_plain hg fun K hK' => ?_
  obtain ⟨r, n, hrun⟩ := run_float_any (P := P) w bop hb t k fx fy
  unfold Oper.wp
  have hne : bop ≠ .shl ∧ bop ≠ .shr := by rcases hb with rfl | rfl <;> simp
  rcases hb with rfl | rfl <;> simp [execOp, eqGuard, hop, hs, hx, hrun, Result.andThen] <;> exact hK' _ _ (hK r n)

set_option maxRecDepth 100000 in
theorem weigh_any (l r : ByteArray) (a : Int) (w : World) (hl : l.size ≤ 6) (hr : r.size ≤ 6) :
    Calls Tryz.prog 98 #[.string l, .string r, .int .i64 a] w fun e w' => ∃ b n, e = .returned (.float .f64 b) ∧ w' = w.drewN n := by
  have h1 := fun W => run_convert_int_float (P := Tryz.prog) W 3 132 .i64 .f64 l.size (by rw [Tryz.underlying3]; rfl) Tryz.underlying132
  have h2 := fun W => run_convert_int_float (P := Tryz.prog) W 3 132 .i64 .f64 r.size (by rw [Tryz.underlying3]; rfl) Tryz.underlying132
  have h3 := fun W => run_convert_int_float (P := Tryz.prog) W 3 132 .i64 .f64 a (by rw [Tryz.underlying3]; rfl) Tryz.underlying132
  generalize floatOfInt .f64 (l.size : Int) = x1 at h1
  generalize floatOfInt .f64 (r.size : Int) = x2 at h2
  generalize floatOfInt .f64 a = x3 at h3
  go_enter Tryz.func98, Tryz.ntmps98
  go_wp2_with (first
    | (refine wpList_float _ rfl .quo (Or.inr rfl) 132 132 (.tmp 12) (.const (Value.float FloatKind.f64 4611686018427387904)) rfl .f64 _ _ rfl rfl ?_; intro r1 n1)
    | (refine wpList_float _ rfl .add (Or.inl rfl) 132 132 (.tmp 9) (.tmp 13) rfl .f64 _ _ rfl rfl ?_; intro r2 n2)
    | (refine wpList_float _ rfl .quo (Or.inr rfl) 132 132 (.tmp 16) (.const (Value.float FloatKind.f64 4634204016564240384)) rfl .f64 _ _ rfl rfl ?_; intro r3 n3)
    | (refine wpList_float _ rfl .add (Or.inl rfl) 132 132 (.tmp 14) (.tmp 17) rfl .f64 _ _ rfl rfl ?_; intro r4 n4))
  go_ret
  exact ⟨_, _, rfl, rfl⟩

theorem qnew_any (g : Nat) (w : World) :
    Calls Tryz.prog 73 #[.func (.func g) #[] #[]] w fun e w' => e = .returned (.pointer (some ⟨w.heap.size, 0, none⟩)) ∧ w' = w.alloc (.cells #[.slice none 0 0, .func (.func g) #[] #[]] 165) := by
  go_enter Tryz.func73, Tryz.ntmps73
  go_wp2
  go_ret
  exact ⟨rfl, rfl⟩
end Go.Proofs.YtfiebibpgbadlaaGreat
namespace Go.Proofs.YtfiebibpgbadlaaGreat
open Go.RowKit
set_option linter.unusedVariables false
set_option linter.unusedSimpArgs false

attribute [local go_sem] run_store_float

def icells (items : List Item) : List Value := items.flatMap icell
def fv : Value := .func (.func 74) #[] #[]

/-- What waits. -/
structure QAt (w : World) (base qb : Nat) (iv : Value) (items : List Item) : Prop where
  blk : w.heap[qb]? = some (.cells #[iv, .func (.func 74) #[] #[]] 165 (0, 0))
  own : w.ownsRow base 134 4 iv items.length (icells items)

theorem length_icells (R : List Item) : (icells R).length = R.length * 4 := by
  induction R with
  | nil => rfl
  | cons r R ih => simp [icells, icell, List.flatMap_cons] at *; omega
theorem icells_at (R : List Item) (i : Nat) (h : i < R.length) : (icells R)[i * 4]? = some (.string ⟨(R[i]).1.toArray⟩) ∧ (icells R)[i * 4 + 1]? = some (.string ⟨(R[i]).2.1.toArray⟩) ∧
    (icells R)[i * 4 + 2]? = some (.float .f64 (R[i]).2.2.1) ∧ (icells R)[i * 4 + 3]? = some (.int .i64 (R[i]).2.2.2) := by
  induction R generalizing i with
  | nil => simp at h
  | cons r R ih =>
    have e : icells (r :: R) = Value.string ⟨r.1.toArray⟩ :: Value.string ⟨r.2.1.toArray⟩ :: Value.float .f64 r.2.2.1 :: Value.int .i64 r.2.2.2 :: icells R := rfl
    cases i with
    | zero => rw [e]; simp
    | succ i =>
      have := ih i (by simpa using h)
      rw [e, show (i + 1) * 4 = i * 4 + 4 by omega]
      simpa using this

theorem QAt.shape {w : World} {base qb : Nat} {iv : Value} {items : List Item} (h : QAt w base qb iv items) : ∃ sa cap, iv = .slice sa items.length cap := by
  rcases h.own.2 with ⟨h1, h2⟩ | ⟨g, cap, cur, h1, _⟩
  · exact ⟨none, 0, by rw [h1, h2]⟩
  · exact ⟨_, _, h1⟩

theorem QAt.read {w : World} {base qb : Nat} {iv : Value} {items : List Item} (h : QAt w base qb iv items) (hp : 0 < items.length) :
    ∃ g cap cur, iv = .slice (some ⟨g, 0, none⟩) items.length cap ∧ base ≤ g ∧ w.heap[g]? = some (.cells cur 134 (0, 0)) ∧ items.length ≤ cap ∧ cap ≤ maxLen ∧ cur.size = cap * 4 ∧ cur.toList.take (items.length * 4) = icells items := by
  rcases h.own.2 with ⟨h1, h2⟩ | ⟨g, cap, cur, h1, hb, hg, hn, hm, hsz, ht⟩
  · omega
  · exact ⟨g, cap, cur, h1, hb, hg, hn, hm, hsz, ht⟩

theorem cell_item {w : World} {g : Nat} {cur : Array Value} {items : List Item} {n : Nat} (hg : w.heap[g]? = some (.cells cur 134 (0, 0))) (hn : n = items.length * 4) (ht : cur.toList.take n = icells items) {i : Nat} (hi : i < items.length) :
    w.cell? ⟨g, i * 4, none⟩ = some (.string ⟨(items[i]).1.toArray⟩) ∧ w.cell? ⟨g, i * 4 + 1, none⟩ = some (.string ⟨(items[i]).2.1.toArray⟩) ∧
    w.cell? ⟨g, i * 4 + 2, none⟩ = some (.float .f64 (items[i]).2.2.1) ∧ w.cell? ⟨g, i * 4 + 3, none⟩ = some (.int .i64 (items[i]).2.2.2) := by
  obtain ⟨e0, e1, e2, e3⟩ := icells_at items i hi
  rw [← ht] at e0 e1 e2 e3
  rw [List.getElem?_take, if_pos (by omega)] at e0 e1 e2 e3
  rw [cell_of_row w g _ cur _ _ hg, cell_of_row w g _ cur _ _ hg, cell_of_row w g _ cur _ _ hg, cell_of_row w g _ cur _ _ hg]
  exact ⟨by simpa using e0, by simpa using e1, by simpa using e2, by simpa using e3⟩

theorem drew_same (w : World) : SameW w w.drew := ⟨rfl, rfl, rfl, rfl⟩
theorem SameW.trans {a b c : World} (h : SameW a b) (k : SameW b c) : SameW a c := ⟨k.1.trans h.1, k.2.1.trans h.2.1, k.2.2.1.trans h.2.2.1, k.2.2.2.trans h.2.2.2⟩

set_option maxRecDepth 100000 in
set_option maxHeartbeats 3200000 in
theorem swap_walk (w : World) (qb g n cap i j : Nat) (fv a0 a1 a2 a3 b0 b1 b2 b3 : Value) (l1 r1 l2 r2 : ByteArray) (f1 f2 : Nat) (g1 g2 : Int) (hn : n ≤ 1000000000) (hi : i < n) (hj : j < n) (hij : i ≠ j)
    (c0 : w.cell? ⟨qb, 0, none⟩ = some (.slice (some ⟨g, 0, none⟩) n cap)) (hq : qb ≠ g)
    (p0 : w.cell? ⟨g, i * 4, none⟩ = some (.string l1)) (p1 : w.cell? ⟨g, i * 4 + 1, none⟩ = some (.string r1)) (p2 : w.cell? ⟨g, i * 4 + 2, none⟩ = some (.float .f64 f1)) (p3 : w.cell? ⟨g, i * 4 + 3, none⟩ = some (.int .i64 g1))
    (q0 : w.cell? ⟨g, j * 4, none⟩ = some (.string l2)) (q1 : w.cell? ⟨g, j * 4 + 1, none⟩ = some (.string r2)) (q2 : w.cell? ⟨g, j * 4 + 2, none⟩ = some (.float .f64 f2)) (q3 : w.cell? ⟨g, j * 4 + 3, none⟩ = some (.int .i64 g2))
    (hfz : ∀ o, w.frozen? ⟨g, o, none⟩ = false) :
    Calls Tryz.prog 116 #[.pointer (some ⟨qb, 0, none⟩), .int .i64 (i : Int), .int .i64 (j : Int)] w fun e w' => e = .returned (.tuple #[]) ∧ SameW
      ((((((((w.setCell ⟨g, i * 4, none⟩ (.string l2)).setCell ⟨g, i * 4 + 1, none⟩ (.string r2)).setCell ⟨g, i * 4 + 2, none⟩ (.float .f64 f2)).setCell ⟨g, i * 4 + 3, none⟩ (.int .i64 g2)).setCell ⟨g, j * 4, none⟩ (.string l1)).setCell ⟨g, j * 4 + 1, none⟩ (.string r1)).setCell ⟨g, j * 4 + 2, none⟩ (.float .f64 f1)).setCell ⟨g, j * 4 + 3, none⟩ (.int .i64 g1)) w' := by
  have hiI : (i : Int) < (n : Int) := by omega
  have hjI : (j : Int) < (n : Int) := by omega
  go_enter Tryz.func116, Tryz.ntmps116
  go_wp2
  go_region
  all_goals go_end0
  all_goals exact ⟨rfl, drew_same _⟩

end Go.Proofs.YtfiebibpgbadlaaGreat
namespace Go.Proofs.YtfiebibpgbadlaaGreat
open Go.RowKit
set_option linter.unusedVariables false
set_option linter.unusedSimpArgs false
attribute [local go_sem] run_store_float

theorem icells_set (R : List Item) (i : Nat) (p : Item) (h : i < R.length) :
    ((((icells R).set (i * 4) (.string ⟨p.1.toArray⟩)).set (i * 4 + 1) (.string ⟨p.2.1.toArray⟩)).set (i * 4 + 2) (.float .f64 p.2.2.1)).set (i * 4 + 3) (.int .i64 p.2.2.2) = icells (R.set i p) := by
  induction R generalizing i with
  | nil => simp at h
  | cons r R ih =>
    have e : ∀ r : Item, ∀ R, icells (r :: R) = Value.string ⟨r.1.toArray⟩ :: Value.string ⟨r.2.1.toArray⟩ :: Value.float .f64 r.2.2.1 :: Value.int .i64 r.2.2.2 :: icells R := fun _ _ => rfl
    cases i with
    | zero => rw [List.set_cons_zero, e, e]; simp
    | succ i =>
      have := ih i (by simpa using h)
      rw [List.set_cons_succ, e, e, show (i + 1) * 4 = i * 4 + 4 by omega, ← this]
      simp

theorem item_eta (p : Item) : p = (p.1, p.2.1, p.2.2.1, p.2.2.2) := rfl

def swapL (R : List Item) (i j : Nat) (hi : i < R.length) (hj : j < R.length) : List Item := (R.set i R[j]).set j R[i]

theorem mem_swapL (R : List Item) (i j : Nat) (hi : i < R.length) (hj : j < R.length) (e : Item) : e ∈ swapL R i j hi hj ↔ e ∈ R := by
  unfold swapL
  constructor
  · intro h
    rcases List.mem_or_eq_of_mem_set h with h | rfl
    · rcases List.mem_or_eq_of_mem_set h with h | rfl
      · exact h
      · exact List.getElem_mem hj
    · exact List.getElem_mem hi
  · intro h
    obtain ⟨k, hk, rfl⟩ := List.getElem_of_mem h
    rw [List.mem_iff_getElem]
    by_cases hkj : k = j
    · subst hkj
      by_cases hik : i = k
      · subst hik
        exact ⟨i, by simpa using hk, by simp⟩
      · refine ⟨i, by simpa using hi, ?_⟩
        rw [List.getElem_set_ne (by omega), List.getElem_set_self]
    · by_cases hki : k = i
      · subst hki
        exact ⟨j, by simpa using hj, by simp⟩
      · refine ⟨k, by simpa using hk, ?_⟩
        rw [List.getElem_set_ne (by omega), List.getElem_set_ne (by omega)]

/-- cells of a row, set one after the other. -/
theorem row_set4 {w : World} {g k : Nat} {cur : Array Value} {t : TypeId} {items : List Item} {n : Nat} (p : Item) (hg : w.heap[g]? = some (.cells cur t (0, 0))) (hn : n = items.length * 4) (ht : cur.toList.take n = icells items) (hk : k < items.length) :
    ∃ cur', ((((w.setCell ⟨g, k * 4, none⟩ (.string ⟨p.1.toArray⟩)).setCell ⟨g, k * 4 + 1, none⟩ (.string ⟨p.2.1.toArray⟩)).setCell ⟨g, k * 4 + 2, none⟩ (.float .f64 p.2.2.1)).setCell ⟨g, k * 4 + 3, none⟩ (.int .i64 p.2.2.2)).heap[g]? = some (.cells cur' t (0, 0)) ∧
      cur'.size = cur.size ∧ cur'.toList.take n = icells (items.set k p) := by
  refine ⟨_, heap_setCell_same _ g _ _ _ _ (heap_setCell_same _ g _ _ _ _ (heap_setCell_same _ g _ _ _ _ (heap_setCell_same w g _ _ _ _ hg))), by simp, ?_⟩
  simp only [Array.toList_setIfInBounds, List.take_set]
  rw [ht]
  exact icells_set items k p hk

theorem swap_any (w : World) (base qb i j : Nat) (iv : Value) (items : List Item) (hn : items.length ≤ 1000000000) (hi : i < items.length) (hj : j < items.length) (hij : i ≠ j) (hQ : QAt w base qb iv items) :
    Calls Tryz.prog 116 #[.pointer (some ⟨qb, 0, none⟩), .int .i64 (i : Int), .int .i64 (j : Int)] w fun e w' => e = .returned (.tuple #[]) ∧ Kept iv.ownBlock.toList w w' ∧ ∃ items', items'.length = items.length ∧ (∀ e, e ∈ items' ↔ e ∈ items) ∧ QAt w' base qb iv items' := by
  obtain ⟨g, cap, cur, rfl, hbg, hg, hnc, hcm, hsz, ht⟩ := hQ.read (by omega)
  obtain ⟨p0, p1, p2, p3⟩ := cell_item hg rfl ht hi
  obtain ⟨q0, q1, q2, q3⟩ := cell_item hg rfl ht hj
  have hqg : qb ≠ g := by rintro rfl; rw [hQ.blk] at hg; simp at hg
  refine (swap_walk w qb g items.length cap i j fv fv fv fv fv fv fv fv fv _ _ _ _ _ _ _ _ hn hi hj hij (cellAt hQ.blk rfl) hqg p0 p1 p2 p3 q0 q1 q2 q3 (fun o => frozen_of_row w g o _ _ hg)).mono ?_
  rintro e w' ⟨rfl, hal⟩
  obtain ⟨cur1, h1, hs1, ht1⟩ := row_set4 (items[j]) hg rfl ht hi
  obtain ⟨cur2, h2, hs2, ht2⟩ := row_set4 (items[i]) h1 (items := items.set i items[j]) (by simp) ht1 (by simpa using hj)
  have hK : Kept [g] w w' := by
    exact Kept.trans (((((((((Kept.refl [g] w).setCell (Or.inl (by simp)) _).setCell (Or.inl (by simp)) _).setCell (Or.inl (by simp)) _).setCell (Or.inl (by simp)) _).setCell (Or.inl (by simp)) _).setCell (Or.inl (by simp)) _).setCell (Or.inl (by simp)) _).setCell (Or.inl (by simp)) _) (hal.kept [g])
  refine ⟨rfl, by simpa [Value.ownBlock] using hK, swapL items i j hi hj, by simp [swapL], mem_swapL items i j hi hj, hK.at hQ.blk (by simpa using hqg), ?_⟩
  have hlen : (swapL items i j hi hj).length = items.length := by simp [swapL]
  rw [hlen]
  refine ⟨by rw [length_icells, hlen], .inr ⟨g, cap, cur2, rfl, hbg, ?_, hnc, hcm, by rw [hs2, hs1]; exact hsz, ?_⟩⟩
  · rw [hal.1]; exact h2
  · exact ht2
end Go.Proofs.YtfiebibpgbadlaaGreat
