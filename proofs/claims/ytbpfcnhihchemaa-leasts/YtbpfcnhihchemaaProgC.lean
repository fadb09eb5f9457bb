import Derived.Test.YtbpfcnhihchemaaProgB
import Derived.BigRegion
import Derived.Laws.Cover2
import Derived.Laws.FloatArith
namespace Go.Proofs.Ytbpfcnhihchemaa
open Go.RowKit
set_option linter.unusedVariables false
set_option linter.unusedSimpArgs false

abbrev Item := Hw.Wd × Hw.Wd × Nat × Int
def icell (p : Item) : List Value := [Value.string ⟨p.1.toArray⟩, Value.string ⟨p.2.1.toArray⟩, Value.float .f64 p.2.2.1, Value.int .i64 p.2.2.2]
def iagg (p : Item) : Value := .agg #[Value.string ⟨p.1.toArray⟩, Value.string ⟨p.2.1.toArray⟩, Value.float .f64 p.2.2.1, Value.int .i64 p.2.2.2]

theorem lighter_any (l1 r1 l2 r2 : ByteArray) (f1 f2 : Nat) (a1 a2 : Int) (w : World) :
    Calls Try.prog 42 #[.agg #[.string l1, .string r1, .float .f64 f1, .int .i64 a1], .agg #[.string l2, .string r2, .float .f64 f2, .int .i64 a2]] w fun e w' => ∃ b, e = .returned (.bool b) ∧ Below w.heap.size w w' := by
  go_enter Try.func42, Try.ntmps42
  go_wp2
  all_goals go_ret
  all_goals exact ⟨_, rfl, ((Below.refl _ _).alloc (Nat.le_refl _) _).alloc (by simp) _⟩

theorem run_store_float (P : Program) (w : World) (a : Addr) (m : Mode) (k : FloatKind) (n : Nat) : (store a (.float k n) m).run P w = stored P w a (.float k n) m := run_store P w a _ m rfl

theorem run_float_any {P : Program} (w : World) (bop : BinOp) (hb : bop = .add ∨ bop = .quo) (t : TypeId) (k : FloatKind) (x y : Nat) :
    ∃ r n, (binOp bop t (.float k x) (.float k y)).run P w = .ok (.float k r) (w.drewN n) := by
  cases h : floatBits bop k x y with
  | some r => exact ⟨r, 0, run_float_arith w bop t k x y r h⟩
  | none =>
    rcases hb with rfl | rfl
    · have h' : k.format.add x y = none := h
      exact ⟨_, 1, by simp [binOp, Op.floatArith, h']; rfl⟩
    · have h' : k.format.div x y = none := h
      exact ⟨_, 1, by simp [binOp, Op.floatArith, h']; rfl⟩

theorem wpList_float {P : Program} (w : World) {ops : Array Oper} {rest : List Oper} {o : Oper} {a : Act} {Q : Exit → Act → World → Prop}
    (hg : o.guard = none) (bop : BinOp) (hb : bop = .add ∨ bop = .quo) (t t2 : TypeId) (s x : Operand) (hop : o.op = Op.binOp bop t s x t2) (k : FloatKind) (fx fy : Nat) (hs : a.eval s = .float k fx) (hx : a.eval x = .float k fy)
    (hK : ∀ r n, wpList P ops Q rest (a.put o.dst (.float k r)) (w.drewN n)) : wpList P ops Q (o :: rest) a w := by
  refine wpList_plain hg fun K hK' => ?_
  obtain ⟨r, n, hrun⟩ := run_float_any (P := P) w bop hb t k fx fy
  unfold Oper.wp
  have hne : bop ≠ .shl ∧ bop ≠ .shr := by rcases hb with rfl | rfl <;> simp
  rcases hb with rfl | rfl <;> simp [execOp, eqGuard, hop, hs, hx, hrun, Result.andThen] <;> exact hK' _ _ (hK r n)

set_option maxRecDepth 100000 in
theorem weigh_any (l r : ByteArray) (a : Int) (w : World) (hl : l.size ≤ 6) (hr : r.size ≤ 6) :
    Calls Try.prog 50 #[.string l, .string r, .int .i64 a] w fun e w' => ∃ b n, e = .returned (.float .f64 b) ∧ w' = w.drewN n := by
  have h1 := fun W => run_convert_int_float (P := Try.prog) W 3 89 .i64 .f64 l.size (by rw [Try.underlying3]; rfl) Try.underlying89
  have h2 := fun W => run_convert_int_float (P := Try.prog) W 3 89 .i64 .f64 r.size (by rw [Try.underlying3]; rfl) Try.underlying89
  have h3 := fun W => run_convert_int_float (P := Try.prog) W 3 89 .i64 .f64 a (by rw [Try.underlying3]; rfl) Try.underlying89
  generalize floatOfInt .f64 (l.size : Int) = x1 at h1
  generalize floatOfInt .f64 (r.size : Int) = x2 at h2
  generalize floatOfInt .f64 a = x3 at h3
  go_enter Try.func50, Try.ntmps50
  go_wp2_with (first
    | (refine wpList_float _ rfl .quo (Or.inr rfl) 89 89 (.tmp 12) (.const (Value.float FloatKind.f64 4611686018427387904)) rfl .f64 _ _ rfl rfl ?_; intro r1 n1)
    | (refine wpList_float _ rfl .add (Or.inl rfl) 89 89 (.tmp 9) (.tmp 13) rfl .f64 _ _ rfl rfl ?_; intro r2 n2)
    | (refine wpList_float _ rfl .quo (Or.inr rfl) 89 89 (.tmp 16) (.const (Value.float FloatKind.f64 4634204016564240384)) rfl .f64 _ _ rfl rfl ?_; intro r3 n3)
    | (refine wpList_float _ rfl .add (Or.inl rfl) 89 89 (.tmp 14) (.tmp 17) rfl .f64 _ _ rfl rfl ?_; intro r4 n4))
  go_ret
  exact ⟨_, _, rfl, rfl⟩

theorem qnew_any (g : Nat) (w : World) :
    Calls Try.prog 41 #[.func (.func g) #[] #[]] w fun e w' => e = .returned (.pointer (some ⟨w.heap.size, 0, none⟩)) ∧ w' = w.alloc (.cells #[.slice none 0 0, .func (.func g) #[] #[]] 102) := by
  go_enter Try.func41, Try.ntmps41
  go_wp2
  go_ret
  exact ⟨rfl, rfl⟩
end Go.Proofs.Ytbpfcnhihchemaa
