import Derived.Test.YtfiebibpgbadlaaGreatRefA
import Derived.Laws.IdiomStrings
import Derived.Test.YtfiebibpgbadlaaGreatProgB
namespace Hw
/-- what label makes of a number. -/
def lab (n : Nat) (acc : Wd) : Wd := if _h : n = 0 then acc else lab (n / 10) (acc ++ [UInt8.ofNat (48 + n % 10)])
termination_by n
decreasing_by omega
theorem lab_zero (acc : Wd) : lab 0 acc = acc := by rw [lab]; simp
theorem lab_succ {n : Nat} (h : n ≠ 0) (acc : Wd) : lab n acc = lab (n / 10) (acc ++ [UInt8.ofNat (48 + n % 10)]) := by rw [lab]; simp [h]
end Hw
namespace Go.Proofs.YtfiebibpgbadlaaGreat
open Go.RowKit
set_option linter.unusedVariables false
set_option linter.unusedSimpArgs false

theorem conv_digit (j : Nat) (W : World) : (convert 100 9 (.slice (some ⟨W.heap.size, 0, none⟩) 1 1)).run Tryz.prog (W.alloc (.cells #[.int .u8 (48 + (j : Int) % 10)] 5)) = .ok (.string ⟨#[UInt8.ofNat (48 + j % 10)]⟩) (W.alloc (.cells #[.int .u8 (48 + (j : Int) % 10)] 5)) := by
  have h := run_convert_bytes_back (P := Tryz.prog) (W.alloc (.cells #[.int .u8 (48 + (j : Int) % 10)] 5)) 100 9 5 ⟨W.heap.size, 0, none⟩ 1 [UInt8.ofNat (48 + j % 10)] Tryz.underlying100 Tryz.underlying5 Tryz.underlying9 (fun i hi => by
    have h0 : i = 0 := by simp at hi; omega
    subst h0
    have hadd : (⟨W.heap.size, 0, none⟩ : Addr).add 0 = ⟨W.heap.size, 0, none⟩ := by unfold Addr.add; split <;> simp_all
    rw [hadd, cellAt (heap_alloc_new W _) (j := 0) rfl]
    simp only [List.getElem_cons_zero]
    rw [show (UInt8.ofNat (48 + j % 10)).toNat = 48 + j % 10 by simp; omega]
    simp)
  exact h

set_option maxRecDepth 20000 in
set_option maxHeartbeats 1600000 in
theorem label_any (n : Nat) (w : World) (hn : n ≤ 1099511627776) :
    Calls Tryz.prog 28 #[.int .i64 (n : Int)] w fun e w' => e = .returned (.string ⟨(Hw.lab n [35]).toArray⟩) ∧ Below w.heap.size w w' := by
  go_enter Tryz.func28, Tryz.ntmps28
  go_wp2_with fail
  go_loopw [0, 3] (fun nv sv wr => ∃ (j : Nat) (acc : Hw.Wd), nv = .int .i64 (j : Int) ∧ sv = .string ⟨acc.toArray⟩ ∧ j ≤ n ∧ acc.length + j ≤ n + 1 ∧ Hid (Hw.lab j acc = Hw.lab n [35]) ∧ Hid (Below w.heap.size w wr)) (fun nv _ _ => (intOf nv).toNat)
  case atStart => exact ⟨n, [35], rfl, rfl, Nat.le_refl _, by simp; omega, hide rfl, hide (Below.refl _ _)⟩
  case round =>
    obtain ⟨j, acc, rfl, rfl, hj, hl, hlab, hb⟩ := hrel
    by_cases h0 : j = 0
    · subst h0
      have HE := hlab.out
      rw [Hw.lab_zero] at HE
      subst HE
      go_wp2
      go_ret
      exact ⟨rfl, hb.out⟩
    · have hpos : (0 : Int) < (j : Int) := by omega
      have HL : Hid (Hw.lab (j / 10) (acc ++ [UInt8.ofNat (48 + j % 10)]) = Hw.lab n [35]) := by rw [← hlab.out, ← Hw.lab_succ h0]; exact hide rfl
      have hcv := conv_digit j wr
      have hvc : (⟨acc.toArray⟩ : ByteArray) ++ (⟨#[UInt8.ofNat (48 + j % 10)]⟩ : ByteArray) = ⟨(acc ++ [UInt8.ofNat (48 + j % 10)]).toArray⟩ := ByteArray.mk_append_mk acc [UInt8.ofNat (48 + j % 10)]
      have HVC := hide hvc
      clear hvc
      have hlen : acc.length + 1 ≤ n + 1 := by omega
      have hadd : ¬ (9223372036854775807 < acc.length + 1) := by omega
      generalize UInt8.ofNat (48 + j % 10) = ch at *
      go_wp2
      go_roundw
      case rel => exact ⟨j / 10, acc ++ [ch], by simp, by rw [HVC.out], by omega, by simp; omega, HL, hide (hb.out.alloc hb.out.size _)⟩
      case measure => simp [intOf]; omega
end Go.Proofs.YtfiebibpgbadlaaGreat
namespace Go.Proofs.YtfiebibpgbadlaaGreat
open Go.RowKit
set_option linter.unusedVariables false
set_option linter.unusedSimpArgs false

/-- values laid one behind the other. -/
def putAll (a : Array Value) (p : Nat) : List Value → Array Value
  | [] => a
  | v :: vs => putAll (a.setIfInBounds p v) (p + 1) vs
theorem size_putAll : ∀ (vs : List Value) (a : Array Value) (p : Nat), (putAll a p vs).size = a.size
  | [], a, p => rfl
  | v :: vs, a, p => by rw [putAll, size_putAll]; simp
theorem putAll_out : ∀ (vs : List Value) (a : Array Value) (p q : Nat), (q < p ∨ p + vs.length ≤ q) → (putAll a p vs)[q]? = a[q]?
  | [], a, p, q, _ => rfl
  | v :: vs, a, p, q, h => by
    rw [putAll, putAll_out vs _ _ q (by simp at h; omega)]
    rw [Array.getElem?_setIfInBounds_ne (by simp at h; omega)]
theorem putAll_in : ∀ (vs : List Value) (a : Array Value) (p j : Nat), j < vs.length → p + vs.length ≤ a.size → (putAll a p vs)[p + j]? = vs[j]?
  | [], a, p, j, h, _ => by simp at h
  | v :: vs, a, p, 0, h, hs => by
    rw [putAll, putAll_out vs _ _ _ (by omega)]
    simp at hs
    simp [Array.getElem?_setIfInBounds]
    omega
  | v :: vs, a, p, j + 1, h, hs => by
    rw [putAll, show p + (j + 1) = p + 1 + j by omega, putAll_in vs _ _ j (by simpa using h) (by simp at hs ⊢; omega)]
    simp

/-- n elements, each of them written full. -/
def fill (a : Array Value) (o : Nat) (mk : List Value) : Nat → Array Value
  | 0 => a
  | n + 1 => putAll (fill a o mk n) (o + n * mk.length) mk
theorem size_fill (a : Array Value) (o : Nat) (mk : List Value) (n : Nat) : (fill a o mk n).size = a.size := by
  induction n with
  | zero => rfl
  | succ n ih => rw [fill, size_putAll, ih]
theorem fill_out (a : Array Value) (o : Nat) (mk : List Value) (n q : Nat) (h : q < o ∨ o + n * mk.length ≤ q) : (fill a o mk n)[q]? = a[q]? := by
  induction n with
  | zero => rfl
  | succ n ih =>
    rw [Nat.add_mul] at h
    rw [fill, putAll_out _ _ _ _ (by omega), ih (by omega)]
theorem fill_in (a : Array Value) (o : Nat) (mk : List Value) (n i j : Nat) (hi : i < n) (hj : j < mk.length) (hs : o + n * mk.length ≤ a.size) : (fill a o mk n)[o + i * mk.length + j]? = mk[j]? := by
  induction n with
  | zero => omega
  | succ n ih =>
    rw [Nat.add_mul, Nat.one_mul] at hs
    rcases Nat.lt_or_ge i n with h | h
    · have h1 : i * mk.length + mk.length ≤ n * mk.length := by
        have := Nat.mul_le_mul_right mk.length (show i + 1 ≤ n by omega)
        rw [Nat.add_mul] at this; omega
      rw [fill, putAll_out _ _ _ _ (by omega), ih h (by omega)]
    · have e : i = n := by omega
      subst e
      rw [fill, putAll_in _ _ _ j hj (by rw [size_fill]; omega)]

/-- A list that its owner has written full. -/
def Marked1 (w : World) (ty : TypeId) (mk : List Value) (v : Value) : Prop :=
  ∃ sa n cap, v = .slice sa n cap ∧ n ≤ 1000000 ∧ (0 < n → ∃ g o cur, sa = some ⟨g, o, none⟩ ∧ w.heap[g]? = some (.cells cur ty (0, 0)) ∧ ∀ i, i < n → ∀ j, j < mk.length → cur[o + i * mk.length + j]? = mk[j]?)
/-- .. all of them, each with a mark of its own. -/
def Marked (w : World) (ty : TypeId) (mk : Nat → List Value) (vs : List Value) : Prop := ∀ k v, vs[k]? = some v → Marked1 w ty (mk k) v

theorem Marked1.kept {w w' : World} {ty : TypeId} {mk : List Value} {v : Value} {S : List Nat} (h : Marked1 w ty mk v) (hK : Kept S w w') (hS : ∀ k, k ∈ S → ∀ c fr, w.heap[k]? ≠ some (.cells c ty fr)) : Marked1 w' ty mk v := by
  obtain ⟨sa, n, cap, hv, hn, h⟩ := h
  refine ⟨sa, n, cap, hv, hn, fun h0 => ?_⟩
  obtain ⟨g, o, cur, h1, h2, h3⟩ := h h0
  exact ⟨g, o, cur, h1, hK.at h2 (fun hm => hS g hm _ _ h2), h3⟩

/-- the same list, in a block of which only other cells are written. -/
theorem Marked1.fill {w w' : World} {ty : TypeId} {mk : List Value} {v : Value} {g o n : Nat} {mk' : List Value} {cur : Array Value} (h : Marked1 w ty mk v) (hg : w.heap[g]? = some (.cells cur ty (0, 0))) (hg' : w'.heap[g]? = some (.cells (Go.Proofs.YtfiebibpgbadlaaGreat.fill cur o mk' n) ty (0, 0)))
    (hK : ∀ k c, k ≠ g → w.heap[k]? = some (.cells c ty (0, 0)) → w'.heap[k]? = some (.cells c ty (0, 0)))
    (hap : ∀ sa n1 cap o1, v = .slice sa n1 cap → sa = some ⟨g, o1, none⟩ → 0 < n1 → o1 + n1 * mk.length ≤ o ∨ o + n * mk'.length ≤ o1) : Marked1 w' ty mk v := by
  obtain ⟨sa, n1, cap, hv, hn, h⟩ := h
  refine ⟨sa, n1, cap, hv, hn, fun h0 => ?_⟩
  obtain ⟨g1, o1, cur1, h1, h2, h3⟩ := h h0
  by_cases e : g1 = g
  · subst e
    rw [hg] at h2
    simp at h2
    subst h2
    refine ⟨g1, o1, _, h1, hg', fun i hi j hj => ?_⟩
    rw [fill_out _ _ _ _ _ ?_]
    · exact h3 i hi j hj
    · have h4 : i * mk.length + mk.length ≤ n1 * mk.length := by
        have := Nat.mul_le_mul_right mk.length (show i + 1 ≤ n1 by omega)
        rw [Nat.add_mul] at this; omega
      rcases hap sa n1 cap o1 hv h1 h0 with h | h <;> omega
  · exact ⟨g1, o1, cur1, h1, hK g1 cur1 e h2, h3⟩

def wblock (bsV rulV linV : Value) : Obj := .cells #[bsV, rulV, linV] 30 (0, 0)
def ruleMark (k : Nat) : List Value := [.string ⟨(Hw.lab k [35]).toArray⟩, .string ⟨#[]⟩]
def lineMark (k : Nat) : List Value := [.int .i64 (-1 - (k : Int)), .string ⟨#[]⟩, .string ⟨#[]⟩, .int .i64 0, .int .i64 0, .int .i64 0, .string ⟨#[]⟩, .string ⟨#[]⟩]
end Go.Proofs.YtfiebibpgbadlaaGreat
