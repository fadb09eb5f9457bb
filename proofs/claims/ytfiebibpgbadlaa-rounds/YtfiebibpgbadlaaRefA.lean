import Derived.Test.YtfiebibpgbadlaaProg
import Derived.Test.YtfiebibpgbadlaaWd
import Derived.Test.YtfiebibpgbadlaaMe
import Derived.WalkKit
import Derived.Deep.QuietTactic
import Derived.BigQuiet
import Derived.Deep.LoopGhost
namespace Go.Proofs.Ytfiebibpgbadlaa
open Go.RowKit
set_option linter.unusedVariables false
set_option linter.unusedSimpArgs false

theorem ret_bool {a b : Bool} (h : a = b) : Ending.returned (.bool a) = .returned (.bool b) := by rw [h]
theorem ret_int {k : IntKind} {a b : Int} (h : a = b) : Ending.returned (.int k a) = .returned (.int k b) := by rw [h]
theorem drewN2 (w : World) (n m : Nat) : ∃ k, (w.drewN n).drewN m = w.drewN k := ⟨n + m, by simp⟩

theorem isWord_bad {L M : Nat} {s : ByteArray} {k : Nat} (h : k < s.size) (hc : Hw.okc L s[k] = false) : false = Hw.isWord L M s.data.toList := by
  have := Hw.not_all_of (Hw.okc L) s.data.toList k (by simpa using h) hc
  simp [Hw.isWord, this]
theorem okc_low {L : Nat} {c : UInt8} (h : (c.toNat : Int) < 97) : Hw.okc L c = false := by simp [Hw.okc]; omega
theorem okc_high {L : Nat} {c : UInt8} (h : ¬ (c.toNat : Int) - 97 < L) : Hw.okc L c = false := by simp [Hw.okc]; omega
theorem okc_good {L : Nat} {c : UInt8} (h : ¬ (c.toNat : Int) < 97) (h' : (c.toNat : Int) - 97 < L) : Hw.okc L c = true := by simp [Hw.okc]; omega
theorem isWord_step {L : Nat} {s : ByteArray} {k : Nat} (h : k < s.size) (ha : (s.data.toList.take k).all (Hw.okc L) = true) (hc : Hw.okc L s[k] = true) :
    (s.data.toList.take (k + 1)).all (Hw.okc L) = true := by
  have e : s.data.toList[k]'(by simpa using h) = s[k] := rfl
  rw [Hw.all_take_succ _ _ k (by simpa using h), ha, e, hc]; rfl
theorem isWord_end {L M : Nat} {s : ByteArray} {k : Nat} (h : ¬ k < s.size) (ha : (s.data.toList.take k).all (Hw.okc L) = true) :
    decide (s.size ≤ M) = Hw.isWord L M s.data.toList := by
  rw [List.take_of_length_le (by simp; omega)] at ha
  simp [Hw.isWord, ha]

theorem fold_step {L : Nat} {s : ByteArray} {k : Nat} (h : k < s.size) (hc : Hw.okc L s[k] = true) :
    ((Hw.fold L (s.data.toList.take k) : Int) * L + ((s[k].toNat : Int) - 97) + 1) = (Hw.fold L (s.data.toList.take (k + 1)) : Nat) := by
  have e : s.data.toList[k]'(by simpa using h) = s[k] := rfl
  rw [Hw.take_snoc _ k (by simpa using h), Hw.fold_snoc, e]
  simp [Hw.okc] at hc
  omega

theorem fold_bound {L M : Nat} {s : ByteArray} {k : Nat} (hL3 : L ≤ 3) (hM6 : M ≤ 6) (hw : Hw.isWord L M s.data.toList = true) : Hw.fold L (s.data.toList.take k) ≤ 4096 := by
  simp only [Hw.isWord, Bool.and_eq_true, decide_eq_true_eq] at hw
  have h1 : (s.data.toList.take k).all (Hw.okc L) = true := by
    rw [List.all_eq_true] at hw ⊢
    exact fun x hx => hw.1 x (List.mem_of_mem_take hx)
  have h2 := Hw.fold_lt L _ h1
  have h3 : (s.data.toList.take k).length ≤ 6 := by rw [List.length_take]; omega
  have h4 : (L + 1) ^ (s.data.toList.take k).length ≤ 4 ^ 6 :=
    Nat.le_trans (Nat.pow_le_pow_left (by omega) _) (Nat.pow_le_pow_right (by omega) h3)
  omega

theorem index_end {L : Nat} {s : ByteArray} {k : Nat} (h : ¬ k < s.size) (h1 : ¬ L = 1) : (Hw.fold L (s.data.toList.take k) : Int) = Hw.index L s.data.toList := by
  rw [List.take_of_length_le (by simp; omega)]
  simp [Hw.index, h1]

end Go.Proofs.Ytfiebibpgbadlaa
