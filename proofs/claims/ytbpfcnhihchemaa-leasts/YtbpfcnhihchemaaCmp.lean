import Derived.Test.YtbpfcnhihchemaaWords
import Derived.Lib.Bytealg
import Derived.Lib.Small
namespace Hw
set_option linter.unusedVariables false
set_option linter.unusedSimpArgs false
/-! how two words stand -/
theorem fold_cons (L : Nat) (c : UInt8) (s : Wd) : fold L (c :: s) = (c.toNat - 97 + 1) * L ^ s.length + fold L s := by
  unfold fold
  rw [List.foldl_cons, foldl_eq]
  have : 0 * L + (c.toNat - 97) + 1 = c.toNat - 97 + 1 := by omega
  rw [this]; rfl

theorem fold_bounds {L : Nat} (hL1 : 1 ≤ L) (hL : L ≤ 3) (s : Wd) (h : s.all (okc L) = true) : off L s.length ≤ fold L s ∧ fold L s < off L s.length + L ^ s.length := fold_range hL s h

theorem compare_same {L : Nat} (hL1 : 1 ≤ L) (hL : L ≤ 3) : ∀ (s t : Wd), s.all (okc L) = true → t.all (okc L) = true → s.length = t.length →
    Go.Lib.compareBytes s t = if fold L s < fold L t then -1 else if fold L t < fold L s then 1 else 0
  | [], [], _, _, _ => by simp [Go.Lib.compareBytes]
  | [], _ :: _, _, _, h => by simp at h
  | _ :: _, [], _, _, h => by simp at h
  | a :: s, b :: t, hs, ht, hl => by
    rw [List.all_cons, Bool.and_eq_true] at hs ht
    have hl' : s.length = t.length := by simpa using hl
    have ih := compare_same hL1 hL s t hs.2 ht.2 hl'
    have hbs := fold_bounds hL1 hL s hs.2
    have hbt := fold_bounds hL1 hL t ht.2
    have ha := hs.1; have hb := ht.1
    simp [okc] at ha hb
    unfold Go.Lib.compareBytes
    rw [fold_cons, fold_cons, hl'] 
    rw [hl'] at hbs
    generalize hP : L ^ t.length = P at *
    have hP1 : 1 ≤ P := by rw [← hP]; exact Nat.one_le_pow _ _ hL1
    by_cases hab : a < b
    · rw [if_pos hab]
      have h1 : a.toNat < b.toNat := UInt8.lt_iff_toNat_lt.1 hab
      have h2 : (a.toNat - 97 + 1) * P + P ≤ (b.toNat - 97 + 1) * P := by
        have : (a.toNat - 97 + 1 + 1) * P ≤ (b.toNat - 97 + 1) * P := Nat.mul_le_mul_right _ (by omega)
        rw [Nat.add_mul (a.toNat - 97 + 1) 1] at this; omega
      rw [if_pos (by omega)]
    · rw [if_neg hab]
      by_cases hba : b < a
      · rw [if_pos hba]
        have h1 : b.toNat < a.toNat := UInt8.lt_iff_toNat_lt.1 hba
        have h2 : (b.toNat - 97 + 1) * P + P ≤ (a.toNat - 97 + 1) * P := by
          have : (b.toNat - 97 + 1 + 1) * P ≤ (a.toNat - 97 + 1) * P := Nat.mul_le_mul_right _ (by omega)
          rw [Nat.add_mul (b.toNat - 97 + 1) 1] at this; omega
        rw [if_neg (by omega), if_pos (by omega)]
      · rw [if_neg hba, ih]
        have hc : a.toNat = b.toNat := by
          have h1 : ¬ a.toNat < b.toNat := fun h => hab (UInt8.lt_iff_toNat_lt.2 h)
          have h2 : ¬ b.toNat < a.toNat := fun h => hba (UInt8.lt_iff_toNat_lt.2 h)
          omega
        rw [hc]
        simp only [Nat.add_lt_add_iff_left]

def stand (L : Nat) (s t : Wd) : Nat := if fold L s < fold L t then 1 else if fold L t < fold L s then 2 else 0

theorem orInt (L : Nat) {s t : Wd} (hL1 : 1 ≤ L) (hL : L ≤ 3) (hs : s.all (okc L) = true) (ht : t.all (okc L) = true) :
    (if Go.Lib.compareInt s.length t.length = 0 then Go.Lib.compareBytes s t else Go.Lib.compareInt s.length t.length) = if fold L s < fold L t then -1 else if fold L t < fold L s then 1 else 0 := by
  unfold Go.Lib.compareInt
  by_cases h1 : (s.length : Int) < t.length
  · have := fold_lt_of_length hL hs ht (by omega)
    simp [h1, this]
  · by_cases h2 : (t.length : Int) < s.length
    · have := fold_lt_of_length hL ht hs (by omega)
      simp [h1, h2, this]; omega
    · have hl : s.length = t.length := by omega
      have h3 : ¬ (s.length : Int) > t.length := by omega
      rw [if_neg h1, if_neg h3, if_pos rfl]
      exact compare_same hL1 hL s t hs ht hl
end Hw
