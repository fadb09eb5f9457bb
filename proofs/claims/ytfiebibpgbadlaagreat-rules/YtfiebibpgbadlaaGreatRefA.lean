import Derived.Test.YtfiebibpgbadlaaGreatProg
import Derived.Test.YtfiebibpgbadlaaGreatWd
import Derived.Test.YtfiebibpgbadlaaGreatMe
import Derived.WalkKit
import Derived.Deep.QuietTactic
import Derived.BigQuiet
import Derived.Deep.LoopGhost
namespace Go.Proofs.YtfiebibpgbadlaaGreat
open Go.RowKit
set_option linter.unusedVariables false
set_option linter.unusedSimpArgs false

theorem ret_bool {a b : Bool} (h : a = b) : Ending.returned (.bool a) = .returned (.bool b) := by rw [h]
theorem ret_int {k : IntKind} {a b : Int} (h : a = b) : Ending.returned (.int k a) = .returned (.int k b) := by rw [h]
theorem drewN2 (w : World) (n m : Nat) : ∃ k, (w.drewN n).drewN m = w.drewN k := ⟨n + m, by simp⟩

theorem isWord_bad {L M : Nat} {s : ByteArray} {k : Nat} (h : k < s.size) (hc : Hw.okc L s[k] = false) : false = Hw.isWord L M s.data.toList := by
  have := Hw.not_all_of (Hw.okc L) s.data.toList k (by simpa using h) hc
  simp [Hw.isWord, this]
theorem okc_low {L : Nat} {c : UInt8} (h : (c.toNat : Int) < 97) : Hw.okc L c = false := by simp [Hw.okc]; omega
theorem okc_high {L : Nat} {c : UInt8} (h : ¬ (c.toNat : Int) - 97 < L) : Hw.okc L c = false := by simp [Hw.okc]; omega
theorem okc_good {L : Nat} {c : UInt8} (h : ¬ (c.toNat : Int) < 97) (h' : (c.toNat : Int) - 97 < L) : Hw.okc L c = true := by simp [Hw.okc]; omega
theorem isWord_step {L : Nat} {s : ByteArray} {k : Nat} (h : k < s.size) (ha : (s.data.toList.take k).all (Hw.okc L) = true) (hc : Hw.okc L s[k] = true) :
    (s.data.toList.take (k + 1)).all (Hw.okc L) = true := by
  have e : s.data.toList[k]'(by simpa using h) = s[k] := rfl
  rw [Hw.all_take_succ _ _ k (by simpa using h), ha, e, hc]; rfl
theorem isWord_end {L M : Nat} {s : ByteArray} {k : Nat} (h : ¬ k < s.size) (ha : (s.data.toList.take k).all (Hw.okc L) = true) :
    decide (s.size ≤ M) = Hw.isWord L M s.data.toList := by
  rw [List.take_of_length_le (by simp; omega)] at ha
  simp [Hw.isWord, ha]

set_option maxHeartbeats 400000 in
theorem isWord_any (s : ByteArray) (L M b : Nat) (w : World) (hs : s.size ≤ maxLen) (hL1 : 1 ≤ L) (hL3 : L ≤ 3) (hM6 : M ≤ 6)
    (cL : w.cell? ⟨b, 0, none⟩ = some (.int .i64 L)) (cM : w.cell? ⟨b, 1, none⟩ = some (.int .i64 M)) :
    Calls Tryz.prog 64 #[.pointer (some ⟨b, 0, none⟩), .string s] w fun e w' => e = .returned (.bool (Hw.isWord L M s.data.toList)) ∧ ∃ n, w' = w.drewN n := by
  unfold maxLen at hs
  go_enter Tryz.func64, Tryz.ntmps64
  go_wp2
  go_loopw [5] (fun i wr => ∃ k n : Nat, k ≤ s.size ∧ i = .int .i64 k ∧ wr = w.drewN n ∧ Hid ((s.data.toList.take k).all (Hw.okc L) = true)) (fun i _ => s.size - (intOf i).toNat)
  case atStart => exact ⟨0, 0, Nat.zero_le _, rfl, rfl, by simp [Hid]⟩
  case round =>
    obtain ⟨k, n, hk, rfl, rfl, hall⟩ := hrel
    by_cases hlt : k < s.size
    · have hltI : (k : Int) < (s.size : Int) := by omega
      have hlen : k < s.data.toList.length := by simpa using hlt
      have hc255 : s[k].toNat < 256 := s[k].toNat_lt
      by_cases h97 : (s[k].toNat : Int) < 97
      · go_wp2
        go_quiet (fail)
        go_wp2
        go_ret
        exact ⟨ret_bool (isWord_bad hlt (okc_low h97)), drewN2 _ _ _⟩
      · have hd : decide ((s[k].toNat : Int) < 97) = false := by simpa using h97
        by_cases hge : (s[k].toNat : Int) - 97 < L
        · go_wp2
          go_quiet (fail)
          go_wp2
          go_roundw
          case rel => exact ⟨k + 1, _, by omega, by go_num, rfl, isWord_step hlt hall.out (okc_good (by omega) hge)⟩
          case measure => simp [intOf]; omega
        · go_wp2
          go_quiet (fail)
          go_wp2
          go_ret
          exact ⟨ret_bool (isWord_bad hlt (okc_high (by omega))), drewN2 _ _ _⟩
    · go_wp2
      go_ret
      exact ⟨ret_bool (isWord_end hlt hall.out), _, rfl⟩

theorem fold_step {L : Nat} {s : ByteArray} {k : Nat} (h : k < s.size) (hc : Hw.okc L s[k] = true) :
    ((Hw.fold L (s.data.toList.take k) : Int) * L + ((s[k].toNat : Int) - 97) + 1) = (Hw.fold L (s.data.toList.take (k + 1)) : Nat) := by
  have e : s.data.toList[k]'(by simpa using h) = s[k] := rfl
  rw [Hw.take_snoc _ k (by simpa using h), Hw.fold_snoc, e]
  simp [Hw.okc] at hc
  omega

theorem fold_bound {L M : Nat} {s : ByteArray} {k : Nat} (hL3 : L ≤ 3) (hM6 : M ≤ 6) (hw : Hw.isWord L M s.data.toList = true) : Hw.fold L (s.data.toList.take k) ≤ 4096 := by
  simp only [Hw.isWord, Bool.and_eq_true, decide_eq_true_eq] at hw
  have h1 : (s.data.toList.take k).all (Hw.okc L) = true := by
    rw [List.all_eq_true] at hw ⊢
    exact fun x hx => hw.1 x (List.mem_of_mem_take hx)
  have h2 := Hw.fold_lt L _ h1
  have h3 : (s.data.toList.take k).length ≤ 6 := by rw [List.length_take]; omega
  have h4 : (L + 1) ^ (s.data.toList.take k).length ≤ 4 ^ 6 :=
    Nat.le_trans (Nat.pow_le_pow_left (by omega) _) (Nat.pow_le_pow_right (by omega) h3)
  omega

theorem index_end {L : Nat} {s : ByteArray} {k : Nat} (h : ¬ k < s.size) (h1 : ¬ L = 1) : (Hw.fold L (s.data.toList.take k) : Int) = Hw.index L s.data.toList := by
  rw [List.take_of_length_le (by simp; omega)]
  simp [Hw.index, h1]

set_option maxHeartbeats 400000 in
theorem index_any (s : ByteArray) (L M b : Nat) (w : World) (hL1 : 1 ≤ L) (hL3 : L ≤ 3) (hM6 : M ≤ 6) (hw : Hw.isWord L M s.data.toList = true)
    (cL : w.cell? ⟨b, 0, none⟩ = some (.int .i64 L)) :
    Calls Tryz.prog 65 #[.pointer (some ⟨b, 0, none⟩), .string s] w fun e w' => e = .returned (.int .i64 (Hw.index L s.data.toList)) ∧ ∃ n, w' = w.drewN n := by
  have hs6 : s.size ≤ 6 := by simp [Hw.isWord] at hw; omega
  have hok : ∀ k (h : k < s.size), Hw.okc L s[k] = true := by
    intro k h
    have e : s.data.toList[k]'(by simpa using h) = s[k] := rfl
    simp only [Hw.isWord, Bool.and_eq_true, List.all_eq_true] at hw
    exact hw.1 _ (e ▸ List.getElem_mem _)
  have H1 : Hid (∀ k (h : k < s.size), Hw.okc L s[k] = true) := hok
  clear hok
  go_enter Tryz.func65, Tryz.ntmps65
  go_wp2
  go_loopw [5, 6] (fun t i wr => ∃ k n : Nat, k ≤ s.size ∧ i = .int .i64 k ∧ t = .int .i64 (Hw.fold L (s.data.toList.take k) : Nat) ∧ wr = w.drewN n) (fun _ i _ => s.size - (intOf i).toNat)
  case atStart => exact ⟨0, 0, Nat.zero_le _, rfl, rfl, rfl⟩
  case round =>
    obtain ⟨k, n, hk, rfl, rfl, rfl⟩ := hrel
    have HW := hw
    by_cases hlt : k < s.size
    · have hltI : (k : Int) < (s.size : Int) := by omega
      have hc255 : s[k].toNat < 256 := s[k].toNat_lt
      have hst := fold_step hlt (H1.out k hlt)
      have hb : Hw.fold L (s.data.toList.take k) ≤ 4096 := fold_bound hL3 hM6 hw
      have hm0 : 0 ≤ (Hw.fold L (s.data.toList.take k) : Int) * L := by rw [← Int.natCast_mul]; exact Int.natCast_nonneg _
      have hm1 : (Hw.fold L (s.data.toList.take k) : Int) * L ≤ 12288 := by
        rw [← Int.natCast_mul]; have := Nat.mul_le_mul hb hL3; omega
      have hc := H1.out k hlt
      have hcl : 97 ≤ (s[k].toNat : Int) := by simp [Hw.okc] at hc; omega
      have hcu : (s[k].toNat : Int) < 97 + L := by simp [Hw.okc] at hc; omega
      have Hst : Hid _ := hst
      clear hst hc hw
      go_wp2
      go_quiet (fail)
      go_wp2
      go_roundw
      case rel => exact ⟨k + 1, _, by omega, by go_num, by rw [Hst.out], rfl⟩
      case measure => simp [intOf]; omega
    · by_cases h1 : L = 1
      · subst h1
        go_wp2
        go_ret
        exact ⟨ret_int (by simp [Hw.index]), _, rfl⟩
      · have hne : ((L : Int) == 1) = false := by simp; omega
        go_wp2
        go_ret
        exact ⟨ret_int (index_end hlt h1), _, rfl⟩
end Go.Proofs.YtfiebibpgbadlaaGreat
