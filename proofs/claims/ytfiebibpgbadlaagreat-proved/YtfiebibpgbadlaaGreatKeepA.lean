import Derived.Test.YtfiebibpgbadlaaGreatRefE
import Derived.Test.YtfiebibpgbadlaaGreatKb
import Derived.Test.YtfiebibpgbadlaaGreatKc
namespace Go.Proofs.YtfiebibpgbadlaaGreat
open Go.RowKit
set_option linter.unusedVariables false
set_option linter.unusedSimpArgs false

def pickN (c : Int) (n : Nat) : Nat := (if c < 0 then -(c + 1) else c).toNat % n

theorem pickN_lt (c : Int) {n : Nat} (h : 1 ≤ n) : pickN c n < n := Nat.mod_lt _ h
theorem pick_neg {c : Int} {n : Nat} (h : c < 0) : -((c + 1).tmod (n : Int)) = ((pickN c n : Nat) : Int) := by
  unfold pickN
  rw [if_pos h, ← Int.neg_tmod, Int.tmod_eq_emod_of_nonneg (by omega), Int.natCast_emod, Int.toNat_of_nonneg (by omega)]
theorem pick_pos {c : Int} {n : Nat} (h : 0 ≤ c) : c % (n : Int) = ((pickN c n : Nat) : Int) := by
  unfold pickN
  rw [if_neg (by omega), Int.natCast_emod, Int.toNat_of_nonneg h]

theorem pick_any (c : Int) (n : Nat) (w : World) (hc1 : -9223372036854775808 ≤ c) (hc2 : c ≤ 9223372036854775807) (hn : 1 ≤ n) (hn2 : n ≤ 1099511627776) :
    Calls Tryz.prog 15 #[.int .i64 c, .int .i64 (n : Int)] w fun e w' => e = .returned (.int .i64 ((pickN c n : Nat) : Int)) ∧ w' = w := by
  by_cases h : c < 0
  · go_enter Tryz.func15, Tryz.ntmps15
    go_wp2
    go_ret
    exact ⟨ret_int (pick_neg h), rfl⟩
  · go_enter Tryz.func15, Tryz.ntmps15
    go_wp2
    go_ret
    exact ⟨ret_int (pick_pos h), rfl⟩

theorem pick_is (c N : Int) (n : Nat) (w : World) (hN : N = (n : Int)) (hc1 : -9223372036854775808 ≤ c) (hc2 : c ≤ 9223372036854775807) (hn : 1 ≤ n) (hn2 : n ≤ 1099511627776) :
    Calls Tryz.prog 15 #[.int .i64 c, .int .i64 N] w fun e w' => e = .returned (.int .i64 ((pickN c n : Nat) : Int)) ∧ w' = w := by
  subst hN; exact pick_any c n w hc1 hc2 hn hn2

theorem tdiv_bounds {c k : Int} (hc1 : -9223372036854775808 ≤ c) (hc2 : c ≤ 9223372036854775807) (hk : 1 ≤ k) : -9223372036854775808 ≤ c.tdiv k ∧ c.tdiv k ≤ 9223372036854775807 := by
  by_cases h : 0 ≤ c
  · rw [Int.tdiv_eq_ediv_of_nonneg h]
    have h1 := Int.ediv_nonneg h (show 0 ≤ k by omega)
    have h2 := Int.ediv_le_self k h
    omega
  · have e : c.tdiv k = -((-c) / k) := by rw [← Int.tdiv_eq_ediv_of_nonneg (by omega), Int.neg_tdiv, Int.neg_neg]
    rw [e]
    have h1 := Int.ediv_nonneg (show 0 ≤ -c by omega) (show 0 ≤ k by omega)
    have h2 := Int.ediv_le_self k (show 0 ≤ -c by omega)
    omega

theorem power_eq (n : Nat) (h : n ≤ 6) : (⟨#[97, 97, 97, 97, 97, 97, 97, 97]⟩ : ByteArray).extract 0 n = ⟨(Hw.pw n).toArray⟩ := by
  rcases (show n = 0 ∨ n = 1 ∨ n = 2 ∨ n = 3 ∨ n = 4 ∨ n = 5 ∨ n = 6 by omega) with rfl | rfl | rfl | rfl | rfl | rfl | rfl <;> kernel_rfl

theorem bytesLess_cmp : ∀ (s t : Hw.Wd), Op.bytesLess s t = decide (Go.Lib.compareBytes s t = -1)
  | [], [] => by simp [Op.bytesLess, Go.Lib.compareBytes]
  | [], _ :: _ => by simp [Op.bytesLess, Go.Lib.compareBytes]
  | _ :: _, [] => by simp [Op.bytesLess, Go.Lib.compareBytes]
  | a :: s, b :: t => by
    have ih := bytesLess_cmp s t
    unfold Op.bytesLess Go.Lib.compareBytes
    by_cases h1 : a < b
    · simp [h1]
    · by_cases h2 : b < a
      · have : ¬ a = b := by rintro rfl; exact absurd h2 (by simp)
        simp [h1, h2, this]
      · have : a = b := by
          have h3 : ¬ a.toNat < b.toNat := fun h => h1 (UInt8.lt_iff_toNat_lt.2 h)
          have h4 : ¬ b.toNat < a.toNat := fun h => h2 (UInt8.lt_iff_toNat_lt.2 h)
          exact UInt8.toNat_inj.1 (by omega)
        subst this
        simp [ih]

theorem less_same {L : Nat} (hL1 : 1 ≤ L) (hL3 : L ≤ 3) {a b : Hw.Wd} (ha : Hw.Ok L a) (hb : Hw.Ok L b) (h : a.length = b.length) : Op.bytesLess a b = decide (Hw.fold L a < Hw.fold L b) := by
  rw [bytesLess_cmp, Hw.compare_same hL1 hL3 a b ha hb h]
  by_cases h1 : Hw.fold L a < Hw.fold L b
  · simp [h1]
  · by_cases h2 : Hw.fold L b < Hw.fold L a <;> simp [h1, h2]

theorem less_diff {L : Nat} (hL3 : L ≤ 3) {a b : Hw.Wd} (ha : Hw.Ok L a) (hb : Hw.Ok L b) (h : a.length ≠ b.length) : decide (a.length < b.length) = decide (Hw.fold L a < Hw.fold L b) := by
  by_cases h1 : a.length < b.length
  · have := Hw.fold_lt_of_length hL3 ha hb h1; simp [h1, this]
  · have := Hw.fold_lt_of_length hL3 hb ha (by omega)
    simp [h1]; omega

theorem run_rem_nat (W : World) (t : TypeId) (x l : Nat) (hl : 1 ≤ l) : (binOp .rem t (.int .i64 (x : Int)) (.int .i64 (l : Int))).run Tryz.prog W = .ok (.int .i64 ((x % l : Nat) : Int)) W := by
  have h : ¬ l = 0 := by omega
  simp [binOp, Op.intDiv, h]
  exact (Int.tmod_eq_emod_of_nonneg (Int.natCast_nonneg x))

/-- a word, by a raw number. -/
def wordTo (L c n : Nat) : Hw.Wd := (List.range n).map fun j => UInt8.ofNat (97 + c / L ^ j % L)
theorem wordTo_succ (L c n : Nat) : wordTo L c (n + 1) = wordTo L c n ++ [UInt8.ofNat (97 + c / L ^ n % L)] := by simp [wordTo, List.range_succ]
theorem wordTo_len (L c n : Nat) : (wordTo L c n).length = n := by simp [wordTo]
def wordV (c : Int) (L M : Nat) : Hw.Wd := wordTo L (pickN (c.tdiv ((M : Int) + 1)) 1099511627776) (pickN c (M + 1))

theorem wordV_word {L M : Nat} (c : Int) (hL1 : 1 ≤ L) (hL3 : L ≤ 3) : Hw.isWord L M (wordV c L M) = true := by
  rw [Hw.isWord_iff]
  refine ⟨?_, ?_⟩
  · unfold wordV wordTo
    rw [List.all_eq_true]
    intro x hx
    rw [List.mem_map] at hx
    obtain ⟨j, _, rfl⟩ := hx
    have := Nat.mod_lt (pickN (c.tdiv ((M : Int) + 1)) 1099511627776 / L ^ j) (show L > 0 by omega)
    generalize pickN (c.tdiv ((M : Int) + 1)) 1099511627776 / L ^ j % L = q at *
    rcases (show q = 0 ∨ q = 1 ∨ q = 2 by omega) with rfl | rfl | rfl <;> simp [Hw.okc] <;> omega
  · unfold wordV
    rw [wordTo_len]
    have := pickN_lt c (n := M + 1) (by omega)
    omega

set_option maxHeartbeats 800000 in
theorem word_any (c : Int) (L M : Nat) (w : World) (hc1 : -9223372036854775808 ≤ c) (hc2 : c ≤ 9223372036854775807) (hL1 : 1 ≤ L) (hL3 : L ≤ 3) (hM6 : M ≤ 6) :
    Calls Tryz.prog 13 #[.int .i64 c, .int .i64 (L : Int), .int .i64 (M : Int)] w fun e w' => e = .returned (.string ⟨(wordV c L M).toArray⟩) ∧ ∃ n, w' = w.drewN n := by
  have hd1 : -9223372036854775808 ≤ c.tdiv ((M : Int) + 1) ∧ c.tdiv ((M : Int) + 1) ≤ 9223372036854775807 := tdiv_bounds hc1 hc2 (by omega)
  have hp1 := pickN_lt c (n := M + 1) (by omega)
  have hp2 := pickN_lt (c.tdiv ((M : Int) + 1)) (n := 1099511627776) (by omega)
  have hV : Hid (wordV c L M = wordTo L (pickN (c.tdiv ((M : Int) + 1)) 1099511627776) (pickN c (M + 1))) := rfl
  rw [hV.out]
  clear hV
  generalize hC : pickN (c.tdiv ((M : Int) + 1)) 1099511627776 = C at *
  generalize hNN : pickN c (M + 1) = N at *
  have HC := hide hC
  have HN := hide hNN
  clear hC hNN
  go_enter Tryz.func13, Tryz.ntmps13
  go_wp2_with fail
  refine (pick_is c _ (M + 1) _ (by simp) hc1 hc2 (by omega) (by omega)).mono ?_
  rintro e w1 ⟨rfl, rfl⟩
  rw [HN.out]
  go_wp2_with fail
  refine (pick_is (c.tdiv ((M : Int) + 1)) _ 1099511627776 _ rfl hd1.1 hd1.2 (by omega) (by omega)).mono ?_
  rintro e w1 ⟨rfl, rfl⟩
  rw [HC.out]
  clear hd1
  go_wp2_with fail
  go_loopw [0, 8, 9] (fun cv sv iv wr => ∃ (i n : Nat), i ≤ N ∧ cv = .int .i64 ((C / L ^ i : Nat) : Int) ∧ sv = .string ⟨(wordTo L C i).toArray⟩ ∧ iv = .int .i64 (i : Int) ∧ wr = w1.drewN n) (fun _ _ iv _ => N - (intOf iv).toNat)
  case atStart => exact ⟨0, 0, Nat.zero_le _, by simp, rfl, rfl, rfl⟩
  case round =>
    obtain ⟨i, n, hi, rfl, rfl, rfl, rfl⟩ := hrel
    by_cases hlt : i < N
    · have hsu := wordTo_succ L C i
      have hq : C / L ^ i % L < L := Nat.mod_lt _ (by omega)
      have hle : C / L ^ i ≤ C := Nat.div_le_self _ _
      have hnx : C / L ^ (i + 1) = C / L ^ i / L := by rw [Nat.pow_succ, Nat.div_div_eq_div_mul]
      have hwl := wordTo_len L C i
      have HSU := hide hsu
      have HNX := hide hnx
      clear hsu hnx
      generalize C / L ^ i = X at *
      generalize wordTo L C i = V at *
      have hqi : ((X : Int) % (L : Int)) = ((X % L : Nat) : Int) := by simp
      have hdi : ((X : Int) / (L : Int)) = ((X / L : Nat) : Int) := by simp
      have HDI := hide hdi
      clear hdi
      have hsl := slice_abc (X % L) (by omega)
      have hL0 : ¬ L = 0 := by omega
      have HD0 : Hid (0 ≤ (X : Int) / (L : Int) ∧ (X : Int) / (L : Int) ≤ (X : Int)) := ⟨Int.ediv_nonneg (by omega) (by omega), Int.ediv_le_self _ (by omega)⟩
      have hqt : (X : Int).tmod (L : Int) = ((X % L : Nat) : Int) := rfl
      have hnew : (⟨V.toArray⟩ : ByteArray) ++ (⟨#[UInt8.ofNat (97 + X % L)]⟩ : ByteArray) = ⟨(V ++ [UInt8.ofNat (97 + X % L)]).toArray⟩ := ByteArray.mk_append_mk V [UInt8.ofNat (97 + X % L)]
      have HNEW := hide hnew
      clear hnew
      generalize UInt8.ofNat (97 + X % L) = ch at *
      generalize X % L = q at *
      have hadd : ¬ (9223372036854775807 < i + 1) := by omega
      go_wp2_with fail
      go_quiet (fail)
      go_wp2
      go_roundw
      case rel => exact ⟨i + 1, _, by omega, by have hd0 := HD0.out; rw [HNX.out, ← HDI.out]; exact congrArg _ (Go.IntWalk.wrap64_in _ (by omega)), by rw [HSU.out, ← HNEW.out], by go_num, rfl⟩
      case measure => simp [intOf]; omega
    · have hiN : i = N := by omega
      subst hiN
      go_wp2
      go_ret
      exact ⟨rfl, _, rfl⟩
end Go.Proofs.YtfiebibpgbadlaaGreat
namespace Go.Proofs.YtfiebibpgbadlaaGreat
open Go.RowKit
set_option linter.unusedVariables false
set_option linter.unusedSimpArgs false

def AtI (s p : Hw.Wd) (i : Nat) : Prop := i + p.length ≤ s.length ∧ (s.take (i + p.length)).drop i = p
def AtR (s p : Hw.Wd) (f : Nat) (r : Int) : Prop :=
  (r = -1 ∧ ∀ i, f ≤ i → ¬ AtI s p i) ∨ ∃ i : Nat, r = (i : Int) ∧ f ≤ i ∧ AtI s p i ∧ ∀ j, f ≤ j → j < i → ¬ AtI s p j

theorem AtI.split {s p : Hw.Wd} {i : Nat} (h : AtI s p i) : s = s.take i ++ p ++ s.drop (i + p.length) := by
  have h1 := h.2
  have h3 : s.take i = (s.take (i + p.length)).take i := by rw [List.take_take]; congr 1; omega
  conv => rhs; rw [← h1]
  rw [h1, h3]
  conv => rhs; lhs; rhs; rw [← h1]
  rw [List.take_append_drop, List.take_append_drop]
theorem AtI.occ {s p : Hw.Wd} {i : Nat} (h : AtI s p i) : Hw.Occ p s := ⟨_, _, h.split⟩
theorem AtI.of_split {u p v : Hw.Wd} : AtI (u ++ p ++ v) p u.length := by
  refine ⟨by simp, ?_⟩
  rw [List.take_append_of_le_length (by simp), List.take_of_length_le (by simp)]; simp
theorem atR_occ {s p : Hw.Wd} {r : Int} (h : AtR s p 0 r) : 0 ≤ r ↔ Hw.Occ p s := by
  rcases h with ⟨rfl, h⟩ | ⟨i, rfl, _, h, _⟩
  · constructor
    · intro h; omega
    · rintro ⟨u, v, rfl⟩
      exact absurd AtI.of_split (h u.length (Nat.zero_le _))
  · exact ⟨fun _ => h.occ, fun _ => by omega⟩

end Go.Proofs.YtfiebibpgbadlaaGreat
