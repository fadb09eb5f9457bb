import Derived.Test.YtfiebibpgbadlaaGreatRefA
import Derived.Test.YtfiebibpgbadlaaGreatKb
import Derived.Test.YtfiebibpgbadlaaGreatShelf
namespace Go.Proofs.YtfiebibpgbadlaaGreat
open Go.RowKit
set_option linter.unusedVariables false
set_option linter.unusedSimpArgs false

set_option maxHeartbeats 400000 in
theorem is_any (s : ByteArray) (L M : Nat) (w : World) (hs : s.size ≤ maxLen) (hL1 : 1 ≤ L) (hL3 : L ≤ 3) (hM6 : M ≤ 6) :
    Calls Tryz.prog 52 #[.string s, .int .i64 (L : Int), .int .i64 (M : Int)] w fun e w' => e = .returned (.bool (Hw.isWord L M s.data.toList)) ∧ w' = w := by
  unfold maxLen at hs
  by_cases hlong : M < s.size
  · go_enter Tryz.func52, Tryz.ntmps52
    go_wp2
    go_ret
    exact ⟨ret_bool (by simp [Hw.isWord]; omega), rfl⟩
  · have hlb : decide ((M : Int) < (s.size : Int)) = false := by simp; omega
    go_enter Tryz.func52, Tryz.ntmps52
    go_wp2
    clear hlb
    go_loop [14] (fun i => ∃ k : Nat, k ≤ s.size ∧ i = .int .i64 k ∧ Hid ((s.data.toList.take k).all (Hw.okc L) = true)) (fun i => s.size - (intOf i).toNat)
    case atStart => exact ⟨0, Nat.zero_le _, rfl, by simp [Hid]⟩
    case round =>
      obtain ⟨k, hk, rfl, hall⟩ := hrel
      by_cases hlt : k < s.size
      · have hltI : (k : Int) < (s.size : Int) := by omega
        have hc255 : s[k].toNat < 256 := s[k].toNat_lt
        by_cases h97 : (s[k].toNat : Int) < 97
        · go_wp2
          go_ret
          exact ⟨ret_bool (isWord_bad hlt (okc_low h97)), rfl⟩
        · have hd : decide ((s[k].toNat : Int) < 97) = false := by simpa using h97
          by_cases hge : (s[k].toNat : Int) < 97 + L
          · go_wp2
            go_round
            case rel => exact ⟨k + 1, by omega, by go_num, isWord_step hlt hall.out (okc_good (by omega) (by omega))⟩
            case measure => simp [intOf]; omega
          · go_wp2
            go_ret
            exact ⟨ret_bool (isWord_bad hlt (okc_high (by omega))), rfl⟩
      · go_wp2
        go_ret
        refine ⟨ret_bool ?_, rfl⟩
        rw [← isWord_end (M := M) hlt hall.out]; simp; omega

def orI (a b : Int) : Int := if a = 0 then b else a
def OrInv (a b : Int) (k : Nat) : Prop := (1 ≤ k → a = 0) ∧ (2 ≤ k → b = 0)
theorem orI_a {a b : Int} (h : ¬ a = 0) : a = orI a b := by unfold orI; rw [if_neg h]
theorem orI_b {a b : Int} (h : a = 0) : b = orI a b := by unfold orI; rw [if_pos h]

theorem or_any (a b : Int) (g : Nat) (w : World) (h0 : w.cell? ⟨g, 0, none⟩ = some (.int .i64 a)) (h1 : w.cell? ⟨g, 1, none⟩ = some (.int .i64 b)) :
    Calls Tryz.prog 104 #[.slice (some ⟨g, 0, none⟩) 2 2] w fun e w' => e = .returned (.int .i64 (orI a b)) ∧ w' = w := by
  go_enter Tryz.func104, Tryz.ntmps104
  go_wp2
  go_loop [8] (fun i => ∃ k : Nat, k ≤ 2 ∧ i = .int .i64 k ∧ OrInv a b k) (fun i => 2 - (intOf i).toNat)
  case atStart => exact ⟨0, by omega, rfl, ⟨by omega, by omega⟩⟩
  case round =>
    obtain ⟨k, hk, rfl, hh⟩ := hrel
    rcases (show k = 0 ∨ k = 1 ∨ k = 2 by omega) with rfl | rfl | rfl
    · by_cases ha : a = 0
      · have HA := hide ha
        have hab : (a != 0) = false := by simp [ha]
        clear ha
        go_wp2
        go_round
        case rel => exact ⟨1, by omega, by go_num, ⟨fun _ => HA.out, by omega⟩⟩
        case measure => simp [intOf]
      · have hab : (a != 0) = true := by rw [bne_iff_ne]; exact ha
        have HA := hide ha
        clear ha
        go_wp2
        go_ret
        exact ⟨ret_int (orI_a HA.out), rfl⟩
    · have ha := hh.1 (by omega)
      by_cases hb : b = 0
      · have HA := hide ha
        have HB := hide hb
        have hbb : (b != 0) = false := by simp [hb]
        clear ha hb
        go_wp2
        go_round
        case rel => exact ⟨2, by omega, by go_num, ⟨fun _ => HA.out, fun _ => HB.out⟩⟩
        case measure => simp [intOf]
      · have hbb : (b != 0) = true := by rw [bne_iff_ne]; exact hb
        have HA := hide ha
        clear ha hb
        go_wp2
        go_ret
        exact ⟨ret_int (orI_b HA.out), rfl⟩
    · have ha := hide (hh.1 (by omega))
      have hb := hide (hh.2 (by omega))
      go_wp2
      go_ret
      exact ⟨ret_int (by rw [← orI_b ha.out, hb.out]), rfl⟩

theorem compare_any (s t : ByteArray) (w : World) :
    Calls Tryz.prog 80 #[.string s, .string t] w fun e w' => e = .returned (.int .i64 (orI (Lib.compareInt s.size t.size) (Lib.compareBytes s.data.toList t.data.toList))) ∧ ∃ o, w' = w.alloc o := by
  go_enter Tryz.func80, Tryz.ntmps80
  go_wp2_with fail
  refine (Tryz.cmp_Compare_int _ _ _).mono ?_
  rintro e w1 ⟨rfl, rfl⟩
  go_wp2_with fail
  refine (Tryz.strings_Compare _ _ _).mono ?_
  rintro e w1 ⟨rfl, rfl⟩
  go_wp2_with fail
  refine (or_any (Lib.compareInt s.size t.size) (Lib.compareBytes s.data.toList t.data.toList) _ _ ?_ ?_).mono ?_
  · exact cell_of_row _ _ 0 _ _ _ (heap_alloc_new _ _)
  · exact cell_of_row _ _ 1 _ _ _ (heap_alloc_new _ _)
  rintro e w2 ⟨rfl, rfl⟩
  go_wp2
  go_ret
  exact ⟨rfl, _, rfl⟩

/-- .. of words. -/
theorem compare_words (s t : Hw.Wd) (L : Nat) (w : World) (hL1 : 1 ≤ L) (hL3 : L ≤ 3) (hs : Hw.Ok L s) (ht : Hw.Ok L t) :
    Calls Tryz.prog 80 #[.string ⟨s.toArray⟩, .string ⟨t.toArray⟩] w fun e w' => e = .returned (.int .i64 (if Hw.fold L s < Hw.fold L t then -1 else if Hw.fold L t < Hw.fold L s then 1 else 0)) ∧ ∃ o, w' = w.alloc o := by
  refine (compare_any _ _ w).mono ?_
  rintro e w' ⟨rfl, h⟩
  refine ⟨?_, h⟩
  rw [← Hw.orInt L hL1 hL3 hs ht]
  rfl

theorem stand_any (s t : ByteArray) (L : Nat) (w : World) (hL1 : 1 ≤ L) (hL3 : L ≤ 3) (hs : Hw.Ok L s.data.toList) (ht : Hw.Ok L t.data.toList) :
    Calls Tryz.prog 100 #[.string s, .string t] w fun e w' => e = .returned (.int .i64 (Hw.stand L s.data.toList t.data.toList : Nat)) ∧ Below w.heap.size w w' := by
  have hor := hide (Hw.orInt L hL1 hL3 hs ht)
  have hls : s.data.toList.length = s.size := by simp
  have hlt : t.data.toList.length = t.size := by simp
  have H1 := hide hls
  have H2 := hide hlt
  clear hls hlt hs ht
  go_enter Tryz.func100, Tryz.ntmps100
  go_wp2_with fail
  refine (compare_any s t _).mono ?_
  rintro e w2 ⟨rfl, o, rfl⟩
  have hv := hor.out
  rw [H1.out, H2.out] at hv
  rw [show orI (Lib.compareInt s.size t.size) (Lib.compareBytes s.data.toList t.data.toList) = _ from hv]
  clear hv
  by_cases h1 : Hw.fold L s.data.toList < Hw.fold L t.data.toList
  · rw [if_pos h1]
    have hst : Hw.stand L s.data.toList t.data.toList = 1 := by simp [Hw.stand, h1]
    have HST := hide hst
    clear h1 hst
    go_wp2
    go_ret
    exact ⟨ret_int (by rw [HST.out]; rfl), (Below.refl _ _).alloc (Nat.le_refl _) _⟩
  · rw [if_neg h1]
    by_cases h2 : Hw.fold L t.data.toList < Hw.fold L s.data.toList
    · rw [if_pos h2]
      have hst : Hw.stand L s.data.toList t.data.toList = 2 := by simp [Hw.stand, h1, h2]
      have HST := hide hst
      clear h1 h2 hst
      go_wp2
      go_ret
      exact ⟨ret_int (by rw [HST.out]; rfl), (Below.refl _ _).alloc (Nat.le_refl _) _⟩
    · rw [if_neg h2]
      have hst : Hw.stand L s.data.toList t.data.toList = 0 := by simp [Hw.stand, h1, h2]
      have HST := hide hst
      clear h1 h2 hst
      go_wp2
      go_ret
      exact ⟨ret_int (by rw [HST.out]; rfl), (Below.refl _ _).alloc (Nat.le_refl _) _⟩
end Go.Proofs.YtfiebibpgbadlaaGreat
