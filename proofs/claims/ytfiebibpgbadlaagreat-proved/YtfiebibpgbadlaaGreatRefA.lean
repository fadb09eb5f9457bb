import Derived.Test.YtfiebibpgbadlaaGreatProg
import Derived.Test.YtfiebibpgbadlaaGreatWd
import Derived.Test.YtfiebibpgbadlaaGreatMe
import Derived.WalkKit
import Derived.Deep.QuietTactic
import Derived.BigQuiet
import Derived.Deep.LoopGhost
namespace Go.Proofs.YtfiebibpgbadlaaGreat
open Go.RowKit
set_option linter.unusedVariables false
set_option linter.unusedSimpArgs false

theorem ret_bool {a b : Bool} (h : a = b) : Ending.returned (.bool a) = .returned (.bool b) := by rw [h]
theorem ret_int {k : IntKind} {a b : Int} (h : a = b) : Ending.returned (.int k a) = .returned (.int k b) := by rw [h]
theorem drewN2 (w : World) (n m : Nat) : ∃ k, (w.drewN n).drewN m = w.drewN k := ⟨n + m, by simp⟩

theorem isWord_bad {L M : Nat} {s : ByteArray} {k : Nat} (h : k < s.size) (hc : Hw.okc L s[k] = false) : false = Hw.isWord L M s.data.toList := by
  have := Hw.not_all_of (Hw.okc L) s.data.toList k (by simpa using h) hc
  simp [Hw.isWord, this]
theorem okc_low {L : Nat} {c : UInt8} (h : (c.toNat : Int) < 97) : Hw.okc L c = false := by simp [Hw.okc]; omega
theorem okc_high {L : Nat} {c : UInt8} (h : ¬ (c.toNat : Int) - 97 < L) : Hw.okc L c = false := by simp [Hw.okc]; omega
theorem okc_good {L : Nat} {c : UInt8} (h : ¬ (c.toNat : Int) < 97) (h' : (c.toNat : Int) - 97 < L) : Hw.okc L c = true := by simp [Hw.okc]; omega
theorem isWord_step {L : Nat} {s : ByteArray} {k : Nat} (h : k < s.size) (ha : (s.data.toList.take k).all (Hw.okc L) = true) (hc : Hw.okc L s[k] = true) :
    (s.data.toList.take (k + 1)).all (Hw.okc L) = true := by
  have e : s.data.toList[k]'(by simpa using h) = s[k] := rfl
  rw [Hw.all_take_succ _ _ k (by simpa using h), ha, e, hc]; rfl
theorem isWord_end {L M : Nat} {s : ByteArray} {k : Nat} (h : ¬ k < s.size) (ha : (s.data.toList.take k).all (Hw.okc L) = true) :
    decide (s.size ≤ M) = Hw.isWord L M s.data.toList := by
  rw [List.take_of_length_le (by simp; omega)] at ha
  simp [Hw.isWord, ha]

set_option maxHeartbeats 400000 in
theorem isWord_any (s : ByteArray) (L M b : Nat) (w : World) (hs : s.size ≤ maxLen) (hL1 : 1 ≤ L) (hL3 : L ≤ 3) (hM6 : M ≤ 6)
    (cL : w.cell? ⟨b, 0, none⟩ = some (.int .i64 L)) (cM : w.cell? ⟨b, 1, none⟩ = some (.int .i64 M)) :
    Calls Tryz.prog 64 #[.pointer (some ⟨b, 0, none⟩), .string s] w fun e w' => e = .returned (.bool (Hw.isWord L M s.data.toList)) ∧ ∃ n, w' = w.drewN n := by
  unfold maxLen at hs
  go_enter Tryz.func64, Tryz.ntmps64
  go_wp2
  go_loopw [5] (fun i wr => ∃ k n : Nat, k ≤ s.size ∧ i = .int .i64 k ∧ wr = w.drewN n ∧ Hid ((s.data.toList.take k).all (Hw.okc L) = true)) (fun i _ => s.size - (intOf i).toNat)
  case atStart => exact ⟨0, 0, Nat.zero_le _, rfl, rfl, by simp [Hid]⟩
  case round =>
    obtain ⟨k, n, hk, rfl, rfl, hall⟩ := hrel
    by_cases hlt : k < s.size
    · have hltI : (k : Int) < (s.size : Int) := by omega
      have hlen : k < s.data.toList.length := by simpa using hlt
      have hc255 : s[k].toNat < 256 := s[k].toNat_lt
      by_cases h97 : (s[k].toNat : Int) < 97
      · go_wp2
        go_quiet (fail)
        go_wp2
        go_ret
        exact ⟨ret_bool (isWord_bad hlt (okc_low h97)), drewN2 _ _ _⟩
      · have hd : decide ((s[k].toNat : Int) < 97) = false := by simpa using h97
        by_cases hge : (s[k].toNat : Int) - 97 < L
        · go_wp2
          go_quiet (fail)
          go_wp2
          go_roundw
          case rel => exact ⟨k + 1, _, by omega, by go_num, rfl, isWord_step hlt hall.out (okc_good (by omega) hge)⟩
          case measure => simp [intOf]; omega
        · go_wp2
          go_quiet (fail)
          go_wp2
          go_ret
          exact ⟨ret_bool (isWord_bad hlt (okc_high (by omega))), drewN2 _ _ _⟩
    · go_wp2
      go_ret
      exact ⟨ret_bool (isWord_end hlt hall.out), _, rfl⟩

theorem fold_step {L : Nat} {s : ByteArray} {k : Nat} (h : k < s.size) (hc : Hw.okc L s[k] = true) :
    ((Hw.fold L (s.data.toList.take k) : Int) * L + ((s[k].toNat : Int) - 97) + 1) = (Hw.fold L (s.data.toList.take (k + 1)) : Nat) := by
  have e : s.data.toList[k]'(by simpa using h) = s[k] := rfl
  rw [Hw.take_snoc _ k (by simpa using h), Hw.fold_snoc, e]
  simp [Hw.okc] at hc
  omega

theorem fold_bound {L M : Nat} {s : ByteArray} {k : Nat} (hL3 : L ≤ 3) (hM6 : M ≤ 6) (hw : Hw.isWord L M s.data.toList = true) : Hw.fold L (s.data.toList.take k) ≤ 4096 := by
  simp only [Hw.isWord, Bool.and_eq_true, decide_eq_true_eq] at hw
  have h1 : (s.data.toList.take k).all (Hw.okc L) = true := by
    rw [List.all_eq_true] at hw ⊢
    exact fun x hx => hw.1 x (List.mem_of_mem_take hx)
  have h2 := Hw.fold_lt L _ h1
  have h3 : (s.data.toList.take k).length ≤ 6 := by rw [List.length_take]; omega
  have h4 : (L + 1) ^ (s.data.toList.take k).length ≤ 4 ^ 6 :=
    Nat.le_trans (Nat.pow_le_pow_left (by omega) _) (Nat.pow_le_pow_right (by omega) h3)
  omega

theorem index_end {L : Nat} {s : ByteArray} {k : Nat} (h : ¬ k < s.size) (h1 : ¬ L = 1) : (Hw.fold L (s.data.toList.take k) : Int) = Hw.index L s.data.toList := by
  rw [List.take_of_length_le (by simp; omega)]
  simp [Hw.index, h1]

set_option maxHeartbeats 400000 in
theorem index_any (s : ByteArray) (L M b : Nat) (w : World) (hL1 : 1 ≤ L) (hL3 : L ≤ 3) (hM6 : M ≤ 6) (hw : Hw.isWord L M s.data.toList = true)
    (cL : w.cell? ⟨b, 0, none⟩ = some (.int .i64 L)) :
    Calls Tryz.prog 65 #[.pointer (some ⟨b, 0, none⟩), .string s] w fun e w' => e = .returned (.int .i64 (Hw.index L s.data.toList)) ∧ ∃ n, w' = w.drewN n := by
  have hs6 : s.size ≤ 6 := by simp [Hw.isWord] at hw; omega
  have hok : ∀ k (h : k < s.size), Hw.okc L s[k] = true := by
    intro k h
    have e : s.data.toList[k]'(by simpa using h) = s[k] := rfl
    simp only [Hw.isWord, Bool.and_eq_true, List.all_eq_true] at hw
    exact hw.1 _ (e ▸ List.getElem_mem _)
  have H1 : Hid (∀ k (h : k < s.size), Hw.okc L s[k] = true) := hok
  clear hok
  go_enter Tryz.func65, Tryz.ntmps65
  go_wp2
  go_loopw [5, 6] (fun t i wr => ∃ k n : Nat, k ≤ s.size ∧ i = .int .i64 k ∧ t = .int .i64 (Hw.fold L (s.data.toList.take k) : Nat) ∧ wr = w.drewN n) (fun _ i _ => s.size - (intOf i).toNat)
  case atStart => exact ⟨0, 0, Nat.zero_le _, rfl, rfl, rfl⟩
  case round =>
    obtain ⟨k, n, hk, rfl, rfl, rfl⟩ := hrel
    have HW := hw
    by_cases hlt : k < s.size
    · have hltI : (k : Int) < (s.size : Int) := by omega
      have hc255 : s[k].toNat < 256 := s[k].toNat_lt
      have hst := fold_step hlt (H1.out k hlt)
      have hb : Hw.fold L (s.data.toList.take k) ≤ 4096 := fold_bound hL3 hM6 hw
      have hm0 : 0 ≤ (Hw.fold L (s.data.toList.take k) : Int) * L := by rw [← Int.natCast_mul]; exact Int.natCast_nonneg _
      have hm1 : (Hw.fold L (s.data.toList.take k) : Int) * L ≤ 12288 := by
        rw [← Int.natCast_mul]; have := Nat.mul_le_mul hb hL3; omega
      have hc := H1.out k hlt
      have hcl : 97 ≤ (s[k].toNat : Int) := by simp [Hw.okc] at hc; omega
      have hcu : (s[k].toNat : Int) < 97 + L := by simp [Hw.okc] at hc; omega
      have Hst : Hid _ := hst
      clear hst hc hw
      go_wp2
      go_quiet (fail)
      go_wp2
      go_roundw
      case rel => exact ⟨k + 1, _, by omega, by go_num, by rw [Hst.out], rfl⟩
      case measure => simp [intOf]; omega
    · by_cases h1 : L = 1
      · subst h1
        go_wp2
        go_ret
        exact ⟨ret_int (by simp [Hw.index]), _, rfl⟩
      · have hne : ((L : Int) == 1) = false := by simp; omega
        go_wp2
        go_ret
        exact ⟨ret_int (index_end hlt h1), _, rfl⟩
end Go.Proofs.YtfiebibpgbadlaaGreat
namespace Go.Proofs.YtfiebibpgbadlaaGreat
open Go.RowKit
set_option linter.unusedVariables false
set_option linter.unusedSimpArgs false

/-- A Book of the document's. -/
def refBlock (L M : Nat) (said words same : Value) (fresh : Bool) : Obj := .cells #[.int .i64 L, .int .i64 M, said, words, same, .bool fresh] 62 (0, 0)

section
variable {w : World} {b L M : Nat} {said words same : Value} {fresh : Bool} (h : w.heap[b]? = some (refBlock L M said words same fresh))
theorem ref_c0 (h : w.heap[b]? = some (refBlock L M said words same fresh)) : w.cell? ⟨b, 0, none⟩ = some (.int .i64 L) := cellAt h rfl
theorem ref_c1 (h : w.heap[b]? = some (refBlock L M said words same fresh)) : w.cell? ⟨b, 1, none⟩ = some (.int .i64 M) := cellAt h rfl
theorem ref_c2 (h : w.heap[b]? = some (refBlock L M said words same fresh)) : w.cell? ⟨b, 2, none⟩ = some said := cellAt h rfl
theorem ref_c3 (h : w.heap[b]? = some (refBlock L M said words same fresh)) : w.cell? ⟨b, 3, none⟩ = some words := cellAt h rfl
theorem ref_c4 (h : w.heap[b]? = some (refBlock L M said words same fresh)) : w.cell? ⟨b, 4, none⟩ = some same := cellAt h rfl
theorem ref_c5 (h : w.heap[b]? = some (refBlock L M said words same fresh)) : w.cell? ⟨b, 5, none⟩ = some (.bool fresh) := cellAt h rfl
theorem ref_free (h : w.heap[b]? = some (refBlock L M said words same fresh)) (j : Nat) : w.frozen? ⟨b, j, none⟩ = false := frozen_of_row w b j _ _ h
theorem ref_ne_ints {g : Nat} {c : Array Value} (h : w.heap[b]? = some (refBlock L M said words same fresh)) (hg : w.heap[g]? = some (.cells c 3 (0, 0))) : b ≠ g := by
  rintro rfl; rw [hg] at h; simp [refBlock] at h
theorem ref_ne_strs {g : Nat} {c : Array Value} {fr : Nat × Nat} (h : w.heap[b]? = some (refBlock L M said words same fresh)) (hg : w.heap[g]? = some (.cells c 9 fr)) : b ≠ g := by
  rintro rfl; rw [hg] at h; simp [refBlock] at h
end

theorem strs_ne_ints {w : World} {g h : Nat} {c d : Array Value} {fr : Nat × Nat} (hg : w.heap[g]? = some (.cells c 9 fr)) (hh : w.heap[h]? = some (.cells d 3 (0, 0))) : g ≠ h := by
  rintro rfl; rw [hg] at hh; simp at hh

theorem join_round {w wr : World} {g x y j : Nat} {xs : List Nat} (hlt : j < xs.length) (hv : xs[j] = y) (hK : Kept [g] w wr)
    (hg : wr.heap[g]? = some (.cells (intRow (Hw.joinTo xs x y j)) 3 (0, 0))) :
    (wr.setCell ⟨g, j, none⟩ (.int .i64 (x : Int))).heap[g]? = some (.cells (intRow (Hw.joinTo xs x y (j + 1))) 3 (0, 0)) ∧ Kept [g] w (wr.setCell ⟨g, j, none⟩ (.int .i64 (x : Int))) := by
  refine ⟨?_, hK.setCell (by simp) _⟩
  rw [heap_setCell_same wr g j _ _ _ hg, set_intRow, Hw.joinTo_succ xs x y j hlt]
  simp [Hw.swapTo, hv]

set_option maxHeartbeats 800000 in
theorem join_any (xs : List Nat) (i k b g L M n : Nat) (w : World) (said words : Value) (fresh : Bool) (hn : xs.length = n) (hn2 : n ≤ 65536) (hi : i < n) (hk : k < n)
    (hb : w.heap[b]? = some (refBlock L M said words (.slice (some ⟨g, 0, none⟩) n n) fresh))
    (hg : w.heap[g]? = some (.cells (intRow xs) 3 (0, 0))) :
    Calls Tryz.prog 69 #[.pointer (some ⟨b, 0, none⟩), .int .i64 (i : Int), .int .i64 (k : Int)] w fun e w' => e = .returned (.bool (Hw.joinL xs i k).2) ∧
      w'.heap[g]? = some (.cells (intRow (Hw.joinL xs i k).1) 3 (0, 0)) ∧ Kept [g] w w' := by
  subst hn
  have hbg := ref_ne_ints hb hg
  have c4 := ref_c4 hb
  have gi := cell_intRow hg i hi
  have gk := cell_intRow hg k hk
  have Hb := hb; have Hg := hg
  have E : Hid (Hw.joinL xs i k = if xs[i] = xs[k] then (xs, false) else (xs.map (Hw.swapTo (min xs[i] xs[k]) (max xs[i] xs[k])), true)) := by
    simp [Hid, Hw.joinL, List.getD_eq_getElem?_getD, List.getElem?_eq_getElem hi, List.getElem?_eq_getElem hk]
  by_cases heq : xs[i] = xs[k]
  · have hq : (((xs[i] : Nat) : Int) == ((xs[k] : Nat) : Int)) = true := by simp [heq]
    clear hb hg
    go_enter Tryz.func69, Tryz.ntmps69
    go_wp2
    go_ret
    exact ⟨ret_bool (by rw [E.out, if_pos heq]), by rw [E.out, if_pos heq]; exact Hg, Kept.refl _ _⟩
  · have hq : (((xs[i] : Nat) : Int) == ((xs[k] : Nat) : Int)) = false := by simp; omega
    have HB : Hid (w.heap[b]? = some (refBlock L M said words (.slice (some ⟨g, 0, none⟩) xs.length xs.length) fresh)) := hb
    have HG : Hid (w.heap[g]? = some (.cells (intRow xs) 3 (0, 0))) := hg
    have HQ : Hid (¬ xs[i] = xs[k]) := heq
    clear hb hg Hb Hg
    by_cases hle : xs[i] < xs[k]
    · have HM : Hid (min xs[i] xs[k] = xs[i] ∧ max xs[i] xs[k] = xs[k]) := ⟨by omega, by omega⟩
      clear heq
      go_enter Tryz.func69, Tryz.ntmps69
      go_wp2
      clear c4 gi gk
      go_loopw [10] (fun t wr => ∃ j : Nat, j ≤ xs.length ∧ t = .int .i64 j ∧ wr.heap[g]? = some (.cells (intRow (Hw.joinTo xs xs[i] xs[k] j)) 3 (0, 0)) ∧ Kept [g] w wr) (fun t _ => xs.length - (intOf t).toNat)
      case atStart => exact ⟨0, Nat.zero_le _, rfl, by rw [Hw.joinTo_zero]; exact HG.out, Kept.refl _ _⟩
      case round =>
        obtain ⟨j, hj, rfl, hgr, hK⟩ := hrel
        have hbr := hK.at HB.out (by simpa using hbg)
        have c4 := ref_c4 hbr
        have HK : Hid (Kept [g] w wr) := hK
        have HGR : Hid (wr.heap[g]? = some (.cells (intRow (Hw.joinTo xs xs[i] xs[k] j)) 3 (0, 0))) := hgr
        clear hbr hK
        by_cases hlt : j < xs.length
        · have cj : wr.cell? ⟨g, j, none⟩ = some (.int .i64 ((xs[j] : Nat) : Int)) := by
            rw [cell_intRow hgr j (by rw [Hw.length_joinTo]; exact hlt), Hw.joinTo_at xs _ _ j hlt]
          have fj : wr.frozen? ⟨g, j, none⟩ = false := frozen_of_row wr g j _ _ hgr
          clear hgr
          by_cases hv : xs[j] = xs[k]
          · have hvb : (((xs[j] : Nat) : Int) == ((xs[k] : Nat) : Int)) = true := by simp [hv]
            have HV : Hid (xs[j] = xs[k]) := hv
            clear hv
            go_wp2
            go_roundw
            case rel => exact ⟨j + 1, by omega, by go_num, join_round hlt HV.out HK.out HGR.out⟩
            case measure => simp [intOf]; omega
          · have hvb : (((xs[j] : Nat) : Int) == ((xs[k] : Nat) : Int)) = false := by simp; omega
            have HV : Hid (¬ xs[j] = xs[k]) := hv
            clear hv
            go_wp2
            go_roundw
            case rel => exact ⟨j + 1, by omega, by go_num, by rw [Hw.joinTo_succ_same xs _ _ j hlt HV.out]; exact HGR.out, HK.out⟩
            case measure => simp [intOf]; omega
        · clear hgr
          go_wp2
          go_ret
          refine ⟨ret_bool (by rw [E.out, if_neg HQ.out]), ?_, HK.out⟩
          have := HGR.out
          rw [Hw.joinTo_all xs _ _ j (by omega)] at this
          rw [this, E.out, if_neg HQ.out, HM.out.1, HM.out.2]

    · have HM : Hid (min xs[i] xs[k] = xs[k] ∧ max xs[i] xs[k] = xs[i]) := ⟨by omega, by omega⟩
      have hlt2 : xs[k] < xs[i] := by omega
      clear heq
      go_enter Tryz.func69, Tryz.ntmps69
      go_wp2
      clear c4 gi gk
      go_loopw [10] (fun t wr => ∃ j : Nat, j ≤ xs.length ∧ t = .int .i64 j ∧ wr.heap[g]? = some (.cells (intRow (Hw.joinTo xs xs[k] xs[i] j)) 3 (0, 0)) ∧ Kept [g] w wr) (fun t _ => xs.length - (intOf t).toNat)
      case atStart => exact ⟨0, Nat.zero_le _, rfl, by rw [Hw.joinTo_zero]; exact HG.out, Kept.refl _ _⟩
      case round =>
        obtain ⟨j, hj, rfl, hgr, hK⟩ := hrel
        have hbr := hK.at HB.out (by simpa using hbg)
        have c4 := ref_c4 hbr
        have HK : Hid (Kept [g] w wr) := hK
        have HGR : Hid (wr.heap[g]? = some (.cells (intRow (Hw.joinTo xs xs[k] xs[i] j)) 3 (0, 0))) := hgr
        clear hbr hK
        by_cases hlt : j < xs.length
        · have cj : wr.cell? ⟨g, j, none⟩ = some (.int .i64 ((xs[j] : Nat) : Int)) := by
            rw [cell_intRow hgr j (by rw [Hw.length_joinTo]; exact hlt), Hw.joinTo_at xs _ _ j hlt]
          have fj : wr.frozen? ⟨g, j, none⟩ = false := frozen_of_row wr g j _ _ hgr
          clear hgr
          by_cases hv : xs[j] = xs[i]
          · have hvb : (((xs[j] : Nat) : Int) == ((xs[i] : Nat) : Int)) = true := by simp [hv]
            have HV : Hid (xs[j] = xs[i]) := hv
            clear hv
            go_wp2
            go_roundw
            case rel => exact ⟨j + 1, by omega, by go_num, join_round hlt HV.out HK.out HGR.out⟩
            case measure => simp [intOf]; omega
          · have hvb : (((xs[j] : Nat) : Int) == ((xs[i] : Nat) : Int)) = false := by simp; omega
            have HV : Hid (¬ xs[j] = xs[i]) := hv
            clear hv
            go_wp2
            go_roundw
            case rel => exact ⟨j + 1, by omega, by go_num, by rw [Hw.joinTo_succ_same xs _ _ j hlt HV.out]; exact HGR.out, HK.out⟩
            case measure => simp [intOf]; omega
        · clear hgr
          go_wp2
          go_ret
          refine ⟨ret_bool (by rw [E.out, if_neg HQ.out]), ?_, HK.out⟩
          have := HGR.out
          rw [Hw.joinTo_all xs _ _ j (by omega)] at this
          rw [this, E.out, if_neg HQ.out, HM.out.1, HM.out.2]

end Go.Proofs.YtfiebibpgbadlaaGreat
namespace Go.Proofs.YtfiebibpgbadlaaGreat
open Go.RowKit
set_option linter.unusedVariables false
set_option linter.unusedSimpArgs false

/-- What holds while the pieces of a word are gone through. -/
structure PInv (w wr : World) (g L M : Nat) (said : List (Hw.Wd × Hw.Wd)) (xs : List Nat) (i : Nat) (S : Hw.Wd) (tb : Bool) (ys : List Nat) (P : Nat → Nat → Prop) : Prop where
  row : wr.heap[g]? = some (.cells (intRow ys) 3 (0, 0))
  kept : Kept [g] w wr
  good : Hw.Good L M said ys
  coarser : Hw.Coarser xs ys
  yes : tb = true → Hw.cnt ys < Hw.cnt xs
  no : tb = false → ys = xs ∧ ∀ a t, P a t → a ≤ t → t ≤ S.length → Hw.PieceDone L M xs i a t

theorem quiet_of2 {P : Program} {f : FuncId} {args : Array Value} {w : World} {n1 x : Nat} {v : Value}
    (h : Calls P f args (w.drewN (n1 + x)) fun e w' => e = .returned v ∧ ∃ m, w' = (w.drewN (n1 + x)).drewN m) : Calls P f args (w.drewN (n1 + x)) fun e w'' => e = .returned v ∧ ∃ m, w'' = w.drewN (n1 + m) :=
  h.mono fun _ _ ⟨he, m, hm⟩ => ⟨he, x + m, by rw [hm, World.drewN_drewN, Nat.add_assoc]⟩

theorem toList_extract (S : Hw.Wd) (a t : Nat) : ((⟨S.toArray⟩ : ByteArray).extract a t).data.toList = (S.take t).drop a := by
  rw [ByteArray.data_extract]
  simp [List.extract_eq_take_drop, List.drop_take]

theorem toList_three (S V : Hw.Wd) (a t : Nat) : ((⟨S.toArray⟩ : ByteArray).extract 0 a ++ ⟨V.toArray⟩ ++ (⟨S.toArray⟩ : ByteArray).extract t S.length).data.toList = S.take a ++ V ++ S.drop t := by
  rw [ByteArray.data_append, ByteArray.data_append, Array.toList_append, Array.toList_append, toList_extract, toList_extract]
  simp

theorem pinv_skip {w wr : World} {g L M i at_ to n : Nat} {said : List (Hw.Wd × Hw.Wd)} {xs ys : List Nat} {S : Hw.Wd} {tb : Bool} (hL3 : L ≤ 3) (hS : Hw.wordAt L M i = S) (hi : i < xs.length) (hxl : xs.length = (Hw.upTo L M).length) (hat : at_ ≤ to)
    (hI : PInv w wr g L M said xs i S tb ys (fun a t => a < at_ ∨ (a = at_ ∧ t < to))) (hk : Hw.of ys (Hw.fold L ((S.take to).drop at_)) = Hw.fold L ((S.take to).drop at_)) :
    PInv w (wr.drewN n) g L M said xs i S tb ys (fun a t => a < at_ ∨ (a = at_ ∧ t < to + 1)) := by
  refine ⟨hI.row, hI.kept.drewN n, hI.good, hI.coarser, hI.yes, fun h => ⟨(hI.no h).1, fun a t hp h1 h2 => ?_⟩⟩
  by_cases hq : a < at_ ∨ (a = at_ ∧ t < to)
  · exact (hI.no h).2 a t hq h1 h2
  · obtain ⟨rfl, rfl⟩ : a = at_ ∧ t = to := by omega
    have := (hI.no h).1
    subst this
    exact Hw.piece_same hL3 hS (by omega) hat hk

theorem pinv_join {w wr w2 : World} {g L M i at_ to n : Nat} {said : List (Hw.Wd × Hw.Wd)} {xs ys : List Nat} {S : Hw.Wd} {tb : Bool} (hL3 : L ≤ 3) (hM6 : M ≤ 6) (hS : Hw.wordAt L M i = S) (hw : Hw.isWord L M S = true) (hi : i < xs.length) (hxl : xs.length = (Hw.upTo L M).length) (hat : at_ ≤ to) (hto : to ≤ S.length)
    (hI : PInv w wr g L M said xs i S tb ys (fun a t => a < at_ ∨ (a = at_ ∧ t < to)))
    {J : Nat} (hJ : J = Hw.fold L (S.take at_ ++ Hw.wordAt L M (Hw.of ys (Hw.fold L ((S.take to).drop at_))) ++ S.drop to))
    (hrow : w2.heap[g]? = some (.cells (intRow (Hw.joinL ys i J).1) 3 (0, 0))) (hK : Kept [g] (wr.drewN n) w2) :
    PInv w w2 g L M said xs i S (tb || (Hw.joinL ys i J).2) (Hw.joinL ys i J).1 (fun a t => a < at_ ∨ (a = at_ ∧ t < to + 1)) := by
  have hp := Hw.piece_word hL3 hI.good hw at_ to hat hto
  have hyl : ys.length = xs.length := hI.good.len.trans hxl.symm
  have hJl : J < ys.length := by rw [hJ, hI.good.len]; exact Hw.fold_lt_length hL3 hp.2.2.2.1
  have hE : Hw.Eqv L M said (Hw.wordAt L M i) (Hw.wordAt L M J) := by
    rw [hS, hJ, Hw.wordAt_fold hL3 hp.2.2.2.1]; exact hp.2.2.2.2
  refine ⟨hrow, (hI.kept.drewN n).trans hK, Hw.good_join hI.good (by omega) hJl hE, ?_, ?_, ?_⟩
  · exact Hw.coarser_trans (by omega) hI.coarser (Hw.coarser_join ys i J)
  · intro h
    cases hb : (Hw.joinL ys i J).2 with
    | true =>
      have h1 := Hw.cnt_join hI.good (by omega) hJl hb
      cases tb with
      | true => have := hI.yes rfl; omega
      | false => have := (hI.no rfl).1; subst this; exact h1
    | false =>
      rw [(Hw.joinL_false hb).1]
      rw [hb, Bool.or_false] at h
      exact hI.yes h
  · intro h
    rw [Bool.or_eq_false_iff] at h
    obtain ⟨h1, h2⟩ := h
    obtain ⟨rfl, hP⟩ := hI.no h1
    obtain ⟨e1, e2⟩ := Hw.joinL_false h2
    refine ⟨e1, fun a t hp h1 h2 => ?_⟩
    by_cases hq : a < at_ ∨ (a = at_ ∧ t < to)
    · exact hP a t hq h1 h2
    · obtain ⟨rfl, rfl⟩ : a = at_ ∧ t = to := by omega
      unfold Hw.PieceDone
      rw [hS, ← hJ]
      exact e2

set_option maxHeartbeats 800000 in
theorem pieces_any (xs : List Nat) (i b g gw L M cw : Nat) (w : World) (saidV : Value) (said : List (Hw.Wd × Hw.Wd)) (fresh : Bool) (hL1 : 1 ≤ L) (hL3 : L ≤ 3) (hM6 : M ≤ 6)
    (hgood : Hw.Good L M said xs) (hi : i < xs.length) (hn2 : xs.length ≤ 65536) (hgw : gw ≠ g)
    (hb : w.heap[b]? = some (refBlock L M saidV (.slice (some ⟨gw, 0, none⟩) xs.length cw) (.slice (some ⟨g, 0, none⟩) xs.length xs.length) fresh))
    (hg : w.heap[g]? = some (.cells (intRow xs) 3 (0, 0)))
    (hwc : ∀ k, k < xs.length → w.cell? ⟨gw, k, none⟩ = some (.string ⟨(Hw.wordAt L M k).toArray⟩)) :
    Calls Tryz.prog 70 #[.pointer (some ⟨b, 0, none⟩), .int .i64 (i : Int)] w fun e w' => ∃ trn ys, e = .returned (.bool trn) ∧
      w'.heap[g]? = some (.cells (intRow ys) 3 (0, 0)) ∧ Kept [g] w w' ∧ Hw.Good L M said ys ∧ Hw.Coarser xs ys ∧
      (trn = true → Hw.cnt ys < Hw.cnt xs) ∧ (trn = false → ys = xs ∧ ∀ a t, a ≤ t → t ≤ (Hw.wordAt L M i).length → Hw.PieceDone L M xs i a t) := by
  have hbg := ref_ne_ints hb hg
  have c3 := ref_c3 hb
  have cwi := hwc i hi
  have hwi : Hw.isWord L M (Hw.wordAt L M i) = true := Hw.wordAt_word hL3 (by rw [← hgood.len]; exact hi)
  have hlen6 : (Hw.wordAt L M i).length ≤ 6 := by have := ((Hw.isWord_iff _ _ _).1 hwi).2; omega
  have HB : Hid (w.heap[b]? = some (refBlock L M saidV (.slice (some ⟨gw, 0, none⟩) xs.length cw) (.slice (some ⟨g, 0, none⟩) xs.length xs.length) fresh)) := hb
  have HG : Hid (w.heap[g]? = some (.cells (intRow xs) 3 (0, 0))) := hg
  have HW : Hid (∀ k, k < xs.length → w.cell? ⟨gw, k, none⟩ = some (.string ⟨(Hw.wordAt L M k).toArray⟩)) := hwc
  have HGd : Hid (Hw.Good L M said xs) := hgood
  have HWI : Hid (Hw.isWord L M (Hw.wordAt L M i) = true) := hwi
  clear hb hg hwc hgood hwi
  generalize hS : Hw.wordAt L M i = S at *
  have HS : Hid (Hw.wordAt L M i = S) := hS
  clear hS
  go_enter Tryz.func70, Tryz.ntmps70
  go_wp2
  clear c3 cwi
  go_loopw [6, 7] (fun trn a wr => ∃ (at_ : Nat) (tb : Bool) (ys : List Nat), at_ ≤ S.length + 1 ∧ a = .int .i64 at_ ∧ trn = .bool tb ∧ PInv w wr g L M said xs i S tb ys (fun a _ => a < at_)) (fun _ a _ => S.length + 1 - (intOf a).toNat)
  case atStart => exact ⟨0, false, xs, by omega, rfl, rfl, HG.out, Kept.refl _ _, HGd.out, Hw.coarser_refl _, by simp, fun _ => ⟨rfl, fun a t h => by omega⟩⟩
  case round =>
    obtain ⟨at_, tb, ys, hat, rfl, rfl, hI⟩ := hrel
    by_cases hlt : at_ ≤ S.length
    · go_wp2
      go_loopw [6, 8] (fun trn a wr => ∃ (to : Nat) (tb : Bool) (ys : List Nat), at_ ≤ to ∧ to ≤ S.length + 1 ∧ a = .int .i64 to ∧ trn = .bool tb ∧ PInv w wr g L M said xs i S tb ys (fun a t => a < at_ ∨ (a = at_ ∧ t < to))) (fun _ a _ => S.length + 1 - (intOf a).toNat)
      case atStart => exact ⟨at_, tb, ys, Nat.le_refl _, by omega, rfl, rfl, hI.row, hI.kept, hI.good, hI.coarser, hI.yes, fun h => ⟨(hI.no h).1, fun a t hp h1 h2 => (hI.no h).2 a t (by omega) h1 h2⟩⟩
      case round =>
        clear hI
        obtain ⟨to, tb, ys, hat2, hto, rfl, rfl, hI⟩ := hrel
        by_cases hlt2 : to ≤ S.length
        · have hpw := Hw.piece_word hL3 hI.good HWI.out at_ to hat2 hlt2
          have hys : ys.length = xs.length := hI.good.len.trans HGd.out.len.symm
          have hbr := hI.kept.at HB.out (by simpa using hbg)
          have cL := ref_c0 hbr
          have c3 := ref_c3 hbr
          have c4 := ref_c4 hbr
          have e1 : Hw.index L ((⟨S.toArray⟩ : ByteArray).extract at_ to).data.toList = Hw.fold L ((S.take to).drop at_) := by
            rw [toList_extract]; exact Hw.index_eq hpw.1
          have hw1 : Hw.isWord L M ((⟨S.toArray⟩ : ByteArray).extract at_ to).data.toList = true := by rw [toList_extract]; exact hpw.1
          generalize hK : Hw.fold L ((S.take to).drop at_) = K at *
          have hKl : K < ys.length := hpw.2.1
          have hKK : K < xs.length := by omega
          have hJ : Hw.of ys K < xs.length := by have := hpw.2.2.1; omega
          have cK : wr.cell? ⟨g, K, none⟩ = some (.int .i64 ((Hw.of ys K : Nat) : Int)) := by
            rw [cell_intRow hI.row K hKl]; simp [Hw.of, hKl]
          have cJ : wr.cell? ⟨gw, Hw.of ys K, none⟩ = some (.string ⟨(Hw.wordAt L M (Hw.of ys K)).toArray⟩) := hI.kept.cell (HW.out _ hJ) (by simpa using hgw)
          have HP : Hid _ := hpw
          have HI : Hid _ := hI
          have HE1 : Hid _ := e1
          have HKf : Hid _ := hK
          have HYS : Hid _ := hys
          clear hpw hI hbr e1 hK hys
          generalize hV : Hw.wordAt L M (Hw.of ys K) = V at *
          have hVl : V.length ≤ 6 := by
            have := ((Hw.isWord_iff _ _ _).1 HP.out.2.2.2.1).2; simp at this; omega
          have hadd2 : ¬ (9223372036854775807 < at_ + V.length + (S.length - to)) := by omega
          have hw2 : Hw.isWord L M ((⟨S.toArray⟩ : ByteArray).extract 0 at_ ++ ⟨V.toArray⟩ ++ (⟨S.toArray⟩ : ByteArray).extract to S.length).data.toList = true := by
            rw [toList_three]; exact HP.out.2.2.2.1
          have e2 : Hw.index L ((⟨S.toArray⟩ : ByteArray).extract 0 at_ ++ ⟨V.toArray⟩ ++ (⟨S.toArray⟩ : ByteArray).extract to S.length).data.toList = Hw.fold L (S.take at_ ++ V ++ S.drop to) := by
            rw [toList_three]; exact Hw.index_eq HP.out.2.2.2.1
          have HE2 : Hid _ := e2
          have HW2 : Hid _ := hw2
          clear e2 hw2
          have HV : Hid _ := hV
          clear hV
          have hadd1 : ¬ (9223372036854775807 < at_ + V.length) := by omega
          go_wp2_with fail
          refine (index_any _ L M b _ hL1 hL3 hM6 hw1 cL).mono ?_
          rintro e w1 ⟨rfl, n1, rfl⟩
          rw [HE1.out]
          clear hw1
          by_cases hk : Hw.of ys K = K
          · have hkb : (((Hw.of ys K : Nat) : Int) == (K : Int)) = true := by simp [hk]
            have HK : Hid _ := hk
            clear hk
            go_wp2
            go_roundw
            case rel => exact ⟨to + 1, tb, ys, by omega, by omega, by go_num, rfl, pinv_skip hL3 HS.out hi HGd.out.len hat2 HI.out (by rw [HKf.out]; exact HK.out)⟩
            case measure => simp [intOf]; omega
          · have hkb : (((Hw.of ys K : Nat) : Int) == (K : Int)) = false := by simp; omega
            clear hk
            go_wp2_with fail
            go_quiet ((go_at_call 65; refine quiet_of2 (index_any _ L M b _ hL1 hL3 hM6 HW2.out cL)))
            rw [HE2.out]
            generalize hJ : Hw.fold L (S.take at_ ++ V ++ S.drop to) = J at *
            have hJl : J < ys.length := by rw [← hJ, HI.out.good.len]; exact Hw.fold_lt_length hL3 HP.out.2.2.2.1
            have HJ : Hid _ := hJ
            clear hJ
            go_wp2_with fail
            refine (join_any ys i J b g L M xs.length (wr.drewN (n1 + nq)) saidV (.slice (some ⟨gw, 0, none⟩) xs.length cw) fresh HYS.out hn2 hi (by have := HYS.out; omega) (HI.out.kept.at HB.out (by simpa using hbg)) HI.out.row).mono ?_
            rintro e w2 ⟨rfl, hg2, hK2⟩
            have R := pinv_join hL3 hM6 HS.out HWI.out hi HGd.out.len hat2 hlt2 HI.out (J := J) (by rw [HKf.out, HV.out]; exact HJ.out.symm) hg2 hK2
            have HR : Hid _ := R
            clear R hg2 hK2 cL c3 c4 cK cJ
            generalize (Hw.joinL ys i J).2 = r at *
            generalize (Hw.joinL ys i J).1 = zs at *
            cases tb with
            | true =>
              go_wp2
              go_roundw
              case rel => exact ⟨to + 1, true, zs, by omega, by omega, by go_num, rfl, by simpa using HR.out⟩
              case measure => simp [intOf]; omega
            | false =>
              go_wp2
              go_roundw
              case rel => exact ⟨to + 1, r, zs, by omega, by omega, by go_num, rfl, by simpa using HR.out⟩
              case measure => simp [intOf]; omega
        · have HI : Hid _ := hI
          clear hI
          go_wp2
          go_roundw
          case rel => exact ⟨at_ + 1, tb, ys, by omega, by go_num, rfl, HI.out.row, HI.out.kept, HI.out.good, HI.out.coarser, HI.out.yes, fun h => ⟨(HI.out.no h).1, fun a t hp h1 h2 => (HI.out.no h).2 a t (by omega) h1 h2⟩⟩
          case measure => simp [intOf]; omega
    · have HI : Hid _ := hI
      clear hI
      go_wp2
      go_ret
      exact ⟨tb, ys, rfl, HI.out.row, HI.out.kept, HI.out.good, HI.out.coarser, HI.out.yes, fun h => ⟨(HI.out.no h).1, fun a t h1 h2 => (HI.out.no h).2 a t (by omega) h1 h2⟩⟩
end Go.Proofs.YtfiebibpgbadlaaGreat
