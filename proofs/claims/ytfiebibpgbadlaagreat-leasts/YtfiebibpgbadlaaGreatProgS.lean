import Derived.Test.YtfiebibpgbadlaaGreatProgR
namespace Go.Proofs.YtfiebibpgbadlaaGreat
open Go.RowKit
set_option linter.unusedVariables false
set_option linter.unusedSimpArgs false

def bookBlock (L M : Nat) (sv rv : Value) : Obj := .cells #[.int .i64 L, .int .i64 M, sv, rv] 86 (0, 0)

theorem num_any (e : Int) (w : World) : Calls Tryz.prog 37 #[.int .i64 e] w fun r w' => r = .returned (.int .i64 e) ∧ w' = w := by
  go_enter Tryz.func37, Tryz.ntmps37
  go_wp2
  go_ret
  exact ⟨rfl, rfl⟩

theorem pnew_bad (l m : Int) (w : World) (h : l < 1 ∨ 3 < l ∨ m < 1 ∨ 6 < m) :
    Calls Tryz.prog 35 #[.int .i64 l, .int .i64 m] w fun e w' => e = .returned (.tuple #[.pointer none, .int .i64 1]) ∧ w' = w := by
  by_cases h1 : l < 1
  · go_enter Tryz.func35, Tryz.ntmps35
    go_wp2
    go_ret2
    exact ⟨rfl, rfl⟩
  · by_cases h2 : 3 < l
    · go_enter Tryz.func35, Tryz.ntmps35
      go_wp2
      go_ret2
      exact ⟨rfl, rfl⟩
    · by_cases h3 : m < 1
      · go_enter Tryz.func35, Tryz.ntmps35
        go_wp2
        go_ret2
        exact ⟨rfl, rfl⟩
      · have h4 : 6 < m := by omega
        go_enter Tryz.func35, Tryz.ntmps35
        go_wp2
        go_ret2
        exact ⟨rfl, rfl⟩

theorem pnew_any (L M : Nat) (w : World) (hL1 : 1 ≤ L) (hL3 : L ≤ 3) (hM1 : 1 ≤ M) (hM6 : M ≤ 6) :
    Calls Tryz.prog 35 #[.int .i64 (L : Int), .int .i64 (M : Int)] w fun e w' => e = .returned (.tuple #[.pointer (some ⟨w.heap.size, 0, none⟩), .int .i64 0]) ∧ w' = w.alloc (bookBlock L M (.slice none 0 0) (.slice none 0 0)) := by
  have b1 : decide ((L : Int) < 1) = false := by simp; omega
  have b2 : decide (3 < (L : Int)) = false := by simp; omega
  have b3 : decide ((M : Int) < 1) = false := by simp; omega
  have b4 : decide (6 < (M : Int)) = false := by simp; omega
  go_enter Tryz.func35, Tryz.ntmps35
  go_wp2
  go_ret2
  exact ⟨rfl, rfl⟩

theorem closed_any (w : World) (bb L : Nat) (hL1 : 1 ≤ L) (c0 : w.cell? ⟨bb, 0, none⟩ = some (.int .i64 L)) :
    Calls Tryz.prog 41 #[.pointer (some ⟨bb, 0, none⟩)] w fun e w' => e = .returned (.bool false) ∧ w' = w := by
  have h0 : ((L : Int) == 0) = false := by simp; omega
  go_enter Tryz.func41, Tryz.ntmps41
  go_wp2
  go_ret
  exact ⟨by simp, rfl⟩

theorem sclone_any (s : ByteArray) (w : World) (hs : s.size ≤ 6) :
    Calls Tryz.prog 32 #[.string s] w fun e w' => e = .returned (.string s) ∧ Below w.heap.size w w' := by
  go_enter Tryz.func32, Tryz.ntmps32
  go_wp2_with fail
  refine (Tryz.stringslite_Clone s _ (by omega)).mono ?_
  rintro e w1 ⟨rfl, hb⟩
  have HB := hide hb
  clear hb
  go_wp2
  go_ret
  exact ⟨rfl, HB.out⟩

/-- every text is a word. -/
def allW (L M : Nat) (ss : List ByteArray) : Bool := ss.all fun s => Hw.isWord L M s.data.toList
def errW (L M : Nat) (ss : List ByteArray) : Int := if allW L M ss = true then 0 else 2

theorem SameW.refl (w : World) : SameW w w := ⟨rfl, rfl, rfl, rfl⟩
theorem SameW.cell {a b : World} (h : SameW a b) {p : Addr} {v : Value} (hc : a.cell? p = some v) : b.cell? p = some v := (h.kept []).cell hc (by simp)

theorem allW_step {L M : Nat} {ss : List ByteArray} {k : Nat} (hk : k < ss.length) (ha : allW L M (ss.take k) = true) (h : Hw.isWord L M (ss[k]).data.toList = true) : allW L M (ss.take (k + 1)) = true := by
  unfold allW at *
  rw [List.take_succ_eq_append_getElem hk, List.all_append, ha]
  simpa using h
theorem errW_ok {L M : Nat} {ss : List ByteArray} {k : Nat} (hk : ¬ k < ss.length) (ha : allW L M (ss.take k) = true) : (0 : Int) = errW L M ss := by
  rw [List.take_of_length_le (by omega)] at ha
  simp [errW, ha]
theorem errW_no {L M : Nat} {ss : List ByteArray} {k : Nat} (hk : k < ss.length) (h : Hw.isWord L M (ss[k]).data.toList = false) : (2 : Int) = errW L M ss := by
  have : ¬ allW L M ss = true := by
    unfold allW
    intro ha
    rw [List.all_eq_true] at ha
    have := ha _ (List.getElem_mem hk)
    rw [h] at this; cases this
  simp [errW, this]

set_option maxHeartbeats 1600000 in
theorem check_any (w : World) (bb g L M : Nat) (sv rv : Value) (ss : List ByteArray) (hL1 : 1 ≤ L) (hL3 : L ≤ 3) (hM6 : M ≤ 6) (hn : ss.length ≤ 65536) (hs : ∀ s, s ∈ ss → s.size ≤ maxLen) (hb : w.heap[bb]? = some (bookBlock L M sv rv)) (hc : ∀ j s, ss[j]? = some s → w.cell? ⟨g, j, none⟩ = some (.string s)) :
    Calls Tryz.prog 31 #[.pointer (some ⟨bb, 0, none⟩), .slice (some ⟨g, 0, none⟩) ss.length ss.length] w fun e w' => e = .returned (.int .i64 (errW L M ss)) ∧ SameW w w' := by
  have c0 : w.cell? ⟨bb, 0, none⟩ = some (.int .i64 L) := cellAt hb rfl
  have c1 : w.cell? ⟨bb, 1, none⟩ = some (.int .i64 M) := cellAt hb rfl
  have HC := hide hc
  have HS := hide hs
  clear hc hs hb
  go_enter Tryz.func31, Tryz.ntmps31
  go_wp2_with fail
  refine (closed_any _ bb L hL1 c0).mono ?_
  rintro e w1 ⟨rfl, rfl⟩
  go_wp2_with fail
  go_loopw [11] (fun kt wr => ∃ k : Nat, k ≤ ss.length ∧ kt = .int .i64 (k : Int) ∧ SameW w1 wr ∧ Hid (allW L M (ss.take k) = true)) (fun kt _ => ss.length - (intOf kt).toNat)
  case atStart => exact ⟨0, Nat.zero_le _, rfl, SameW.refl _, by simp [Hid, allW]⟩
  case round =>
    obtain ⟨k, hk, rfl, hsw, hall⟩ := hrel
    by_cases hlt : k < ss.length
    · have d0 := hsw.cell c0
      have d1 := hsw.cell c1
      have d2 := hsw.cell (HC.out k ss[k] (List.getElem?_eq_getElem hlt))
      have hsz := HS.out ss[k] (List.getElem_mem hlt)
      generalize hsk : ss[k] = s at d2 hsz
      have HSW := hide hsw
      have HSK := hide hsk
      clear hsw hsk
      go_wp2
      go_region_held3 (fun w' => w'.cell? ⟨bb, 0, none⟩ = some (.int .i64 L) ∧ w'.cell? ⟨bb, 1, none⟩ = some (.int .i64 M)) (go_keep)
        (first | (go_at_call 52; refine (is_any s L M _ hsz hL1 hL3 hM6).mono ?_; rintro e w2 ⟨rfl, rfl⟩))
      all_goals
        cases hw : Hw.isWord L M s.data.toList with
        | true =>
          have HW := hide hw
          clear hw
          go_wp2
          go_roundw
          case rel => exact ⟨k + 1, by omega, by go_num, HSW.out.trans ⟨rfl, rfl, rfl, rfl⟩, allW_step hlt hall.out (by rw [HSK.out]; exact HW.out)⟩
          case measure => simp [intOf]; omega
        | false =>
          have HW := hide hw
          clear hw
          go_wp2
          go_ret
          exact ⟨ret_int (errW_no hlt (by rw [HSK.out]; exact HW.out)), HSW.out.trans ⟨rfl, rfl, rfl, rfl⟩⟩
    · go_wp2
      go_ret
      exact ⟨ret_int (errW_ok hlt hall.out), hsw⟩
end Go.Proofs.YtfiebibpgbadlaaGreat
