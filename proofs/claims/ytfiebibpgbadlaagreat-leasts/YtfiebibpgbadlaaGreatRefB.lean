import Derived.Test.YtfiebibpgbadlaaGreatRefA
namespace Go.Proofs.YtfiebibpgbadlaaGreat
open Go.RowKit
set_option linter.unusedVariables false
set_option linter.unusedSimpArgs false

/-- A Book of the document's. -/
def refBlock (L M : Nat) (said words same : Value) (fresh : Bool) : Obj := .cells #[.int .i64 L, .int .i64 M, said, words, same, .bool fresh] 62 (0, 0)

section
variable {w : World} {b L M : Nat} {said words same : Value} {fresh : Bool} (h : w.heap[b]? = some (refBlock L M said words same fresh))
theorem ref_c0 (h : w.heap[b]? = some (refBlock L M said words same fresh)) : w.cell? ⟨b, 0, none⟩ = some (.int .i64 L) := cellAt h rfl
theorem ref_c1 (h : w.heap[b]? = some (refBlock L M said words same fresh)) : w.cell? ⟨b, 1, none⟩ = some (.int .i64 M) := cellAt h rfl
theorem ref_c2 (h : w.heap[b]? = some (refBlock L M said words same fresh)) : w.cell? ⟨b, 2, none⟩ = some said := cellAt h rfl
theorem ref_c3 (h : w.heap[b]? = some (refBlock L M said words same fresh)) : w.cell? ⟨b, 3, none⟩ = some words := cellAt h rfl
theorem ref_c4 (h : w.heap[b]? = some (refBlock L M said words same fresh)) : w.cell? ⟨b, 4, none⟩ = some same := cellAt h rfl
theorem ref_c5 (h : w.heap[b]? = some (refBlock L M said words same fresh)) : w.cell? ⟨b, 5, none⟩ = some (.bool fresh) := cellAt h rfl
theorem ref_free (h : w.heap[b]? = some (refBlock L M said words same fresh)) (j : Nat) : w.frozen? ⟨b, j, none⟩ = false := frozen_of_row w b j _ _ h
theorem ref_ne_ints {g : Nat} {c : Array Value} (h : w.heap[b]? = some (refBlock L M said words same fresh)) (hg : w.heap[g]? = some (.cells c 3 (0, 0))) : b ≠ g := by
  rintro rfl; rw [hg] at h; simp [refBlock] at h
theorem ref_ne_strs {g : Nat} {c : Array Value} {fr : Nat × Nat} (h : w.heap[b]? = some (refBlock L M said words same fresh)) (hg : w.heap[g]? = some (.cells c 9 fr)) : b ≠ g := by
  rintro rfl; rw [hg] at h; simp [refBlock] at h
end

theorem strs_ne_ints {w : World} {g h : Nat} {c d : Array Value} {fr : Nat × Nat} (hg : w.heap[g]? = some (.cells c 9 fr)) (hh : w.heap[h]? = some (.cells d 3 (0, 0))) : g ≠ h := by
  rintro rfl; rw [hg] at hh; simp at hh

theorem join_round {w wr : World} {g x y j : Nat} {xs : List Nat} (hlt : j < xs.length) (hv : xs[j] = y) (hK : Kept [g] w wr)
    (hg : wr.heap[g]? = some (.cells (intRow (Hw.joinTo xs x y j)) 3 (0, 0))) :
    (wr.setCell ⟨g, j, none⟩ (.int .i64 (x : Int))).heap[g]? = some (.cells (intRow (Hw.joinTo xs x y (j + 1))) 3 (0, 0)) ∧ Kept [g] w (wr.setCell ⟨g, j, none⟩ (.int .i64 (x : Int))) := by
  refine ⟨?_, hK.setCell (by simp) _⟩
  rw [heap_setCell_same wr g j _ _ _ hg, set_intRow, Hw.joinTo_succ xs x y j hlt]
  simp [Hw.swapTo, hv]

set_option maxHeartbeats 800000 in
theorem join_any (xs : List Nat) (i k b g L M n : Nat) (w : World) (said words : Value) (fresh : Bool) (hn : xs.length = n) (hn2 : n ≤ 65536) (hi : i < n) (hk : k < n)
    (hb : w.heap[b]? = some (refBlock L M said words (.slice (some ⟨g, 0, none⟩) n n) fresh))
    (hg : w.heap[g]? = some (.cells (intRow xs) 3 (0, 0))) :
    Calls Tryz.prog 69 #[.pointer (some ⟨b, 0, none⟩), .int .i64 (i : Int), .int .i64 (k : Int)] w fun e w' => e = .returned (.bool (Hw.joinL xs i k).2) ∧
      w'.heap[g]? = some (.cells (intRow (Hw.joinL xs i k).1) 3 (0, 0)) ∧ Kept [g] w w' := by
  subst hn
  have hbg := ref_ne_ints hb hg
  have c4 := ref_c4 hb
  have gi := cell_intRow hg i hi
  have gk := cell_intRow hg k hk
  have Hb := hb; have Hg := hg
  have E : Hid (Hw.joinL xs i k = if xs[i] = xs[k] then (xs, false) else (xs.map (Hw.swapTo (min xs[i] xs[k]) (max xs[i] xs[k])), true)) := by
    simp [Hid, Hw.joinL, List.getD_eq_getElem?_getD, List.getElem?_eq_getElem hi, List.getElem?_eq_getElem hk]
  by_cases heq : xs[i] = xs[k]
  · have hq : (((xs[i] : Nat) : Int) == ((xs[k] : Nat) : Int)) = true := by simp [heq]
    clear hb hg
    go_enter Tryz.func69, Tryz.ntmps69
    go_wp2
    go_ret
    exact ⟨ret_bool (by rw [E.out, if_pos heq]), by rw [E.out, if_pos heq]; exact Hg, Kept.refl _ _⟩
  · have hq : (((xs[i] : Nat) : Int) == ((xs[k] : Nat) : Int)) = false := by simp; omega
    have HB : Hid (w.heap[b]? = some (refBlock L M said words (.slice (some ⟨g, 0, none⟩) xs.length xs.length) fresh)) := hb
    have HG : Hid (w.heap[g]? = some (.cells (intRow xs) 3 (0, 0))) := hg
    have HQ : Hid (¬ xs[i] = xs[k]) := heq
    clear hb hg Hb Hg
    by_cases hle : xs[i] < xs[k]
    · have HM : Hid (min xs[i] xs[k] = xs[i] ∧ max xs[i] xs[k] = xs[k]) := ⟨by omega, by omega⟩
      clear heq
      go_enter Tryz.func69, Tryz.ntmps69
      go_wp2
      clear c4 gi gk
      go_loopw [10] (fun t wr => ∃ j : Nat, j ≤ xs.length ∧ t = .int .i64 j ∧ wr.heap[g]? = some (.cells (intRow (Hw.joinTo xs xs[i] xs[k] j)) 3 (0, 0)) ∧ Kept [g] w wr) (fun t _ => xs.length - (intOf t).toNat)
      case atStart => exact ⟨0, Nat.zero_le _, rfl, by rw [Hw.joinTo_zero]; exact HG.out, Kept.refl _ _⟩
      case round =>
        obtain ⟨j, hj, rfl, hgr, hK⟩ := hrel
        have hbr := hK.at HB.out (by simpa using hbg)
        have c4 := ref_c4 hbr
        have HK : Hid (Kept [g] w wr) := hK
        have HGR : Hid (wr.heap[g]? = some (.cells (intRow (Hw.joinTo xs xs[i] xs[k] j)) 3 (0, 0))) := hgr
        clear hbr hK
        by_cases hlt : j < xs.length
        · have cj : wr.cell? ⟨g, j, none⟩ = some (.int .i64 ((xs[j] : Nat) : Int)) := by
            rw [cell_intRow hgr j (by rw [Hw.length_joinTo]; exact hlt), Hw.joinTo_at xs _ _ j hlt]
          have fj : wr.frozen? ⟨g, j, none⟩ = false := frozen_of_row wr g j _ _ hgr
          clear hgr
          by_cases hv : xs[j] = xs[k]
          · have hvb : (((xs[j] : Nat) : Int) == ((xs[k] : Nat) : Int)) = true := by simp [hv]
            have HV : Hid (xs[j] = xs[k]) := hv
            clear hv
            go_wp2
            go_roundw
            case rel => exact ⟨j + 1, by omega, by go_num, join_round hlt HV.out HK.out HGR.out⟩
            case measure => simp [intOf]; omega
          · have hvb : (((xs[j] : Nat) : Int) == ((xs[k] : Nat) : Int)) = false := by simp; omega
            have HV : Hid (¬ xs[j] = xs[k]) := hv
            clear hv
            go_wp2
            go_roundw
            case rel => exact ⟨j + 1, by omega, by go_num, by rw [Hw.joinTo_succ_same xs _ _ j hlt HV.out]; exact HGR.out, HK.out⟩
            case measure => simp [intOf]; omega
        · clear hgr
          go_wp2
          go_ret
          refine ⟨ret_bool (by rw [E.out, if_neg HQ.out]), ?_, HK.out⟩
          have := HGR.out
          rw [Hw.joinTo_all xs _ _ j (by omega)] at this
          rw [this, E.out, if_neg HQ.out, HM.out.1, HM.out.2]

    · have HM : Hid (min xs[i] xs[k] = xs[k] ∧ max xs[i] xs[k] = xs[i]) := ⟨by omega, by omega⟩
      have hlt2 : xs[k] < xs[i] := by omega
      clear heq
      go_enter Tryz.func69, Tryz.ntmps69
      go_wp2
      clear c4 gi gk
      go_loopw [10] (fun t wr => ∃ j : Nat, j ≤ xs.length ∧ t = .int .i64 j ∧ wr.heap[g]? = some (.cells (intRow (Hw.joinTo xs xs[k] xs[i] j)) 3 (0, 0)) ∧ Kept [g] w wr) (fun t _ => xs.length - (intOf t).toNat)
      case atStart => exact ⟨0, Nat.zero_le _, rfl, by rw [Hw.joinTo_zero]; exact HG.out, Kept.refl _ _⟩
      case round =>
        obtain ⟨j, hj, rfl, hgr, hK⟩ := hrel
        have hbr := hK.at HB.out (by simpa using hbg)
        have c4 := ref_c4 hbr
        have HK : Hid (Kept [g] w wr) := hK
        have HGR : Hid (wr.heap[g]? = some (.cells (intRow (Hw.joinTo xs xs[k] xs[i] j)) 3 (0, 0))) := hgr
        clear hbr hK
        by_cases hlt : j < xs.length
        · have cj : wr.cell? ⟨g, j, none⟩ = some (.int .i64 ((xs[j] : Nat) : Int)) := by
            rw [cell_intRow hgr j (by rw [Hw.length_joinTo]; exact hlt), Hw.joinTo_at xs _ _ j hlt]
          have fj : wr.frozen? ⟨g, j, none⟩ = false := frozen_of_row wr g j _ _ hgr
          clear hgr
          by_cases hv : xs[j] = xs[i]
          · have hvb : (((xs[j] : Nat) : Int) == ((xs[i] : Nat) : Int)) = true := by simp [hv]
            have HV : Hid (xs[j] = xs[i]) := hv
            clear hv
            go_wp2
            go_roundw
            case rel => exact ⟨j + 1, by omega, by go_num, join_round hlt HV.out HK.out HGR.out⟩
            case measure => simp [intOf]; omega
          · have hvb : (((xs[j] : Nat) : Int) == ((xs[i] : Nat) : Int)) = false := by simp; omega
            have HV : Hid (¬ xs[j] = xs[i]) := hv
            clear hv
            go_wp2
            go_roundw
            case rel => exact ⟨j + 1, by omega, by go_num, by rw [Hw.joinTo_succ_same xs _ _ j hlt HV.out]; exact HGR.out, HK.out⟩
            case measure => simp [intOf]; omega
        · clear hgr
          go_wp2
          go_ret
          refine ⟨ret_bool (by rw [E.out, if_neg HQ.out]), ?_, HK.out⟩
          have := HGR.out
          rw [Hw.joinTo_all xs _ _ j (by omega)] at this
          rw [this, E.out, if_neg HQ.out, HM.out.1, HM.out.2]

end Go.Proofs.YtfiebibpgbadlaaGreat
