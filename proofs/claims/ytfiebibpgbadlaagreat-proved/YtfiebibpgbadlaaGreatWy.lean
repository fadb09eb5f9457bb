import Derived.Test.YtfiebibpgbadlaaGreatDl
import Derived.Test.YtfiebibpgbadlaaGreatDqb
namespace Go.Proofs.YtfiebibpgbadlaaGreat
open Go.RowKit
set_option linter.unusedVariables false
set_option linter.unusedSimpArgs false

theorem joinC : Dr.JoinC := Dr.join_any

theorem ok_of_word {L M : Nat} {x : Hw.Wd} (h : Hw.isWord L M x = true) : Hw.Ok L x := by
  simp [Hw.isWord] at h
  simpa [Hw.Ok] using h.1

theorem BookR.leastOf {w : World} {bb L M : Nat} {rv : Value} {said R : List Hw.Rl} (h : BookR w bb L M rv said R) {x : Hw.Wd} (hx : Hw.isWord L M x = true) : ∃ m, Hw.IsLeast L M said x m := by
  obtain ⟨n, hn⟩ := Hw.NF.exists h.L1 h.L3 h.fin.rules _ x (Nat.le_refl _) (ok_of_word hx)
  exact ⟨n, h.fin.least h.L1 h.L3 h.words hx hn⟩

/-- What Why answers, of what Lines does. -/
theorem why_ans {w : World} {bb L M : Nat} {rv : Value} {said R : List Hw.Rl} (h : BookR w bb L M rv said R) {x y : Hw.Wd} (hx : Hw.isWord L M x = true) (hy : Hw.isWord L M y = true) {ls : List Hw.Ln}
    (ha : (¬ Hw.Eqv L M said x y ∧ ls = []) ∨ (Hw.Eqv L M said x y ∧ Hw.Sheet L M said ls ∧ ls.length ≤ 50000 ∧ ∃ t n, ls = t ++ [n] ∧ n.left = x ∧ n.right = y)) :
    (ls = [] → WhyAns L M said x y ls 4) ∧ (ls ≠ [] → WhyAns L M said x y ls 0) := by
  obtain ⟨m1, h1⟩ := h.leastOf hx
  obtain ⟨m2, h2⟩ := h.leastOf hy
  have hS : SameAns L M said x y (decide (m1 = m2)) 0 := ⟨fun _ _ => ⟨rfl, m1, m2, h1, h2, rfl⟩, fun hn => absurd ⟨hx, hy⟩ hn⟩
  rcases ha with ⟨hn, rfl⟩ | ⟨he, hs, hl, t, n, rfl, hnl, hnr⟩
  · refine ⟨fun _ => ⟨_, 0, hS, fun h => by omega, fun _ _ => ⟨rfl, rfl⟩, fun _ hb => ?_⟩, fun h => absurd rfl h⟩
    simp only [decide_eq_true_eq] at hb
    subst hb
    exact absurd ((Hw.eqv_clo L M said).next _ _ _ h1.same ((Hw.eqv_clo L M said).back _ _ h2.same)) hn
  · refine ⟨fun h => by simp at h, fun _ => ⟨_, 0, hS, fun h => by omega, fun _ hb => ?_, fun _ _ => ⟨rfl, ⟨hs.words, hs.drawn, by omega⟩, t, n, rfl, hnl, hnr⟩⟩⟩
    simp only [decide_eq_false_iff_not] at hb
    exact absurd (h1.uniq h.L3 (h2.of_same he)) hb

theorem plines (s t : ByteArray) (w : World) (bb L M : Nat) (rv : Value) (said R : List Hw.Rl) (hB : BookR w bb L M rv said R) (hs : Hw.isWord L M s.data.toList = true) (ht : Hw.isWord L M t.data.toList = true) :
    Calls Tryz.prog 34 #[sdv w bb, .int .i64 (L : Int), .int .i64 (M : Int), .string s, .string t] w fun e w' => Dr.LnP w w' L M said s.data.toList t.data.toList e := by
  have h := Dr.lines_any joinC w (sdv w bb) L M said s.data.toList t.data.toList hB.L1 hB.L3 hB.M6 (Nat.le_trans hB.few (by decide)) hB.words hs ht hB.sad
  rw [bytes_eta, bytes_eta] at h
  exact h

set_option maxHeartbeats 1600000 in
theorem whyC : WhyC := by
  intro s t w bb L M rv said R hs ht hB
  have HB := hide hB
  clear hB
  go_enter Tryz.func17, Tryz.ntmps17
  go_wp2_with fail
  refine (check_any _ bb w.heap.size L M _ _ [s, t] HB.out.L1 HB.out.L3 HB.out.M6 (by simp) (by simp; exact ⟨hs, ht⟩) (by exact (HB.out.same (below_alloc _ _)).blk) (by exact two_cells)).mono ?_
  rintro e w1 ⟨rfl, hsw⟩
  have HB1 := hide (below_trans (below_alloc _ _) (below_same hsw))
  have HR1 := hide (HB.out.same HB1.out)
  clear hsw
  by_cases hw : Hw.isWord L M s.data.toList = true ∧ Hw.isWord L M t.data.toList = true
  · rw [errW_two, if_pos hw]
    have HW := hide hw
    clear hw
    obtain ⟨sa, cap, hsv⟩ := HR1.out.sad.shape
    have c0 : w1.cell? ⟨bb, 0, none⟩ = some (.int .i64 (L : Int)) := cellAt HR1.out.blk rfl
    have c1 : w1.cell? ⟨bb, 1, none⟩ = some (.int .i64 (M : Int)) := cellAt HR1.out.blk rfl
    have c2 : w1.cell? ⟨bb, 2, none⟩ = some (.slice sa said.length cap) := by rw [← hsv]; exact cellAt HR1.out.blk rfl
    have HRd := hide (HR1.out.same (below_same (a_same w1)))
    have HC := hide (plines s t w1.drew bb L M rv said R HRd.out HW.out.1 HW.out.2)
    rw [show sdv w1.drew bb = sdv w1 bb from rfl, hsv] at HC
    have HBd := hide (below_trans HB1.out (below_same (a_same w1)))
    clear hsv HRd
    go_wp2_with fail
    go_region_with
      (go_at_call 34; refine HC.out.mono ?_; rintro e w2 ⟨ov, ls, rfl, hla, hb2, hans⟩; obtain ⟨sa2, cap2, rfl⟩ := hla.shape; have HAN := hide (why_ans HB.out HW.out.1 HW.out.2 hans); have HLA := hide (Dr.LinesAt.low hla HBd.out.size); have HB2 := hide (below_trans HBd.out hb2); clear hla hb2 hans)
    all_goals
      clear c0 c1 c2 HC
      by_cases hl : ls = []
      · have HA4 := hide (HAN.out.1 hl)
        subst hl
        clear HAN
        go_wp2
        go_ret2
        exact ⟨[], _, 4, rfl, HA4.out, ⟨rfl, .inl ⟨rfl, rfl⟩⟩, HB2.out⟩
      · have HA0 := hide (HAN.out.2 hl)
        have hpos : 0 < ls.length := List.length_pos_iff.2 hl
        clear hl HAN
        go_wp2
        go_ret2
        exact ⟨ls, _, 0, rfl, HA0.out, HLA.out, HB2.out⟩
  · rw [errW_two, if_neg hw]
    have HW := hide hw
    clear hw
    go_wp2
    go_ret2
    exact ⟨[], _, 2, rfl, ⟨false, 2, ⟨fun a b => absurd ⟨a, b⟩ HW.out, fun _ => ⟨rfl, rfl⟩⟩, fun _ => ⟨rfl, rfl⟩, fun h => by omega, fun h => by omega⟩, ⟨rfl, .inl ⟨rfl, rfl⟩⟩, HB1.out⟩
end Go.Proofs.YtfiebibpgbadlaaGreat
