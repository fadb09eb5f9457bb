import Derived.Test.YtfiebibpgbadlaaKeepE
namespace Go.Proofs.Ytfiebibpgbadlaa
open Go.RowKit
set_option linter.unusedVariables false
set_option linter.unusedSimpArgs false

structure FewM (L M : Nat) (said l : List Hw.Rl) : Prop where
  apart : ∀ i k (hi : i < l.length) (hk : k < l.length), i ≠ k → ¬ Hw.Occ (l[k]).1 (l[i]).1
  to_ : ∀ i k (hi : i < l.length) (hk : k < l.length), ¬ Hw.Occ (l[k]).1 (l[i]).2
  one : ∀ i (hi : i < l.length), Hw.isWord L M (l[i]).1 = true ∧ Hw.isWord L M (l[i]).2 = true ∧ Hw.IsLeast L M said (l[i]).1 (l[i]).2 ∧ Hw.fold L (l[i]).2 < Hw.fold L (l[i]).1
  up : ∀ i (hi : i + 1 < l.length), Hw.fold L (l[i]).1 < Hw.fold L (l[i + 1]).1

theorem few_math {w : World} {bb L M : Nat} {rv : Value} {said R l : List Hw.Rl} (hB : BookR w bb L M rv said R) (hl : Hw.RulesAns L M said l) : FewM L M said l := by
  have hm : ∀ r, r ∈ l ↔ r ∈ R := fun r => (hl.mem r).trans (hB.fin.theRule hB.L1 hB.L3 hB.words hB.toirr r).symm
  have hp := List.pairwise_iff_getElem.1 hl.sorted
  refine ⟨fun i k hi hk hne ho => ?_, fun i k hi hk ho => ?_, fun i hi => ?_, fun i hi => hp i (i + 1) _ hi (by omega)⟩
  · have he := hB.fin.apart.eq ((hm _).1 (List.getElem_mem hk)) ((hm _).1 (List.getElem_mem hi)) ho
    rcases Nat.lt_or_gt_of_ne hne with h | h
    · have := hp i k hi hk h; rw [he] at this; omega
    · have := hp k i hk hi h; rw [he] at this; omega
  · exact hB.toirr _ ((hm _).1 (List.getElem_mem hi)) _ ((hm _).1 (List.getElem_mem hk)) ho
  · have hr := (hm _).1 (List.getElem_mem hi)
    exact ⟨hB.fin.rules.from_ _ hr, hB.fin.rules.to_ _ hr, ((hl.mem _).1 (List.getElem_mem hi)).to_, hB.fin.rules.less _ hr⟩

theorem pair_least {w : World} {bb L M : Nat} {rv : Value} {said R : List Hw.Rl} (hB : BookR w bb L M rv said R) {p : Hw.Rl} (hp : p ∈ said) : ∃ m, Hw.IsLeast L M said p.1 m ∧ Hw.IsLeast L M said p.2 m := by
  obtain ⟨n, hn⟩ := Hw.NF.exists hB.L1 hB.L3 hB.fin.rules _ p.1 (Nat.le_refl _) (Hw.isWord_ok (hB.words p hp).1)
  have h := hB.fin.least hB.L1 hB.L3 hB.words (hB.words p hp).1 hn
  exact ⟨n, h, h.of_same ((Hw.eqv_clo L M said).back _ _ ((Hw.eqv_clo L M said).said p hp))⟩

theorem at_no (s p : Hw.Wd) (w : World) (hs : s.length ≤ 6) (hp : p.length ≤ 6) (hn : ¬ Hw.Occ p s) :
    Calls Try.prog 22 #[.string ⟨s.toArray⟩, .string ⟨p.toArray⟩, .int .i64 0] w fun e w' => e = .returned (.int .i64 (-1)) ∧ ∃ n, w' = w.drewN n := by
  have h0 := at_any s p 0 w hs hp (by omega)
  rw [show ((0 : Nat) : Int) = 0 from rfl] at h0
  refine h0.mono ?_
  rintro e w' ⟨r, n, rfl, hA, rfl⟩
  have h := atR_occ hA
  rcases hA with ⟨rfl, _⟩ | ⟨i, rfl, _⟩
  · exact ⟨rfl, n, rfl⟩
  · exact absurd (h.1 (by omega)) hn

theorem less_yes (a b : Hw.Wd) (L M : Nat) (w : World) (hL1 : 1 ≤ L) (hL3 : L ≤ 3) (hM6 : M ≤ 6) (ha : Hw.isWord L M a = true) (hb : Hw.isWord L M b = true) (h : Hw.fold L a < Hw.fold L b) :
    Calls Try.prog 21 #[.string ⟨a.toArray⟩, .string ⟨b.toArray⟩] w fun e w' => e = .returned (.bool true) ∧ w' = w := by
  have h1 := Hw.isWord_len ha
  have h2 := Hw.isWord_len hb
  refine (less_any a b L w hL1 hL3 (by omega) (by omega) (Hw.isWord_ok ha) (Hw.isWord_ok hb)).mono ?_
  rintro e w' ⟨rfl, rfl⟩
  exact ⟨by simp [h], rfl⟩

/-- A Book that is asked, and its rules in a list. -/
structure KRl (w W : World) (bb L M B : Nat) (rv ov : Value) (said R l : List Hw.Rl) : Prop where
  bk : KBk w W bb L M rv said R
  rows : RulesAt W B ov l
theorem KRl.grow {w W W' : World} {bb L M B : Nat} {rv ov : Value} {said R l : List Hw.Rl} (h : KRl w W bb L M B rv ov said R l) (hb : Below W.heap.size W W') : KRl w W' bb L M B rv ov said R l := ⟨h.bk.grow hb, h.rows.below hb⟩
theorem KRl.drewN {w W : World} {bb L M B : Nat} {rv ov : Value} {said R l : List Hw.Rl} (h : KRl w W bb L M B rv ov said R l) (n : Nat) : KRl w (W.drewN n) bb L M B rv ov said R l := h.grow (below_draw n)

set_option maxRecDepth 2000 in
set_option maxHeartbeats 3200000 in
theorem few_any (HP : RulesC) (HQ : CountC) (lt mo : Int) (sv : Option Addr) (cap : Nat) (cs : List Int) (m : Int) (w : World) (hl : -9223372036854775808 ≤ lt ∧ lt ≤ 9223372036854775807) (ho : -9223372036854775808 ≤ mo ∧ mo ≤ 9223372036854775807) (hm : w.cell? ⟨0, 0, none⟩ = some (.int .i64 m)) (hS : PutsAt w sv cs) :
    Calls Try.prog 8 #[.agg #[.int .i64 lt, .int .i64 mo, .slice sv cs.length cap]] w fun e w' => KTrue w e w' := by
  have hp1 := pickN_lt lt (n := 3) (by omega)
  have hp2 := pickN_lt mo (n := 6) (by omega)
  have o0 : (w.alloc (putBox lt mo sv cs.length cap)).cell? ⟨w.heap.size, 0, none⟩ = some (.int .i64 lt) := cellAt (heap_alloc_new w _) rfl
  have o1 : (w.alloc (putBox lt mo sv cs.length cap)).cell? ⟨w.heap.size, 1, none⟩ = some (.int .i64 mo) := cellAt (heap_alloc_new w _) rfl
  have o2 : (w.alloc (putBox lt mo sv cs.length cap)).cell? ⟨w.heap.size, 2, none⟩ = some (.slice sv cs.length cap) := cellAt (heap_alloc_new w _) rfl
  have hmb : (w.alloc (putBox lt mo sv cs.length cap)).cell? ⟨0, 0, none⟩ = some (.int .i64 m) := ((Kept.refl [] w).alloc _).cell hm (by simp)
  have HB0 := hide (below_alloc w (putBox lt mo sv cs.length cap))
  have HPA := hide (hS.below HB0.out)
  unfold putBox at o0 o1 o2 hmb HB0 HPA
  have h_lt := hide hl
  have h_mo := hide ho
  clear hl ho
  obtain ⟨L, hL⟩ : ∃ L, 1 + pickN lt 3 = L := ⟨_, rfl⟩
  obtain ⟨M, hM⟩ : ∃ M, 1 + pickN mo 6 = M := ⟨_, rfl⟩
  have hL1 : 1 ≤ L := by omega
  have hL3 : L ≤ 3 := by omega
  have hM6 : M ≤ 6 := by omega
  have HL := hide hL
  have HM := hide hM
  clear hp1 hp2 hL hM
  go_enter Try.func8, Try.ntmps8
  go_wp2_with fail
  refine (kput_any HP HQ lt mo sv cap cs m _ h_lt.out.1 h_lt.out.2 h_mo.out.1 h_mo.out.2 (by exact hmb) (by exact HPA.out)).mono ?_
  rintro e w1 hK
  rw [HL.out, HM.out] at hK
  obtain ⟨bb, rv, R, rfl, _, hb1, hB1⟩ := hK
  have q2 : w1.cell? ⟨w.heap.size, 2, none⟩ = some (.slice sv cs.length cap) := (hb1.cell (p := ⟨w.heap.size, 2, none⟩) (lt_of_cell o2)).trans o2
  have HBk : Hid (KBk w w1 bb L M rv (saidOf cs L M 12) R) := ⟨below_trans HB0.out hb1, hB1⟩
  clear hb1 hB1 o0 o1 o2 hmb HPA HB0
  go_wp2_with fail
  refine (HP _ bb L M rv _ R (by exact HBk.out.book)).mono ?_
  rintro e w2 ⟨l, ov, rfl, hA, hLL, hb2⟩
  have hF := few_math HBk.out.book hA
  have q3 : w2.cell? ⟨w.heap.size, 2, none⟩ = some (.slice sv cs.length cap) := (hb2.cell (p := ⟨w.heap.size, 2, none⟩) (lt_of_cell q2)).trans q2
  obtain ⟨sa, cap2, rfl⟩ := hLL.shape
  have H0 : Hid (KRl w w2 bb L M w1.heap.size rv (.slice sa l.length cap2) (saidOf cs L M 12) R l) := ⟨HBk.out.grow hb2, hLL⟩
  have hlen := hLL.le
  unfold maxLen at hlen
  have HF := hide hF
  clear hA hb2 hLL hF HBk q2
  go_wp2_with fail
  go_loopw [7] (fun iv wr => ∃ i : Nat, i ≤ l.length ∧ iv = .int .i64 (i : Int) ∧ KRl w wr bb L M w1.heap.size rv (.slice sa l.length cap2) (saidOf cs L M 12) R l ∧ wr.cell? ⟨w.heap.size, 2, none⟩ = some (.slice sv cs.length cap)) (fun iv _ => l.length - (intOf iv).toNat)
  case atStart => exact ⟨0, Nat.zero_le _, rfl, H0.out, q3⟩
  case round =>
    clear H0 q3
    obtain ⟨i, hi, rfl, hK, q2⟩ := hrel
    have HK := hide hK
    by_cases hlt : i < l.length
    · clear hK
      go_wp2_with fail
      go_loopw [8] (fun kv wr' => ∃ k n : Nat, k ≤ l.length ∧ kv = .int .i64 (k : Int) ∧ wr' = wr.drewN n) (fun kv _ => l.length - (intOf kv).toNat)
      case atStart => exact ⟨0, 0, Nat.zero_le _, rfl, rfl⟩
      case round =>
        obtain ⟨k, n, hk, rfl, rfl⟩ := hrel
        by_cases hlt2 : k < l.length
        · obtain ⟨g1, cap1, cur1, hrv1, _, _, d0, d1⟩ := HK.out.rows.read (i := i) hlt
          obtain ⟨g2, cap3, cur2, hrv2, _, _, d2, d3⟩ := HK.out.rows.read (i := k) hlt2
          simp only [Value.slice.injEq] at hrv1 hrv2
          obtain ⟨rfl, -, rfl⟩ := hrv1
          obtain ⟨hg2, -, -⟩ := hrv2
          simp only [Option.some.injEq, Addr.mk.injEq] at hg2
          obtain ⟨rfl, -, -⟩ := hg2
          have H1 := hide (HF.out.apart i k hlt hlt2)
          have H2 := hide (HF.out.to_ i k hlt hlt2)
          have H3 := hide (HF.out.one i hlt)
          have H4 := hide (HF.out.one k hlt2)
          generalize (l[i]).1 = f1 at *
          generalize (l[i]).2 = t1 at *
          generalize (l[k]).1 = f2 at *
          generalize (l[k]).2 = t2 at *
          have hf1 : f1.length ≤ 6 := by have := Hw.isWord_len H3.out.1; omega
          have ht1 : t1.length ≤ 6 := by have := Hw.isWord_len H3.out.2.1; omega
          have hf2 : f2.length ≤ 6 := by have := Hw.isWord_len H4.out.1; omega
          by_cases hik : i = k
          · have hikb : ((i : Int) != (k : Int)) = false := by simp [hik]
            clear hik
            go_wp2_with fail
            go_quiet (first
              | (go_at_call_of 22 (Value.string ⟨t1.toArray⟩); refine quiet_of2 (at_no t1 f2 _ ht1 hf2 H2.out)))
            go_wp2
            go_roundw
            case rel => exact ⟨k + 1, _, by omega, by go_num, rfl⟩
            case measure => simp [intOf]; omega
          · have hikb : ((i : Int) != (k : Int)) = true := by rw [bne_iff_ne]; omega
            have H1' := hide (H1.out hik)
            clear hik H1
            go_wp2_with fail
            go_quiet (first
              | (go_at_call_of 22 (Value.string ⟨f1.toArray⟩); refine quiet_of2 (at_no f1 f2 _ hf1 hf2 H1'.out))
              | (go_at_call_of 22 (Value.string ⟨t1.toArray⟩); refine quiet_of2 (at_no t1 f2 _ ht1 hf2 H2.out)))
            go_wp2
            go_roundw
            case rel => exact ⟨k + 1, _, by omega, by go_num, rfl⟩
            case measure => simp [intOf]; omega
        · obtain ⟨g1, cap1, cur1, hrv1, _, _, d0, d1⟩ := HK.out.rows.read (i := i) hlt
          simp only [Value.slice.injEq] at hrv1
          obtain ⟨rfl, -, rfl⟩ := hrv1
          have H3 := hide (HF.out.one i hlt)
          have HUP : Hid (∀ j, i = j + 1 → ∃ f0, wr.cell? ⟨g1, j * 2, none⟩ = some (.string ⟨f0.toArray⟩) ∧ Hw.isWord L M f0 = true ∧ Hw.fold L f0 < Hw.fold L (l[i]).1) := by
            show ∀ j, i = j + 1 → _
            rintro j rfl
            obtain ⟨g2, cap3, cur2, hrv2, _, _, d2, d3⟩ := HK.out.rows.read (i := j) (by omega)
            simp only [Value.slice.injEq, Option.some.injEq, Addr.mk.injEq] at hrv2
            obtain ⟨⟨rfl, -, -⟩, -, -⟩ := hrv2
            exact ⟨_, d2, (HF.out.one j (by omega)).1, HF.out.up j hlt⟩
          generalize (l[i]).1 = f1 at *
          generalize (l[i]).2 = t1 at *
          have hf1 : f1.length ≤ 6 := by have := Hw.isWord_len H3.out.1; omega
          have ht1 : t1.length ≤ 6 := by have := Hw.isWord_len H3.out.2.1; omega
          go_wp2_with fail
          refine (bleast f1 _ bb L M rv _ R H3.out.1 (by exact (HK.out.drewN _).bk.book)).mono ?_
          rintro e w3 ⟨T, rfl, hT, hb3⟩
          have hTt := hT.uniq hL3 H3.out.2.2.1
          subst hTt
          have hb4 := below_trans (below_draw n) hb3
          have HK3 := hide (HK.out.grow hb4)
          have q3 : w3.cell? ⟨w.heap.size, 2, none⟩ = some (.slice sv cs.length cap) := (hb4.cell (p := ⟨w.heap.size, 2, none⟩) (lt_of_cell q2)).trans q2
          have k0 : w3.cell? ⟨g1, i * 2, none⟩ = some (.string ⟨f1.toArray⟩) := (hb4.cell (p := ⟨g1, i * 2, none⟩) (lt_of_cell d0)).trans d0
          have k1 : w3.cell? ⟨g1, i * 2 + 1, none⟩ = some (.string ⟨T.toArray⟩) := (hb4.cell (p := ⟨g1, i * 2 + 1, none⟩) (lt_of_cell d1)).trans d1
          have HQ3 := hide q3
          clear hT q3
          by_cases hi0 : i = 0
          · subst hi0
            clear HUP hb3 hb4 d0 d1 q2
            go_wp2_with fail
            go_quiet (first
              | (go_at_call_of 21 (Value.string ⟨T.toArray⟩); refine Calls.quiet_of_same (less_yes T f1 L M _ hL1 hL3 hM6 H3.out.2.1 H3.out.1 H3.out.2.2.2)))
            go_wp2
            go_roundw
            case rel => exact ⟨0 + 1, by omega, by go_num, HK3.out.drewN _, by exact HQ3.out⟩
            case measure => simp [intOf]; omega
          · obtain ⟨j, rfl⟩ : ∃ j, i = j + 1 := ⟨i - 1, by omega⟩
            obtain ⟨f0, hc0, hw0, hlt0⟩ := HUP.out j rfl
            have k2 : w3.cell? ⟨g1, j * 2, none⟩ = some (.string ⟨f0.toArray⟩) := (hb4.cell (p := ⟨g1, j * 2, none⟩) (lt_of_cell hc0)).trans hc0
            have H5 := hide (And.intro hw0 hlt0)
            clear HUP hb3 hb4 d0 d1 q2 hc0 hw0 hlt0 hi0
            go_wp2_with fail
            go_quiet (first
              | (go_at_call_of 21 (Value.string ⟨T.toArray⟩); refine Calls.quiet_of_same (less_yes T f1 L M _ hL1 hL3 hM6 H3.out.2.1 H3.out.1 H3.out.2.2.2))
              | (go_at_call_of 21 (Value.string ⟨f0.toArray⟩); refine Calls.quiet_of_same (less_yes f0 f1 L M _ hL1 hL3 hM6 H5.out.1 H3.out.1 H5.out.2)))
            go_wp2
            go_roundw
            case rel => exact ⟨j + 1 + 1, by omega, by go_num, HK3.out.drewN _, by exact HQ3.out⟩
            case measure => simp [intOf]; omega
    · have HBK := hide hK.bk
      clear hK HK HF
      go_wp2_with fail
      go_loopw [11] (fun iv wr => ∃ i : Nat, i ≤ cs.length ∧ i ≤ 12 ∧ iv = .int .i64 (i : Int) ∧ KBk w wr bb L M rv (saidOf cs L M 12) R ∧ wr.cell? ⟨w.heap.size, 2, none⟩ = some (.slice sv cs.length cap)) (fun iv _ => 12 - (intOf iv).toNat)
      case atStart => exact ⟨0, Nat.zero_le _, Nat.zero_le _, rfl, HBK.out, q2⟩
      case round =>
        clear HBK q2
        obtain ⟨i, hi, hi12, rfl, hK, q2⟩ := hrel
        have HK := hide hK
        have HQ2 := hide q2
        have hcl := hS.1
        unfold maxLen at hcl
        by_cases hlt : i < cs.length
        · by_cases hlt2 : i < 12
          · obtain ⟨⟨hc1, hc2⟩, a, rfl, ca⟩ := (hS.below hK.below).2 i hlt
            have hmem : (wordV cs[i] L M, wordV ((cs[i]).tdiv 100000) L M) ∈ saidOf cs L M 12 := by
              unfold saidOf
              exact List.mem_map.2 ⟨cs[i], List.mem_take_iff_getElem.2 ⟨i, by omega, rfl⟩, rfl⟩
            obtain ⟨mm, hm1, hm2⟩ := pair_least hK.book hmem
            have HM12 := hide (And.intro hm1 hm2)
            have hd := tdiv_bounds (k := 100000) hc1 hc2 (by omega)
            clear hK hmem hm1 hm2
            generalize cs[i] = c at *
            have HWR : Hid (IntKind.i64.wrap (c.tdiv 100000) = c.tdiv 100000) := i64_wrap hd
            obtain ⟨q, hq⟩ : ∃ q, a.add i = q := ⟨_, rfl⟩
            rw [hq] at ca
            go_wp2_with fail
            go_region_held (fun w' => w'.cell? ⟨w.heap.size, 2, none⟩ = some (.slice (some a) cs.length cap) ∧ w'.cell? q = some (.int .i64 c)) (first | exact ⟨k1, k2⟩ | exact ⟨q2, ca⟩)
              (first
                | (have hh2 := HWB; clear hh2; go_at_call 20; refine (bsame (wordV c L M) (wordV (c.tdiv 100000) L M) mm _ bb L M rv _ R (wordV_word _ hL1 hL3) (wordV_word _ hL1 hL3) (by exact (HK.out.drewN _).book) HM12.out.1 HM12.out.2).mono ?_; rintro e w3 ⟨rfl, hb3⟩; have hb4 := below_trans (below_draw _) hb3; have HK3 := hide (HK.out.grow hb4); have k1 : w3.cell? ⟨w.heap.size, 2, none⟩ = some (.slice (some a) cs.length cap) := (hb4.cell (p := ⟨w.heap.size, 2, none⟩) (lt_of_cell q2)).trans q2; have k2 : w3.cell? q = some (.int .i64 c) := below_cell hb4 rfl ca; have HQ3 := hide k1; clear hb3 hb4)
                | (have hh2 := HWA; clear hh2; go_at_call 13; refine (word_is _ (c.tdiv 100000) L M _ HWR.out hd.1 hd.2 hL1 hL3 hM6).mono ?_; rintro e wb ⟨rfl, nb, rfl⟩; have HWB : Hid True := trivial)
                | (go_at_call 13; refine (word_any c L M _ hc1 hc2 hL1 hL3 hM6).mono ?_; rintro e wa ⟨rfl, na, rfl⟩; have HWA : Hid True := trivial))
            all_goals
              go_wp2
              go_roundw
              case rel => exact ⟨i + 1, by omega, by omega, by go_num, HK3.out, HQ3.out⟩
              case measure => simp [intOf]; omega
          · clear hK
            go_wp2
            go_ret
            exact ⟨rfl, HK.out.below⟩
        · clear hK
          go_wp2
          go_ret
          exact ⟨rfl, HK.out.below⟩
end Go.Proofs.Ytfiebibpgbadlaa
