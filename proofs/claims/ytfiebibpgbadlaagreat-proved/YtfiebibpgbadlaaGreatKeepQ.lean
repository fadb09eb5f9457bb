import Derived.Test.YtfiebibpgbadlaaGreatKeepP
namespace Go.Proofs.YtfiebibpgbadlaaGreat
open Go.RowKit
set_option linter.unusedVariables false
set_option linter.unusedSimpArgs false

set_option maxRecDepth 4000 in
set_option maxHeartbeats 100000000 in
theorem proved_pos (HP : RulesC) (HQ : CountC) (HW : WhyC) (lt mo one other : Int) (sv : Option Addr) (cap : Nat) (cs : List Int) (m : Int) (w : World) (hl : -9223372036854775808 ≤ lt ∧ lt ≤ 9223372036854775807) (ho : -9223372036854775808 ≤ mo ∧ mo ≤ 9223372036854775807)
    (h1 : -9223372036854775808 ≤ one ∧ one ≤ 9223372036854775807) (h2 : -9223372036854775808 ≤ other ∧ other ≤ 9223372036854775807) (hm : w.cell? ⟨0, 0, none⟩ = some (.int .i64 m)) (hS : PutsAt w sv cs) (hp : ¬ pickN other 3 = 0) :
    Calls Tryz.prog 7 #[.agg #[.int .i64 lt, .int .i64 mo, .slice sv cs.length cap], .int .i64 one, .int .i64 other] w fun e w' => KTrue w e w' := by
  have hp1 := pickN_lt lt (n := 3) (by omega)
  have hp2 := pickN_lt mo (n := 6) (by omega)
  have o0 : (w.alloc (putBox lt mo sv cs.length cap)).cell? ⟨w.heap.size, 0, none⟩ = some (.int .i64 lt) := cellAt (heap_alloc_new w _) rfl
  have o1 : (w.alloc (putBox lt mo sv cs.length cap)).cell? ⟨w.heap.size, 1, none⟩ = some (.int .i64 mo) := cellAt (heap_alloc_new w _) rfl
  have o2 : (w.alloc (putBox lt mo sv cs.length cap)).cell? ⟨w.heap.size, 2, none⟩ = some (.slice sv cs.length cap) := cellAt (heap_alloc_new w _) rfl
  have hmb : (w.alloc (putBox lt mo sv cs.length cap)).cell? ⟨0, 0, none⟩ = some (.int .i64 m) := ((Kept.refl [] w).alloc _).cell hm (by simp)
  have HB0 := hide (below_alloc w (putBox lt mo sv cs.length cap))
  have HPA := hide (hS.below HB0.out)
  unfold putBox at o0 o1 o2 hmb HB0 HPA
  have h_lt := hide hl
  have h_mo := hide ho
  have H1 := hide h1
  have H2 := hide h2
  have hcl := hS.1
  clear hl ho h1 h2 hS
  obtain ⟨L, hL⟩ : ∃ L, 1 + pickN lt 3 = L := ⟨_, rfl⟩
  obtain ⟨M, hM⟩ : ∃ M, 1 + pickN mo 6 = M := ⟨_, rfl⟩
  have hL1 : 1 ≤ L := by omega
  have hL3 : L ≤ 3 := by omega
  have hM6 : M ≤ 6 := by omega
  have HL := hide hL
  have HM := hide hM
  clear hp1 hp2 hL hM
  go_enter Tryz.func7, Tryz.ntmps7
  go_wp2_with fail
  refine (kput_any HP HQ lt mo sv cap cs m _ h_lt.out.1 h_lt.out.2 h_mo.out.1 h_mo.out.2 (by exact hmb) (by exact HPA.out)).mono ?_
  rintro e w1 hK
  rw [HL.out, HM.out] at hK
  obtain ⟨bb, rv, R, rfl, _, hb1, hB1⟩ := hK
  obtain ⟨said, hsaid⟩ : ∃ said, saidOf cs L M 12 = said := ⟨_, rfl⟩
  rw [hsaid] at hB1
  have HSD := hide hsaid
  have HP2 := hide ((hb1.cell (p := ⟨w.heap.size, 2, none⟩) (lt_of_cell o2)).trans o2)
  have HPA1 := hide (HPA.out.below hb1)
  have HBk : Hid (KBk w w1 bb L M rv said R) := ⟨below_trans HB0.out hb1, hB1⟩
  clear hb1 hB1 o0 o1 o2 hmb HPA HB0 hsaid
  go_wp2_with fail
  refine (word_any one L M _ H1.out.1 H1.out.2 hL1 hL3 hM6).mono ?_
  rintro e w2 ⟨rfl, n2, rfl⟩
  have hSw := wordV_word (M := M) one hL1 hL3
  generalize wordV one L M = S at *
  have hSl := Hw.isWord_len hSw
  have HSw := hide hSw
  clear hSw
  go_wp2_with fail
  refine (bleast S _ bb L M rv said R HSw.out (by exact (HBk.out.drewN _).book)).mono ?_
  rintro e w5 ⟨W, rfl, hW, hb5⟩
  have HBk5 := hide ((HBk.out.drewN _).grow hb5)
  have HP5 := hide ((hb5.cell (p := ⟨w.heap.size, 2, none⟩) (lt_of_cell (w := w1.drewN n2) (by exact HP2.out))).trans (by exact HP2.out))
  have HPA5 := hide ((HPA1.out.below (below_draw n2)).below hb5)
  have HWw := hide hW.word
  have hWl := Hw.isWord_len hW.word
  clear hW hb5 HBk HP2 HPA1
  go_wp2_with fail
  refine (pick_is other 3 3 _ rfl H2.out.1 H2.out.2 (by omega) (by omega)).mono ?_
  rintro e w6 ⟨rfl, rfl⟩
  have hd3 := tdiv_bounds (k := 3) H2.out.1 H2.out.2 (by omega)
  have HWR := hide (Go.IntWalk.wrap64_in (other.tdiv 3) hd3)
  have HD3 := hide hd3
  clear hd3
  have hp0 : ((pickN other 3 : Nat) : Int) ≠ 0 := by omega
  have HBk7 := HBk5
  have HP7 := HP5
  have HPA7 := HPA5
  have HTw := HWw
  have hTl := hWl
  clear HBk5 HP5 HPA5 HWw hWl hp
  go_wp2_with fail
  refine (psame_any ⟨S.toArray⟩ ⟨W.toArray⟩ _ bb L M rv said R (wd_size S (by omega)) (wd_size W (by omega)) (by exact HBk7.out.book)).mono ?_
  rintro e w8 ⟨bv, c, rfl, hA, hb8⟩
  rw [show (⟨S.toArray⟩ : ByteArray).data.toList = S by simp, show (⟨W.toArray⟩ : ByteArray).data.toList = W by simp] at hA
  have hc0 := (hA.1 HSw.out HTw.out).1
  subst hc0
  have HBk8 := hide (HBk7.out.grow hb8)
  have HP8 := hide ((hb8.cell (p := ⟨w.heap.size, 2, none⟩) (lt_of_cell HP7.out)).trans HP7.out)
  have HPA8 := hide (HPA7.out.below hb8)
  have HA := hide hA
  clear hA hb8 HBk7 HP7 HPA7
  go_wp2_with fail
  refine (HW ⟨S.toArray⟩ ⟨W.toArray⟩ _ bb L M rv said R (wd_size S (by omega)) (wd_size W (by omega)) (by exact HBk8.out.book)).mono ?_
  rintro e w9 ⟨ls, ov, c9, rfl, hA9, hL9, hb9⟩
  rw [show (⟨S.toArray⟩ : ByteArray).data.toList = S by simp, show (⟨W.toArray⟩ : ByteArray).data.toList = W by simp] at hA9
  obtain ⟨bv', c0', hS9, ha, hb, hc⟩ := hA9
  obtain ⟨rfl, rfl⟩ := hS9.uniq hL3 HA.out
  obtain ⟨sa, lcap, rfl⟩ := hL9.shape
  have HBk9 := hide (HBk8.out.grow hb9)
  have HP9 := hide ((hb9.cell (p := ⟨w.heap.size, 2, none⟩) (lt_of_cell HP8.out)).trans HP8.out)
  have HPA9 := hide (HPA8.out.below hb9)
  have HL9 := hide hL9
  clear hS9 ha hL9 hb9 HA HBk8 HP8 HPA8
  cases bv' with
  | false =>
    obtain ⟨rfl, rfl⟩ := hb rfl rfl
    clear hb hc
    go_wp2
    go_ret
    exact ⟨ret_bool (by simp), HBk9.out.below⟩
  | true =>
    obtain ⟨rfl, hLn, ls0, nl, rfl, hn1, hn2⟩ := hc rfl rfl
    obtain ⟨g, cap3, hov, hg, hgb, hcells⟩ := HL9.out.read (by simp)
    simp only [Value.slice.injEq] at hov
    obtain ⟨rfl, -, rfl⟩ := hov
    have hAl := hcells ls0.length nl (by simp)
    have HN1 := hide hn1
    have HN2 := hide hn2
    obtain ⟨N0, hN1⟩ : ∃ N0, ls0.length = N0 := ⟨_, rfl⟩
    have HNL := hide hN1
    have hfew := hLn.few
    have hlen : (ls0 ++ [nl]).length = ls0.length + 1 := by simp
    have HLEN := hide hlen
    rw [hlen] at hfew ⊢
    have HLN := hide hLn
    have HPR : Hid (PrI w w9 bb L M 0 rv sv cap cs g said R (ls0 ++ [nl])) := ⟨HBk9.out.below, HP9.out, HPA9.out, hcells⟩
    clear hAl hLn hcells hlen hn1 hn2 hb hc HL9 HP9 HPA9 HBk9
    rw [hN1] at hfew HLEN ⊢
    clear hN1
    have HFEW := hide hfew
    have hN0 : N0 ≤ 100000 := by omega
    clear hfew
    go_wp2_with fail
    go_loopw [17] (fun iv wr => ∃ (i : Nat), i ≤ N0 + 1 ∧ iv = .int .i64 (i : Int) ∧ Hid (PrI w wr bb L M 0 rv sv cap cs g said R (ls0 ++ [nl]))) (fun iv _ => N0 + 1 - (intOf iv).toNat)
    case atStart => exact ⟨0, Nat.zero_le _, rfl, HPR⟩
    case round =>
      clear HPR
      obtain ⟨i, hi, rfl, hPR⟩ := hrel
      by_cases hlt : i < N0 + 1
      · have hltI : (i : Int) < (N0 : Int) + 1 := by omega
        obtain ⟨n, hn⟩ : ∃ n, (ls0 ++ [nl])[i]? = some n := ⟨(ls0 ++ [nl])[i]'(by rw [HLEN.out]; exact hlt), List.getElem?_eq_getElem _⟩
        have hw := HLN.out.words n (List.mem_of_getElem? hn)
        have hw1 := Hw.isWord_len hw.1
        have hw2 := Hw.isWord_len hw.2
        have hA := hPR.out.cells i n hn
        clear hw
        have hdr := HLN.out.drawn i n hn
        cases hdr with
        | self x => as_aux_lemma =>
          obtain ⟨c0, c1, c2, c3, c4, c5, c6, c7⟩ := hA
          simp only at c0 c1 c2 c3 c4 c5 c6 c7 hw1 hw2
          clear hn
          go_wp2
          go_roundw
          case rel => exact ⟨i + 1, by omega, by go_num, hide (hPR.out.grow (below_alloc _ _))⟩
          case measure => simp [intOf]; omega
        | said k x y hk => as_aux_lemma =>
          obtain ⟨c0, c1, c2, c3, c4, c5, c6, c7⟩ := hA
          simp only at c0 c1 c2 c3 c4 c5 c6 c7 hw1 hw2
          rw [← HSD.out] at hk
          obtain ⟨hkl, hk12, rfl, rfl⟩ := saidOf_at hk
          obtain ⟨hcb, a, hsv, ca⟩ := hPR.out.pairs.2 k hkl
          have hbx := hPR.out.box
          have hbx' : ∀ o, (wr.alloc o).cell? ⟨w.heap.size, 2, none⟩ = some (.slice sv cs.length cap) := fun o => ((Kept.refl [] wr).alloc o).cell hbx (by simp)
          have ca' : ∀ o, (wr.alloc o).cell? (a.add k) = some (.int .i64 cs[k]) := fun o => ((Kept.refl [] wr).alloc o).cell ca (by simp)
          subst hsv
          have hd1 := tdiv_bounds (k := 100000) hcb.1 hcb.2 (by omega)
          have hwr := Go.IntWalk.wrap64_in ((cs[k]).tdiv 100000) hd1
          have HCB := hide hcb
          have HD1 := hide hd1
          clear hn hk hcb hd1 hbx ca
          have hkI : (k : Int) < (cs.length : Int) := by omega
          have hk12I : (k : Int) < 12 := by omega
          obtain ⟨q, hq⟩ : ∃ q, a.add k = q := ⟨_, rfl⟩
          rw [hq] at ca'
          generalize cs[k] = cv at *
          obtain ⟨cq, hcq⟩ : ∃ cq, cv.tdiv 100000 = cq := ⟨_, rfl⟩
          rw [hcq] at hwr HD1 c2 hw2
          go_wp2_with fail
          have HAL := hide (hPR.out.grow (below_alloc wr (lbox ⟨1, wordV cv L M, wordV cq L M, (k : Int), 0, 0, [], []⟩)))
          obtain ⟨b0, b1, b2, b3, b4, b5, b6, b7⟩ := boxAt wr ⟨1, wordV cv L M, wordV cq L M, (k : Int), 0, 0, [], []⟩
          have hbx1 := hbx' (lbox ⟨1, wordV cv L M, wordV cq L M, (k : Int), 0, 0, [], []⟩)
          have ca1 := ca' (lbox ⟨1, wordV cv L M, wordV cq L M, (k : Int), 0, 0, [], []⟩)
          unfold lbox at *
          simp only at *
          generalize wr.alloc _ = wx at *
          clear c0 c1 c2 c3 c4 c5 c6 c7 hbx' ca'
          go_quiet ((go_at_call 13; refine Calls.quiet_of (word_any _ L M _ (by first | exact HCB.out.1 | exact HD1.out.1) (by first | exact HCB.out.2 | exact HD1.out.2) hL1 hL3 hM6)))
          go_wp2
          go_roundw
          case rel => exact ⟨i + 1, by omega, by go_num, hide (HAL.out.grow (below_draw _))⟩
          case measure => simp [intOf]; omega
        | back j o hj ho => as_aux_lemma =>
          obtain ⟨c0, c1, c2, c3, c4, c5, c6, c7⟩ := hA
          simp only at c0 c1 c2 c3 c4 c5 c6 c7 hw1 hw2
          clear hn
          have hjI : (j : Int) < (i : Int) := by omega
          have hjN : (j : Int) < (N0 : Int) + 1 := by omega
          go_wp2_with fail
          have HAL := hide (hPR.out.grow (below_alloc wr (lbox ⟨2, o.right, o.left, 0, (j : Int), 0, [], []⟩)))
          obtain ⟨b0, b1, b2, b3, b4, b5, b6, b7⟩ := boxAt wr ⟨2, o.right, o.left, 0, (j : Int), 0, [], []⟩
          have e1 := (HAL.out.cells j o ho).c1
          have e2 := (HAL.out.cells j o ho).c2
          unfold lbox at *
          simp only at *
          generalize wr.alloc _ = wx at *
          clear c0 c1 c2 c3 c4 c5 c6 c7
          go_quiet (fail)
          go_wp2
          go_roundw
          case rel => exact ⟨i + 1, by omega, by go_num, hide (HAL.out.grow (below_draw _))⟩
          case measure => simp [intOf]; omega
        | thn j k o o2 hj hk ho ho2 h => as_aux_lemma =>
          obtain ⟨c0, c1, c2, c3, c4, c5, c6, c7⟩ := hA
          simp only at c0 c1 c2 c3 c4 c5 c6 c7 hw1 hw2
          clear hn
          have hjI : (j : Int) < (i : Int) := by omega
          have hjN : (j : Int) < (N0 : Int) + 1 := by omega
          have hkI : (k : Int) < (i : Int) := by omega
          have hkN : (k : Int) < (N0 : Int) + 1 := by omega
          go_wp2_with fail
          have HAL := hide (hPR.out.grow (below_alloc wr (lbox ⟨3, o.left, o2.right, 0, (j : Int), (k : Int), [], []⟩)))
          obtain ⟨b0, b1, b2, b3, b4, b5, b6, b7⟩ := boxAt wr ⟨3, o.left, o2.right, 0, (j : Int), (k : Int), [], []⟩
          have e1 := (HAL.out.cells j o ho).c1
          have e2 := (HAL.out.cells j o ho).c2
          have e3 := (HAL.out.cells k o2 ho2).c1
          have e4 := (HAL.out.cells k o2 ho2).c2
          rw [← h] at e3
          unfold lbox at *
          simp only at *
          generalize wr.alloc _ = wx at *
          clear c0 c1 c2 c3 c4 c5 c6 c7
          go_quiet (fail)
          go_wp2
          go_roundw
          case rel => exact ⟨i + 1, by omega, by go_num, hide (HAL.out.grow (below_draw _))⟩
          case measure => simp [intOf]; omega
        | within j o u v hj ho => as_aux_lemma =>
          obtain ⟨c0, c1, c2, c3, c4, c5, c6, c7⟩ := hA
          simp only at c0 c1 c2 c3 c4 c5 c6 c7 hw1 hw2
          clear hn
          obtain ⟨X, hX⟩ : ∃ X, u ++ o.left ++ v = X := ⟨_, rfl⟩
          obtain ⟨Y, hY⟩ : ∃ Y, u ++ o.right ++ v = Y := ⟨_, rfl⟩
          rw [hX] at c1 hw1
          rw [hY] at c2 hw2
          have hjI : (j : Int) < (i : Int) := by omega
          have hjN : (j : Int) < (N0 : Int) + 1 := by omega
          have hp3 : (⟨u.toArray⟩ : ByteArray) ++ (⟨o.left.toArray⟩ : ByteArray) ++ (⟨v.toArray⟩ : ByteArray) = ⟨X.toArray⟩ := by rw [← hX]; exact add3 u o.left v
          have hq3 : (⟨u.toArray⟩ : ByteArray) ++ (⟨o.right.toArray⟩ : ByteArray) ++ (⟨v.toArray⟩ : ByteArray) = ⟨Y.toArray⟩ := by rw [← hY]; exact add3 u o.right v
          have hxl : u.length + o.left.length + v.length ≤ 6 := by rw [← hX] at hw1; simp at hw1; omega
          have hyl : u.length + o.right.length + v.length ≤ 6 := by rw [← hY] at hw2; simp at hw2; omega
          clear hX hY
          go_wp2_with fail
          have HAL := hide (hPR.out.grow (below_alloc wr (lbox ⟨4, X, Y, 0, (j : Int), 0, u, v⟩)))
          obtain ⟨b0, b1, b2, b3, b4, b5, b6, b7⟩ := boxAt wr ⟨4, X, Y, 0, (j : Int), 0, u, v⟩
          have e1 := (HAL.out.cells j o ho).c1
          have e2 := (HAL.out.cells j o ho).c2
          unfold lbox at *
          simp only at *
          generalize wr.alloc _ = wx at *
          clear c0 c1 c2 c3 c4 c5 c6 c7
          go_quiet (fail)
          go_wp2
          go_roundw
          case rel => exact ⟨i + 1, by omega, by go_num, hide (HAL.out.grow (below_draw _))⟩
          case measure => simp [intOf]; omega
      · have hiN : (i : Int) = (N0 : Int) + 1 := by omega
        have hA := hPR.out.cells N0 nl (by rw [← HNL.out]; simp)
        have d1 := hA.c1
        have d2 := hA.c2
        rw [HN1.out] at d1
        rw [HN2.out] at d2
        have hlt0 : (N0 : Int) < (N0 : Int) + 1 := by omega
        have hlt1 : N0 < N0 + 1 := by omega
        clear hA hiN
        go_wp2
        go_ret
        exact ⟨ret_bool (by simp), hPR.out.below⟩

theorem proved_any (HP : RulesC) (HQ : CountC) (HW : WhyC) (lt mo one other : Int) (sv : Option Addr) (cap : Nat) (cs : List Int) (m : Int) (w : World) (hl : -9223372036854775808 ≤ lt ∧ lt ≤ 9223372036854775807) (ho : -9223372036854775808 ≤ mo ∧ mo ≤ 9223372036854775807)
    (h1 : -9223372036854775808 ≤ one ∧ one ≤ 9223372036854775807) (h2 : -9223372036854775808 ≤ other ∧ other ≤ 9223372036854775807) (hm : w.cell? ⟨0, 0, none⟩ = some (.int .i64 m)) (hS : PutsAt w sv cs) :
    Calls Tryz.prog 7 #[.agg #[.int .i64 lt, .int .i64 mo, .slice sv cs.length cap], .int .i64 one, .int .i64 other] w fun e w' => KTrue w e w' := by
  by_cases hp : pickN other 3 = 0
  · exact proved_zero HP HQ HW lt mo one other sv cap cs m w hl ho h1 h2 hm hS hp
  · exact proved_pos HP HQ HW lt mo one other sv cap cs m w hl ho h1 h2 hm hS hp
end Go.Proofs.YtfiebibpgbadlaaGreat
