import Derived.Test.YtfiebibpgbadlaaKeepF
namespace Go.Proofs.Ytfiebibpgbadlaa
open Go.RowKit
set_option linter.unusedVariables false
set_option linter.unusedSimpArgs false

/-- Say, at words. -/
theorem bsay (s t : Hw.Wd) (w W : World) (bb L M k : Nat) (rv : Value) (said R : List Hw.Rl) (hs : Hw.isWord L M s = true) (ht : Hw.isWord L M t = true) (hk : said.length = k) (h12 : k < 12) (hlo : w.heap.size ≤ bb) (hB : KBk w W bb L M rv said R) :
    Calls Try.prog 12 #[.pointer (some ⟨bb, 0, none⟩), .string ⟨s.toArray⟩, .string ⟨t.toArray⟩] W fun e w' => e = .returned (.tuple #[.int .i64 (k : Int), .int .i64 0]) ∧ ∃ rv' R', KBk w w' bb L M rv' (said ++ [(s, t)]) R' := by
  have h6 : s.length ≤ 6 := by have := Hw.isWord_len hs; have := hB.book.M6; omega
  have h6' : t.length ≤ 6 := by have := Hw.isWord_len ht; have := hB.book.M6; omega
  refine (psay_any ⟨s.toArray⟩ ⟨t.toArray⟩ W bb L M rv said R (wd_size s h6) (wd_size t h6') hB.book).mono ?_
  intro e w' h
  obtain ⟨rfl, hK, rv', R', hB'⟩ := psaid_words h hs ht hk h12
  exact ⟨rfl, rv', R', hB.below.trans (hK.below hB.below.size (by simp; exact hlo)), hB'⟩

theorem pw_len (n : Nat) : (Hw.pw n).length = n := by simp [Hw.pw]

theorem round_check : ((List.range 6).all fun f => (List.range 7).all fun t => (List.range 7).all fun x => decide (t ≤ f) || decide (x < t) || Hw.round2 f t 7 x == Hw.round2 f t 7 (x - (t - f))) = true := by decide +kernel
theorem round_step {f t x : Nat} (hf : f < t) (ht : t ≤ 6) (hx : t ≤ x) (hx6 : x ≤ 6) : Hw.round2 f t 7 x = Hw.round2 f t 7 (x - (t - f)) := by
  have h := round_check
  rw [List.all_eq_true] at h
  have h1 := h f (by rw [List.mem_range]; omega)
  rw [List.all_eq_true] at h1
  have h2 := h1 t (by rw [List.mem_range]; omega)
  rw [List.all_eq_true] at h2
  have h3 := h2 x (by rw [List.mem_range]; omega)
  rw [Bool.or_eq_true, Bool.or_eq_true, decide_eq_true_eq, decide_eq_true_eq, beq_iff_eq] at h3
  rcases h3 with (h3 | h3) | h3
  · omega
  · omega
  · exact h3
theorem round_stop {f t x : Nat} (h : ¬ t ≤ x) : Hw.round2 f t 7 x = x := by unfold Hw.round2; rw [if_neg h]

set_option maxRecDepth 2000 in
set_option maxHeartbeats 3200000 in
theorem rounds_any (HP : RulesC) (HQ : CountC) (m n from_ k mx : Int) (w : World) (h1 : -9223372036854775808 ≤ m ∧ m ≤ 9223372036854775807) (h2 : -9223372036854775808 ≤ n ∧ n ≤ 9223372036854775807) (h3 : -9223372036854775808 ≤ from_ ∧ from_ ≤ 9223372036854775807) (h4 : -9223372036854775808 ≤ k ∧ k ≤ 9223372036854775807) (hm : w.cell? ⟨0, 0, none⟩ = some (.int .i64 mx)) :
    Calls Try.prog 5 #[.int .i64 m, .int .i64 n, .int .i64 from_, .int .i64 k] w fun e w' => KTrue w e w' := by
  have H1 := hide h1
  have H2 := hide h2
  have H3 := hide h3
  have H4 := hide h4
  clear h1 h2 h3 h4
  go_enter Try.func5, Try.ntmps5
  go_wp2_with fail
  refine (opened_any HP HQ 1 6 mx _ (by omega) (by omega) (by omega) (by omega) hm).mono ?_
  rintro e w1 ⟨bb, rfl, hlo, hb1, hB1⟩
  have HB : Hid (KBk w w1 bb 1 6 (.slice none 0 0) [] []) := ⟨hb1, hB1⟩
  have HLO := hide hlo
  clear hb1 hB1 hlo
  go_wp2_with fail
  refine (pick_is m _ 6 _ rfl H1.out.1 H1.out.2 (by omega) (by omega)).mono ?_
  rintro e w2 ⟨rfl, rfl⟩
  have hp1 := pickN_lt m (n := 6) (by omega)
  generalize pickN m 6 = m0 at *
  obtain ⟨m', hm'⟩ : ∃ x, m0 + 1 = x := ⟨_, rfl⟩
  have em : 1 + (m0 : Int) = (m' : Int) := by omega
  have em2 : (m0 : Int) + 1 = (m' : Int) := by omega
  go_wp2_with fail
  refine (pick_is n _ 6 _ rfl H2.out.1 H2.out.2 (by omega) (by omega)).mono ?_
  rintro e w3 ⟨rfl, rfl⟩
  have hp2 := pickN_lt n (n := 6) (by omega)
  generalize pickN n 6 = n0 at *
  obtain ⟨n', hn'⟩ : ∃ x, n0 + 1 = x := ⟨_, rfl⟩
  have en : 1 + (n0 : Int) = (n' : Int) := by omega
  have en2 : (n0 : Int) + 1 = (n' : Int) := by omega
  have hm1 : 1 ≤ m' := by omega
  have hm6 : m' ≤ 6 := by omega
  have hn1 : 1 ≤ n' := by omega
  have hn6 : n' ≤ 6 := by omega
  clear hm' hn' hp1 hp2
  go_wp2_with fail
  refine (power_any m' _ hm6).mono ?_
  rintro e w4 ⟨rfl, rfl⟩
  go_wp2_with fail
  refine (bsay (Hw.pw m') [] w _ bb 1 6 0 _ [] [] (Hw.pw_word hm6) (by decide) rfl (by omega) HLO.out (by exact HB.out)).mono ?_
  rintro e w5 ⟨rfl, rv5, R5, hB5⟩
  have HB5 := hide hB5
  clear HB hB5
  go_wp2_with fail
  refine (power_any n' _ hn6).mono ?_
  rintro e w6 ⟨rfl, rfl⟩
  go_wp2_with fail
  refine (bsay [] (Hw.pw n') w _ bb 1 6 1 _ _ _ (by decide) (Hw.pw_word hn6) rfl (by omega) HLO.out (by exact HB5.out)).mono ?_
  rintro e w7 ⟨rfl, rv7, R7, hB7'⟩
  have hB7 : KBk w w7 bb 1 6 rv7 (Hw.said1 m' n') R7 := hB7'
  have HB7 := hide hB7
  have HFIN := hide (Hw.said1_fin hm1 hm6 hn1 hn6)
  clear HB5 hB7 hB7'
  go_wp2_with fail
  refine (gcd_any m' n' _ hm6 hn6).mono ?_
  rintro e w8 ⟨rfl, rfl⟩
  have hg1 : 1 ≤ Nat.gcd m' n' := Nat.gcd_pos_of_pos_left _ hm1
  have hg6 : Nat.gcd m' n' ≤ 6 := Nat.le_trans (Nat.gcd_le_left _ hm1) hm6
  generalize Nat.gcd m' n' = g at *
  go_wp2_with fail
  refine (pick_is k _ 7 _ rfl H4.out.1 H4.out.2 (by omega) (by omega)).mono ?_
  rintro e w9 ⟨rfl, rfl⟩
  have hk7 := pickN_lt k (n := 7) (by omega)
  generalize pickN k 7 = k' at *
  have hk6 : k' ≤ 6 := by omega
  have hkg : k' % g < g := Nat.mod_lt _ hg1
  have ekg : (k' : Int) % (g : Int) = ((k' % g : Nat) : Int) := by simp
  have ekt : (k' : Int).tmod (g : Int) = ((k' % g : Nat) : Int) := rfl
  have hg0 : ¬ g = 0 := by omega
  go_wp2_with fail
  refine (power_any k' _ hk6).mono ?_
  rintro e w10 ⟨rfl, rfl⟩
  go_wp2_with fail
  refine (bleast (Hw.pw k') _ bb 1 6 rv7 _ R7 (Hw.pw_word hk6) (by exact HB7.out.book)).mono ?_
  rintro e w11 ⟨T, rfl, hT, hb11⟩
  have hTt := hT.uniq (by omega) (HFIN.out.2.2 k' hk6)
  subst hTt
  have HB11 := hide (HB7.out.grow hb11)
  clear hT hb11 HB7
  go_wp2_with fail
  refine (HP _ bb 1 6 rv7 _ R7 (by exact HB11.out.book)).mono ?_
  rintro e w12 ⟨l, ov, rfl, hA, hLL, hb12⟩
  obtain ⟨hle, hcnt⟩ := HB11.out.book.uniq HFIN.out.1.1 HFIN.out.1.2.1 (List.pairwise_singleton _ _) hA
  subst hle
  rw [HFIN.out.2.1] at hcnt
  have HCNT := hide hcnt
  obtain ⟨gg, cap, cur, rfl, _, _, d0, d1⟩ := hLL.read (i := 0) (by simp)
  have HB12 := hide (HB11.out.grow hb12)
  have d0' : w12.cell? ⟨gg, 0, none⟩ = some (.string ⟨(Hw.pw g).toArray⟩) := d0
  have d1' : w12.cell? ⟨gg, 1, none⟩ = some (.string ⟨#[]⟩) := d1
  rw [show ([(Hw.pw g, ([] : Hw.Wd))] : List Hw.Rl).length = 1 from rfl]
  clear d0 d1 hLL hA hcnt hb12 HB11
  generalize k' % g = kg at *
  go_wp2_with fail
  go_region_held (fun w' => w'.cell? ⟨gg, 0, none⟩ = some (.string ⟨(Hw.pw g).toArray⟩) ∧ w'.cell? ⟨gg, 1, none⟩ = some (.string ⟨#[]⟩)) (first | exact ⟨y0, y1⟩ | exact ⟨d0', d1'⟩)
    (first
      | (go_at_call 16; refine (HQ _ bb 1 6 rv7 _ R7 (by exact HB12.out.book.same (below_same ⟨rfl, rfl, rfl, rfl⟩))).mono ?_; rintro e w13 ⟨rfl, hb13'⟩; rw [HCNT.out]; have hb13 : Below w12.heap.size w12 w13 := below_trans (by exact below_same ⟨rfl, rfl, rfl, rfl⟩) hb13'; have y0 : w13.cell? ⟨gg, 0, none⟩ = some (.string ⟨(Hw.pw g).toArray⟩) := (hb13.cell (p := ⟨gg, 0, none⟩) (lt_of_cell d0')).trans d0'; have y1 : w13.cell? ⟨gg, 1, none⟩ = some (.string ⟨#[]⟩) := (hb13.cell (p := ⟨gg, 1, none⟩) (lt_of_cell d1')).trans d1'; have HB13 := hide (HB12.out.below.trans (hb13.mono HB12.out.below.size)); clear hb13 hb13')
      | (go_at_call_of 17 (Value.int IntKind.i64 (kg : Int)); refine (power_any kg _ (by omega)).mono ?_; rintro e wp ⟨rfl, rfl⟩)
      | (go_at_call_of 17 (Value.int IntKind.i64 (g : Int)); refine (power_any g _ hg6).mono ?_; rintro e wp ⟨rfl, rfl⟩))
  have hm13 : w13.cell? ⟨0, 0, none⟩ = some (.int .i64 mx) := (HB13.out.cell (p := ⟨0, 0, none⟩) (lt_of_cell hm)).trans hm
  clear y0 y1 d0' d1' HB12 HFIN HCNT hkg ekg ekt hg0 hg1 hg6
  go_wp2_with fail
  refine (opened_any HP HQ 1 6 mx _ (by omega) (by omega) (by omega) (by omega) (by exact hm13)).mono ?_
  rintro e w14 ⟨cb, rfl, hlo2, hb14, hB14⟩
  have HC : Hid (KBk w w14 cb 1 6 (.slice none 0 0) [] []) := ⟨HB13.out.trans (hb14.mono HB13.out.size), hB14⟩
  have HLO2 : Hid (w.heap.size ≤ cb) := Nat.le_trans HB13.out.size hlo2
  clear hb14 hB14 hlo2 hm13 HB13
  go_wp2_with fail
  refine (pick_is from_ _ 6 _ rfl H3.out.1 H3.out.2 (by omega) (by omega)).mono ?_
  rintro e w15 ⟨rfl, rfl⟩
  have hf6 := pickN_lt from_ (n := 6) (by omega)
  generalize pickN from_ 6 = f' at *
  obtain ⟨d', hd'⟩ : ∃ x, 6 - f' = x := ⟨_, rfl⟩
  have ed : 6 - (f' : Int) = (d' : Int) := by omega
  go_wp2_with fail
  refine (pick_is (n' : Int) _ d' _ (by omega) (by omega) (by omega) (by omega) (by omega)).mono ?_
  rintro e w16 ⟨rfl, rfl⟩
  have hp6 := pickN_lt (n' : Int) (n := d') (by omega)
  generalize pickN (n' : Int) d' = q' at *
  obtain ⟨t', ht'⟩ : ∃ x, f' + 1 + q' = x := ⟨_, rfl⟩
  have et : (f' : Int) + 1 + (q' : Int) = (t' : Int) := by omega
  have ht6 : t' ≤ 6 := by omega
  have hft : f' < t' := by omega
  clear ht' hp6 hd' ed
  go_wp2_with fail
  refine (power_any t' _ ht6).mono ?_
  rintro e w17 ⟨rfl, rfl⟩
  go_wp2_with fail
  refine (power_any f' _ (by omega)).mono ?_
  rintro e w18 ⟨rfl, rfl⟩
  go_wp2_with fail
  refine (bsay (Hw.pw t') (Hw.pw f') w _ cb 1 6 0 _ [] [] (Hw.pw_word ht6) (Hw.pw_word (by omega)) rfl (by omega) HLO2.out (by exact HC.out)).mono ?_
  rintro e w19 ⟨rfl, rv9, R9, hB9'⟩
  have hB9 : KBk w w19 cb 1 6 rv9 (Hw.said2 f' t') R9 := hB9'
  have HB9 := hide hB9
  have HF2 := hide (Hw.said2_fin hft ht6)
  clear HC hB9 hB9'
  go_wp2_with fail
  refine (power_any k' _ hk6).mono ?_
  rintro e w20 ⟨rfl, rfl⟩
  go_wp2_with fail
  refine (bleast (Hw.pw k') _ cb 1 6 rv9 _ R9 (Hw.pw_word hk6) (by exact HB9.out.book)).mono ?_
  rintro e w21 ⟨T, rfl, hT, hb21⟩
  have hTt := hT.uniq (by omega) (HF2.out.2.2 k' hk6)
  subst hTt
  have HB21 := hide (HB9.out.grow hb21)
  have hcnt := HB9.out.book.fin.cnt_uniq (by omega) (by omega) HF2.out.1.1 HF2.out.1.2.2
  rw [HF2.out.2.1] at hcnt
  have HCNT := hide hcnt
  clear hT hb21 HB9 hcnt
  obtain ⟨z, hz⟩ : ∃ z, Hw.round2 f' t' 7 k' = z := ⟨_, rfl⟩
  rw [hz]
  have HZ := hide hz
  clear hz
  obtain ⟨dd, hdd⟩ : ∃ x, t' - f' = x := ⟨_, rfl⟩
  have edd : (t' : Int) - (f' : Int) = (dd : Int) := by omega
  go_wp2_with fail
  go_loopw [3] (fun kv wr => ∃ x : Nat, x ≤ 6 ∧ kv = .int .i64 (x : Int) ∧ Hid (Hw.round2 f' t' 7 x = z) ∧ wr = w21) (fun kv _ => (intOf kv).toNat)
  case atStart => exact ⟨k', hk6, rfl, HZ.out, rfl⟩
  case round =>
    obtain ⟨x, hx6, rfl, HX, rfl⟩ := hrel
    by_cases hlt : t' ≤ x
    · have hst := round_step hft ht6 hlt hx6
      rw [hdd] at hst
      have HST := hide hst
      clear hst
      go_wp2
      go_roundw
      case rel => exact ⟨x - dd, by omega, by go_num, (show Hw.round2 f' t' 7 (x - dd) = z by rw [← HST.out]; exact HX.out), trivial⟩
      case measure => simp [intOf]; omega
    · have hzx := (round_stop (f := f') hlt).symm.trans HX.out
      subst hzx
      go_wp2_with fail
      refine (power_any x _ hx6).mono ?_
      rintro e w22 ⟨rfl, rfl⟩
      go_wp2_with fail
      refine (HQ _ cb 1 6 rv9 _ R9 (by exact HB21.out.book)).mono ?_
      rintro e w23 ⟨rfl, hb23⟩
      rw [HCNT.out]
      have HB23 := hide (HB21.out.grow hb23)
      clear hb23
      go_wp2
      go_ret
      exact ⟨by simp, HB23.out.below⟩
end Go.Proofs.Ytfiebibpgbadlaa
