import Derived.Test.YtfiebibpgbadlaaGreatProgV
namespace Go.Proofs.YtfiebibpgbadlaaGreat
open Go.RowKit
set_option linter.unusedVariables false
set_option linter.unusedSimpArgs false

theorem play_bad (l m last : Int) (sv : Option Addr) (n cap : Nat) (w : World) (h : l < 1 ∨ 3 < l ∨ m < 1 ∨ 6 < m) :
    Calls Tryz.prog 8 #[.int .i64 l, .int .i64 m, .slice sv n cap, .int .i64 last] w fun e w' => e = .returned (.bool true) ∧ Below w.heap.size w w' := by
  go_enter Tryz.func8, Tryz.ntmps8
  go_wp2_with fail
  refine (begun_bad l m _ h).mono ?_
  rintro e w1 ⟨rfl, hb⟩
  have HB := hide hb
  clear hb
  go_wp2
  go_ret
  exact ⟨rfl, HB.out⟩

theorem BothR.words {A : Nat → Prop} {w : World} {xb bb rb gw cw L M : Nat} (h : BothR A w xb bb rb gw cw L M) : w.cell? ⟨xb, 1, none⟩ = some (.pointer (some ⟨rb, 0, none⟩)) ∧ w.cell? ⟨rb, 3, none⟩ = some (.slice (some ⟨gw, 0, none⟩) (Hw.upTo L M).length cw) ∧
    ∀ i, i < (Hw.upTo L M).length → ∃ s, w.cell? ⟨gw, i, none⟩ = some (.string s) ∧ s.size ≤ maxLen := by
  obtain ⟨rv, saidV, sameV, said, R, gs, fresh, hC⟩ := h
  refine ⟨cellAt hC.x rfl, ref_c3 hC.ref.blk, fun i hi => ⟨_, hC.ref.wrd.cell i hi, ?_⟩⟩
  have h1 := Hw.isWord_len (Hw.wordAt_word hC.ref.L3 hi)
  have h2 := hC.ref.M6
  have h3 : (⟨(Hw.wordAt L M i).toArray⟩ : ByteArray).size = (Hw.wordAt L M i).length := by simp [ByteArray.size]
  rw [h3]; unfold maxLen; omega

set_option maxHeartbeats 1600000 in
theorem play_any (L M : Nat) (m : Int) (sv : Option Addr) (n cap : Nat) (w : World) (hL1 : 1 ≤ L) (hL3 : L ≤ 3) (hM1 : 1 ≤ M) (hM6 : M ≤ 6) (hm : w.cell? ⟨0, 0, none⟩ = some (.int .i64 m)) (hS : ScriptAt w sv n cap) :
    Calls Tryz.prog 8 #[.int .i64 L, .int .i64 M, .slice sv n cap, .int .i64 3] w fun e w' => e = .returned (.bool true) ∧ Below w.heap.size w w' := by
  have hN := upTo_small hL3 hM6
  have hn : n ≤ maxLen := hS.1
  unfold maxLen at hn
  have HS := hide hS
  clear hS
  go_enter Tryz.func8, Tryz.ntmps8
  go_wp2_with fail
  refine (begun_any L M m _ hL1 hL3 hM1 hM6 hm).mono ?_
  rintro e w1 ⟨xb, bb, rb, gw, cw, rfl, hb1, hR1⟩
  have HB1 := hide hb1
  have HR1 := hide hR1
  clear hb1 hR1
  go_wp2_with fail
  go_loopw [10, 11] (fun okv i wr => ∃ (j : Nat), j ≤ n ∧ okv = .bool true ∧ i = .int .i64 (j : Int) ∧ Below w.heap.size w wr ∧ BothR (Up w.heap.size) wr xb bb rb gw cw L M) (fun _ i _ => n - (intOf i).toNat)
  case atStart => exact ⟨0, Nat.zero_le _, rfl, rfl, HB1.out, HR1.out⟩
  case round =>
    clear HB1 HR1
    obtain ⟨j, hj, rfl, rfl, hb, hR⟩ := hrel
    have HB := hide hb
    have HR := hide hR
    by_cases hlt : j < n
    · obtain ⟨a, kd, k, x, y, s, t, rfl, h0, h1, h2, h3, h4, h5, h6, h7⟩ := (HS.out.below hb).2 j hlt
      clear hb hR
      by_cases hk : 3 < kd
      · go_wp2
        go_roundw
        case rel => exact ⟨j + 1, by omega, rfl, by go_num, HB.out, HR.out⟩
        case measure => simp [intOf]; omega
      · go_wp2_with fail
        refine (lstep_any kd k x y s t (Up w.heap.size) _ xb bb rb gw cw L M (by omega) h6 h7 (by exact HR.out)).mono ?_
        rintro e w2 ⟨rfl, hb2, hR2⟩
        have HB2 := hide (HB.out.trans (hb2.up HB.out.size))
        have HR2 := hide hR2
        clear hb2 hR2 h0 h1 h2 h3 h4 h5
        go_wp2
        go_roundw
        case rel => exact ⟨j + 1, by omega, rfl, by go_num, HB2.out, HR2.out⟩
        case measure => simp [intOf]; omega
    · clear hb hR
      go_wp2_with fail
      go_loopw [10, 12] (fun okv i wr => ∃ (j : Nat), j ≤ (Hw.upTo L M).length ∧ okv = .bool true ∧ i = .int .i64 (j : Int) ∧ Below w.heap.size w wr ∧ BothR (Up w.heap.size) wr xb bb rb gw cw L M) (fun _ i _ => (Hw.upTo L M).length - (intOf i).toNat)
      case atStart => exact ⟨0, Nat.zero_le _, rfl, rfl, HB.out, HR.out⟩
      case round =>
        clear HB HR
        obtain ⟨j, hj, rfl, rfl, hb, hR⟩ := hrel
        have HB := hide hb
        have HR := hide hR
        obtain ⟨x1, x3, xw⟩ := hR.words
        clear hb hR
        generalize (Hw.upTo L M).length = N at *
        by_cases hlt2 : j < N
        · obtain ⟨s, hs1, hs2⟩ := xw j hlt2
          clear xw
          go_wp2_with fail
          refine (lleast_any s (Up w.heap.size) _ xb bb rb gw cw L M hs2 (by exact HR.out)).mono ?_
          rintro e w2 ⟨rfl, hb2, hR2⟩
          have HB2 := hide (HB.out.trans (hb2.up HB.out.size))
          have HR2 := hide hR2
          clear hb2 hR2 x1 x3 hs1
          go_wp2
          go_roundw
          case rel => exact ⟨j + 1, by omega, rfl, by go_num, HB2.out, HR2.out⟩
          case measure => simp [intOf]; omega
        · clear xw
          go_wp2
          go_quiet (fail)
          go_wp2
          go_ret
          exact ⟨rfl, HB.out.trans (below_drewN HB.out.size _)⟩

theorem leasts_any (l k m : Int) (sv : Option Addr) (n cap : Nat) (w : World) (hm : w.cell? ⟨0, 0, none⟩ = some (.int .i64 m)) (hS : ScriptAt w sv n cap) :
    Calls Tryz.prog 3 #[.int .i64 l, .int .i64 k, .slice sv n cap] w fun e w' => e = .returned (.bool true) ∧ Below w.heap.size w w' := by
  go_enter Tryz.func3, Tryz.ntmps3
  go_wp2_with fail
  by_cases h : l < 1 ∨ 3 < l ∨ k < 1 ∨ 6 < k
  · refine (play_bad l k 3 sv n cap _ h).mono ?_
    rintro e w1 ⟨rfl, hb⟩
    have HB := hide hb
    clear hb
    go_wp2
    go_ret
    exact ⟨rfl, HB.out⟩
  · obtain ⟨L, rfl⟩ := Int.eq_ofNat_of_zero_le (a := l) (by omega)
    obtain ⟨K, rfl⟩ := Int.eq_ofNat_of_zero_le (a := k) (by omega)
    refine (play_any L K m sv n cap _ (by omega) (by omega) (by omega) (by omega) hm hS).mono ?_
    rintro e w1 ⟨rfl, hb⟩
    have HB := hide hb
    clear hb
    go_wp2
    go_ret
    exact ⟨rfl, HB.out⟩
end Go.Proofs.YtfiebibpgbadlaaGreat
