import Derived.Test.YtfiebibpgbadlaaGreatLawR
import Derived.Test.YtfiebibpgbadlaaGreatProgY
namespace Go.Proofs.YtfiebibpgbadlaaGreat
open Go.RowKit
set_option linter.unusedVariables false
set_option linter.unusedSimpArgs false

set_option maxHeartbeats 1600000 in
theorem play_gen (last : Int) (hlast : 5 ≤ last) (HST : StepC last) (HQ : CountC) (L M : Nat) (m : Int) (sv : Option Addr) (n cap : Nat) (w : World) (hL1 : 1 ≤ L) (hL3 : L ≤ 3) (hM1 : 1 ≤ M) (hM6 : M ≤ 6) (hm : w.cell? ⟨0, 0, none⟩ = some (.int .i64 m)) (hS : ScriptAt w sv n cap) :
    Calls Tryz.prog 8 #[.int .i64 L, .int .i64 M, .slice sv n cap, .int .i64 last] w fun e w' => e = .returned (.bool true) ∧ Below w.heap.size w w' := by
  have hN := upTo_small hL3 hM6
  have hn : n ≤ maxLen := hS.1
  unfold maxLen at hn
  have HS := hide hS
  clear hS
  have h5 : decide (last < 5) = false := by simp; omega
  go_enter Tryz.func8, Tryz.ntmps8
  go_wp2_with fail
  refine (begun_any L M m _ hL1 hL3 hM1 hM6 hm).mono ?_
  rintro e w1 ⟨xb, bb, rb, gw, cw, rfl, hb1, hR1⟩
  have HB1 := hide hb1
  have HR1 := hide hR1
  clear hb1 hR1
  go_wp2_with fail
  go_loopw [10, 11] (fun okv i wr => ∃ (j : Nat), j ≤ n ∧ okv = .bool true ∧ i = .int .i64 (j : Int) ∧ Below w.heap.size w wr ∧ BothR (Up w.heap.size) wr xb bb rb gw cw L M) (fun _ i _ => n - (intOf i).toNat)
  case atStart => exact ⟨0, Nat.zero_le _, rfl, rfl, HB1.out, HR1.out⟩
  case round =>
    clear HB1 HR1
    obtain ⟨j, hj, rfl, rfl, hb, hR⟩ := hrel
    have HB := hide hb
    have HR := hide hR
    by_cases hlt : j < n
    · obtain ⟨a, kd, k, x, y, s, t, rfl, h0, h1, h2, h3, h4, h5, h6, h7⟩ := (HS.out.below hb).2 j hlt
      clear hb hR
      by_cases hk : last < kd
      · go_wp2
        go_roundw
        case rel => exact ⟨j + 1, by omega, rfl, by go_num, HB.out, HR.out⟩
        case measure => simp [intOf]; omega
      · go_wp2_with fail
        refine (HST kd k x y s t (Up w.heap.size) _ xb bb rb gw cw L M (by omega) h6 h7 (by exact HR.out)).mono ?_
        rintro e w2 ⟨rfl, hb2, hR2⟩
        have HB2 := hide (HB.out.trans (hb2.up HB.out.size))
        have HR2 := hide hR2
        clear hb2 hR2 h0 h1 h2 h3 h4 h5
        go_wp2
        go_roundw
        case rel => exact ⟨j + 1, by omega, rfl, by go_num, HB2.out, HR2.out⟩
        case measure => simp [intOf]; omega
    · clear hb hR
      go_wp2_with fail
      go_loopw [10, 12] (fun okv i wr => ∃ (j : Nat), j ≤ (Hw.upTo L M).length ∧ okv = .bool true ∧ i = .int .i64 (j : Int) ∧ Below w.heap.size w wr ∧ BothR (Up w.heap.size) wr xb bb rb gw cw L M) (fun _ i _ => (Hw.upTo L M).length - (intOf i).toNat)
      case atStart => exact ⟨0, Nat.zero_le _, rfl, rfl, HB.out, HR.out⟩
      case round =>
        clear HB HR
        obtain ⟨j, hj, rfl, rfl, hb, hR⟩ := hrel
        have HB := hide hb
        have HR := hide hR
        obtain ⟨x1, x3, xw⟩ := hR.words
        clear hb hR
        by_cases hlt2 : j < (Hw.upTo L M).length
        · obtain ⟨s, hs1, hs2⟩ := xw j hlt2
          clear xw
          generalize (Hw.upTo L M).length = N at *
          go_wp2_with fail
          refine (lleast_any s (Up w.heap.size) _ xb bb rb gw cw L M hs2 (by exact HR.out)).mono ?_
          rintro e w2 ⟨rfl, hb2, hR2⟩
          have HB2 := hide (HB.out.trans (hb2.up HB.out.size))
          have HR2 := hide hR2
          clear hb2 hR2 x1 x3 hs1
          go_wp2
          go_roundw
          case rel => exact ⟨j + 1, by omega, rfl, by go_num, HB2.out, HR2.out⟩
          case measure => simp [intOf]; omega
        · clear xw
          have x0 := HR.out.x0
          obtain ⟨rv, saidV, sameV, said, R, gs, fresh, hC⟩ := HR.out
          have HC := hide hC
          clear hC HR
          generalize (Hw.upTo L M).length = N at *
          go_wp2_with fail
          go_region_held3 (fun w' => w'.cell? ⟨xb, 0, none⟩ = some (.pointer (some ⟨bb, 0, none⟩)) ∧ w'.cell? ⟨xb, 1, none⟩ = some (.pointer (some ⟨rb, 0, none⟩))) (go_keep)
            (first
              | (go_at_call 21; refine (HQ _ bb L M rv said R (by exact HC.out.book.same (below_same (a_same _)))).mono ?_; rintro e w1 ⟨rfl, hb1'⟩; have hb1 := below_trans (below_same (a_same _)) hb1'; have y0 : w1.cell? ⟨xb, 0, none⟩ = some (.pointer (some ⟨bb, 0, none⟩)) := (hb1.cell (p := ⟨xb, 0, none⟩) (lt_of_cell x0)).trans x0; have y1 : w1.cell? ⟨xb, 1, none⟩ = some (.pointer (some ⟨rb, 0, none⟩)) := (hb1.cell (p := ⟨xb, 1, none⟩) (lt_of_cell x1)).trans x1; have HBB1 := hide hb1; clear hb1 hb1')
              | (go_at_call 22; refine (refCount_any _ rb gw cw L M saidV sameV said gs fresh (by exact (HC.out.below HBB1.out).ref.same rfl)).mono ?_; rintro e w2 ⟨xs, rfl, hd, hK2, sameV', hR2⟩; rw [Hw.cnt_eq HC.out.book.L1 HC.out.book.L3 hd HC.out.book.fin HC.out.book.words]; have HF := hide (both_fin HC.out HBB1.out hK2 hR2); have z0 : w2.cell? ⟨xb, 0, none⟩ = some (.pointer (some ⟨bb, 0, none⟩)) := HF.out.2.x0; have z1 : w2.cell? ⟨xb, 1, none⟩ = some (.pointer (some ⟨rb, 0, none⟩)) := HF.out.2.x1; clear hK2 hR2 hd))
          clear x0 x1 x3 y0 y1 z0 z1
          go_wp2
          go_ret
          exact ⟨by simp, HB.out.trans (HF.out.1.up HB.out.size)⟩
end Go.Proofs.YtfiebibpgbadlaaGreat
