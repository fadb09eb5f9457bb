import Derived.Test.YtfiebibpgbadlaaGreatRefF
import Derived.Test.YtfiebibpgbadlaaGreatKb
namespace Go.Proofs.YtfiebibpgbadlaaGreat
open Go.RowKit
set_option linter.unusedVariables false
set_option linter.unusedSimpArgs false

def Fix (L : Nat) (xs : List Nat) (S : Hw.Wd) (a t : Nat) : Prop := Hw.of xs (Hw.fold L ((S.take t).drop a)) = Hw.fold L ((S.take t).drop a)

theorem whole_no {L M : Nat} {xs : List Nat} {i : Nat} {S : Hw.Wd} (hS : Hw.wordAt L M i = S) {a t : Nat} (h1 : a ≤ t) (h2 : t ≤ S.length) (h : ¬ Fix L xs S a t) : ¬ Hw.Whole L M xs i := by
  intro k
  have := k a t h1 (by rw [hS]; exact h2)
  rw [hS] at this
  exact h this
theorem whole_yes {L M : Nat} {xs : List Nat} {i : Nat} {S : Hw.Wd} (hS : Hw.wordAt L M i = S) {at_ : Nat} (h0 : S.length < at_) (h : ∀ a t, a < at_ → a ≤ t → t ≤ S.length → Fix L xs S a t) : Hw.Whole L M xs i := by
  intro a t h1 h2
  rw [hS] at h2 ⊢
  exact h a t (by omega) h1 h2

set_option maxHeartbeats 800000 in
theorem whole_any (w : World) (i b g gw cw L M : Nat) (saidV : Value) (said : List (Hw.Wd × Hw.Wd)) (gs xs : List Nat) (fresh : Bool) (hi : i < (Hw.upTo L M).length)
    (hR : RefR w b gw cw L M saidV (.slice (some ⟨g, 0, none⟩) (Hw.upTo L M).length (Hw.upTo L M).length) said gs fresh) (hg : w.heap[g]? = some (.cells (intRow xs) 3 (0, 0))) (hd : Hw.Done L M said xs) :
    Calls Tryz.prog 71 #[.pointer (some ⟨b, 0, none⟩), .int .i64 (i : Int)] w fun e w' => ∃ bv n, e = .returned (.bool bv) ∧ (bv = true ↔ Hw.Whole L M xs i) ∧ w' = w.drewN n := by
  have c0 := ref_c0 hR.blk
  have c3 := ref_c3 hR.blk
  have c4 := ref_c4 hR.blk
  have cwi := hR.wrd.cell i hi
  have hL1 := hR.L1
  have hL3 := hR.L3
  have hM6 := hR.M6
  have hN := upTo_small hL3 hM6
  have hwi : Hw.isWord L M (Hw.wordAt L M i) = true := Hw.wordAt_word hL3 hi
  have hlen6 : (Hw.wordAt L M i).length ≤ 6 := by have := Hw.isWord_len hwi; omega
  have HG := hide hg
  have HD := hide hd
  have HWI := hide hwi
  clear hR hg hd hwi
  generalize hS : Hw.wordAt L M i = S at *
  generalize hNN : (Hw.upTo L M).length = N at *
  have HS := hide hS
  have HNN := hide hNN
  clear hS hNN
  go_enter Tryz.func71, Tryz.ntmps71
  go_wp2
  go_loopw [6] (fun a wr => ∃ (at_ n : Nat), at_ ≤ S.length + 1 ∧ a = .int .i64 at_ ∧ wr = w.drewN n ∧ Hid (∀ a t, a < at_ → a ≤ t → t ≤ S.length → Fix L xs S a t)) (fun a _ => S.length + 1 - (intOf a).toNat)
  case atStart => exact ⟨0, 0, by omega, rfl, rfl, fun a t h => by omega⟩
  case round =>
    obtain ⟨at_, n, hat, rfl, rfl, HI⟩ := hrel
    by_cases hlt : at_ ≤ S.length
    · go_wp2
      go_loopw [7] (fun a wr => ∃ (to n : Nat), at_ ≤ to ∧ to ≤ S.length + 1 ∧ a = .int .i64 to ∧ wr = w.drewN n ∧ Hid (∀ a t, (a < at_ ∨ (a = at_ ∧ t < to)) → a ≤ t → t ≤ S.length → Fix L xs S a t)) (fun a _ => S.length + 1 - (intOf a).toNat)
      case atStart => exact ⟨at_, n, Nat.le_refl _, by omega, rfl, rfl, fun a t h h1 h2 => HI.out a t (by omega) h1 h2⟩
      case round =>
        clear HI
        obtain ⟨to, n, hat2, hto, rfl, rfl, HI⟩ := hrel
        by_cases hlt2 : to ≤ S.length
        · have hpw := Hw.piece_word hL3 HD.out.good HWI.out at_ to hat2 hlt2
          have e1 : Hw.index L ((⟨S.toArray⟩ : ByteArray).extract at_ to).data.toList = Hw.fold L ((S.take to).drop at_) := by
            rw [toList_extract]; exact Hw.index_eq hpw.1
          have hw1 : Hw.isWord L M ((⟨S.toArray⟩ : ByteArray).extract at_ to).data.toList = true := by rw [toList_extract]; exact hpw.1
          have hKl := hpw.2.1
          have hKN : Hw.fold L ((S.take to).drop at_) < N := by rw [← HNN.out, ← HD.out.good.len]; exact hKl
          have hfx : Fix L xs S at_ to ↔ Hw.of xs (Hw.fold L ((S.take to).drop at_)) = Hw.fold L ((S.take to).drop at_) := Iff.rfl
          have HFX := hide hfx
          clear hpw hfx
          generalize hK : Hw.fold L ((S.take to).drop at_) = K at *
          have cK : w.cell? ⟨g, K, none⟩ = some (.int .i64 ((Hw.of xs K : Nat) : Int)) := by
            rw [cell_intRow HG.out K hKl]; simp [Hw.of, hKl]
          have HE1 := hide e1
          clear e1 hK
          go_wp2_with fail
          refine (index_any _ L M b _ hL1 hL3 hM6 hw1 (by exact c0)).mono ?_
          rintro e w1 ⟨rfl, n1, rfl⟩
          rw [HE1.out]
          clear hw1
          by_cases hk : Hw.of xs K = K
          · have hkb : (((Hw.of xs K : Nat) : Int) != (K : Int)) = false := by simp [hk]
            have HK := hide hk
            clear hk
            go_wp2
            go_roundw
            case rel =>
              refine ⟨to + 1, _, by omega, by omega, by go_num, rfl, fun a t h h1 h2 => ?_⟩
              by_cases hq : a < at_ ∨ (a = at_ ∧ t < to)
              · exact HI.out a t hq h1 h2
              · obtain ⟨rfl, rfl⟩ : a = at_ ∧ t = to := by omega
                exact HFX.out.2 HK.out
            case measure => simp [intOf]; omega
          · have hkb : (((Hw.of xs K : Nat) : Int) != (K : Int)) = true := by rw [bne_iff_ne]; omega
            have HK := hide hk
            clear hk
            go_wp2
            go_ret
            refine ⟨false, _, rfl, ?_, rfl⟩
            simp only [Bool.false_eq_true, false_iff]
            exact whole_no HS.out hat2 hlt2 (fun h => HK.out (HFX.out.1 h))
        · go_wp2
          go_roundw
          case rel => exact ⟨at_ + 1, n, by omega, by go_num, rfl, fun a t h h1 h2 => HI.out a t (by omega) h1 h2⟩
          case measure => simp [intOf]; omega
    · go_wp2
      go_ret
      exact ⟨true, _, rfl, by simp only [true_iff]; exact whole_yes HS.out (by omega) HI.out, rfl⟩

def cntTo (xs : List Nat) (i : Nat) : Nat := (List.range i).countP fun k => Hw.of xs k == k
theorem cntTo_succ (xs : List Nat) (i : Nat) : cntTo xs (i + 1) = cntTo xs i + if Hw.of xs i = i then 1 else 0 := by
  unfold cntTo; rw [List.range_succ, List.countP_append]; simp [List.countP_cons]
theorem cntTo_le (xs : List Nat) (i : Nat) : cntTo xs i ≤ i := by
  have := List.countP_le_length (p := fun k => Hw.of xs k == k) (l := List.range i)
  simpa [cntTo] using this

set_option maxHeartbeats 800000 in
theorem refCount_any (w : World) (b gw cw L M : Nat) (saidV sameV : Value) (said : List (Hw.Wd × Hw.Wd)) (gs : List Nat) (fresh : Bool) (hR : RefR w b gw cw L M saidV sameV said gs fresh) :
    Calls Tryz.prog 22 #[.pointer (some ⟨b, 0, none⟩)] w fun e w' => ∃ xs, e = .returned (.int .i64 ((Hw.cnt xs : Nat) : Int)) ∧ Hw.Done L M said xs ∧ Kept [b] w w' ∧ ∃ sameV', RefR w' b gw cw L M saidV sameV' said gs true := by
  go_enter Tryz.func22, Tryz.ntmps22
  go_wp2_with fail
  refine (close_any w b gw cw L M saidV sameV said gs fresh hR).mono ?_
  rintro e w2 ⟨rfl, hK, sameV', hR2⟩
  obtain ⟨g, xs, rfl, hg, hd⟩ := hR2.done rfl
  have c4 := ref_c4 hR2.blk
  have hN := upTo_small hR2.L3 hR2.M6
  have hlen := hd.good.len
  have HR2 := hide hR2
  have HG := hide hg
  have HD := hide hd
  have HK := hide hK
  have HLEN := hide hlen
  clear hR hR2 hg hd hK hlen
  generalize hNN : (Hw.upTo L M).length = N at *
  have HNN := hide hNN
  clear hNN
  go_wp2_with fail
  go_loopw [3, 4] (fun nv iv wr => ∃ (k : Nat), k ≤ N ∧ nv = .int .i64 ((cntTo xs k : Nat) : Int) ∧ iv = .int .i64 (k : Int) ∧ wr = w2) (fun _ iv _ => N - (intOf iv).toNat)
  case atStart => exact ⟨0, Nat.zero_le _, rfl, rfl, rfl⟩
  case round =>
    obtain ⟨k, hk, rfl, rfl, rfl⟩ := hrel
    have hle := cntTo_le xs k
    by_cases hlt : k < N
    · have hkl : k < xs.length := by rw [HLEN.out]; exact hlt
      have ck : wr.cell? ⟨g, k, none⟩ = some (.int .i64 ((Hw.of xs k : Nat) : Int)) := by
        rw [cell_intRow HG.out k hkl]; simp [Hw.of, hkl]
      have hsu := cntTo_succ xs k
      by_cases he : Hw.of xs k = k
      · rw [if_pos he] at hsu
        have hb : (((Hw.of xs k : Nat) : Int) == (k : Int)) = true := by simp [he]
        have HSU := hide hsu
        clear hsu he
        go_wp2
        go_roundw
        case rel => exact ⟨k + 1, by omega, by rw [HSU.out]; go_num, by go_num, trivial⟩
        case measure => simp [intOf]; omega
      · rw [if_neg he] at hsu
        have hb : (((Hw.of xs k : Nat) : Int) == (k : Int)) = false := by simp; omega
        have HSU := hide hsu
        clear hsu he
        go_wp2
        go_roundw
        case rel => exact ⟨k + 1, by omega, by rw [HSU.out]; rfl, by go_num, trivial⟩
        case measure => simp [intOf]; omega
    · have hkN : k = xs.length := by rw [HLEN.out]; omega
      go_wp2
      go_ret
      refine ⟨xs, ?_, HD.out, HK.out, _, HR2.out⟩
      rw [hkN]; rfl
end Go.Proofs.YtfiebibpgbadlaaGreat
