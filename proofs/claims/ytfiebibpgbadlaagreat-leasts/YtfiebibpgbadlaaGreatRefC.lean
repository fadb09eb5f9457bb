import Derived.Test.YtfiebibpgbadlaaGreatRefB
import Derived.Test.YtfiebibpgbadlaaGreatWd
namespace Go.Proofs.YtfiebibpgbadlaaGreat
open Go.RowKit
set_option linter.unusedVariables false
set_option linter.unusedSimpArgs false

/-- What holds while the pieces of a word are gone through. -/
structure PInv (w wr : World) (g L M : Nat) (said : List (Hw.Wd × Hw.Wd)) (xs : List Nat) (i : Nat) (S : Hw.Wd) (tb : Bool) (ys : List Nat) (P : Nat → Nat → Prop) : Prop where
  row : wr.heap[g]? = some (.cells (intRow ys) 3 (0, 0))
  kept : Kept [g] w wr
  good : Hw.Good L M said ys
  coarser : Hw.Coarser xs ys
  yes : tb = true → Hw.cnt ys < Hw.cnt xs
  no : tb = false → ys = xs ∧ ∀ a t, P a t → a ≤ t → t ≤ S.length → Hw.PieceDone L M xs i a t

theorem quiet_of2 {P : Program} {f : FuncId} {args : Array Value} {w : World} {n1 x : Nat} {v : Value}
    (h : Calls P f args (w.drewN (n1 + x)) fun e w' => e = .returned v ∧ ∃ m, w' = (w.drewN (n1 + x)).drewN m) : Calls P f args (w.drewN (n1 + x)) fun e w'' => e = .returned v ∧ ∃ m, w'' = w.drewN (n1 + m) :=
  h.mono fun _ _ ⟨he, m, hm⟩ => ⟨he, x + m, by rw [hm, World.drewN_drewN, Nat.add_assoc]⟩

theorem toList_extract (S : Hw.Wd) (a t : Nat) : ((⟨S.toArray⟩ : ByteArray).extract a t).data.toList = (S.take t).drop a := by
  rw [ByteArray.data_extract]
  simp [List.extract_eq_take_drop, List.drop_take]

theorem toList_three (S V : Hw.Wd) (a t : Nat) : ((⟨S.toArray⟩ : ByteArray).extract 0 a ++ ⟨V.toArray⟩ ++ (⟨S.toArray⟩ : ByteArray).extract t S.length).data.toList = S.take a ++ V ++ S.drop t := by
  rw [ByteArray.data_append, ByteArray.data_append, Array.toList_append, Array.toList_append, toList_extract, toList_extract]
  simp

theorem pinv_skip {w wr : World} {g L M i at_ to n : Nat} {said : List (Hw.Wd × Hw.Wd)} {xs ys : List Nat} {S : Hw.Wd} {tb : Bool} (hL3 : L ≤ 3) (hS : Hw.wordAt L M i = S) (hi : i < xs.length) (hxl : xs.length = (Hw.upTo L M).length) (hat : at_ ≤ to)
    (hI : PInv w wr g L M said xs i S tb ys (fun a t => a < at_ ∨ (a = at_ ∧ t < to))) (hk : Hw.of ys (Hw.fold L ((S.take to).drop at_)) = Hw.fold L ((S.take to).drop at_)) :
    PInv w (wr.drewN n) g L M said xs i S tb ys (fun a t => a < at_ ∨ (a = at_ ∧ t < to + 1)) := by
  refine ⟨hI.row, hI.kept.drewN n, hI.good, hI.coarser, hI.yes, fun h => ⟨(hI.no h).1, fun a t hp h1 h2 => ?_⟩⟩
  by_cases hq : a < at_ ∨ (a = at_ ∧ t < to)
  · exact (hI.no h).2 a t hq h1 h2
  · obtain ⟨rfl, rfl⟩ : a = at_ ∧ t = to := by omega
    have := (hI.no h).1
    subst this
    exact Hw.piece_same hL3 hS (by omega) hat hk

theorem pinv_join {w wr w2 : World} {g L M i at_ to n : Nat} {said : List (Hw.Wd × Hw.Wd)} {xs ys : List Nat} {S : Hw.Wd} {tb : Bool} (hL3 : L ≤ 3) (hM6 : M ≤ 6) (hS : Hw.wordAt L M i = S) (hw : Hw.isWord L M S = true) (hi : i < xs.length) (hxl : xs.length = (Hw.upTo L M).length) (hat : at_ ≤ to) (hto : to ≤ S.length)
    (hI : PInv w wr g L M said xs i S tb ys (fun a t => a < at_ ∨ (a = at_ ∧ t < to)))
    {J : Nat} (hJ : J = Hw.fold L (S.take at_ ++ Hw.wordAt L M (Hw.of ys (Hw.fold L ((S.take to).drop at_))) ++ S.drop to))
    (hrow : w2.heap[g]? = some (.cells (intRow (Hw.joinL ys i J).1) 3 (0, 0))) (hK : Kept [g] (wr.drewN n) w2) :
    PInv w w2 g L M said xs i S (tb || (Hw.joinL ys i J).2) (Hw.joinL ys i J).1 (fun a t => a < at_ ∨ (a = at_ ∧ t < to + 1)) := by
  have hp := Hw.piece_word hL3 hI.good hw at_ to hat hto
  have hyl : ys.length = xs.length := hI.good.len.trans hxl.symm
  have hJl : J < ys.length := by rw [hJ, hI.good.len]; exact Hw.fold_lt_length hL3 hp.2.2.2.1
  have hE : Hw.Eqv L M said (Hw.wordAt L M i) (Hw.wordAt L M J) := by
    rw [hS, hJ, Hw.wordAt_fold hL3 hp.2.2.2.1]; exact hp.2.2.2.2
  refine ⟨hrow, (hI.kept.drewN n).trans hK, Hw.good_join hI.good (by omega) hJl hE, ?_, ?_, ?_⟩
  · exact Hw.coarser_trans (by omega) hI.coarser (Hw.coarser_join ys i J)
  · intro h
    cases hb : (Hw.joinL ys i J).2 with
    | true =>
      have h1 := Hw.cnt_join hI.good (by omega) hJl hb
      cases tb with
      | true => have := hI.yes rfl; omega
      | false => have := (hI.no rfl).1; subst this; exact h1
    | false =>
      rw [(Hw.joinL_false hb).1]
      rw [hb, Bool.or_false] at h
      exact hI.yes h
  · intro h
    rw [Bool.or_eq_false_iff] at h
    obtain ⟨h1, h2⟩ := h
    obtain ⟨rfl, hP⟩ := hI.no h1
    obtain ⟨e1, e2⟩ := Hw.joinL_false h2
    refine ⟨e1, fun a t hp h1 h2 => ?_⟩
    by_cases hq : a < at_ ∨ (a = at_ ∧ t < to)
    · exact hP a t hq h1 h2
    · obtain ⟨rfl, rfl⟩ : a = at_ ∧ t = to := by omega
      unfold Hw.PieceDone
      rw [hS, ← hJ]
      exact e2

set_option maxHeartbeats 800000 in
theorem pieces_any (xs : List Nat) (i b g gw L M cw : Nat) (w : World) (saidV : Value) (said : List (Hw.Wd × Hw.Wd)) (fresh : Bool) (hL1 : 1 ≤ L) (hL3 : L ≤ 3) (hM6 : M ≤ 6)
    (hgood : Hw.Good L M said xs) (hi : i < xs.length) (hn2 : xs.length ≤ 65536) (hgw : gw ≠ g)
    (hb : w.heap[b]? = some (refBlock L M saidV (.slice (some ⟨gw, 0, none⟩) xs.length cw) (.slice (some ⟨g, 0, none⟩) xs.length xs.length) fresh))
    (hg : w.heap[g]? = some (.cells (intRow xs) 3 (0, 0)))
    (hwc : ∀ k, k < xs.length → w.cell? ⟨gw, k, none⟩ = some (.string ⟨(Hw.wordAt L M k).toArray⟩)) :
    Calls Tryz.prog 70 #[.pointer (some ⟨b, 0, none⟩), .int .i64 (i : Int)] w fun e w' => ∃ trn ys, e = .returned (.bool trn) ∧
      w'.heap[g]? = some (.cells (intRow ys) 3 (0, 0)) ∧ Kept [g] w w' ∧ Hw.Good L M said ys ∧ Hw.Coarser xs ys ∧
      (trn = true → Hw.cnt ys < Hw.cnt xs) ∧ (trn = false → ys = xs ∧ ∀ a t, a ≤ t → t ≤ (Hw.wordAt L M i).length → Hw.PieceDone L M xs i a t) := by
  have hbg := ref_ne_ints hb hg
  have c3 := ref_c3 hb
  have cwi := hwc i hi
  have hwi : Hw.isWord L M (Hw.wordAt L M i) = true := Hw.wordAt_word hL3 (by rw [← hgood.len]; exact hi)
  have hlen6 : (Hw.wordAt L M i).length ≤ 6 := by have := ((Hw.isWord_iff _ _ _).1 hwi).2; omega
  have HB : Hid (w.heap[b]? = some (refBlock L M saidV (.slice (some ⟨gw, 0, none⟩) xs.length cw) (.slice (some ⟨g, 0, none⟩) xs.length xs.length) fresh)) := hb
  have HG : Hid (w.heap[g]? = some (.cells (intRow xs) 3 (0, 0))) := hg
  have HW : Hid (∀ k, k < xs.length → w.cell? ⟨gw, k, none⟩ = some (.string ⟨(Hw.wordAt L M k).toArray⟩)) := hwc
  have HGd : Hid (Hw.Good L M said xs) := hgood
  have HWI : Hid (Hw.isWord L M (Hw.wordAt L M i) = true) := hwi
  clear hb hg hwc hgood hwi
  generalize hS : Hw.wordAt L M i = S at *
  have HS : Hid (Hw.wordAt L M i = S) := hS
  clear hS
  go_enter Tryz.func70, Tryz.ntmps70
  go_wp2
  clear c3 cwi
  go_loopw [6, 7] (fun trn a wr => ∃ (at_ : Nat) (tb : Bool) (ys : List Nat), at_ ≤ S.length + 1 ∧ a = .int .i64 at_ ∧ trn = .bool tb ∧ PInv w wr g L M said xs i S tb ys (fun a _ => a < at_)) (fun _ a _ => S.length + 1 - (intOf a).toNat)
  case atStart => exact ⟨0, false, xs, by omega, rfl, rfl, HG.out, Kept.refl _ _, HGd.out, Hw.coarser_refl _, by simp, fun _ => ⟨rfl, fun a t h => by omega⟩⟩
  case round =>
    obtain ⟨at_, tb, ys, hat, rfl, rfl, hI⟩ := hrel
    by_cases hlt : at_ ≤ S.length
    · go_wp2
      go_loopw [6, 8] (fun trn a wr => ∃ (to : Nat) (tb : Bool) (ys : List Nat), at_ ≤ to ∧ to ≤ S.length + 1 ∧ a = .int .i64 to ∧ trn = .bool tb ∧ PInv w wr g L M said xs i S tb ys (fun a t => a < at_ ∨ (a = at_ ∧ t < to))) (fun _ a _ => S.length + 1 - (intOf a).toNat)
      case atStart => exact ⟨at_, tb, ys, Nat.le_refl _, by omega, rfl, rfl, hI.row, hI.kept, hI.good, hI.coarser, hI.yes, fun h => ⟨(hI.no h).1, fun a t hp h1 h2 => (hI.no h).2 a t (by omega) h1 h2⟩⟩
      case round =>
        clear hI
        obtain ⟨to, tb, ys, hat2, hto, rfl, rfl, hI⟩ := hrel
        by_cases hlt2 : to ≤ S.length
        · have hpw := Hw.piece_word hL3 hI.good HWI.out at_ to hat2 hlt2
          have hys : ys.length = xs.length := hI.good.len.trans HGd.out.len.symm
          have hbr := hI.kept.at HB.out (by simpa using hbg)
          have cL := ref_c0 hbr
          have c3 := ref_c3 hbr
          have c4 := ref_c4 hbr
          have e1 : Hw.index L ((⟨S.toArray⟩ : ByteArray).extract at_ to).data.toList = Hw.fold L ((S.take to).drop at_) := by
            rw [toList_extract]; exact Hw.index_eq hpw.1
          have hw1 : Hw.isWord L M ((⟨S.toArray⟩ : ByteArray).extract at_ to).data.toList = true := by rw [toList_extract]; exact hpw.1
          generalize hK : Hw.fold L ((S.take to).drop at_) = K at *
          have hKl : K < ys.length := hpw.2.1
          have hKK : K < xs.length := by omega
          have hJ : Hw.of ys K < xs.length := by have := hpw.2.2.1; omega
          have cK : wr.cell? ⟨g, K, none⟩ = some (.int .i64 ((Hw.of ys K : Nat) : Int)) := by
            rw [cell_intRow hI.row K hKl]; simp [Hw.of, hKl]
          have cJ : wr.cell? ⟨gw, Hw.of ys K, none⟩ = some (.string ⟨(Hw.wordAt L M (Hw.of ys K)).toArray⟩) := hI.kept.cell (HW.out _ hJ) (by simpa using hgw)
          have HP : Hid _ := hpw
          have HI : Hid _ := hI
          have HE1 : Hid _ := e1
          have HKf : Hid _ := hK
          have HYS : Hid _ := hys
          clear hpw hI hbr e1 hK hys
          generalize hV : Hw.wordAt L M (Hw.of ys K) = V at *
          have hVl : V.length ≤ 6 := by
            have := ((Hw.isWord_iff _ _ _).1 HP.out.2.2.2.1).2; simp at this; omega
          have hadd2 : ¬ (9223372036854775807 < at_ + V.length + (S.length - to)) := by omega
          have hw2 : Hw.isWord L M ((⟨S.toArray⟩ : ByteArray).extract 0 at_ ++ ⟨V.toArray⟩ ++ (⟨S.toArray⟩ : ByteArray).extract to S.length).data.toList = true := by
            rw [toList_three]; exact HP.out.2.2.2.1
          have e2 : Hw.index L ((⟨S.toArray⟩ : ByteArray).extract 0 at_ ++ ⟨V.toArray⟩ ++ (⟨S.toArray⟩ : ByteArray).extract to S.length).data.toList = Hw.fold L (S.take at_ ++ V ++ S.drop to) := by
            rw [toList_three]; exact Hw.index_eq HP.out.2.2.2.1
          have HE2 : Hid _ := e2
          have HW2 : Hid _ := hw2
          clear e2 hw2
          have HV : Hid _ := hV
          clear hV
          have hadd1 : ¬ (9223372036854775807 < at_ + V.length) := by omega
          go_wp2_with fail
          refine (index_any _ L M b _ hL1 hL3 hM6 hw1 cL).mono ?_
          rintro e w1 ⟨rfl, n1, rfl⟩
          rw [HE1.out]
          clear hw1
          by_cases hk : Hw.of ys K = K
          · have hkb : (((Hw.of ys K : Nat) : Int) == (K : Int)) = true := by simp [hk]
            have HK : Hid _ := hk
            clear hk
            go_wp2
            go_roundw
            case rel => exact ⟨to + 1, tb, ys, by omega, by omega, by go_num, rfl, pinv_skip hL3 HS.out hi HGd.out.len hat2 HI.out (by rw [HKf.out]; exact HK.out)⟩
            case measure => simp [intOf]; omega
          · have hkb : (((Hw.of ys K : Nat) : Int) == (K : Int)) = false := by simp; omega
            clear hk
            go_wp2_with fail
            go_quiet ((go_at_call 65; refine quiet_of2 (index_any _ L M b _ hL1 hL3 hM6 HW2.out cL)))
            rw [HE2.out]
            generalize hJ : Hw.fold L (S.take at_ ++ V ++ S.drop to) = J at *
            have hJl : J < ys.length := by rw [← hJ, HI.out.good.len]; exact Hw.fold_lt_length hL3 HP.out.2.2.2.1
            have HJ : Hid _ := hJ
            clear hJ
            go_wp2_with fail
            refine (join_any ys i J b g L M xs.length (wr.drewN (n1 + nq)) saidV (.slice (some ⟨gw, 0, none⟩) xs.length cw) fresh HYS.out hn2 hi (by have := HYS.out; omega) (HI.out.kept.at HB.out (by simpa using hbg)) HI.out.row).mono ?_
            rintro e w2 ⟨rfl, hg2, hK2⟩
            have R := pinv_join hL3 hM6 HS.out HWI.out hi HGd.out.len hat2 hlt2 HI.out (J := J) (by rw [HKf.out, HV.out]; exact HJ.out.symm) hg2 hK2
            have HR : Hid _ := R
            clear R hg2 hK2 cL c3 c4 cK cJ
            generalize (Hw.joinL ys i J).2 = r at *
            generalize (Hw.joinL ys i J).1 = zs at *
            cases tb with
            | true =>
              go_wp2
              go_roundw
              case rel => exact ⟨to + 1, true, zs, by omega, by omega, by go_num, rfl, by simpa using HR.out⟩
              case measure => simp [intOf]; omega
            | false =>
              go_wp2
              go_roundw
              case rel => exact ⟨to + 1, r, zs, by omega, by omega, by go_num, rfl, by simpa using HR.out⟩
              case measure => simp [intOf]; omega
        · have HI : Hid _ := hI
          clear hI
          go_wp2
          go_roundw
          case rel => exact ⟨at_ + 1, tb, ys, by omega, by go_num, rfl, HI.out.row, HI.out.kept, HI.out.good, HI.out.coarser, HI.out.yes, fun h => ⟨(HI.out.no h).1, fun a t hp h1 h2 => (HI.out.no h).2 a t (by omega) h1 h2⟩⟩
          case measure => simp [intOf]; omega
    · have HI : Hid _ := hI
      clear hI
      go_wp2
      go_ret
      exact ⟨tb, ys, rfl, HI.out.row, HI.out.kept, HI.out.good, HI.out.coarser, HI.out.yes, fun h => ⟨(HI.out.no h).1, fun a t h1 h2 => (HI.out.no h).2 a t (by omega) h1 h2⟩⟩
end Go.Proofs.YtfiebibpgbadlaaGreat
