import Derived.Test.YtfiebibpgbadlaaKeepD
namespace Go.Proofs.Ytfiebibpgbadlaa
open Go.RowKit
set_option linter.unusedVariables false
set_option linter.unusedSimpArgs false

theorem cat3 (X S Y : Hw.Wd) : (⟨X.toArray⟩ : ByteArray) ++ (⟨S.toArray⟩ : ByteArray) ++ (⟨Y.toArray⟩ : ByteArray) = ⟨(X ++ S ++ Y).toArray⟩ := by
  rw [show (⟨X.toArray⟩ : ByteArray) ++ (⟨S.toArray⟩ : ByteArray) = ⟨(X ++ S).toArray⟩ from ByteArray.mk_append_mk X S]
  exact ByteArray.mk_append_mk (X ++ S) Y

theorem ext_eq (S : Hw.Wd) (a t : Nat) : (⟨S.toArray⟩ : ByteArray).extract a t = ⟨((S.take t).drop a).toArray⟩ := by
  apply ByteArray.ext
  apply Array.toList_inj.1
  rw [toList_extract]

/-- Least, at a word. -/
theorem bleast (s : Hw.Wd) (w : World) (bb L M : Nat) (rv : Value) (said R : List Hw.Rl) (hs : Hw.isWord L M s = true) (hB : BookR w bb L M rv said R) :
    Calls Try.prog 14 #[.pointer (some ⟨bb, 0, none⟩), .string ⟨s.toArray⟩] w fun e w' => ∃ m, e = .returned (.tuple #[.string ⟨m.toArray⟩, .int .i64 0]) ∧ Hw.IsLeast L M said s m ∧ Below w.heap.size w w' := by
  have h6 : s.length ≤ 6 := by have := Hw.isWord_len hs; have := hB.M6; omega
  refine (pleast_any ⟨s.toArray⟩ w bb L M rv said R (wd_size s h6) hB).mono ?_
  rintro e w' ⟨m, c, rfl, hA, hb⟩
  have e1 : (⟨s.toArray⟩ : ByteArray).data.toList = s := by simp
  rw [e1] at hA
  obtain ⟨h1, rfl⟩ := hA.1 hs
  exact ⟨m, rfl, h1, hb⟩

theorem bsame (s t m : Hw.Wd) (w : World) (bb L M : Nat) (rv : Value) (said R : List Hw.Rl) (hs : Hw.isWord L M s = true) (ht : Hw.isWord L M t = true) (hB : BookR w bb L M rv said R) (h1 : Hw.IsLeast L M said s m) (h2 : Hw.IsLeast L M said t m) :
    Calls Try.prog 20 #[.pointer (some ⟨bb, 0, none⟩), .string ⟨s.toArray⟩, .string ⟨t.toArray⟩] w fun e w' => e = .returned (.tuple #[.bool true, .int .i64 0]) ∧ Below w.heap.size w w' := by
  have h6 : s.length ≤ 6 := by have := Hw.isWord_len hs; have := hB.M6; omega
  have h6' : t.length ≤ 6 := by have := Hw.isWord_len ht; have := hB.M6; omega
  refine (psame_any ⟨s.toArray⟩ ⟨t.toArray⟩ w bb L M rv said R (wd_size s h6) (wd_size t h6') hB).mono ?_
  rintro e w' ⟨bv, c, rfl, hA, hb⟩
  have e1 : (⟨s.toArray⟩ : ByteArray).data.toList = s := by simp
  have e2 : (⟨t.toArray⟩ : ByteArray).data.toList = t := by simp
  rw [e1, e2] at hA
  obtain ⟨rfl, m1, m2, k1, k2, rfl⟩ := hA.1 hs ht
  rw [k1.uniq hB.L3 h1, k2.uniq hB.L3 h2]
  exact ⟨by simp, hb⟩

/-- A Book that is asked. -/
structure KBk (w W : World) (bb L M : Nat) (rv : Value) (said R : List Hw.Rl) : Prop where
  below : Below w.heap.size w W
  book : BookR W bb L M rv said R
theorem KBk.grow {w W W' : World} {bb L M : Nat} {rv : Value} {said R : List Hw.Rl} (h : KBk w W bb L M rv said R) (hb : Below W.heap.size W W') : KBk w W' bb L M rv said R :=
  ⟨below_trans h.below hb, h.book.same hb⟩
theorem KBk.drewN {w W : World} {bb L M : Nat} {rv : Value} {said R : List Hw.Rl} (h : KBk w W bb L M rv said R) (n : Nat) : KBk w (W.drewN n) bb L M rv said R := h.grow (below_draw n)

/-- What Placed is about. -/
theorem placed_math {L M : Nat} {said R : List Hw.Rl} {w : World} {bb : Nat} {rv : Value} (hB : BookR w bb L M rv said R) {X S Y W V : Hw.Wd} (hxsy : Hw.isWord L M (X ++ S ++ Y) = true) (hW : Hw.IsLeast L M said S W) (hV : Hw.IsLeast L M said (X ++ S ++ Y) V) :
    Hw.isWord L M (X ++ W ++ Y) = true ∧ Hw.IsLeast L M said (X ++ W ++ Y) V ∧ ¬ Hw.fold L S < Hw.fold L W ∧ ∀ p, Hw.Occ p V → Hw.isWord L M p = true ∧ Hw.IsLeast L M said p p := by
  have hS : Hw.isWord L M S = true := Hw.isWord_piece hxsy
  have hle : Hw.fold L W ≤ Hw.fold L S := hW.least S hS ((Hw.eqv_clo L M said).self S hS)
  have hlen := Hw.length_le_of_fold hB.L3 (Hw.isWord_ok hW.word) (Hw.isWord_ok hS) hle
  obtain ⟨o1, o2, o3⟩ := (Hw.ok_iff3 L _ _ _).1 (Hw.isWord_ok hxsy)
  have hw : Hw.isWord L M (X ++ W ++ Y) = true := (Hw.isWord_iff L M _).2 ⟨(Hw.ok_iff3 L _ _ _).2 ⟨o1, Hw.isWord_ok hW.word, o3⟩, by have := Hw.isWord_len hxsy; simp at this ⊢; omega⟩
  have he := (Hw.eqv_clo L M said).within X S W Y hW.same hxsy hw
  refine ⟨hw, hV.of_same ((Hw.eqv_clo L M said).back _ _ he), by omega, fun p hp => ?_⟩
  have hpw := hp.word hV.word
  have hVV : Hw.IsLeast L M said V V := hV.of_same ((Hw.eqv_clo L M said).back _ _ hV.same)
  have hi := (hB.fin.irr_least hB.L1 hB.L3 hB.words hV.word).2 hVV
  exact ⟨hpw, (hB.fin.irr_least hB.L1 hB.L3 hB.words hpw).1 (fun r hr ho => hi r hr (ho.trans hp))⟩

def KTrue (w : World) (e : Ending) (w' : World) : Prop := e = .returned (.bool true) ∧ Below w.heap.size w w'

set_option maxRecDepth 8000 in
set_option maxHeartbeats 3200000 in
theorem placed_any (HP : RulesC) (HQ : CountC) (lt mo one ahead behind : Int) (sv : Option Addr) (cap : Nat) (cs : List Int) (m : Int) (w : World) (hl : -9223372036854775808 ≤ lt ∧ lt ≤ 9223372036854775807) (ho : -9223372036854775808 ≤ mo ∧ mo ≤ 9223372036854775807)
    (h1 : -9223372036854775808 ≤ one ∧ one ≤ 9223372036854775807) (h2 : -9223372036854775808 ≤ ahead ∧ ahead ≤ 9223372036854775807) (h3 : -9223372036854775808 ≤ behind ∧ behind ≤ 9223372036854775807) (hm : w.cell? ⟨0, 0, none⟩ = some (.int .i64 m)) (hS : PutsAt w sv cs) :
    Calls Try.prog 6 #[.agg #[.int .i64 lt, .int .i64 mo, .slice sv cs.length cap], .int .i64 one, .int .i64 ahead, .int .i64 behind] w fun e w' => KTrue w e w' := by
  have hp1 := pickN_lt lt (n := 3) (by omega)
  have hp2 := pickN_lt mo (n := 6) (by omega)
  have o0 : (w.alloc (putBox lt mo sv cs.length cap)).cell? ⟨w.heap.size, 0, none⟩ = some (.int .i64 lt) := cellAt (heap_alloc_new w _) rfl
  have o1 : (w.alloc (putBox lt mo sv cs.length cap)).cell? ⟨w.heap.size, 1, none⟩ = some (.int .i64 mo) := cellAt (heap_alloc_new w _) rfl
  have o2 : (w.alloc (putBox lt mo sv cs.length cap)).cell? ⟨w.heap.size, 2, none⟩ = some (.slice sv cs.length cap) := cellAt (heap_alloc_new w _) rfl
  have hmb : (w.alloc (putBox lt mo sv cs.length cap)).cell? ⟨0, 0, none⟩ = some (.int .i64 m) := ((Kept.refl [] w).alloc _).cell hm (by simp)
  have HB0 := hide (below_alloc w (putBox lt mo sv cs.length cap))
  have HPA := hide (hS.below HB0.out)
  unfold putBox at o0 o1 o2 hmb HB0 HPA
  have h_lt := hide hl
  have h_mo := hide ho
  have H1 := hide h1
  have H2 := hide h2
  have H3 := hide h3
  clear hl ho h1 h2 h3
  obtain ⟨L, hL⟩ : ∃ L, 1 + pickN lt 3 = L := ⟨_, rfl⟩
  obtain ⟨M, hM⟩ : ∃ M, 1 + pickN mo 6 = M := ⟨_, rfl⟩
  have hL1 : 1 ≤ L := by omega
  have hL3 : L ≤ 3 := by omega
  have hM6 : M ≤ 6 := by omega
  have HL := hide hL
  have HM := hide hM
  clear hp1 hp2 hL hM
  go_enter Try.func6, Try.ntmps6
  go_wp2_with fail
  refine (kput_any HP HQ lt mo sv cap cs m _ h_lt.out.1 h_lt.out.2 h_mo.out.1 h_mo.out.2 (by exact hmb) (by exact HPA.out)).mono ?_
  rintro e w1 hK
  rw [HL.out, HM.out] at hK
  obtain ⟨bb, rv, R, rfl, _, hb1, hB1⟩ := hK
  generalize saidOf cs L M 12 = said at *
  have HBk : Hid (KBk w w1 bb L M rv said R) := ⟨below_trans HB0.out hb1, hB1⟩
  clear hb1 hB1 o0 o1 o2 hmb HPA HB0
  go_wp2_with fail
  refine (word_any one L M _ H1.out.1 H1.out.2 hL1 hL3 hM6).mono ?_
  rintro e w2 ⟨rfl, n2, rfl⟩
  have hSw := wordV_word (M := M) one hL1 hL3
  generalize wordV one L M = S at *
  have hSl := Hw.isWord_len hSw
  have HSw := hide hSw
  clear hSw
  obtain ⟨M1, hM1⟩ : ∃ k, M - S.length = k := ⟨_, rfl⟩
  have eM1 : (M : Int) - (S.length : Int) = (M1 : Int) := by omega
  go_wp2_with fail
  refine (word_any ahead L M1 _ H2.out.1 H2.out.2 hL1 hL3 (by omega)).mono ?_
  rintro e w3 ⟨rfl, n3, rfl⟩
  have hXw := wordV_word (M := M1) ahead hL1 hL3
  generalize wordV ahead L M1 = X at *
  have hXl := Hw.isWord_len hXw
  have HXw := hide hXw
  clear hXw
  obtain ⟨M2, hM2⟩ : ∃ k, M1 - X.length = k := ⟨_, rfl⟩
  have eM2 : (M1 : Int) - (X.length : Int) = (M2 : Int) := by omega
  go_wp2_with fail
  refine (word_any behind L M2 _ H3.out.1 H3.out.2 hL1 hL3 (by omega)).mono ?_
  rintro e w4 ⟨rfl, n4, rfl⟩
  have hYw := wordV_word (M := M2) behind hL1 hL3
  generalize wordV behind L M2 = Y at *
  have hYl := Hw.isWord_len hYw
  have hxsy : Hw.isWord L M (X ++ S ++ Y) = true := (Hw.isWord_iff L M _).2 ⟨(Hw.ok_iff3 L _ _ _).2 ⟨Hw.isWord_ok HXw.out, Hw.isWord_ok HSw.out, Hw.isWord_ok hYw⟩, by simp; omega⟩
  have HXSY := hide hxsy
  have hlen : X.length + S.length + Y.length ≤ 6 := by omega
  clear hYw hxsy hM1 hM2 eM1 eM2 HXw
  go_wp2_with fail
  refine (bleast S _ bb L M rv said R HSw.out (by exact (HBk.out.drewN _).book)).mono ?_
  rintro e w5 ⟨W, rfl, hW, hb5⟩
  have HBk5 := hide ((HBk.out.drewN _).grow hb5)
  have HW := hide hW
  have hWl : W.length ≤ S.length := Hw.length_le_of_fold hL3 (Hw.isWord_ok hW.word) (Hw.isWord_ok HSw.out) (hW.least S HSw.out ((Hw.eqv_clo L M said).self S HSw.out))
  clear hW hb5 HBk
  have ha1 : ¬ (9223372036854775807 < X.length + S.length) := by omega
  have ha2 : ¬ (9223372036854775807 < X.length + S.length + Y.length) := by omega
  go_wp2_with fail
  rw [cat3]
  refine (bleast (X ++ S ++ Y) _ bb L M rv said R HXSY.out (by exact HBk5.out.book)).mono ?_
  rintro e w6 ⟨V, rfl, hV, hb6⟩
  have HPM := hide (placed_math HBk5.out.book HXSY.out HW.out hV)
  have HV := hide hV
  have HBk6 := hide (HBk5.out.grow hb6)
  clear hV hb6 HBk5
  have hb1 : ¬ (9223372036854775807 < X.length + W.length) := by omega
  have hb2 : ¬ (9223372036854775807 < X.length + W.length + Y.length) := by omega
  go_wp2_with fail
  rw [cat3, cat3]
  refine (bsame (X ++ W ++ Y) (X ++ S ++ Y) V _ bb L M rv said R HPM.out.1 HXSY.out (by exact HBk6.out.book) HPM.out.2.1 HV.out).mono ?_
  rintro e w7 ⟨rfl, hb7⟩
  have HBk7 := hide (HBk6.out.grow hb7)
  clear hb7 HBk6
  go_wp2_with fail
  rw [cat3]
  refine (bleast (X ++ W ++ Y) _ bb L M rv said R HPM.out.1 (by exact HBk7.out.book)).mono ?_
  rintro e w8 ⟨U, rfl, hU, hb8⟩
  have hUV := hU.uniq hL3 HPM.out.2.1
  subst hUV
  have HBk8 := hide (HBk7.out.grow hb8)
  clear hU hb8 HBk7
  go_wp2_with fail
  refine (less_any S W L _ hL1 hL3 (by omega) (by omega) (Hw.isWord_ok HSw.out) (Hw.isWord_ok HW.out.word)).mono ?_
  rintro e w9 ⟨rfl, rfl⟩
  rw [show decide (Hw.fold L S < Hw.fold L W) = false by simpa using HPM.out.2.2.1]
  have HPc := hide HPM.out.2.2.2
  have hUl : U.length ≤ 6 := by have := Hw.isWord_len HV.out.word; omega
  clear HPM HXSY HW HV HSw ha1 ha2 hb1 hb2
  go_wp2_with fail
  go_loopw [23] (fun iv wr => ∃ i : Nat, i ≤ U.length + 1 ∧ iv = .int .i64 (i : Int) ∧ KBk w wr bb L M rv said R) (fun iv _ => U.length + 1 - (intOf iv).toNat)
  case atStart => exact ⟨0, by omega, rfl, HBk8.out⟩
  case round =>
    clear HBk8
    obtain ⟨i, hi, rfl, hK⟩ := hrel
    have HK := hide hK
    clear hK
    by_cases hlt : i ≤ U.length
    · have hx1 := ext_eq U 0 i
      have hx2 := ext_eq U i U.length
      rw [List.drop_zero] at hx1
      rw [List.take_of_length_le (Nat.le_refl _)] at hx2
      have HT := hide (HPc.out (U.take i) ⟨[], U.drop i, by simp⟩)
      have HD := hide (HPc.out (U.drop i) ⟨U.take i, [], by simp⟩)
      go_wp2_with fail
      refine (bleast (U.take i) _ bb L M rv said R HT.out.1 (by exact HK.out.book)).mono ?_
      rintro e wa ⟨T, rfl, hTT, hba⟩
      have hT := hTT.uniq hL3 HT.out.2
      subst hT
      have HKa := hide (HK.out.grow hba)
      clear hTT hba
      go_wp2_with fail
      refine (bleast (U.drop i) _ bb L M rv said R HD.out.1 (by exact HKa.out.book)).mono ?_
      rintro e wb ⟨D, rfl, hDD, hbb⟩
      have hD := hDD.uniq hL3 HD.out.2
      subst hD
      have HKb := hide (HKa.out.grow hbb)
      clear hDD hbb
      go_wp2
      go_roundw
      case rel => exact ⟨i + 1, by omega, by go_num, HKb.out⟩
      case measure => simp [intOf]; omega
    · go_wp2
      go_ret
      exact ⟨rfl, HK.out.below⟩
end Go.Proofs.Ytfiebibpgbadlaa
