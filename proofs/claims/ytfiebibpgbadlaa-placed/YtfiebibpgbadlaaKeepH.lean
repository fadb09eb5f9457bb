import Derived.Test.YtfiebibpgbadlaaKeepG
namespace Go.Proofs.Ytfiebibpgbadlaa
open Go.RowKit
set_option linter.unusedVariables false
set_option linter.unusedSimpArgs false

/-- how many pairs are said. -/
def tri : Nat → Nat
  | 0 => 0
  | 1 => 0
  | 2 => 1
  | _ => 3
def said3 (n : Nat) : List Hw.Rl := (Hw.sr 3).take n
theorem said3_L {L : Nat} (h1 : 1 ≤ L) (h3 : L ≤ 3) : said3 (tri L) = Hw.sr L := by
  rcases (show L = 1 ∨ L = 2 ∨ L = 3 by omega) with rfl | rfl | rfl <;> rfl

/-- the letters of a word, put in order. -/
def wantTo (s : Hw.Wd) (c i : Nat) : Hw.Wd := ((List.range c).flatMap fun x => s.filter (· == UInt8.ofNat (97 + x))) ++ (s.take i).filter (· == UInt8.ofNat (97 + c))
theorem wantTo_zero (s : Hw.Wd) : wantTo s 0 0 = [] := rfl
theorem wantTo_next (s : Hw.Wd) (c i : Nat) (hi : s.length ≤ i) : wantTo s (c + 1) 0 = wantTo s c i := by
  unfold wantTo
  rw [List.range_succ, List.flatMap_append, List.take_of_length_le hi]
  simp
theorem wantTo_yes (s : Hw.Wd) (c i : Nat) (hi : i < s.length) (h : s[i] = UInt8.ofNat (97 + c)) : wantTo s c (i + 1) = wantTo s c i ++ [s[i]] := by
  unfold wantTo
  rw [List.take_succ_eq_append_getElem hi, List.filter_append, List.append_assoc]
  simp [h]
theorem wantTo_no (s : Hw.Wd) (c i : Nat) (hi : i < s.length) (h : s[i] ≠ UInt8.ofNat (97 + c)) : wantTo s c (i + 1) = wantTo s c i := by
  unfold wantTo
  rw [List.take_succ_eq_append_getElem hi, List.filter_append]
  generalize UInt8.ofNat (97 + c) = ch at *
  simp [h]
theorem wantTo_len (s : Hw.Wd) (c j : Nat) (hc : c < 3) (hs : s.length ≤ 6) : (wantTo s c j).length ≤ 18 := by
  have hf : ∀ (p : UInt8 → Bool), (s.filter p).length ≤ 6 := fun p => Nat.le_trans (List.length_filter_le _ _) hs
  have hg : ∀ (p : UInt8 → Bool), ((s.take j).filter p).length ≤ 6 := fun p => Nat.le_trans (List.length_filter_le _ _) (by rw [List.length_take]; omega)
  have g1 := hg (· == UInt8.ofNat (97 + c))
  have f0 := hf (· == UInt8.ofNat (97 + 0))
  have f1 := hf (· == UInt8.ofNat (97 + 1))
  unfold wantTo
  rcases (show c = 0 ∨ c = 1 ∨ c = 2 by omega) with rfl | rfl | rfl
  · simp only [List.range_zero, List.flatMap_nil, List.nil_append]; omega
  · simp only [List.range_succ, List.range_zero, List.nil_append, List.flatMap_cons, List.flatMap_nil, List.append_nil, List.length_append]; omega
  · simp only [List.range_succ, List.range_zero, List.nil_append, List.flatMap_append, List.flatMap_cons, List.flatMap_nil, List.append_nil, List.length_append]; omega
theorem abc_at (c : Nat) (h : c < 3) : (⟨#[97, 98, 99]⟩ : ByteArray)[c]'h = UInt8.ofNat (97 + c) := by
  rcases (show c = 0 ∨ c = 1 ∨ c = 2 by omega) with rfl | rfl | rfl <;> rfl
theorem byte_eq (s : Hw.Wd) (j c : Nat) (hj : j < s.length) (hc : c < 3) : ((((⟨s.toArray⟩ : ByteArray)[j]'(by exact hj)).toNat : Int) == (((⟨#[97, 98, 99]⟩ : ByteArray)[c]'hc).toNat : Int)) = decide (s[j] = UInt8.ofNat (97 + c)) := by
  rw [abc_at c hc]
  show ((s[j].toNat : Int) == ((UInt8.ofNat (97 + c)).toNat : Int)) = _
  generalize UInt8.ofNat (97 + c) = ch
  by_cases h : s[j] = ch
  · simp [h]
  · have : s[j].toNat ≠ ch.toNat := fun e => h (UInt8.toNat_inj.1 e)
    simp [h, this]
    omega
theorem one_at (s : Hw.Wd) (j : Nat) (h : j < s.length) : (s.take (j + 1)).drop j = [s[j]] := by
  rw [List.take_succ_eq_append_getElem h, List.drop_append_of_le_length (by simp; omega)]
  simp

theorem filter_none {L : Nat} {s : Hw.Wd} (hs : Hw.Ok L s) (x : Nat) (hx : L ≤ x) (hx3 : x < 3) : s.filter (· == UInt8.ofNat (97 + x)) = [] := by
  rw [List.filter_eq_nil_iff]
  intro a ha
  have := List.all_eq_true.1 hs a ha
  simp [Hw.okc] at this
  simp
  rintro rfl
  rcases (show x = 0 ∨ x = 1 ∨ x = 2 by omega) with rfl | rfl | rfl <;> simp at this <;> omega
theorem want_sort {L : Nat} {s : Hw.Wd} (h1 : 1 ≤ L) (h3 : L ≤ 3) (hs : Hw.Ok L s) : wantTo s L 0 = Hw.sortW s := by
  have e : ∀ n, wantTo s n 0 = (List.range n).flatMap fun x => s.filter (· == UInt8.ofNat (97 + x)) := fun n => by simp [wantTo]
  rw [e]
  unfold Hw.sortW
  rcases (show L = 1 ∨ L = 2 ∨ L = 3 by omega) with rfl | rfl | rfl
  · have h1 := filter_none hs 1 (by omega) (by omega)
    have h2 := filter_none hs 2 (by omega) (by omega)
    rw [show UInt8.ofNat (97 + 1) = 98 from rfl] at h1
    rw [show UInt8.ofNat (97 + 2) = 99 from rfl] at h2
    rw [h1, h2]; simp [List.range_succ]
  · have h2 := filter_none hs 2 (by omega) (by omega)
    rw [show UInt8.ofNat (97 + 2) = 99 from rfl] at h2
    rw [h2]; simp [List.range_succ]
  · simp [List.range_succ]

/-- how many ways: as they are counted. -/
def nyN (L M x : Nat) : Nat := if 1 < L then M + 1 - x else 1
def nzN (L M x y : Nat) : Nat := if 2 < L then M + 1 - x - y else 1
def cyN (L M x : Nat) : Nat → Nat
  | 0 => 0
  | y + 1 => cyN L M x y + nzN L M x y
def cxN (L M : Nat) : Nat → Nat
  | 0 => 0
  | x + 1 => cxN L M x + cyN L M x (nyN L M x)
theorem count_check : ((List.range 3).all fun l => (List.range 5).all fun m => cxN (l + 1) (m + 2) (m + 3) == Hw.waysTo (l + 1) (m + 2) && (List.range 9).all fun x => (List.range 9).all fun y => decide (cxN (l + 1) (m + 2) x + cyN (l + 1) (m + 2) x y ≤ 100000)) = true := by decide +kernel
theorem count_all {L M : Nat} (hL1 : 1 ≤ L) (hL : L ≤ 3) (hM2 : 2 ≤ M) (hM : M ≤ 6) : cxN L M (M + 1) = Hw.waysTo L M ∧ ∀ x y, x ≤ 8 → y ≤ 8 → cxN L M x + cyN L M x y ≤ 100000 := by
  have h := count_check
  rw [List.all_eq_true] at h
  have h1 := h (L - 1) (by rw [List.mem_range]; omega)
  rw [List.all_eq_true] at h1
  have h2 := h1 (M - 2) (by rw [List.mem_range]; omega)
  rw [show L - 1 + 1 = L by omega, show M - 2 + 2 = M by omega, show M - 2 + 3 = M + 1 by omega, Bool.and_eq_true, beq_iff_eq, List.all_eq_true] at h2
  refine ⟨h2.1, fun x y hx hy => ?_⟩
  have h3 := h2.2 x (by rw [List.mem_range]; omega)
  rw [List.all_eq_true] at h3
  have h4 := h3 y (by rw [List.mem_range]; omega)
  simpa using h4

theorem pair_facts {L M i k : Nat} (hL3 : L ≤ 3) (hM2 : 2 ≤ M) (hi : i < L) (hk : k < i) : Hw.isWord L M [UInt8.ofNat (97 + i), UInt8.ofNat (97 + k)] = true ∧ Hw.isWord L M [UInt8.ofNat (97 + k), UInt8.ofNat (97 + i)] = true ∧
    said3 (tri i + k) ++ [([UInt8.ofNat (97 + i), UInt8.ofNat (97 + k)], [UInt8.ofNat (97 + k), UInt8.ofNat (97 + i)])] = said3 (tri i + (k + 1)) ∧ (said3 (tri i + k)).length = tri i + k ∧ tri i + k < 12 := by
  refine ⟨?_, ?_, ?_⟩
  · rw [Hw.isWord_iff]
    refine ⟨?_, by simpa using hM2⟩
    rcases (show (i = 1 ∧ k = 0) ∨ (i = 2 ∧ k = 0) ∨ (i = 2 ∧ k = 1) by omega) with ⟨rfl, rfl⟩ | ⟨rfl, rfl⟩ | ⟨rfl, rfl⟩ <;> simp [Hw.okc] <;> omega
  · rw [Hw.isWord_iff]
    refine ⟨?_, by simpa using hM2⟩
    rcases (show (i = 1 ∧ k = 0) ∨ (i = 2 ∧ k = 0) ∨ (i = 2 ∧ k = 1) by omega) with ⟨rfl, rfl⟩ | ⟨rfl, rfl⟩ | ⟨rfl, rfl⟩ <;> simp [Hw.okc] <;> omega
  · rcases (show (i = 1 ∧ k = 0) ∨ (i = 2 ∧ k = 0) ∨ (i = 2 ∧ k = 1) by omega) with ⟨rfl, rfl⟩ | ⟨rfl, rfl⟩ | ⟨rfl, rfl⟩ <;> exact ⟨rfl, rfl, by decide⟩
theorem tri_next {i k : Nat} (hi : i < 3) (hk : k = i) : tri i + k = tri (i + 1) := by
  subst hk
  rcases (show k = 0 ∨ k = 1 ∨ k = 2 by omega) with rfl | rfl | rfl <;> rfl
theorem tri_le (i : Nat) : tri i ≤ 3 := by unfold tri; split <;> omega

theorem sr_sorted {L : Nat} (h1 : 1 ≤ L) (h3 : L ≤ 3) : (Hw.sr L).Pairwise fun a b => Hw.fold L a.1 < Hw.fold L b.1 := by
  rcases (show L = 1 ∨ L = 2 ∨ L = 3 by omega) with rfl | rfl | rfl
  · exact List.Pairwise.nil
  · exact List.pairwise_singleton _ _
  · decide
theorem sr_len {L : Nat} (h1 : 1 ≤ L) (h3 : L ≤ 3) : (Hw.sr L).length = tri L := by
  rcases (show L = 1 ∨ L = 2 ∨ L = 3 by omega) with rfl | rfl | rfl <;> rfl

set_option maxRecDepth 2000 in
set_option maxHeartbeats 3200000 in
theorem sorted_any (HP : RulesC) (HQ : CountC) (lt mo start mx : Int) (w : World) (h1 : -9223372036854775808 ≤ lt ∧ lt ≤ 9223372036854775807) (h2 : -9223372036854775808 ≤ mo ∧ mo ≤ 9223372036854775807) (h3 : -9223372036854775808 ≤ start ∧ start ≤ 9223372036854775807) (hm : w.cell? ⟨0, 0, none⟩ = some (.int .i64 mx)) :
    Calls Try.prog 4 #[.int .i64 lt, .int .i64 mo, .int .i64 start] w fun e w' => KTrue w e w' := by
  have H1 := hide h1
  have H2 := hide h2
  have H3 := hide h3
  clear h1 h2 h3
  go_enter Try.func4, Try.ntmps4
  go_wp2_with fail
  refine (pick_is lt _ 3 _ rfl H1.out.1 H1.out.2 (by omega) (by omega)).mono ?_
  rintro e w1 ⟨rfl, hw1⟩
  obtain rfl := hw1.symm
  have hp1 := pickN_lt lt (n := 3) (by omega)
  generalize pickN lt 3 = l0 at *
  obtain ⟨L, hL⟩ : ∃ x, l0 + 1 = x := ⟨_, rfl⟩
  have eL : 1 + (l0 : Int) = (L : Int) := by omega
  have eL2 : (l0 : Int) + 1 = (L : Int) := by omega
  go_wp2_with fail
  refine (pick_is mo _ 5 _ rfl H2.out.1 H2.out.2 (by omega) (by omega)).mono ?_
  rintro e w1 ⟨rfl, hw1⟩
  obtain rfl := hw1.symm
  have hp2 := pickN_lt mo (n := 5) (by omega)
  generalize pickN mo 5 = m0 at *
  obtain ⟨M, hM⟩ : ∃ x, m0 + 2 = x := ⟨_, rfl⟩
  have eM : 2 + (m0 : Int) = (M : Int) := by omega
  have eM2 : (m0 : Int) + 2 = (M : Int) := by omega
  have hL1 : 1 ≤ L := by omega
  have hL3 : L ≤ 3 := by omega
  have hM2 : 2 ≤ M := by omega
  have hM6 : M ≤ 6 := by omega
  clear hL hM hp1 hp2
  go_wp2_with fail
  refine (opened_any HP HQ L M mx _ hL1 hL3 (by omega) hM6 hm).mono ?_
  rintro e w1 ⟨bb, rfl, hlo, hb1, hB1⟩
  have HB : Hid (KBk w w1 bb L M (.slice none 0 0) [] []) := ⟨hb1, hB1⟩
  have HLO := hide hlo
  clear hb1 hB1 hlo
  go_wp2_with fail
  go_loopw [8, 9] (fun nv iv wr => ∃ (i : Nat) (rv : Value) (R : List Hw.Rl), i ≤ L ∧ nv = .int .i64 ((tri i : Nat) : Int) ∧ iv = .int .i64 (i : Int) ∧ KBk w wr bb L M rv (said3 (tri i)) R) (fun _ iv _ => L - (intOf iv).toNat)
  case atStart => exact ⟨0, _, _, Nat.zero_le _, rfl, rfl, HB.out⟩
  case round =>
    clear HB
    obtain ⟨i, rv, R, hi, rfl, rfl, hK⟩ := hrel
    have HK := hide hK
    clear hK
    by_cases hlt : i < L
    · go_wp2_with fail
      go_loopw [8, 10] (fun nv kv wr => ∃ (k : Nat) (rv : Value) (R : List Hw.Rl), k ≤ i ∧ nv = .int .i64 ((tri i + k : Nat) : Int) ∧ kv = .int .i64 (k : Int) ∧ KBk w wr bb L M rv (said3 (tri i + k)) R) (fun _ kv _ => i - (intOf kv).toNat)
      case atStart => exact ⟨0, _, _, Nat.zero_le _, rfl, rfl, HK.out⟩
      case round =>
        clear HK
        obtain ⟨k, rv, R, hk, rfl, rfl, hK⟩ := hrel
        have HK := hide hK
        clear hK
        by_cases hlt2 : k < i
        · obtain ⟨hw1, hw2, hnx, hln, h12⟩ := pair_facts hL3 hM2 hlt hlt2
          have hsi := slice_abc i (by omega)
          have hsk := slice_abc k (by omega)
          have hc1 : (⟨#[UInt8.ofNat (97 + i)]⟩ : ByteArray) ++ (⟨#[UInt8.ofNat (97 + k)]⟩ : ByteArray) = ⟨#[UInt8.ofNat (97 + i), UInt8.ofNat (97 + k)]⟩ := ByteArray.mk_append_mk [_] [_]
          have hc2 : (⟨#[UInt8.ofNat (97 + k)]⟩ : ByteArray) ++ (⟨#[UInt8.ofNat (97 + i)]⟩ : ByteArray) = ⟨#[UInt8.ofNat (97 + k), UInt8.ofNat (97 + i)]⟩ := ByteArray.mk_append_mk [_] [_]
          have HF := hide (And.intro hw1 (And.intro hw2 (And.intro hnx (And.intro hln h12))))
          have htl := tri_le i
          clear hw1 hw2 hnx hln h12
          generalize UInt8.ofNat (97 + i) = ci at *
          generalize UInt8.ofNat (97 + k) = ck at *
          obtain ⟨tk, htk⟩ : ∃ x, tri i + k = x := ⟨_, rfl⟩
          rw [htk]
          have htk6 : tk ≤ 6 := by omega
          have HTK := hide htk
          rw [htk] at HF HK
          clear htk
          go_wp2_with fail
          go_region_held (fun _ => True) (trivial)
            (first
              | (go_at_call 12; refine (bsay [ci, ck] [ck, ci] w _ bb L M tk rv _ R HF.out.1 HF.out.2.1 HF.out.2.2.2.1 HF.out.2.2.2.2 HLO.out (by exact HK.out.grow (below_same ⟨rfl, rfl, rfl, rfl⟩))).mono ?_; rintro e w4 ⟨rfl, rv4, R4, hB4⟩; rw [HF.out.2.2.1] at hB4; have HB4 := hide hB4; clear hB4))
          all_goals
            go_wp2
            go_roundw
            case rel => exact ⟨k + 1, rv4, R4, by omega, by have := HTK.out; go_num, by go_num, HB4.out⟩
            case measure => simp [intOf]; omega
        · have hki : k = i := by omega
          have htn := tri_next (by omega) hki
          rw [htn] at HK
          have HTN := hide htn
          have htl := tri_le (i + 1)
          clear htn
          go_wp2
          go_roundw
          case rel => exact ⟨i + 1, rv, R, by omega, by rw [← HTN.out], by go_num, HK.out⟩
          case measure => simp [intOf]; omega
    · have hiL : i = L := by omega
      subst hiL
      rw [said3_L hL1 hL3] at HK
      have htl := tri_le i
      obtain ⟨nn, hnn⟩ : ∃ x, tri i = x := ⟨_, rfl⟩
      rw [hnn]
      have HNN := hide hnn
      clear hnn htl
      go_wp2_with fail
      refine (word_any start i M _ H3.out.1 H3.out.2 hL1 hL3 hM6).mono ?_
      rintro e w5 ⟨rfl, n5, rfl⟩
      have hsw := wordV_word (M := M) start hL1 hL3
      generalize wordV start i M = s at *
      have hs6 : s.length ≤ 6 := by have := Hw.isWord_len hsw; omega
      have HSW := hide hsw
      have HKW := hide (HK.out.drewN n5)
      clear hsw HK
      generalize wr.drewN n5 = W at *
      go_wp2_with fail
      go_loopw [14, 15] (fun wv cv wr => ∃ (c n : Nat), c ≤ i ∧ wv = .string ⟨(wantTo s c 0).toArray⟩ ∧ cv = .int .i64 (c : Int) ∧ wr = W.drewN n) (fun _ cv _ => i - (intOf cv).toNat)
      case atStart => exact ⟨0, 0, Nat.zero_le _, rfl, rfl, rfl⟩
      case round =>
        obtain ⟨c, n, hc, rfl, rfl, rfl⟩ := hrel
        by_cases hlt2 : c < i
        · go_wp2_with fail
          go_loopw [14, 16] (fun wv jv wr => ∃ (j n : Nat), j ≤ s.length ∧ wv = .string ⟨(wantTo s c j).toArray⟩ ∧ jv = .int .i64 (j : Int) ∧ wr = W.drewN n) (fun _ jv _ => s.length - (intOf jv).toNat)
          case atStart => exact ⟨0, n, Nat.zero_le _, rfl, rfl, rfl⟩
          case round =>
            obtain ⟨j, n, hj, rfl, rfl, rfl⟩ := hrel
            have hwl := wantTo_len s c j (by omega) hs6
            by_cases hlt3 : j < s.length
            · have hc3 : c < 3 := by omega
              have hcI : (c : Int) < 3 := by omega
              have hjI : (j : Int) < (s.length : Int) := by omega
              have hx := ext_eq s j (j + 1)
              rw [one_at s j hlt3] at hx
              obtain ⟨t, ht⟩ : ∃ t, j + 1 = t := ⟨_, rfl⟩
              have hti : (j : Int) + 1 = (t : Int) := by omega
              have HY := hide (wantTo_yes s c j hlt3)
              have HN := hide (wantTo_no s c j hlt3)
              rw [ht] at hx HY HN
              have hcat : (⟨(wantTo s c j).toArray⟩ : ByteArray) ++ (⟨#[s[j]]⟩ : ByteArray) = ⟨(wantTo s c j ++ [s[j]]).toArray⟩ := ByteArray.mk_append_mk (wantTo s c j) [s[j]]
              have HCAT := hide hcat
              have hadd : ¬ (9223372036854775807 < (wantTo s c j).length + 1) := by omega
              have hts : t ≤ s.length := by omega
              have hjt : j ≤ t := by omega
              have hx' : (⟨s.toArray⟩ : ByteArray).extract j t = ⟨#[s[j]]⟩ := hx
              have HT := hide ht
              clear hcat hx ht
              go_wp2_with fail
              go_quiet (fail)
              by_cases heq : s[j] = UInt8.ofNat (97 + c)
              · have hb := byte_eq s j c hlt3 hc3
                rw [show decide (s[j] = UInt8.ofNat (97 + c)) = true by simpa using heq] at hb
                have HEQ := hide heq
                clear heq
                go_wp2
                go_roundw
                case rel => exact ⟨t, _, hts, by rw [HY.out HEQ.out, ← HCAT.out], rfl, rfl⟩
                case measure => have := HT.out; simp [intOf]; omega
              · have hb := byte_eq s j c hlt3 hc3
                rw [show decide (s[j] = UInt8.ofNat (97 + c)) = false by exact decide_eq_false heq] at hb
                have HEQ := hide heq
                clear heq
                go_wp2
                go_roundw
                case rel => exact ⟨t, _, hts, by rw [HN.out HEQ.out], rfl, rfl⟩
                case measure => have := HT.out; simp [intOf]; omega
            · have hnx := wantTo_next s c j (by omega)
              have HNX := hide hnx
              clear hnx
              go_wp2
              go_roundw
              case rel => exact ⟨c + 1, _, by omega, by rw [HNX.out], by go_num, rfl⟩
              case measure => simp [intOf]; omega
        · have hci : c = i := by omega
          subst hci
          rw [want_sort hL1 hL3 (Hw.isWord_ok HSW.out)]
          have HSL := hide (Hw.sort_least hL1 hL3 hM2 hM6 HSW.out)
          generalize Hw.sortW s = wt at *
          have hcnt := count_all hL1 hL3 hM2 hM6
          have HCA := hide hcnt
          clear hcnt
          go_wp2_with fail
          go_loopw [17, 18] (fun nv xv wr => ∃ (x n : Nat), x ≤ M + 1 ∧ nv = .int .i64 ((cxN c M x : Nat) : Int) ∧ xv = .int .i64 (x : Int) ∧ wr = W.drewN n) (fun _ xv _ => M + 1 - (intOf xv).toNat)
          case atStart => exact ⟨0, n, Nat.zero_le _, rfl, rfl, rfl⟩
          case round =>
            obtain ⟨x, n, hx, rfl, rfl, rfl⟩ := hrel
            have hxb := HCA.out.2 x 0 (by omega) (by omega)
            by_cases hlt3 : x ≤ M
            · go_wp2_with fail
              go_loopw [17, 19] (fun nv yv wr => ∃ (y n : Nat), y ≤ nyN c M x ∧ nv = .int .i64 ((cxN c M x + cyN c M x y : Nat) : Int) ∧ yv = .int .i64 (y : Int) ∧ wr = W.drewN n) (fun _ yv _ => nyN c M x - (intOf yv).toNat)
              case atStart => exact ⟨0, n, Nat.zero_le _, rfl, rfl, rfl⟩
              case round =>
                obtain ⟨y, n, hy, rfl, rfl, rfl⟩ := hrel
                have hny : nyN c M x ≤ 7 := by unfold nyN; split <;> omega
                have hyb := HCA.out.2 x y (by omega) (by omega)
                by_cases hlt4 : y < nyN c M x
                · have hb1 : decide ((x : Int) + (y : Int) ≤ (M : Int)) = true := by
                    unfold nyN at hlt4
                    simp
                    split at hlt4 <;> omega
                  have hq : (decide ((1 : Int) < (c : Int)) = true ∧ (decide ((x : Int) + (y : Int) ≤ (M : Int))) = true) ∨ (decide ((1 : Int) < (c : Int)) = false ∧ ((y : Int) == 0) = true) := by
                    have hb1' := hb1
                    unfold nyN at hlt4
                    simp at hb1' ⊢
                    split at hlt4 <;> omega
                  obtain ⟨cc, hcc⟩ : ∃ q, cxN c M x + cyN c M x y = q := ⟨_, rfl⟩
                  have hsu : cxN c M x + cyN c M x (y + 1) = cc + nzN c M x y := by rw [← hcc]; show _ + (cyN c M x y + nzN c M x y) = _; omega
                  have hzn : nzN c M x y ≤ 7 := by unfold nzN; split <;> omega
                  rw [hcc]
                  rw [hcc] at hyb
                  have HSU := hide hsu
                  have HZD : Hid (∀ z, z < nzN c M x y → x + y + z ≤ M ∧ (2 < c ∨ z = 0)) := by
                    show ∀ z, z < nzN c M x y → x + y + z ≤ M ∧ (2 < c ∨ z = 0)
                    intro z hz
                    unfold nzN at hz
                    simp at hb1
                    split at hz <;> omega
                  have HZE : Hid (∀ z, z = nzN c M x y → ¬ (x + y + z ≤ M) ∨ (¬ 2 < c ∧ z ≠ 0)) := by
                    show ∀ z, z = nzN c M x y → ¬ (x + y + z ≤ M) ∨ (¬ 2 < c ∧ z ≠ 0)
                    intro z hz
                    unfold nzN at hz
                    simp at hb1
                    split at hz <;> omega
                  clear hcc hsu
                  generalize nzN c M x y = NZ at *
                  rcases hq with ⟨hq1, hq2⟩ | ⟨hq1, hq2⟩
                  all_goals
                    go_wp2_with fail
                    clear hb1 hq1 hq2
                    go_loopw [17, 20] (fun nv zv wr => ∃ (z n : Nat), z ≤ NZ ∧ nv = .int .i64 ((cc + z : Nat) : Int) ∧ zv = .int .i64 (z : Int) ∧ wr = W.drewN n) (fun _ zv _ => NZ - (intOf zv).toNat)
                    case atStart => exact ⟨0, _, Nat.zero_le _, rfl, rfl, rfl⟩
                    case round =>
                      obtain ⟨z, n, hz, rfl, rfl, rfl⟩ := hrel
                      by_cases hlt5 : z < NZ
                      · obtain ⟨hd1, hd2⟩ := HZD.out z hlt5
                        have hd1' : decide ((x : Int) + (y : Int) + (z : Int) ≤ (M : Int)) = true := by simp; omega
                        by_cases hc2 : 2 < c
                        · have hc2' : decide ((2 : Int) < (c : Int)) = true := by simp; omega
                          clear hd1 hd2 hc2
                          go_wp2
                          go_roundw
                          case rel => exact ⟨z + 1, _, by omega, by go_num, by go_num, rfl⟩
                          case measure => simp [intOf]; omega
                        · have hc2' : decide ((2 : Int) < (c : Int)) = false := by simp; omega
                          have hz0 : ((z : Int) == 0) = true := by simp; omega
                          clear hd1 hd2 hc2
                          go_wp2
                          go_roundw
                          case rel => exact ⟨z + 1, _, by omega, by go_num, by go_num, rfl⟩
                          case measure => simp [intOf]; omega
                      · have hzN : z = NZ := by omega
                        have hze := HZE.out z hzN
                        have HSZ : Hid (cxN c M x + cyN c M x (y + 1) = cc + z) := by rw [hzN]; exact HSU.out
                        clear hzN
                        by_cases hdd : x + y + z ≤ M
                        · have hd1' : decide ((x : Int) + (y : Int) + (z : Int) ≤ (M : Int)) = true := by simp; omega
                          have hc2' : decide ((2 : Int) < (c : Int)) = false := by simp; omega
                          have hz0 : ((z : Int) == 0) = false := by simp; omega
                          clear hze hdd
                          go_wp2
                          go_roundw
                          case rel => exact ⟨y + 1, _, by omega, by rw [HSZ.out]; first | done | simp, by go_num, rfl⟩
                          case measure => simp [intOf]; omega
                        · have hd1' : decide ((x : Int) + (y : Int) + (z : Int) ≤ (M : Int)) = false := by simp; omega
                          clear hze hdd
                          go_wp2
                          go_roundw
                          case rel => exact ⟨y + 1, _, by omega, by rw [HSZ.out]; first | done | simp, by go_num, rfl⟩
                          case measure => simp [intOf]; omega
                · have hyN : y = nyN c M x := by omega
                  have HXS : Hid (cxN c M (x + 1) = cxN c M x + cyN c M x y) := by rw [hyN]; rfl
                  have hyE : ¬ (x + y ≤ M) ∨ (¬ 1 < c ∧ y ≠ 0) := by
                    unfold nyN at hyN
                    split at hyN <;> omega
                  obtain ⟨cc, hcc⟩ : ∃ q, cxN c M x + cyN c M x y = q := ⟨_, rfl⟩
                  rw [hcc]
                  rw [hcc] at HXS
                  clear hcc hyN
                  by_cases hdd : x + y ≤ M
                  · have hd1' : decide ((x : Int) + (y : Int) ≤ (M : Int)) = true := by simp; omega
                    have hc2' : decide ((1 : Int) < (c : Int)) = false := by simp; omega
                    have hz0 : ((y : Int) == 0) = false := by simp; omega
                    clear hyE hdd
                    go_wp2
                    go_roundw
                    case rel => exact ⟨x + 1, _, by omega, by rw [HXS.out], by go_num, rfl⟩
                    case measure => simp [intOf]; omega
                  · have hd1' : decide ((x : Int) + (y : Int) ≤ (M : Int)) = false := by simp; omega
                    clear hyE hdd
                    go_wp2
                    go_roundw
                    case rel => exact ⟨x + 1, _, by omega, by rw [HXS.out], by go_num, rfl⟩
                    case measure => simp [intOf]; omega
            · have hxM : x = M + 1 := by omega
              subst hxM
              rw [HCA.out.1]
              have hcn := Hw.sr_cnt hL1 hL3 hM2 hM6
              have hfin := Hw.sr_fin hL1 hL3 hM2 hM6
              generalize Hw.waysTo c M = ct at *
              have HCN := hide hcn
              have HFN := hide hfin
              clear hcn hfin HCA
              go_wp2_with fail
              refine (bleast s _ bb c M rv _ R HSW.out (by exact (HKW.out.drewN _).book)).mono ?_
              rintro e w6 ⟨T, rfl, hT, hb6⟩
              have hTw := hT.uniq hL3 HSL.out
              subst hTw
              have HK6 := hide ((HKW.out.drewN _).grow hb6)
              clear hT hb6
              go_wp2_with fail
              refine (HP _ bb c M rv _ R (by exact HK6.out.book)).mono ?_
              rintro e w7 ⟨l, ov, rfl, hA, hLL, hb7⟩
              obtain ⟨hle, hcu⟩ := HK6.out.book.uniq HFN.out.1 HFN.out.2.1 (sr_sorted hL1 hL3) hA
              subst hle
              rw [HCN.out] at hcu
              have HCU := hide hcu
              obtain ⟨sa, cap, rfl⟩ := hLL.shape
              rw [show (Hw.sr c).length = nn from (sr_len hL1 hL3).trans HNN.out]
              have HK7 := hide (HK6.out.grow hb7)
              clear hA hLL hb7 hcu
              go_wp2_with fail
              refine (HQ _ bb c M rv _ R (by exact HK7.out.book)).mono ?_
              rintro e w8 ⟨rfl, hb8⟩
              rw [HCU.out]
              have HK8 := hide (HK7.out.grow hb8)
              clear hb8
              go_wp2
              go_ret
              exact ⟨by simp, HK8.out.below⟩
end Go.Proofs.Ytfiebibpgbadlaa
