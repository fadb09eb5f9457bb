import Derived.Test.YtfiebibpgbadlaaGreatKeepA
import Derived.Test.YtfiebibpgbadlaaGreatLawR
namespace Go.Proofs.YtfiebibpgbadlaaGreat
open Go.RowKit
set_option linter.unusedVariables false
set_option linter.unusedSimpArgs false

theorem new_book {w : World} {L M : Nat} {m : Int} (hL1 : 1 ≤ L) (hL3 : L ≤ 3) (hM1 : 1 ≤ M) (hM6 : M ≤ 6) (hm : w.cell? ⟨0, 0, none⟩ = some (.int .i64 m)) :
    BookR (w.alloc (bookBlock L M (.slice none 0 0) (.slice none 0 0))) w.heap.size L M (.slice none 0 0) [] [] := by
  have hpos : 0 < w.heap.size := lt_of_cell hm
  exact book_new hL1 hL3 hM1 hM6 (heap_alloc_new _ _) ⟨m, ((Kept.refl [] w).alloc _).cell hm (by simp)⟩ hpos

theorem BookR.uniq {w : World} {bb L M : Nat} {rv : Value} {said R R0 l : List Hw.Rl} (h : BookR w bb L M rv said R) (f : Hw.Fin L M said R0) (hT : Hw.ToIrr R0) (hs : R0.Pairwise fun a b => Hw.fold L a.1 < Hw.fold L b.1) (hl : Hw.RulesAns L M said l) : l = R0 ∧ Hw.cntIrr L M R = Hw.cntIrr L M R0 :=
  ⟨hl.uniq (f.rulesAns h.L1 h.L3 h.words hT (fun r => Iff.rfl) hs), h.fin.cnt_uniq h.L1 h.L3 f h.words⟩

theorem sr2_sorted : (Hw.sr 2).Pairwise fun a b => Hw.fold 2 a.1 < Hw.fold 2 b.1 := List.pairwise_singleton _ _

theorem first_least {m : Hw.Wd} {c : Nat} (h : LeastAns 2 4 (Hw.sr 2) [98, 97, 98, 97] m c) : m = [97, 97, 98, 98] ∧ c = 0 := by
  have hw : Hw.isWord 2 4 [98, 97, 98, 97] = true := by decide +kernel
  exact ⟨((h.1 hw).1).uniq (by omega) Hw.first_fin.2.2, (h.1 hw).2⟩

set_option maxHeartbeats 1600000 in
theorem opened_any (HP : RulesC) (HQ : CountC) (L M : Nat) (m : Int) (w : World) (hL1 : 1 ≤ L) (hL3 : L ≤ 3) (hM1 : 1 ≤ M) (hM6 : M ≤ 6) (hm : w.cell? ⟨0, 0, none⟩ = some (.int .i64 m)) :
    Calls Tryz.prog 29 #[.int .i64 (L : Int), .int .i64 (M : Int)] w fun e w' => ∃ bb, e = .returned (.pointer (some ⟨bb, 0, none⟩)) ∧ w.heap.size ≤ bb ∧ Below w.heap.size w w' ∧ BookR w' bb L M (.slice none 0 0) [] [] := by
  have HB0 := hide (new_book (w := w) (L := 2) (M := 4) (by omega) (by omega) (by omega) (by omega) hm)
  go_enter Tryz.func29, Tryz.ntmps29
  go_wp2_with fail
  refine (pnew_any 2 4 _ (by omega) (by omega) (by omega) (by omega)).mono ?_
  rintro e w1 ⟨rfl, hw1⟩
  have hb1 := below_alloc w (bookBlock 2 4 (.slice none 0 0) (.slice none 0 0))
  rw [← hw1] at hb1 HB0
  have HB1 := hide hb1
  clear hw1 hb1
  go_wp2_with fail
  refine (psay_any ⟨#[98, 97]⟩ ⟨#[97, 98]⟩ _ w.heap.size 2 4 _ [] [] (by decide) (by decide) (by exact HB0.out)).mono ?_
  rintro e w2 hS
  unfold PSaid at hS
  rw [if_pos (by decide +kernel), if_pos (by decide)] at hS
  obtain ⟨rfl, hK2, rv2, R2, hB2'⟩ := hS
  have hB2 : BookR w2 w.heap.size 2 4 rv2 (Hw.sr 2) R2 := hB2'
  have HK2 := hide (HB1.out.trans (hK2.below HB1.out.size (by simp)))
  have HBk := hide hB2
  clear hK2 hB2 hB2' HB0
  go_wp2_with fail
  refine (pleast_any ⟨#[98, 97, 98, 97]⟩ _ w.heap.size 2 4 rv2 (Hw.sr 2) R2 (by decide) (by exact HBk.out)).mono ?_
  rintro e w3 ⟨mm, c, rfl, hA, hb3⟩
  obtain ⟨rfl, rfl⟩ := first_least hA
  have HB3 := hide hb3
  have HK3 := hide (HBk.out.same hb3)
  clear hA hb3
  go_wp2_with fail
  refine (HP _ w.heap.size 2 4 rv2 (Hw.sr 2) R2 (by exact HK3.out)).mono ?_
  rintro e w4 ⟨l, ov, rfl, hA, hL, hb4⟩
  obtain ⟨rfl, hcnt⟩ := HK3.out.uniq Hw.first_fin.1.1 Hw.first_fin.1.2.1 sr2_sorted hA
  rw [Hw.first_fin.2.1] at hcnt
  obtain ⟨g, cap, cur, rfl, _, _, d0, d1⟩ := hL.read (i := 0) (by decide)
  have HCNT := hide hcnt
  have HB4 := hide hb4
  have HK4 := hide (HK3.out.same hb4)
  have d0' : w4.cell? ⟨g, 0, none⟩ = some (.string ⟨#[98, 97]⟩) := d0
  have d1' : w4.cell? ⟨g, 1, none⟩ = some (.string ⟨#[97, 98]⟩) := d1
  rw [show (Hw.sr 2).length = 1 from rfl]
  clear d0 d1 hL hA hcnt hb4
  go_wp2_with fail
  refine (HQ _ w.heap.size 2 4 rv2 (Hw.sr 2) R2 (by exact HK4.out.same (below_same ⟨rfl, rfl, rfl, rfl⟩))).mono ?_
  rintro e w5 ⟨rfl, hb5⟩
  rw [HCNT.out]
  have HB5 := hide hb5
  clear hb5
  have hbe : Below w.heap.size w w5 := HK2.out.trans ((below_trans (below_trans HB3.out HB4.out) HB5.out).mono HK2.out.size)
  have hm5 : w5.cell? ⟨0, 0, none⟩ = some (.int .i64 m) := (hbe.cell (p := ⟨0, 0, none⟩) (lt_of_cell hm)).trans hm
  have HBE := hide hbe
  have HNB := hide (new_book (w := w5) hL1 hL3 hM1 hM6 hm5)
  clear d0' d1' hbe hm5
  go_wp2_with fail
  refine (pnew_any L M _ hL1 hL3 hM1 hM6).mono ?_
  rintro e w6 ⟨rfl, hw6⟩
  rw [← hw6] at HNB
  have HB6 := hide (HBE.out.trans ((below_alloc w5 (bookBlock L M (.slice none 0 0) (.slice none 0 0))).mono HBE.out.size))
  rw [← hw6] at HB6
  have hsz := HBE.out.size
  clear hw6
  go_wp2
  go_ret
  exact ⟨_, rfl, hsz, HB6.out, HNB.out⟩
end Go.Proofs.YtfiebibpgbadlaaGreat
namespace Go.Proofs.YtfiebibpgbadlaaGreat
open Go.RowKit
set_option linter.unusedVariables false
set_option linter.unusedSimpArgs false

/-- Raw numbers, as they lie. -/
def PutsAt (w : World) (sv : Option Addr) (cs : List Int) : Prop :=
  cs.length ≤ maxLen ∧ ∀ i (h : i < cs.length), (-9223372036854775808 ≤ cs[i] ∧ cs[i] ≤ 9223372036854775807) ∧ ∃ a, sv = some a ∧ w.cell? (a.add i) = some (.int .i64 cs[i])
theorem PutsAt.below {w w' : World} {sv : Option Addr} {cs : List Int} (h : PutsAt w sv cs) (hb : Below w.heap.size w w') : PutsAt w' sv cs := by
  refine ⟨h.1, fun i hi => ?_⟩
  obtain ⟨h1, a, h2, h3⟩ := h.2 i hi
  exact ⟨h1, a, h2, below_cell hb rfl h3⟩

def saidOf (cs : List Int) (L M k : Nat) : List Hw.Rl := (cs.take k).map fun c => (wordV c L M, wordV (c.tdiv 100000) L M)
theorem saidOf_succ (cs : List Int) (L M k : Nat) (h : k < cs.length) : saidOf cs L M (k + 1) = saidOf cs L M k ++ [(wordV cs[k] L M, wordV ((cs[k]).tdiv 100000) L M)] := by
  unfold saidOf; rw [List.take_succ_eq_append_getElem h, List.map_append]; rfl
theorem saidOf_len (cs : List Int) (L M k : Nat) (h : k ≤ cs.length) : (saidOf cs L M k).length = k := by
  unfold saidOf; simp; omega

def putBox (lt mo : Int) (sv : Option Addr) (n cap : Nat) : Obj := .cells #[.int .i64 lt, .int .i64 mo, .slice sv n cap] 39 (0, 0)

/-- While pairs are said. -/
structure PutI (w wr : World) (bb L M : Nat) (lt mo : Int) (sv : Option Addr) (cap : Nat) (cs : List Int) (i : Nat) : Prop where
  below : Below w.heap.size w wr
  box : wr.heap[w.heap.size]? = some (putBox lt mo sv cs.length cap)
  lo : w.heap.size < bb
  book : ∃ rv R, BookR wr bb L M rv (saidOf cs L M i) R

theorem PutI.pairs {w wr : World} {bb L M : Nat} {lt mo : Int} {sv : Option Addr} {cap : Nat} {cs : List Int} {i : Nat} (h : PutI w wr bb L M lt mo sv cap cs i) (hP : PutsAt w sv cs) : PutsAt wr sv cs := hP.below h.below

theorem PutI.next {w wr W w1 : World} {bb L M : Nat} {lt mo : Int} {sv : Option Addr} {cap : Nat} {cs : List Int} {i : Nat} {rv : Value} {R : List Hw.Rl} (h : PutI w wr bb L M lt mo sv cap cs i) (hs : SameW wr W) (hi : i < cs.length) (hK : Kept [bb] W w1) (hB : BookR w1 bb L M rv (saidOf cs L M i ++ [(wordV cs[i] L M, wordV ((cs[i]).tdiv 100000) L M)]) R) : PutI w w1 bb L M lt mo sv cap cs (i + 1) := by
  have hK2 : Kept [bb] wr w1 := (hs.kept _).trans hK
  have hlo := h.lo
  refine ⟨h.below.trans (hK2.below h.below.size (by simp; omega)), hK2.at h.box (by simp; omega), h.lo, rv, R, ?_⟩
  rw [saidOf_succ cs L M i hi]; exact hB

theorem wd_size (s : Hw.Wd) (h : s.length ≤ 6) : (⟨s.toArray⟩ : ByteArray).size ≤ maxLen := by
  have : (⟨s.toArray⟩ : ByteArray).size = s.length := by simp [ByteArray.size]
  rw [this]; unfold maxLen; omega

theorem i64_wrap {c : Int} (h : -9223372036854775808 ≤ c ∧ c ≤ 9223372036854775807) : IntKind.i64.wrap c = c := by
  rw [Go.IntWalk.i64_left]; exact Go.IntWalk.wrap64_in c h
theorem word_is (C c : Int) (L M : Nat) (w : World) (hC : C = c) (hc1 : -9223372036854775808 ≤ c) (hc2 : c ≤ 9223372036854775807) (hL1 : 1 ≤ L) (hL3 : L ≤ 3) (hM6 : M ≤ 6) :
    Calls Tryz.prog 13 #[.int .i64 C, .int .i64 (L : Int), .int .i64 (M : Int)] w fun e w' => e = .returned (.string ⟨(wordV c L M).toArray⟩) ∧ ∃ n, w' = w.drewN n := by
  subst hC; exact word_any C L M w hc1 hc2 hL1 hL3 hM6

def KPut (w : World) (L M : Nat) (cs : List Int) (e : Ending) (w' : World) : Prop := ∃ bb rv R, e = .returned (.tuple #[.pointer (some ⟨bb, 0, none⟩), .int .i64 (L : Int), .int .i64 (M : Int)]) ∧ w.heap.size ≤ bb ∧ Below w.heap.size w w' ∧ BookR w' bb L M rv (saidOf cs L M 12) R

theorem psaid_words {w w' : World} {bb L M k : Nat} {rv : Value} {said R : List Hw.Rl} {s t : Hw.Wd} {e : Ending} (h : PSaid w bb L M rv said R (⟨s.toArray⟩ : ByteArray).data.toList (⟨t.toArray⟩ : ByteArray).data.toList e w') (hs : Hw.isWord L M s = true) (ht : Hw.isWord L M t = true) (hk : said.length = k) (h12 : k < 12) :
    e = .returned (.tuple #[.int .i64 (k : Int), .int .i64 0]) ∧ Kept [bb] w w' ∧ ∃ rv' R', BookR w' bb L M rv' (said ++ [(s, t)]) R' := by
  have e1 : (⟨s.toArray⟩ : ByteArray).data.toList = s := by simp
  have e2 : (⟨t.toArray⟩ : ByteArray).data.toList = t := by simp
  rw [e1, e2] at h
  unfold PSaid at h
  rw [if_pos ⟨hs, ht⟩, if_pos (by omega), hk] at h
  exact h

theorem PutI.end {w wr : World} {bb L M : Nat} {lt mo : Int} {sv : Option Addr} {cap : Nat} {cs : List Int} {i : Nat} (h : PutI w wr bb L M lt mo sv cap cs i) (hi : i = 12 ∨ cs.length ≤ i) (hi12 : i ≤ 12) : ∃ rv R, w.heap.size ≤ bb ∧ Below w.heap.size w wr ∧ BookR wr bb L M rv (saidOf cs L M 12) R := by
  obtain ⟨rv, R, hB⟩ := h.book
  have e : saidOf cs L M i = saidOf cs L M 12 := by
    unfold saidOf
    rcases hi with rfl | hi
    · rfl
    · rw [List.take_of_length_le hi, List.take_of_length_le (by omega)]
  rw [e] at hB
  exact ⟨rv, R, Nat.le_of_lt h.lo, h.below, hB⟩


set_option maxHeartbeats 1600000 in
theorem kput_any (HP : RulesC) (HQ : CountC) (lt mo : Int) (sv : Option Addr) (cap : Nat) (cs : List Int) (m : Int) (w : World) (hl1 : -9223372036854775808 ≤ lt) (hl2 : lt ≤ 9223372036854775807) (ho1 : -9223372036854775808 ≤ mo) (ho2 : mo ≤ 9223372036854775807) (hm : w.cell? ⟨0, 0, none⟩ = some (.int .i64 m)) (hS : PutsAt w sv cs) :
    Calls Tryz.prog 12 #[.agg #[.int .i64 lt, .int .i64 mo, .slice sv cs.length cap]] w fun e w' => KPut w (1 + pickN lt 3) (1 + pickN mo 6) cs e w' := by
  have hp1 := pickN_lt lt (n := 3) (by omega)
  have hp2 := pickN_lt mo (n := 6) (by omega)
  generalize hLL : pickN lt 3 = LL at *
  generalize hMM : pickN mo 6 = MM at *
  have HLL := hide hLL
  have HMM := hide hMM
  clear hLL hMM
  obtain ⟨L, hL⟩ : ∃ L, 1 + LL = L := ⟨_, rfl⟩
  obtain ⟨M, hM⟩ : ∃ M, 1 + MM = M := ⟨_, rfl⟩
  rw [hL, hM]
  have HS := hide hS
  have hcl := hS.1
  unfold maxLen at hcl
  have o0 : (w.alloc (putBox lt mo sv cs.length cap)).cell? ⟨w.heap.size, 0, none⟩ = some (.int .i64 lt) := cellAt (heap_alloc_new w _) rfl
  have o1 : (w.alloc (putBox lt mo sv cs.length cap)).cell? ⟨w.heap.size, 1, none⟩ = some (.int .i64 mo) := cellAt (heap_alloc_new w _) rfl
  have hmb : (w.alloc (putBox lt mo sv cs.length cap)).cell? ⟨0, 0, none⟩ = some (.int .i64 m) := ((Kept.refl [] w).alloc _).cell hm (by simp)
  have HBX := hide (heap_alloc_new w (putBox lt mo sv cs.length cap))
  have HB0 := hide (below_alloc w (putBox lt mo sv cs.length cap))
  have hsz : (w.alloc (putBox lt mo sv cs.length cap)).heap.size = w.heap.size + 1 := by simp
  unfold putBox at o0 o1 hmb HBX HB0 hsz
  clear hS
  go_enter Tryz.func12, Tryz.ntmps12
  go_wp2_with fail
  refine (pick_is lt _ 3 _ rfl hl1 hl2 (by omega) (by omega)).mono ?_
  rintro e w1 ⟨rfl, hw1⟩
  rw [HLL.out]
  subst hw1
  go_wp2_with fail
  refine (pick_is mo _ 6 _ rfl ho1 ho2 (by omega) (by omega)).mono ?_
  rintro e w1 ⟨rfl, hw1⟩
  rw [HMM.out]
  subst hw1
  go_wp2_with fail
  have eL : 1 + (LL : Int) = (L : Int) := by omega
  have eM : 1 + (MM : Int) = (M : Int) := by omega
  rw [eL, eM]
  refine (opened_any HP HQ L M m _ (by omega) (by omega) (by omega) (by omega) (by exact hmb)).mono ?_
  rintro e w2 ⟨bb, rfl, hbb, hb2, hB2⟩
  have H0 : Hid (PutI w w2 bb L M lt mo sv cap cs 0) := ⟨below_trans HB0.out hb2, (hb2.block _ (by rw [hsz]; omega)).trans HBX.out, by rw [hsz] at hbb; omega, _, _, hB2⟩
  clear hb2 hB2 hbb o0 o1 hmb hsz HBX HB0
  have hL3 : L ≤ 3 := by omega
  have hM6 : M ≤ 6 := by omega
  have hL1 : 1 ≤ L := by omega
  have hM1 : 1 ≤ M := by omega
  clear eL eM hL hM hp1 hp2
  go_wp2_with fail
  go_loopw [8] (fun iv wr => ∃ (i n : Nat), i ≤ cs.length ∧ i ≤ 12 ∧ iv = .int .i64 (i : Int) ∧ PutI w wr bb L M lt mo sv cap cs i) (fun iv _ => 12 - (intOf iv).toNat)
  case atStart => exact ⟨0, 0, Nat.zero_le _, Nat.zero_le _, rfl, H0.out⟩
  case round =>
    clear H0
    obtain ⟨i, n, hi, hi12, rfl, hI⟩ := hrel
    have o2 : wr.cell? ⟨w.heap.size, 2, none⟩ = some (.slice sv cs.length cap) := cellAt hI.box rfl
    have HI := hide hI
    by_cases hlt : i < cs.length
    · by_cases hlt2 : i < 12
      · obtain ⟨⟨hc1, hc2⟩, a, rfl, ca⟩ := (hI.pairs HS.out).2 i hlt
        obtain ⟨rv, R, hB⟩ := hI.book
        have hsl := saidOf_len cs L M i hi
        have HB := hide hB
        have HSL := hide hsl
        clear hI hB hsl
        have hab : (a.add i).block < w.heap.size := by
          obtain ⟨_, a', ha', ca'⟩ := HS.out.2 i hlt
          simp only [Option.some.injEq] at ha'
          subst ha'
          exact World.block_lt_of_cell? w _ ca'
        have hlo := HI.out.lo
        have hd := tdiv_bounds (k := 100000) hc1 hc2 (by omega)
        have h6a : (wordV cs[i] L M).length ≤ 6 := by have := Hw.isWord_len (wordV_word (M := M) cs[i] hL1 hL3); omega
        have h6b : (wordV ((cs[i]).tdiv 100000) L M).length ≤ 6 := by have := Hw.isWord_len (wordV_word (M := M) ((cs[i]).tdiv 100000) hL1 hL3); omega
        have HNX : Hid (∀ W w1 rv R, SameW wr W → Kept [bb] W w1 → BookR w1 bb L M rv (saidOf cs L M i ++ [(wordV cs[i] L M, wordV ((cs[i]).tdiv 100000) L M)]) R → PutI w w1 bb L M lt mo (some a) cap cs (i + 1)) := fun W w1 rv R h1 h2 h3 => HI.out.next h1 hlt h2 h3
        generalize cs[i] = c at *
        have HWR : Hid (IntKind.i64.wrap (c.tdiv 100000) = c.tdiv 100000) := i64_wrap hd
        obtain ⟨q, hq⟩ : ∃ q, a.add i = q := ⟨_, rfl⟩
        rw [hq] at ca hab
        go_wp2_with fail
        go_region_held (fun w' => w'.cell? ⟨w.heap.size, 2, none⟩ = some (.slice (some a) cs.length cap) ∧ w'.cell? q = some (.int .i64 c)) (first | exact ⟨k1, k2⟩ | exact ⟨o2, ca⟩)
          (first
            | (have hh2 := HWB; clear hh2; go_at_call 30; refine (psay_any ⟨(wordV c L M).toArray⟩ ⟨(wordV (c.tdiv 100000) L M).toArray⟩ _ bb L M rv (saidOf cs L M i) R (wd_size _ h6a) (wd_size _ h6b) (by exact HB.out.same (below_same ⟨rfl, rfl, rfl, rfl⟩))).mono ?_; rintro e w1 hS1; obtain ⟨rfl, hK1, rv1, R1, hB1⟩ := psaid_words hS1 (wordV_word _ hL1 hL3) (wordV_word _ hL1 hL3) HSL.out hlt2; have HN := hide (HNX.out _ w1 rv1 R1 (by exact ⟨rfl, rfl, rfl, rfl⟩) hK1 hB1); have k1 : w1.cell? ⟨w.heap.size, 2, none⟩ = some (.slice (some a) cs.length cap) := hK1.cell (by exact o2) (by simp; omega); have k2 : w1.cell? q = some (.int .i64 c) := hK1.cell (by exact ca) (by simp; omega); clear hK1 hB1 hS1)
            | (have hh2 := HWA; clear hh2; go_at_call 13; refine (word_is _ (c.tdiv 100000) L M _ HWR.out hd.1 hd.2 hL1 hL3 hM6).mono ?_; rintro e wb ⟨rfl, nb, rfl⟩; have HWB : Hid True := trivial)
            | (go_at_call 13; refine (word_any c L M _ hc1 hc2 hL1 hL3 hM6).mono ?_; rintro e wa ⟨rfl, na, rfl⟩; have HWA : Hid True := trivial))
        all_goals
          go_wp2
          go_roundw
          case rel => exact ⟨i + 1, 0, by omega, by omega, by go_num, HN.out⟩
          case measure => simp [intOf]; omega
      · have HE := hide (HI.out.end (Or.inl (by omega)) hi12)
        clear hI
        go_wp2
        go_ret3
        obtain ⟨rv, R, h⟩ := HE.out
        exact ⟨bb, rv, R, rfl, h⟩
    · have HE := hide (HI.out.end (Or.inr (by omega)) hi12)
      clear hI
      go_wp2
      go_ret3
      obtain ⟨rv, R, h⟩ := HE.out
      exact ⟨bb, rv, R, rfl, h⟩
end Go.Proofs.YtfiebibpgbadlaaGreat
