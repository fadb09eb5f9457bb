import Derived.Test.YtfiebibpgbadlaaGreatRefA
import Derived.Deep.RegionHeld3
namespace Go.Proofs.YtfiebibpgbadlaaGreat
open Go.RowKit
set_option linter.unusedVariables false
set_option linter.unusedSimpArgs false

def str (s : Hw.Wd) : Value := .string ⟨s.toArray⟩

/-- What is said, as the document's Book keeps it. -/
structure SaidAt (w : World) (saidV : Value) (said : List (Hw.Wd × Hw.Wd)) (gs : List Nat) : Prop where
  len : gs.length = said.length
  own : w.ownsRow 0 60 1 saidV said.length (gs.map fun g => Value.slice (some ⟨g, 0, none⟩) 2 2)
  pair : ∀ i, i < said.length → w.heap[gs.getD i 0]? = some (.cells #[str (said.getD i ([], [])).1, str (said.getD i ([], [])).2] 9 (0, 0))

theorem SaidAt.shape {w : World} {saidV : Value} {said : List (Hw.Wd × Hw.Wd)} {gs : List Nat} (h : SaidAt w saidV said gs) : ∃ sa cap, saidV = .slice sa said.length cap := by
  rcases h.own.2 with ⟨h1, h2⟩ | ⟨g, cap, cur, h1, _⟩
  · exact ⟨none, 0, by rw [h1, h2]⟩
  · exact ⟨_, _, h1⟩

theorem SaidAt.read {w : World} {saidV : Value} {said : List (Hw.Wd × Hw.Wd)} {gs : List Nat} (h : SaidAt w saidV said gs) {i : Nat} (hi : i < said.length) :
    ∃ sg cap cur, saidV = .slice (some ⟨sg, 0, none⟩) said.length cap ∧ w.heap[sg]? = some (.cells cur 60 (0, 0)) ∧ w.cell? ⟨sg, i, none⟩ = some (.slice (some ⟨gs.getD i 0, 0, none⟩) 2 2) := by
  rcases h.own.2 with ⟨h1, h2⟩ | ⟨g, cap, cur, h1, _, hg, hn, _, hsz, ht⟩
  · omega
  · refine ⟨g, cap, cur, h1, hg, ?_⟩
    rw [cell_of_row w g i cur _ _ hg]
    have hlt : i < gs.length := by rw [h.len]; exact hi
    have e : (cur.toList.take (said.length * 1))[i]? = some (.slice (some ⟨gs.getD i 0, 0, none⟩) 2 2) := by
      rw [ht, List.getElem?_map, List.getElem?_eq_getElem hlt]
      simp [hlt]
    rw [List.getElem?_take, if_pos (by omega)] at e
    simpa using e

/-- The words, as the document's Book keeps them. -/
def WordsAt (w : World) (gw cw L M : Nat) : Prop :=
  ∃ cur, w.heap[gw]? = some (.cells cur 9 (0, 0)) ∧ cur.toList.take (Hw.upTo L M).length = (Hw.upTo L M).map str

theorem WordsAt.cell {w : World} {gw cw L M : Nat} (h : WordsAt w gw cw L M) (k : Nat) (hk : k < (Hw.upTo L M).length) : w.cell? ⟨gw, k, none⟩ = some (.string ⟨(Hw.wordAt L M k).toArray⟩) := by
  obtain ⟨cur, hg, ht⟩ := h
  rw [cell_of_row w gw k cur _ _ hg]
  have e : (cur.toList.take (Hw.upTo L M).length)[k]? = some (str (Hw.wordAt L M k)) := by
    rw [ht, List.getElem?_map, List.getElem?_eq_getElem hk, Hw.wordAt_eq hk]; rfl
  rw [List.getElem?_take, if_pos hk] at e
  simpa [str] using e

theorem WordsAt.kept {w w' : World} {gw cw L M : Nat} {S : List Nat} (h : WordsAt w gw cw L M) (hK : Kept S w w') (hn : gw ∉ S) : WordsAt w' gw cw L M := by
  obtain ⟨cur, hg, ht⟩ := h
  exact ⟨cur, hK.at hg hn, ht⟩

theorem SaidAt.kept {w w' : World} {saidV : Value} {said : List (Hw.Wd × Hw.Wd)} {gs : List Nat} {S : List Nat} (h : SaidAt w saidV said gs) (hK : Kept S w w')
    (h1 : ∀ k, k ∈ S → saidV.ownBlock ≠ some k) (h2 : ∀ k, k ∈ S → ∀ c fr, w.heap[k]? ≠ some (.cells c 9 fr)) : SaidAt w' saidV said gs := by
  refine ⟨h.len, ⟨h.own.1, ?_⟩, fun i hi => hK.at (h.pair i hi) (fun hm => h2 _ hm _ _ (h.pair i hi))⟩
  rcases h.own.2 with hn | ⟨g, cap, cur, rfl, hb, hg, r⟩
  · exact .inl hn
  · exact .inr ⟨g, cap, cur, rfl, hb, hK.at hg (fun hm => h1 g hm rfl), r⟩

/-- A Book of the document's, whole. -/
structure RefR (w : World) (b gw cw L M : Nat) (saidV sameV : Value) (said : List (Hw.Wd × Hw.Wd)) (gs : List Nat) (fresh : Bool) : Prop where
  L1 : 1 ≤ L
  L3 : L ≤ 3
  M1 : 1 ≤ M
  M6 : M ≤ 6
  few : said.length ≤ 12
  blk : w.heap[b]? = some (refBlock L M saidV (.slice (some ⟨gw, 0, none⟩) (Hw.upTo L M).length cw) sameV fresh)
  wrd : WordsAt w gw cw L M
  sd : SaidAt w saidV said gs
  words : ∀ p, p ∈ said → Hw.isWord L M p.1 = true ∧ Hw.isWord L M p.2 = true
  done : fresh = true → ∃ g xs, sameV = .slice (some ⟨g, 0, none⟩) (Hw.upTo L M).length (Hw.upTo L M).length ∧ w.heap[g]? = some (.cells (intRow xs) 3 (0, 0)) ∧ Hw.Done L M said xs

theorem upTo_small {L M : Nat} (hL : L ≤ 3) (hM : M ≤ 6) : (Hw.upTo L M).length ≤ 1093 := by
  have h : ∀ s, s ∈ Hw.upTo L M → True := fun _ _ => trivial
  rw [Hw.length_upTo hL]
  have : ∀ n, Hw.off L n ≤ Hw.off 3 n := by
    intro n
    induction n with
    | zero => exact Nat.le_refl _
    | succ n ih => exact Nat.add_le_add ih (Nat.pow_le_pow_left hL n)
  refine Nat.le_trans (this _) (Nat.le_trans (Hw.off_mono 3 (show M + 1 ≤ 7 by omega)) ?_)
  decide

def initTo (n i : Nat) : List Nat := List.range i ++ List.replicate (n - i) 0
theorem length_initTo (n i : Nat) (h : i ≤ n) : (initTo n i).length = n := by simp [initTo]; omega
theorem initTo_zero (n : Nat) : initTo n 0 = List.replicate n 0 := by simp [initTo]
theorem initTo_all (n : Nat) : initTo n n = List.range n := by simp [initTo]
theorem initTo_succ (n i : Nat) (h : i < n) : (initTo n i).set i i = initTo n (i + 1) := by
  unfold initTo
  rw [List.set_append_right _ _ (by simp), List.length_range, Nat.sub_self, show n - i = (n - (i + 1)) + 1 by omega, List.replicate_succ, List.set_cons_zero, List.range_succ]
  simp

/-- While 'close' goes on. -/
structure CInv (w wr : World) (b gw cw L M : Nat) (saidV : Value) (xs : List Nat) : Prop where
  blk : wr.heap[b]? = some (refBlock L M saidV (.slice (some ⟨gw, 0, none⟩) (Hw.upTo L M).length cw) (.slice (some ⟨w.heap.size, 0, none⟩) (Hw.upTo L M).length (Hw.upTo L M).length) true)
  row : wr.heap[w.heap.size]? = some (.cells (intRow xs) 3 (0, 0))
  kept : Kept [b] w wr

theorem CInv.next {w wr w2 : World} {b gw cw L M : Nat} {saidV : Value} {xs ys : List Nat} (h : CInv w wr b gw cw L M saidV xs) (hK : Kept [w.heap.size] wr w2) (hb : b < w.heap.size)
    (hr : w2.heap[w.heap.size]? = some (.cells (intRow ys) 3 (0, 0))) : CInv w w2 b gw cw L M saidV ys := by
  refine ⟨hK.at h.blk (by simp; omega), hr, ?_⟩
  have hK' : Kept [b] w wr := h.kept
  refine ⟨hK.os.trans hK'.os, hK.tape.trans hK'.tape, hK.output.trans hK'.output, Nat.le_trans hK'.size hK.size, fun k hk hn => ?_⟩
  rw [hK.block k (Nat.lt_of_lt_of_le hk hK'.size) (by simp; omega)]
  exact hK'.block k hk hn

theorem CInv.same {w wr w1 : World} {b gw cw L M : Nat} {saidV : Value} {xs : List Nat} (h : CInv w wr b gw cw L M saidV xs) (hd : SameW wr w1) : CInv w w1 b gw cw L M saidV xs :=
  ⟨by rw [hd.1]; exact h.blk, by rw [hd.1]; exact h.row, h.kept.trans (hd.kept _)⟩

theorem CInv.drewN {w wr : World} {b gw cw L M n : Nat} {saidV : Value} {xs : List Nat} (h : CInv w wr b gw cw L M saidV xs) : CInv w (wr.drewN n) b gw cw L M saidV xs :=
  ⟨h.blk, h.row, h.kept.drewN n⟩

theorem Tryz.info3 : (Tryz.prog.info? 3).map (fun i => (i.zero, i.size, i.bytes)) = some (some (.int .i64 0), 1, 8) := by kernel_rfl

theorem run_make_ints (n : Nat) (hn : n ≤ 65536) (W : World) :
    (Instr.makeSlice 37 (.int .i64 (n : Int)) (.int .i64 (n : Int))).run Tryz.prog W = .ok (.slice (some ⟨W.heap.size, 0, none⟩) n n) (W.alloc (.cells (intRow (initTo n 0)) 3)) := by
  obtain ⟨i, hi, hz, hs, hb⟩ := info_parts Tryz.info3
  rw [run_make (P := Tryz.prog) W 37 3 i (.int .i64 0) Tryz.underlying37 hi hz .i64 .i64 n n (by omega) (by omega) (by rw [hb]; omega) (by omega)]
  have e : madeCells (Value.cells (.int .i64 0)) ((n : Int).toNat * i.size) = intRow (initTo n 0) := by
    apply Array.ext'
    rw [hs, Nat.mul_one, Int.toNat_natCast, initTo_zero]
    rw [show Value.cells (.int .i64 0) = #[Value.int .i64 0] from rfl, toList_madeCells_one]
    simp [intRow]
  rw [e, Int.toNat_natCast]

theorem cinv_start {w : World} {b gw cw L M : Nat} {saidV sameV : Value} {said : List (Hw.Wd × Hw.Wd)} {gs : List Nat} {fresh : Bool} (hR : RefR w b gw cw L M saidV sameV said gs fresh) :
    CInv w (((w.setCell ⟨b, 5, none⟩ (Value.bool true)).setCell ⟨b, 4, none⟩ (Value.slice (some ⟨w.heap.size, 0, none⟩) (Hw.upTo L M).length (Hw.upTo L M).length)).alloc (Obj.cells (intRow (initTo (Hw.upTo L M).length 0)) 3))
      b gw cw L M saidV (initTo (Hw.upTo L M).length 0) := by
  have hb : b < w.heap.size := lt_of_block hR.blk
  refine ⟨?_, ?_, ?_⟩
  · rw [Below.heap_alloc _ _ _ (by simpa using hb)]
    rw [heap_setCell_same _ b 4 _ _ _ (heap_setCell_same w b 5 _ _ _ hR.blk)]
    rfl
  · have := heap_alloc_new ((w.setCell ⟨b, 5, none⟩ (Value.bool true)).setCell ⟨b, 4, none⟩ (Value.slice (some ⟨w.heap.size, 0, none⟩) (Hw.upTo L M).length (Hw.upTo L M).length)) (Obj.cells (intRow (initTo (Hw.upTo L M).length 0)) 3)
    simpa using this
  · exact (((Kept.refl [b] w).setCell (by simp) _).setCell (by simp) _).alloc _

theorem index_wd (l : Hw.Wd) (L M b : Nat) (w : World) (hL1 : 1 ≤ L) (hL3 : L ≤ 3) (hM6 : M ≤ 6) (hw : Hw.isWord L M l = true)
    (cL : w.cell? ⟨b, 0, none⟩ = some (.int .i64 L)) :
    Calls Tryz.prog 65 #[.pointer (some ⟨b, 0, none⟩), .string ⟨l.toArray⟩] w fun e w' => e = .returned (.int .i64 (Hw.fold L l : Nat)) ∧ ∃ n, w' = w.drewN n := by
  have h := index_any ⟨l.toArray⟩ L M b w hL1 hL3 hM6 (by simpa using hw) cL
  rw [show (⟨l.toArray⟩ : ByteArray).data.toList = l by simp, Hw.index_eq hw] at h
  exact h

/-- While the pairs that are said are gone through. -/
structure SInv (w wr : World) (b gw cw L M : Nat) (saidV : Value) (said : List (Hw.Wd × Hw.Wd)) (xs : List Nat) (k : Nat) : Prop where
  c : CInv w wr b gw cw L M saidV xs
  good : Hw.Good L M said xs
  upto : ∀ j, j < k → Hw.of xs (Hw.fold L (said.getD j ([], [])).1) = Hw.of xs (Hw.fold L (said.getD j ([], [])).2)

theorem SInv.next {w wr w1 w2 : World} {b gw cw L M k : Nat} {saidV : Value} {said : List (Hw.Wd × Hw.Wd)} {xs : List Nat} (hL3 : L ≤ 3) (h : SInv w wr b gw cw L M saidV said xs k) (hk : k < said.length) (hb : b < w.heap.size)
    (hw : ∀ p, p ∈ said → Hw.isWord L M p.1 = true ∧ Hw.isWord L M p.2 = true) {l r : Hw.Wd} (e : said.getD k ([], []) = (l, r)) (hd : SameW wr w1)
    (hrow : w2.heap[w.heap.size]? = some (.cells (intRow (Hw.joinL xs (Hw.fold L l) (Hw.fold L r)).1) 3 (0, 0))) (hK : Kept [w.heap.size] w1 w2) :
    SInv w w2 b gw cw L M saidV said (Hw.joinL xs (Hw.fold L l) (Hw.fold L r)).1 (k + 1) := by
  have hmem : (l, r) ∈ said := by
    rw [← e]; simp [hk]
  have hl := Hw.fold_lt_length hL3 (hw _ hmem).1
  have hr := Hw.fold_lt_length hL3 (hw _ hmem).2
  have hlx : Hw.fold L l < xs.length := by rw [h.good.len]; exact hl
  have hrx : Hw.fold L r < xs.length := by rw [h.good.len]; exact hr
  have hw1 : Hw.wordAt L M (Hw.fold L l) = l := Hw.wordAt_fold hL3 (hw _ hmem).1
  have hw2 : Hw.wordAt L M (Hw.fold L r) = r := Hw.wordAt_fold hL3 (hw _ hmem).2
  refine ⟨(h.c.same hd).next hK hb hrow, Hw.good_join h.good hlx hrx ?_, fun j hj => ?_⟩
  · rw [hw1, hw2]
    exact (Hw.eqv_clo L M said).said _ hmem
  · by_cases hjk : j = k
    · subst hjk
      rw [e]
      exact Hw.join_same h.good hlx hrx
    · have hjm : said.getD j ([], []) ∈ said := by
        have : j < said.length := by omega
        simp [this]
      exact Hw.coarser_join _ _ _ _ _ (by rw [h.good.len]; exact Hw.fold_lt_length hL3 (hw _ hjm).1) (by rw [h.good.len]; exact Hw.fold_lt_length hL3 (hw _ hjm).2) (h.upto j (by omega))

theorem SInv.move {w wr w2 : World} {b gw cw L M k : Nat} {saidV : Value} {said : List (Hw.Wd × Hw.Wd)} {xs ys : List Nat} (hL3 : L ≤ 3) (h : SInv w wr b gw cw L M saidV said xs k) (hb : b < w.heap.size) (hk : k ≤ said.length)
    (hw : ∀ p, p ∈ said → Hw.isWord L M p.1 = true ∧ Hw.isWord L M p.2 = true)
    (hrow : w2.heap[w.heap.size]? = some (.cells (intRow ys) 3 (0, 0))) (hK : Kept [w.heap.size] wr w2) (hg : Hw.Good L M said ys) (hc : Hw.Coarser xs ys) : SInv w w2 b gw cw L M saidV said ys k := by
  refine ⟨h.c.next hK hb hrow, hg, fun j hj => ?_⟩
  have hjm : said.getD j ([], []) ∈ said := by
    have : j < said.length := by omega
    simp [this]
  exact hc _ _ (by rw [h.good.len]; exact Hw.fold_lt_length hL3 (hw _ hjm).1) (by rw [h.good.len]; exact Hw.fold_lt_length hL3 (hw _ hjm).2) (h.upto j hj)

theorem SInv.fin {w wr : World} {b gw cw L M : Nat} {saidV sameV : Value} {said : List (Hw.Wd × Hw.Wd)} {gs xs : List Nat} {fresh : Bool} (hR : RefR w b gw cw L M saidV sameV said gs fresh)
    (h : SInv w wr b gw cw L M saidV said xs said.length) (hp : ∀ i, i < xs.length → ∀ a t, a ≤ t → t ≤ (Hw.wordAt L M i).length → Hw.PieceDone L M xs i a t) :
    RefR wr b gw cw L M saidV (.slice (some ⟨w.heap.size, 0, none⟩) (Hw.upTo L M).length (Hw.upTo L M).length) said gs true := by
  have hb : ∀ c t fr, w.heap[b]? = some (.cells c t fr) → t = 62 := by
    intro c t fr e; rw [hR.blk] at e; simp [refBlock] at e; exact e.2.1.symm
  refine ⟨hR.L1, hR.L3, hR.M1, hR.M6, hR.few, h.c.blk, hR.wrd.kept h.c.kept ?_, hR.sd.kept h.c.kept ?_ ?_, hR.words, fun _ => ⟨_, xs, rfl, h.c.row, h.good, fun p hp => ?_, hp⟩⟩
  · obtain ⟨cur, hg, _⟩ := hR.wrd
    simp; rintro rfl; have := hb _ _ _ hg; simp at this
  · intro k hk e
    simp at hk; subst hk
    rcases hR.sd.own.2 with ⟨h1, _⟩ | ⟨g, cap, cur, h1, _, hg, _⟩
    · rw [h1] at e; simp [Value.ownBlock] at e
    · rw [h1] at e; simp [Value.ownBlock] at e; subst e; have := hb _ _ _ hg; simp at this
  · intro k hk c fr e
    simp at hk; subst hk
    have := hb _ _ _ e; simp at this
  · obtain ⟨j, hj, e⟩ := List.getElem_of_mem hp
    have := h.upto j hj
    simp [hj, e] at this
    exact this

set_option maxHeartbeats 1600000 in
theorem close_any (w : World) (b gw cw L M : Nat) (saidV sameV : Value) (said : List (Hw.Wd × Hw.Wd)) (gs : List Nat) (fresh : Bool) (hR : RefR w b gw cw L M saidV sameV said gs fresh) :
    Calls Tryz.prog 43 #[.pointer (some ⟨b, 0, none⟩)] w fun e w' => e = .returned (.tuple #[]) ∧ Kept [b] w w' ∧ ∃ sameV', RefR w' b gw cw L M saidV sameV' said gs true := by
  obtain ⟨sa, cap, rfl⟩ := hR.sd.shape
  have HR : Hid _ := hR
  have hfew := hR.few
  have c5 := ref_c5 hR.blk
  cases fresh with
  | true =>
    clear hR
    go_enter Tryz.func43, Tryz.ntmps43
    go_wp2
    (try simp only [Exit.inBlock, Exit.then]); refine bodyPost_ret (results_none rfl _ _ _) rfl ?_
    exact ⟨rfl, Kept.refl _ _, sameV, HR.out⟩
  | false =>
    have hn := upTo_small hR.L3 hR.M6
    have c3 := ref_c3 hR.blk
    have c4 := ref_c4 hR.blk
    have f5 := ref_free hR.blk 5
    have f4 := ref_free hR.blk 4
    have hbs : b < w.heap.size := lt_of_block hR.blk
    have hmk := run_make_ints (Hw.upTo L M).length (by omega)
    have hstart := cinv_start (cw := cw) hR
    clear hR
    have HST : Hid _ := hstart
    clear hstart
    generalize hN : (Hw.upTo L M).length = N at *
    have HN : Hid _ := hN
    clear hN
    go_enter Tryz.func43, Tryz.ntmps43
    go_wp2
    clear c3 c4 c5 f4 f5 hmk
    go_loopw [2] (fun i wr => ∃ k : Nat, k ≤ N ∧ i = .int .i64 k ∧ CInv w wr b gw cw L M (.slice sa said.length cap) (initTo N k)) (fun i _ => N - (intOf i).toNat)
    case atStart => exact ⟨0, Nat.zero_le _, rfl, HST.out⟩
    case round =>
      obtain ⟨k, hk, rfl, hI⟩ := hrel
      have c4 : wr.cell? ⟨b, 4, none⟩ = some (.slice (some ⟨w.heap.size, 0, none⟩) N N) := by rw [← HN.out]; exact ref_c4 hI.blk
      by_cases hlt : k < N
      · have ck := cell_intRow hI.row k (by rw [length_initTo N k hk]; exact hlt)
        have fk : wr.frozen? ⟨w.heap.size, k, none⟩ = false := frozen_of_row wr _ k _ _ hI.row
        have HI : Hid _ := hI
        clear hI
        go_wp2
        go_roundw
        case rel => exact ⟨k + 1, by omega, by go_num, HI.out.next (Kept.setCell (Kept.refl _ _) (by simp) _) hbs (by rw [heap_setCell_same wr _ k _ _ _ HI.out.row, set_intRow, initTo_succ N k hlt])⟩
        case measure => simp [intOf]; omega
      · have hkN : k = N := by omega
        rw [hkN, initTo_all] at hI
        have HS0 : SInv w wr b gw cw L M (.slice sa said.length cap) said (List.range N) 0 := ⟨hI, by have := Hw.good_start L M HR.out.L3 said; rw [HN.out] at this; exact this, fun j h => by omega⟩
        have HI : Hid _ := HS0
        clear hI hkN HS0
        go_wp2
        clear c4
        go_loopw [3] (fun i wr => ∃ (k : Nat) (xs : List Nat), k ≤ said.length ∧ i = .int .i64 k ∧ SInv w wr b gw cw L M (.slice sa said.length cap) said xs k) (fun i _ => said.length - (intOf i).toNat)
        case atStart => exact ⟨0, _, Nat.zero_le _, rfl, HI.out⟩
        case round =>
          clear HI hlt hk
          obtain ⟨j, xs, hj, rfl, hI⟩ := hrel
          have c2 := ref_c2 hI.c.blk
          have HI : Hid _ := hI
          clear hI
          by_cases hlt : j < said.length
          · obtain ⟨sg, cap', cur, hsv, hsg, csg⟩ := HR.out.sd.read hlt
            simp only [Value.slice.injEq] at hsv
            obtain ⟨rfl, -, rfl⟩ := hsv
            have hpb := HR.out.sd.pair j hlt
            obtain ⟨⟨l, r⟩, hlr⟩ : ∃ p, said.getD j ([], []) = p := ⟨_, rfl⟩
            rw [hlr] at hpb
            generalize gs.getD j 0 = gk at *
            have hmem : (l, r) ∈ said := by rw [← hlr]; simp [hlt]
            have hwl := (HR.out.words _ hmem).1
            have hwr := (HR.out.words _ hmem).2
            have hsb : sg ≠ b := by rintro rfl; rw [HR.out.blk] at hsg; simp [refBlock] at hsg
            have hgb : gk ≠ b := by rintro rfl; rw [HR.out.blk] at hpb; simp [refBlock] at hpb
            have hsl : sg < w.heap.size := lt_of_block hsg
            have hgl : gk < w.heap.size := lt_of_block hpb
            have d0 := ref_c0 HI.out.c.blk
            have d1 := HI.out.c.kept.cell csg (by simpa using hsb)
            have d2 := cellAt (HI.out.c.kept.at hpb (by simpa using hgb)) (j := 0) (v := str l) rfl
            have d3 := cellAt (HI.out.c.kept.at hpb (by simpa using hgb)) (j := 1) (v := str r) rfl
            simp only [str] at d2 d3
            have hll : Hw.fold L l < N := by rw [← HN.out]; exact Hw.fold_lt_length HR.out.L3 hwl
            have hrr : Hw.fold L r < N := by rw [← HN.out]; exact Hw.fold_lt_length HR.out.L3 hwr
            have hxl : xs.length = N := by rw [← HN.out]; exact HI.out.good.len
            have HLR : Hid _ := hlr
            have HW1 : Hid _ := hwl
            have HW2 : Hid _ := hwr
            have HXL : Hid _ := hxl
            clear hlr hwl hwr hxl csg hsg hpb hmem
            go_wp2_with fail
            go_region_held3 (fun w' => w'.cell? ⟨b, 0, none⟩ = some (.int .i64 L) ∧ w'.cell? ⟨b, 2, none⟩ = some (.slice (some ⟨sg, 0, none⟩) said.length cap) ∧ w'.cell? ⟨sg, j, none⟩ = some (.slice (some ⟨gk, 0, none⟩) 2 2) ∧ w'.cell? ⟨gk, 0, none⟩ = some (.string ⟨l.toArray⟩) ∧ w'.cell? ⟨gk, 1, none⟩ = some (.string ⟨r.toArray⟩)) (go_keep)
              (first
                | (go_at_call_of 65 (Value.string ⟨l.toArray⟩); refine (index_wd l L M b _ HR.out.L1 HR.out.L3 HR.out.M6 HW1.out (by simp [*])).mono ?_; rintro e w' ⟨rfl, n, rfl⟩)
                | (go_at_call_of 65 (Value.string ⟨r.toArray⟩); refine (index_wd r L M b _ HR.out.L1 HR.out.L3 HR.out.M6 HW2.out (by simp [*])).mono ?_; rintro e w' ⟨rfl, n, rfl⟩)
                | (go_at_call 69; refine (join_any xs (Hw.fold L l) (Hw.fold L r) b w.heap.size L M N _ (.slice (some ⟨sg, 0, none⟩) said.length cap) (.slice (some ⟨gw, 0, none⟩) N cw) true HXL.out (by omega) hll hrr (by have := HI.out.c.blk; rw [HN.out] at this; exact this) (by exact HI.out.c.row)).mono ?_; rintro e w2 ⟨rfl, hg2, hK2⟩; have R := HI.out.next HR.out.L3 hlt hbs HR.out.words HLR.out (by exact ⟨rfl, rfl, rfl, rfl⟩) hg2 hK2; have k0 := hK2.cell (p := ⟨b, 0, none⟩) d0 (by simp; omega); have k1 := hK2.cell (p := ⟨sg, j, none⟩) d1 (by simp; omega); have k2 := hK2.cell (p := ⟨gk, 0, none⟩) d2 (by simp; omega); have k3 := hK2.cell (p := ⟨gk, 1, none⟩) d3 (by simp; omega); have k4 := hK2.cell (p := ⟨b, 2, none⟩) c2 (by simp; omega); clear hg2 hK2))
            all_goals
              go_wp2
              go_roundw
              case rel => exact ⟨j + 1, _, by omega, by go_num, by assumption⟩
              case measure => simp [intOf]; omega
          · have hjm : j = said.length := by omega
            have HI2 : Hid (SInv w wr b gw cw L M (.slice sa said.length cap) said xs said.length) := by have h := HI.out; rw [hjm] at h; exact h
            clear HI hjm
            go_wp2
            clear c2 hlt hj
            go_loopg [4] (Hw.cnt xs + 1) (fun gk t wr => ∃ (tb : Bool) (xs : List Nat), t = .bool tb ∧ SInv w wr b gw cw L M (.slice sa said.length cap) said xs said.length ∧ gk = (if tb = true then Hw.cnt xs + 1 else 0) ∧
              (tb = false → ∀ i, i < xs.length → ∀ a t, a ≤ t → t ≤ (Hw.wordAt L M i).length → Hw.PieceDone L M xs i a t))
            case atStart => exact ⟨true, xs, rfl, HI2.out, by simp, by simp⟩
            case round =>
              clear HI2
              obtain ⟨tb, xs, rfl, hI, hgk, hno⟩ := hrel
              have HI : Hid _ := hI
              have HGK : Hid _ := hgk
              have HNO : Hid _ := hno
              clear hI hgk hno
              cases tb with
              | false =>
                go_wp2
                go_end0
                exact ⟨rfl, HI.out.c.kept, _, HI.out.fin HR.out (HNO.out trivial)⟩
              | true =>
                go_wp2
                go_loopw [4, 5] (fun t i wr => ∃ (k : Nat) (tb : Bool) (ys : List Nat), k ≤ N ∧ i = .int .i64 k ∧ t = .bool tb ∧ SInv w wr b gw cw L M (.slice sa said.length cap) said ys said.length ∧
                    (tb = true → Hw.cnt ys < Hw.cnt xs) ∧ (tb = false → ys = xs ∧ ∀ i, i < k → ∀ a t, a ≤ t → t ≤ (Hw.wordAt L M i).length → Hw.PieceDone L M xs i a t)) (fun _ i _ => N - (intOf i).toNat)
                case atStart => exact ⟨0, false, xs, Nat.zero_le _, rfl, rfl, HI.out, by simp, fun _ => ⟨rfl, fun i h => by omega⟩⟩
                case round =>
                  obtain ⟨q, tb, ys, hq, rfl, rfl, hI, hyes, hno⟩ := hrel
                  have c3 : wr.cell? ⟨b, 3, none⟩ = some (.slice (some ⟨gw, 0, none⟩) N cw) := by rw [← HN.out]; exact ref_c3 hI.c.blk
                  have HJ : Hid _ := hI
                  have HY : Hid _ := hyes
                  have HNo : Hid _ := hno
                  clear hI hyes hno
                  by_cases hlt : q < N
                  · have hyl : ys.length = N := by rw [← HN.out]; exact HJ.out.good.len
                    have hgs : gw < w.heap.size ∧ gw ≠ b := by
                      obtain ⟨cur, hg, _⟩ := HR.out.wrd
                      refine ⟨lt_of_block hg, ?_⟩
                      rintro rfl; rw [HR.out.blk] at hg; simp [refBlock] at hg
                    have HYL : Hid _ := hyl
                    clear hyl
                    go_wp2_with fail
                    refine (pieces_any ys q b w.heap.size gw L M cw wr (.slice sa said.length cap) said true HR.out.L1 HR.out.L3 HR.out.M6 HJ.out.good (by rw [HYL.out]; exact hlt) (by rw [HYL.out]; omega) (by omega) (by have := HJ.out.c.blk; rw [HN.out] at this; rw [HYL.out]; exact this) HJ.out.c.row (by rw [HYL.out, ← HN.out]; exact fun k hk => (HR.out.wrd.kept HJ.out.c.kept (by simpa using hgs.2)).cell k hk)).mono ?_
                    rintro e w2 ⟨trn, zs, rfl, hrow, hK, hgd, hco, hy2, hn2⟩
                    have R := HJ.out.move HR.out.L3 hbs (Nat.le_refl _) HR.out.words hrow hK hgd hco
                    have R2 : (tb || trn) = true → Hw.cnt zs < Hw.cnt xs := by
                      intro h
                      cases tb with
                      | true =>
                        have h1 := HY.out rfl
                        cases trn with
                        | true => have := hy2 rfl; omega
                        | false => have := (hn2 rfl).1; subst this; exact h1
                      | false =>
                        have h1 := (HNo.out rfl).1
                        subst h1
                        exact hy2 (by simpa using h)
                    have R3 : (tb || trn) = false → zs = xs ∧ ∀ i, i < q + 1 → ∀ a t, a ≤ t → t ≤ (Hw.wordAt L M i).length → Hw.PieceDone L M xs i a t := by
                      intro h
                      rw [Bool.or_eq_false_iff] at h
                      obtain ⟨h1, h2⟩ := HNo.out h.1
                      obtain ⟨h3, h4⟩ := hn2 h.2
                      subst h1
                      refine ⟨h3, fun i hi a t ha ht => ?_⟩
                      by_cases hiq : i = q
                      · subst hiq; exact h4 a t ha ht
                      · exact h2 i (by omega) a t ha ht
                    have HR1 : Hid _ := R
                    have HR2 : Hid _ := R2
                    have HR3 : Hid _ := R3
                    clear R R2 R3 hrow hK hgd hco hy2 hn2 HY HNo HJ c3
                    cases tb with
                    | true =>
                      go_wp2
                      go_roundw
                      case rel => exact ⟨q + 1, true, zs, by omega, by go_num, rfl, HR1.out, by simpa using HR2.out, by simp⟩
                      case measure => simp [intOf]; omega
                    | false =>
                      go_wp2
                      go_roundw
                      case rel => exact ⟨q + 1, trn, zs, by omega, by go_num, rfl, HR1.out, by simpa using HR2.out, by simpa using HR3.out⟩
                      case measure => simp [intOf]; omega
                  · have hyl : ys.length = N := by rw [← HN.out]; exact HJ.out.good.len
                    have HYL : Hid _ := hyl
                    clear hyl
                    go_wp2
                    have hqN : q = N := by omega
                    have HG2 : gk = Hw.cnt xs + 1 := by have := HGK.out; simpa using this
                    cases tb with
                    | true =>
                      go_roundg (Hw.cnt ys + 1)
                      case measure => have := HY.out rfl; omega
                      case rel => exact ⟨true, ys, rfl, HJ.out, by simp, by simp⟩
                    | false =>
                      go_roundg 0
                      case measure => omega
                      case rel => exact ⟨false, ys, rfl, HJ.out, by simp, fun _ i hi a t ha ht => by have h := HNo.out rfl; rw [h.1] at hi ⊢; exact h.2 i (by have := HYL.out; rw [h.1] at this; omega) a t ha ht⟩
end Go.Proofs.YtfiebibpgbadlaaGreat
