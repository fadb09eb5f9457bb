import Derived.Test.YtfiebibpgbadlaaGreatRefD
import Derived.Test.YtfiebibpgbadlaaGreatMe
namespace Go.Proofs.YtfiebibpgbadlaaGreat
open Go.RowKit
set_option linter.unusedVariables false
set_option linter.unusedSimpArgs false

theorem RefR.same {w w1 : World} {b gw cw L M : Nat} {saidV sameV : Value} {said : List (Hw.Wd × Hw.Wd)} {gs : List Nat} {fresh : Bool} (h : RefR w b gw cw L M saidV sameV said gs fresh) (hd : w1.heap = w.heap) : RefR w1 b gw cw L M saidV sameV said gs fresh := by
  refine ⟨h.L1, h.L3, h.M1, h.M6, h.few, by rw [hd]; exact h.blk, ?_, ⟨h.sd.len, ?_, fun i hi => by rw [hd]; exact h.sd.pair i hi⟩, h.words, ?_⟩
  · have := h.wrd; unfold WordsAt at *; rw [hd]; exact this
  · have := h.sd.own; unfold World.ownsRow at *; rw [hd]; exact this
  · rw [hd]; exact h.done

theorem index_is (s : ByteArray) (L M b F : Nat) (w : World) (hL1 : 1 ≤ L) (hL3 : L ≤ 3) (hM6 : M ≤ 6) (hw : Hw.isWord L M s.data.toList = true) (hF : Hw.index L s.data.toList = F)
    (cL : w.cell? ⟨b, 0, none⟩ = some (.int .i64 L)) :
    Calls Tryz.prog 65 #[.pointer (some ⟨b, 0, none⟩), .string s] w fun e w' => e = .returned (.int .i64 (F : Int)) ∧ ∃ n, w' = w.drewN n := by
  rw [← hF]; exact index_any s L M b w hL1 hL3 hM6 hw cL

/-- What the document's Least answers. -/
def LeastAns (L M : Nat) (said : List (Hw.Wd × Hw.Wd)) (s m : Hw.Wd) (c : Nat) : Prop :=
  (Hw.isWord L M s = true → Hw.IsLeast L M said s m ∧ c = 0) ∧ (Hw.isWord L M s = false → m = [] ∧ c = 2)

theorem LeastAns.uniq {L M : Nat} (hL : L ≤ 3) {said : List (Hw.Wd × Hw.Wd)} {s m m' : Hw.Wd} {c c' : Nat} (h : LeastAns L M said s m c) (h' : LeastAns L M said s m' c') : m = m' ∧ c = c' := by
  cases e : Hw.isWord L M s with
  | true => exact ⟨((h.1 e).1).uniq hL (h'.1 e).1, by rw [(h.1 e).2, (h'.1 e).2]⟩
  | false => exact ⟨by rw [(h.2 e).1, (h'.2 e).1], by rw [(h.2 e).2, (h'.2 e).2]⟩

set_option maxHeartbeats 800000 in
theorem refLeast_any (s : ByteArray) (w : World) (b gw cw L M : Nat) (saidV sameV : Value) (said : List (Hw.Wd × Hw.Wd)) (gs : List Nat) (fresh : Bool) (hs : s.size ≤ maxLen) (hR : RefR w b gw cw L M saidV sameV said gs fresh) :
    Calls Tryz.prog 40 #[.pointer (some ⟨b, 0, none⟩), .string s] w fun e w' => ∃ m c, e = .returned (.tuple #[.string ⟨m.toArray⟩, .int .i64 ((c : Nat) : Int)]) ∧ LeastAns L M said s.data.toList m c ∧ Kept [b] w w' ∧
      ∃ sameV' fresh', RefR w' b gw cw L M saidV sameV' said gs fresh' := by
  have c0 := ref_c0 hR.blk
  have c1 := ref_c1 hR.blk
  have HR := hide hR
  clear hR
  cases hw : Hw.isWord L M s.data.toList with
  | false =>
    have HW := hide hw
    clear hw
    go_enter Tryz.func40, Tryz.ntmps40
    go_wp2_with fail
    refine (isWord_any s L M b w hs HR.out.L1 HR.out.L3 HR.out.M6 c0 c1).mono ?_
    rintro e w1 ⟨rfl, n, rfl⟩
    rw [HW.out]
    go_wp2
    go_ret2
    exact ⟨[], 2, rfl, ⟨fun h => (by rw [HW.out] at h; cases h), fun _ => ⟨rfl, rfl⟩⟩, Kept.of_drewN _ _ _, sameV, fresh, HR.out.same rfl⟩
  | true =>
    have HW := hide hw
    clear hw
    go_enter Tryz.func40, Tryz.ntmps40
    go_wp2_with fail
    refine (isWord_any s L M b w hs HR.out.L1 HR.out.L3 HR.out.M6 c0 c1).mono ?_
    rintro e w1 ⟨rfl, n, rfl⟩
    rw [HW.out]
    go_wp2_with fail
    refine (close_any (w.drewN n) b gw cw L M saidV sameV said gs fresh (HR.out.same rfl)).mono ?_
    rintro e w2 ⟨rfl, hK, sameV', hR2⟩
    obtain ⟨g, xs, rfl, hg, hd⟩ := hR2.done rfl
    have d0 := ref_c0 hR2.blk
    have d3 := ref_c3 hR2.blk
    have d4 := ref_c4 hR2.blk
    have hfl := Hw.fold_lt_length hR2.L3 HW.out
    have hlen := hd.good.len
    have hle := hd.good.le _ (by rw [hlen]; exact hfl)
    have dg := cell_intRow hg (Hw.fold L s.data.toList) (by rw [hlen]; exact hfl)
    have e1 : (xs[Hw.fold L s.data.toList]'(by rw [hlen]; exact hfl)) = Hw.of xs (Hw.fold L s.data.toList) := by simp [Hw.of, hlen, hfl]
    rw [e1] at dg
    have dw := hR2.wrd.cell (Hw.of xs (Hw.fold L s.data.toList)) (by omega)
    have hlst := hd.least hR2.L3 hR2.words HW.out
    have hix := Hw.index_eq HW.out
    have hN := upTo_small hR2.L3 hR2.M6
    have HR2 := hide hR2
    have HLst := hide hlst
    have HIX := hide hix
    have HK := hide hK
    clear hR2 hlst hix hd hg hlen e1 hK c0 c1
    generalize Hw.fold L s.data.toList = F at *
    generalize Hw.of xs F = G at *
    generalize Hw.wordAt L M G = V at *
    generalize (Hw.upTo L M).length = N at *
    go_wp2_with fail
    go_quiet ((go_at_call 65; refine Calls.quiet_of (index_is s L M b F _ HR2.out.L1 HR2.out.L3 HR2.out.M6 HW.out HIX.out d0)))
    go_wp2
    go_ret2
    exact ⟨V, 0, rfl, ⟨fun _ => ⟨HLst.out, rfl⟩, fun h => (by rw [HW.out] at h; cases h)⟩, ((Kept.of_drewN _ _ _).trans HK.out).drewN _, _, true, HR2.out.same rfl⟩

set_option maxHeartbeats 800000 in
theorem refAlike_any (s t : ByteArray) (w : World) (b gw cw L M : Nat) (saidV sameV : Value) (said : List (Hw.Wd × Hw.Wd)) (gs : List Nat) (fresh : Bool) (hs : s.size ≤ maxLen) (ht : t.size ≤ maxLen) (hR : RefR w b gw cw L M saidV sameV said gs fresh) :
    Calls Tryz.prog 47 #[.pointer (some ⟨b, 0, none⟩), .string s, .string t] w fun e w' => ∃ m1 c1 m2 c2, e = .returned (.tuple #[.bool (decide (c1 = 0 ∧ c2 = 0 ∧ m1 = m2)), .int .i64 ((if c1 = 0 ∧ c2 = 0 then 0 else 2 : Nat) : Int)]) ∧
      LeastAns L M said s.data.toList m1 c1 ∧ LeastAns L M said t.data.toList m2 c2 ∧ Kept [b] w w' ∧
      ∃ sameV' fresh', RefR w' b gw cw L M saidV sameV' said gs fresh' := by
  go_enter Tryz.func47, Tryz.ntmps47
  go_wp2_with fail
  refine (refLeast_any s w b gw cw L M saidV sameV said gs fresh hs hR).mono ?_
  rintro e w1 ⟨m1, c1, rfl, hA1, hK1, sV1, f1, hR1⟩
  have HA1 := hide hA1
  have HK1 := hide hK1
  clear hA1 hK1 hR
  go_wp2_with fail
  refine (refLeast_any t w1 b gw cw L M saidV sV1 said gs f1 ht hR1).mono ?_
  rintro e w2 ⟨m2, c2, rfl, hA2, hK2, sV2, f2, hR2⟩
  have HA2 := hide hA2
  have HK2 := hide hK2
  have HR2 := hide hR2
  clear hA2 hK2 hR1 hR2
  by_cases h1 : c1 = 0
  · subst h1
    by_cases h2 : c2 = 0
    · subst h2
      go_wp2
      go_ret2
      refine ⟨m1, 0, m2, 0, ?_, HA1.out, HA2.out, HK1.out.trans HK2.out, sV2, f2, HR2.out⟩
      simp
      by_cases h : m1 = m2 <;> simp [h]
    · have h2b : ((c2 : Int) != 0) = true := by rw [bne_iff_ne]; omega
      go_wp2
      go_ret2
      exact ⟨m1, 0, m2, c2, by simp [h2], HA1.out, HA2.out, HK1.out.trans HK2.out, sV2, f2, HR2.out⟩
  · have h1b : ((c1 : Int) != 0) = true := by rw [bne_iff_ne]; omega
    go_wp2
    go_ret2
    exact ⟨m1, c1, m2, c2, by simp [h1], HA1.out, HA2.out, HK1.out.trans HK2.out, sV2, f2, HR2.out⟩

/-- What the document's Say does. -/
def RefSaid (w : World) (b gw cw L M : Nat) (saidV sameV : Value) (said : List (Hw.Wd × Hw.Wd)) (s t : Hw.Wd) (e : Ending) (w' : World) : Prop :=
  if Hw.isWord L M s = true ∧ Hw.isWord L M t = true then
    if said.length < 12 then
      e = .returned (.tuple #[.int .i64 (said.length : Int), .int .i64 0]) ∧ Kept (b :: saidV.ownBlock.toList) w w' ∧ ∃ saidV' gs', RefR w' b gw cw L M saidV' sameV (said ++ [(s, t)]) gs' false ∧ ∀ k, saidV'.ownBlock = some k → saidV.ownBlock = some k ∨ w.heap.size ≤ k
    else e = .returned (.tuple #[.int .i64 0, .int .i64 3]) ∧ SameW w w'
  else e = .returned (.tuple #[.int .i64 0, .int .i64 2]) ∧ SameW w w'

theorem RefSaid.no {w : World} {b gw cw L M : Nat} {saidV sameV : Value} {said : List (Hw.Wd × Hw.Wd)} {s t : Hw.Wd} {w' : World} (h : Hw.isWord L M s = false ∨ Hw.isWord L M t = false) (hw : SameW w w') :
    RefSaid w b gw cw L M saidV sameV said s t (.returned (.tuple #[.int .i64 0, .int .i64 2])) w' := by
  unfold RefSaid
  rw [if_neg (by rintro ⟨h1, h2⟩; rcases h with h | h <;> simp_all)]
  exact ⟨rfl, hw⟩
theorem RefSaid.full {w : World} {b gw cw L M : Nat} {saidV sameV : Value} {said : List (Hw.Wd × Hw.Wd)} {s t : Hw.Wd} {w' : World} (h1 : Hw.isWord L M s = true) (h2 : Hw.isWord L M t = true) (h : ¬ said.length < 12) (hw : SameW w w') :
    RefSaid w b gw cw L M saidV sameV said s t (.returned (.tuple #[.int .i64 0, .int .i64 3])) w' := by
  unfold RefSaid
  rw [if_pos ⟨h1, h2⟩, if_neg h]
  exact ⟨rfl, hw⟩
theorem Tryz.infoStrs : (Tryz.prog.info? 60).map (fun i => (i.zero, i.size, i.bytes)) = some (some (.slice none 0 0), 1, 24) := by kernel_rfl

theorem cell_second (w : World) (o1 : Obj) (c : Array Value) (t : TypeId) (j : Nat) : ((w.alloc o1).alloc (.cells c t)).cell? ⟨w.heap.size + 1, j, none⟩ = c[j]? := by
  have h := heap_alloc_new (w.alloc o1) (.cells c t)
  rw [World.size_alloc] at h
  exact cell_of_row _ _ j _ _ _ h

theorem refBlock_type {w : World} {b L M : Nat} {saidV words same : Value} {fresh : Bool} (h : w.heap[b]? = some (refBlock L M saidV words same fresh)) : ∀ c t fr, w.heap[b]? = some (.cells c t fr) → t = 62 := by
  intro c t fr e; rw [h] at e; simp [refBlock] at e; exact e.2.1.symm

theorem RefR.own_ne {w : World} {b gw cw L M : Nat} {saidV sameV : Value} {said : List (Hw.Wd × Hw.Wd)} {gs : List Nat} {fresh : Bool} (h : RefR w b gw cw L M saidV sameV said gs fresh) : saidV.ownBlock ≠ some b := by
  intro e
  rcases h.sd.own.2 with ⟨h1, _⟩ | ⟨g, cap, cur, h1, _, hg, _⟩
  · rw [h1] at e; simp [Value.ownBlock] at e
  · rw [h1] at e; simp [Value.ownBlock] at e; subst e; have := refBlock_type h.blk _ _ _ hg; simp at this

theorem RefR.own_type {w : World} {b gw cw L M : Nat} {saidV sameV : Value} {said : List (Hw.Wd × Hw.Wd)} {gs : List Nat} {fresh : Bool} (h : RefR w b gw cw L M saidV sameV said gs fresh) {k : Nat} (hk : saidV.ownBlock = some k) :
    ∃ cur, w.heap[k]? = some (.cells cur 60 (0, 0)) := by
  rcases h.sd.own.2 with ⟨h1, _⟩ | ⟨g, cap, cur, h1, _, hg, _⟩
  · rw [h1] at hk; simp [Value.ownBlock] at hk
  · rw [h1] at hk; simp [Value.ownBlock] at hk; subst hk; exact ⟨cur, hg⟩

theorem said_step {w w0 w1 : World} {b gw cw L M : Nat} {saidV sameV : Value} {said : List (Hw.Wd × Hw.Wd)} {gs : List Nat} {fresh : Bool} {s t : ByteArray} (hR : RefR w b gw cw L M saidV sameV said gs fresh)
    (hs : Hw.isWord L M s.data.toList = true) (ht : Hw.isWord L M t.data.toList = true) (hfull : said.length < 12) (h0 : SameW w w0) {v' : Value}
    (hown : w1.ownsRow 0 60 1 v' (said.length + 1) ((gs.map fun g => Value.slice (some ⟨g, 0, none⟩) 2 2) ++ [Value.slice (some ⟨w.heap.size, 0, none⟩) 2 2]))
    (hgrow : ((w0.alloc (Obj.cells #[Value.string s, Value.string t] 9)).alloc (Obj.cells #[Value.slice (some ⟨w.heap.size, 0, none⟩) 2 2] 60)).grownBy w1 saidV.ownBlock) :
    w1.heap[b]? = some (refBlock L M saidV (.slice (some ⟨gw, 0, none⟩) (Hw.upTo L M).length cw) sameV fresh) ∧
    RefR ((w1.setCell ⟨b, 2, none⟩ v').setCell ⟨b, 5, none⟩ (.bool false)) b gw cw L M v' sameV (said ++ [(s.data.toList, t.data.toList)]) (gs ++ [w.heap.size]) false ∧
    Kept (b :: saidV.ownBlock.toList) w ((w1.setCell ⟨b, 2, none⟩ v').setCell ⟨b, 5, none⟩ (.bool false)) := by
  have hbl : b < w.heap.size := lt_of_block hR.blk
  have hK0 : Kept (saidV.ownBlock.toList) w w1 := by
    refine ((h0.kept _).alloc _ |>.alloc _).trans (Kept.of_grown hgrow ?_)
    intro k hk; simp [hk]
  have hob := hR.own_ne
  have hb1 := hK0.at hR.blk (by simpa using hob)
  have hwn : w.heap.size = w0.heap.size := by rw [h0.1]
  have hnew : w1.heap[w.heap.size]? = some (Obj.cells #[Value.string s, Value.string t] 9 (0, 0)) := by
    rw [hgrow.block w.heap.size (by simp; omega) (fun e => by
      obtain ⟨cur, hc⟩ := hR.own_type e.symm
      have := lt_of_block hc; omega)]
    rw [Below.heap_alloc _ _ _ (by simp; omega), hwn]
    exact heap_alloc_new _ _
  have hKb : Kept [b] w1 ((w1.setCell ⟨b, 2, none⟩ v').setCell ⟨b, 5, none⟩ (.bool false)) := ((Kept.refl _ _).setCell (by simp) _).setCell (by simp) _
  refine ⟨hb1, ⟨hR.L1, hR.L3, hR.M1, hR.M6, by simp; omega, ?_, ?_, ⟨by simp [hR.sd.len], ?_, ?_⟩, ?_, fun h => by cases h⟩, ?_⟩
  · rw [heap_setCell_same _ b 5 _ _ _ (heap_setCell_same w1 b 2 _ _ _ hb1)]; rfl
  · refine (hR.wrd.kept hK0 ?_).kept hKb ?_
    · obtain ⟨cur, hg, _⟩ := hR.wrd
      intro hm
      simp at hm
      obtain ⟨c, hc⟩ := hR.own_type hm
      rw [hg] at hc; simp at hc
    · obtain ⟨cur, hg, _⟩ := hR.wrd
      simp; rintro rfl; have := refBlock_type hR.blk _ _ _ hg; simp at this
  · refine ⟨by simp [hR.sd.len], ?_⟩
    rcases hown.2 with ⟨_, h⟩ | ⟨g, cap, cur, h1, h2, hg, r⟩
    · omega
    · right
      refine ⟨g, cap, cur, by simpa using h1, h2, hKb.at hg ?_, by simpa using r⟩
      simp; rintro rfl; have := refBlock_type hb1 _ _ _ hg; simp at this
  · intro i hi
    have hbt : ∀ k c, w1.heap[k]? = some (.cells c 9 (0, 0)) → k ∉ [b] := by
      intro k c hk; simp; rintro rfl; have := refBlock_type hb1 _ _ _ hk; simp at this
    have hlen := hR.sd.len
    by_cases hlt : i < said.length
    · have h1 := hR.sd.pair i hlt
      have h2 : w1.heap[gs.getD i 0]? = _ := hK0.at h1 (fun hm => by
        simp at hm
        obtain ⟨c, hc⟩ := hR.own_type hm
        rw [show gs[i]?.getD 0 = gs.getD i 0 by simp, h1] at hc; simp at hc)
      have h3 := hKb.at h2 (hbt _ _ h2)
      have e1 : (gs ++ [w.heap.size]).getD i 0 = gs.getD i 0 := by simp [List.getElem?_append, show i < gs.length by omega]
      have e2 : (said ++ [(s.data.toList, t.data.toList)]).getD i ([], []) = said.getD i ([], []) := by simp [List.getElem?_append, hlt]
      rw [e1, e2]; exact h3
    · have hi' : i = said.length := by simp at hi; omega
      have e1 : (gs ++ [w.heap.size]).getD i 0 = w.heap.size := by simp [hi', ← hlen]
      have e2 : (said ++ [(s.data.toList, t.data.toList)]).getD i ([], []) = (s.data.toList, t.data.toList) := by simp [hi']
      rw [e1, e2]
      exact hKb.at hnew (hbt _ _ hnew)
  · intro p hp
    rcases List.mem_append.1 hp with hp | hp
    · exact hR.words p hp
    · simp at hp; subst hp; exact ⟨hs, ht⟩
  · refine (hK0.mono (fun k hk _ => List.mem_cons_of_mem _ hk)).trans (hKb.mono (fun k hk _ => ?_))
    simp at hk; subst hk; exact List.mem_cons_self

set_option maxRecDepth 100000 in
set_option maxHeartbeats 800000 in
theorem refSay_any (s t : ByteArray) (w : World) (b gw cw L M : Nat) (saidV sameV : Value) (said : List (Hw.Wd × Hw.Wd)) (gs : List Nat) (fresh : Bool) (hs : s.size ≤ maxLen) (ht : t.size ≤ maxLen) (hR : RefR w b gw cw L M saidV sameV said gs fresh) :
    Calls Tryz.prog 63 #[.pointer (some ⟨b, 0, none⟩), .string s, .string t] w fun e w' => RefSaid w b gw cw L M saidV sameV said s.data.toList t.data.toList e w' := by
  have c0 := ref_c0 hR.blk
  have c1 := ref_c1 hR.blk
  obtain ⟨sa, cap, rfl⟩ := hR.sd.shape
  have c2 := ref_c2 hR.blk
  have c5 := ref_c5 hR.blk
  have f2 := ref_free hR.blk 2
  have f5 := ref_free hR.blk 5
  have hfew := hR.few
  have HR := hide hR
  clear hR
  cases hws : Hw.isWord L M s.data.toList with
  | false =>
    go_enter Tryz.func63, Tryz.ntmps63
    go_wp2_with fail
    refine (isWord_any s L M b w hs HR.out.L1 HR.out.L3 HR.out.M6 c0 c1).mono ?_
    rintro e w1 ⟨rfl, n, rfl⟩
    rw [hws]
    go_wp2_with fail
    refine (isWord_any t L M b (w.drewN n) ht HR.out.L1 HR.out.L3 HR.out.M6 (by simpa using c0) (by simpa using c1)).mono ?_
    rintro e w1 ⟨rfl, m, rfl⟩
    go_wp2
    go_ret2
    exact RefSaid.no (Or.inl hws) ⟨rfl, rfl, rfl, rfl⟩
  | true =>
    cases hwt : Hw.isWord L M t.data.toList with
    | false =>
      go_enter Tryz.func63, Tryz.ntmps63
      go_wp2_with fail
      refine (isWord_any s L M b w hs HR.out.L1 HR.out.L3 HR.out.M6 c0 c1).mono ?_
      rintro e w1 ⟨rfl, n, rfl⟩
      rw [hws]
      go_wp2_with fail
      refine (isWord_any t L M b (w.drewN n) ht HR.out.L1 HR.out.L3 HR.out.M6 (by simpa using c0) (by simpa using c1)).mono ?_
      rintro e w1 ⟨rfl, m, rfl⟩
      rw [hwt]
      go_wp2
      go_ret2
      exact RefSaid.no (Or.inr hwt) ⟨rfl, rfl, rfl, rfl⟩
    | true =>
      by_cases hfull : said.length < 12
      · go_enter Tryz.func63, Tryz.ntmps63
        go_wp2_with fail
        refine (isWord_any s L M b w hs HR.out.L1 HR.out.L3 HR.out.M6 c0 c1).mono ?_
        rintro e w1 ⟨rfl, n, rfl⟩
        rw [hws]
        go_wp2_with fail
        refine (isWord_any t L M b (w.drewN n) ht HR.out.L1 HR.out.L3 HR.out.M6 (by simpa using c0) (by simpa using c1)).mono ?_
        rintro e w1 ⟨rfl, m, rfl⟩
        rw [hwt]
        obtain ⟨i0, hi, hz0, hz1, hz2⟩ := info_parts Tryz.infoStrs
        have HOWN : Hid (∀ o1 o2, (((w.drewN (n + m)).alloc o1).alloc o2).ownsRow 0 60 1 (.slice sa said.length cap) said.length (gs.map fun g => Value.slice (some ⟨g, 0, none⟩) 2 2)) := by
          intro o1 o2
          have h : (w.drewN (n + m)).ownsRow 0 60 1 (.slice sa said.length cap) said.length (gs.map fun g => Value.slice (some ⟨g, 0, none⟩) 2 2) := HR.out.sd.own
          exact (h.alloc o1).alloc o2
        have HI := hide hi
        have HZ0 := hide hz0
        have HZ1 := hide hz1
        have HZ2 := hide hz2
        clear hi hz0 hz1 hz2
        go_wp2_with (at_builtin; refine wpList_append_exact _ rfl (.tmp 32) (.tmp 36) 59 rfl 0 60 i0 (.slice none 0 0) 1 24 Tryz.underlying59 HI.out HZ0.out HZ1.out HZ2.out rfl (by decide) (.slice sa said.length cap) said.length (gs.map fun g => Value.slice (some ⟨g, 0, none⟩) 2 2) rfl (HOWN.out _ _) ⟨w.heap.size + 1, 0, none⟩ 1 1 [.slice (some ⟨w.heap.size, 0, none⟩) 2 2] rfl rfl ?c1 ?c2 ?c3 ?c4 ?c5 ?_)
        case c1 =>
          intro j u hj
          match j, hj with
          | 0, hj => simp at hj; subst hj; exact cell_second (w.drewN (n + m)) _ _ _ 0
        case c2 => intro u hu; simp at hu; subst hu; rfl
        case c3 => unfold maxLen; omega
        case c4 => omega
        case c5 => exact Nat.zero_le _
        · intro v' w1 hown' hgrow hex
          have R := said_step HR.out hws hwt hfull (w0 := w.drewN (n + m)) ⟨rfl, rfl, rfl, rfl⟩ hown' hgrow
          obtain ⟨hb1, hR1, hK1⟩ := R
          obtain ⟨g', cap', rfl⟩ : ∃ g' cap', v' = .slice (some ⟨g', 0, none⟩) (said.length + 1) cap' := by
            rcases hown'.2 with ⟨_, h⟩ | ⟨g, cap, cur, h, _⟩
            · omega
            · exact ⟨g, cap, h⟩
          have d2 := ref_c2 hb1
          have d5 := ref_c5 hb1
          have e2 := ref_free hb1 2
          have e5 := ref_free hb1 5
          have HR1 := hide hR1
          have HK1 := hide hK1
          have HEX : Hid (∀ k, (Value.slice (some ⟨g', 0, none⟩) (said.length + 1) cap').ownBlock = some k → (Value.slice sa said.length cap).ownBlock = some k ∨ w.heap.size ≤ k) := fun k hk => (hex k hk).imp id (fun h => by omega)
          clear hb1 hR1 hK1 hown' hgrow hex
          go_wp2
          go_ret2
          have hgoal : RefSaid w b gw cw L M (.slice sa said.length cap) sameV said s.data.toList t.data.toList (.returned (.tuple #[.int .i64 (said.length : Int), .int .i64 0])) ((w1.setCell ⟨b, 2, none⟩ (.slice (some ⟨g', 0, none⟩) (said.length + 1) cap')).setCell ⟨b, 5, none⟩ (.bool false)) := by
            unfold RefSaid
            rw [if_pos ⟨hws, hwt⟩, if_pos hfull]
            exact ⟨rfl, HK1.out, _, _, HR1.out, HEX.out⟩
          simpa using hgoal
      · go_enter Tryz.func63, Tryz.ntmps63
        go_wp2_with fail
        refine (isWord_any s L M b w hs HR.out.L1 HR.out.L3 HR.out.M6 c0 c1).mono ?_
        rintro e w1 ⟨rfl, n, rfl⟩
        rw [hws]
        go_wp2_with fail
        refine (isWord_any t L M b (w.drewN n) ht HR.out.L1 HR.out.L3 HR.out.M6 (by simpa using c0) (by simpa using c1)).mono ?_
        rintro e w1 ⟨rfl, m, rfl⟩
        rw [hwt]
        go_wp2
        go_ret2
        exact RefSaid.full hws hwt hfull ⟨rfl, rfl, rfl, rfl⟩
end Go.Proofs.YtfiebibpgbadlaaGreat
