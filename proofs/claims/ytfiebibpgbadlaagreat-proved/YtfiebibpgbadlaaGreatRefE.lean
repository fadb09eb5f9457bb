import Derived.Test.YtfiebibpgbadlaaGreatRefD
import Derived.Test.YtfiebibpgbadlaaGreatMe
import Derived.Deep.RegionLaw
namespace Go.Proofs.YtfiebibpgbadlaaGreat
open Go.RowKit
set_option linter.unusedVariables false
set_option linter.unusedSimpArgs false

theorem RefR.same {w w1 : World} {b gw cw L M : Nat} {saidV sameV : Value} {said : List (Hw.Wd × Hw.Wd)} {gs : List Nat} {fresh : Bool} (h : RefR w b gw cw L M saidV sameV said gs fresh) (hd : w1.heap = w.heap) : RefR w1 b gw cw L M saidV sameV said gs fresh := by
  refine ⟨h.L1, h.L3, h.M1, h.M6, h.few, by rw [hd]; exact h.blk, ?_, ⟨h.sd.len, ?_, fun i hi => by rw [hd]; exact h.sd.pair i hi⟩, h.words, ?_⟩
  · have := h.wrd; unfold WordsAt at *; rw [hd]; exact this
  · have := h.sd.own; unfold World.ownsRow at *; rw [hd]; exact this
  · rw [hd]; exact h.done

theorem index_is (s : ByteArray) (L M b F : Nat) (w : World) (hL1 : 1 ≤ L) (hL3 : L ≤ 3) (hM6 : M ≤ 6) (hw : Hw.isWord L M s.data.toList = true) (hF : Hw.index L s.data.toList = F)
    (cL : w.cell? ⟨b, 0, none⟩ = some (.int .i64 L)) :
    Calls Tryz.prog 65 #[.pointer (some ⟨b, 0, none⟩), .string s] w fun e w' => e = .returned (.int .i64 (F : Int)) ∧ ∃ n, w' = w.drewN n := by
  rw [← hF]; exact index_any s L M b w hL1 hL3 hM6 hw cL

/-- What the document's Least answers. -/
def LeastAns (L M : Nat) (said : List (Hw.Wd × Hw.Wd)) (s m : Hw.Wd) (c : Nat) : Prop :=
  (Hw.isWord L M s = true → Hw.IsLeast L M said s m ∧ c = 0) ∧ (Hw.isWord L M s = false → m = [] ∧ c = 2)

theorem LeastAns.uniq {L M : Nat} (hL : L ≤ 3) {said : List (Hw.Wd × Hw.Wd)} {s m m' : Hw.Wd} {c c' : Nat} (h : LeastAns L M said s m c) (h' : LeastAns L M said s m' c') : m = m' ∧ c = c' := by
  cases e : Hw.isWord L M s with
  | true => exact ⟨((h.1 e).1).uniq hL (h'.1 e).1, by rw [(h.1 e).2, (h'.1 e).2]⟩
  | false => exact ⟨by rw [(h.2 e).1, (h'.2 e).1], by rw [(h.2 e).2, (h'.2 e).2]⟩

set_option maxHeartbeats 800000 in
theorem refLeast_any (s : ByteArray) (w : World) (b gw cw L M : Nat) (saidV sameV : Value) (said : List (Hw.Wd × Hw.Wd)) (gs : List Nat) (fresh : Bool) (hs : s.size ≤ maxLen) (hR : RefR w b gw cw L M saidV sameV said gs fresh) :
    Calls Tryz.prog 40 #[.pointer (some ⟨b, 0, none⟩), .string s] w fun e w' => ∃ m c, e = .returned (.tuple #[.string ⟨m.toArray⟩, .int .i64 ((c : Nat) : Int)]) ∧ LeastAns L M said s.data.toList m c ∧ Kept [b] w w' ∧
      ∃ sameV' fresh', RefR w' b gw cw L M saidV sameV' said gs fresh' := by
  have c0 := ref_c0 hR.blk
  have c1 := ref_c1 hR.blk
  have HR := hide hR
  clear hR
  cases hw : Hw.isWord L M s.data.toList with
  | false =>
    have HW := hide hw
    clear hw
    go_enter Tryz.func40, Tryz.ntmps40
    go_wp2_with fail
    refine (isWord_any s L M b w hs HR.out.L1 HR.out.L3 HR.out.M6 c0 c1).mono ?_
    rintro e w1 ⟨rfl, n, rfl⟩
    rw [HW.out]
    go_wp2
    go_ret2
    exact ⟨[], 2, rfl, ⟨fun h => (by rw [HW.out] at h; cases h), fun _ => ⟨rfl, rfl⟩⟩, Kept.of_drewN _ _ _, sameV, fresh, HR.out.same rfl⟩
  | true =>
    have HW := hide hw
    clear hw
    go_enter Tryz.func40, Tryz.ntmps40
    go_wp2_with fail
    refine (isWord_any s L M b w hs HR.out.L1 HR.out.L3 HR.out.M6 c0 c1).mono ?_
    rintro e w1 ⟨rfl, n, rfl⟩
    rw [HW.out]
    go_wp2_with fail
    refine (close_any (w.drewN n) b gw cw L M saidV sameV said gs fresh (HR.out.same rfl)).mono ?_
    rintro e w2 ⟨rfl, hK, sameV', hR2⟩
    obtain ⟨g, xs, rfl, hg, hd⟩ := hR2.done rfl
    have d0 := ref_c0 hR2.blk
    have d3 := ref_c3 hR2.blk
    have d4 := ref_c4 hR2.blk
    have hfl := Hw.fold_lt_length hR2.L3 HW.out
    have hlen := hd.good.len
    have hle := hd.good.le _ (by rw [hlen]; exact hfl)
    have dg := cell_intRow hg (Hw.fold L s.data.toList) (by rw [hlen]; exact hfl)
    have e1 : (xs[Hw.fold L s.data.toList]'(by rw [hlen]; exact hfl)) = Hw.of xs (Hw.fold L s.data.toList) := by simp [Hw.of, hlen, hfl]
    rw [e1] at dg
    have dw := hR2.wrd.cell (Hw.of xs (Hw.fold L s.data.toList)) (by omega)
    have hlst := hd.least hR2.L3 hR2.words HW.out
    have hix := Hw.index_eq HW.out
    have hN := upTo_small hR2.L3 hR2.M6
    have HR2 := hide hR2
    have HLst := hide hlst
    have HIX := hide hix
    have HK := hide hK
    clear hR2 hlst hix hd hg hlen e1 hK c0 c1
    generalize Hw.fold L s.data.toList = F at *
    generalize Hw.of xs F = G at *
    generalize Hw.wordAt L M G = V at *
    generalize (Hw.upTo L M).length = N at *
    go_wp2_with fail
    go_quiet ((go_at_call 65; refine Calls.quiet_of (index_is s L M b F _ HR2.out.L1 HR2.out.L3 HR2.out.M6 HW.out HIX.out d0)))
    go_wp2
    go_ret2
    exact ⟨V, 0, rfl, ⟨fun _ => ⟨HLst.out, rfl⟩, fun h => (by rw [HW.out] at h; cases h)⟩, ((Kept.of_drewN _ _ _).trans HK.out).drewN _, _, true, HR2.out.same rfl⟩

set_option maxHeartbeats 800000 in
theorem refAlike_any (s t : ByteArray) (w : World) (b gw cw L M : Nat) (saidV sameV : Value) (said : List (Hw.Wd × Hw.Wd)) (gs : List Nat) (fresh : Bool) (hs : s.size ≤ maxLen) (ht : t.size ≤ maxLen) (hR : RefR w b gw cw L M saidV sameV said gs fresh) :
    Calls Tryz.prog 47 #[.pointer (some ⟨b, 0, none⟩), .string s, .string t] w fun e w' => ∃ m1 c1 m2 c2, e = .returned (.tuple #[.bool (decide (c1 = 0 ∧ c2 = 0 ∧ m1 = m2)), .int .i64 ((if c1 = 0 ∧ c2 = 0 then 0 else 2 : Nat) : Int)]) ∧
      LeastAns L M said s.data.toList m1 c1 ∧ LeastAns L M said t.data.toList m2 c2 ∧ Kept [b] w w' ∧
      ∃ sameV' fresh', RefR w' b gw cw L M saidV sameV' said gs fresh' := by
  go_enter Tryz.func47, Tryz.ntmps47
  go_wp2_with fail
  refine (refLeast_any s w b gw cw L M saidV sameV said gs fresh hs hR).mono ?_
  rintro e w1 ⟨m1, c1, rfl, hA1, hK1, sV1, f1, hR1⟩
  have HA1 := hide hA1
  have HK1 := hide hK1
  clear hA1 hK1 hR
  go_wp2_with fail
  refine (refLeast_any t w1 b gw cw L M saidV sV1 said gs f1 ht hR1).mono ?_
  rintro e w2 ⟨m2, c2, rfl, hA2, hK2, sV2, f2, hR2⟩
  have HA2 := hide hA2
  have HK2 := hide hK2
  have HR2 := hide hR2
  clear hA2 hK2 hR1 hR2
  by_cases h1 : c1 = 0
  · subst h1
    by_cases h2 : c2 = 0
    · subst h2
      go_wp2
      go_ret2
      refine ⟨m1, 0, m2, 0, ?_, HA1.out, HA2.out, HK1.out.trans HK2.out, sV2, f2, HR2.out⟩
      simp
      by_cases h : m1 = m2 <;> simp [h]
    · have h2b : ((c2 : Int) != 0) = true := by rw [bne_iff_ne]; omega
      go_wp2
      go_ret2
      exact ⟨m1, 0, m2, c2, by simp [h2], HA1.out, HA2.out, HK1.out.trans HK2.out, sV2, f2, HR2.out⟩
  · have h1b : ((c1 : Int) != 0) = true := by rw [bne_iff_ne]; omega
    go_wp2
    go_ret2
    exact ⟨m1, c1, m2, c2, by simp [h1], HA1.out, HA2.out, HK1.out.trans HK2.out, sV2, f2, HR2.out⟩

/-- What the document's Say does. -/
def RefSaid (w : World) (b gw cw L M : Nat) (saidV sameV : Value) (said : List (Hw.Wd × Hw.Wd)) (s t : Hw.Wd) (e : Ending) (w' : World) : Prop :=
  if Hw.isWord L M s = true ∧ Hw.isWord L M t = true then
    if said.length < 12 then
      e = .returned (.tuple #[.int .i64 (said.length : Int), .int .i64 0]) ∧ Kept (b :: saidV.ownBlock.toList) w w' ∧ ∃ saidV' gs', RefR w' b gw cw L M saidV' sameV (said ++ [(s, t)]) gs' false ∧ ∀ k, saidV'.ownBlock = some k → saidV.ownBlock = some k ∨ w.heap.size ≤ k
    else e = .returned (.tuple #[.int .i64 0, .int .i64 3]) ∧ SameW w w'
  else e = .returned (.tuple #[.int .i64 0, .int .i64 2]) ∧ SameW w w'

theorem RefSaid.no {w : World} {b gw cw L M : Nat} {saidV sameV : Value} {said : List (Hw.Wd × Hw.Wd)} {s t : Hw.Wd} {w' : World} (h : Hw.isWord L M s = false ∨ Hw.isWord L M t = false) (hw : SameW w w') :
    RefSaid w b gw cw L M saidV sameV said s t (.returned (.tuple #[.int .i64 0, .int .i64 2])) w' := by
  unfold RefSaid
  rw [if_neg (by rintro ⟨h1, h2⟩; rcases h with h | h <;> simp_all)]
  exact ⟨rfl, hw⟩
theorem RefSaid.full {w : World} {b gw cw L M : Nat} {saidV sameV : Value} {said : List (Hw.Wd × Hw.Wd)} {s t : Hw.Wd} {w' : World} (h1 : Hw.isWord L M s = true) (h2 : Hw.isWord L M t = true) (h : ¬ said.length < 12) (hw : SameW w w') :
    RefSaid w b gw cw L M saidV sameV said s t (.returned (.tuple #[.int .i64 0, .int .i64 3])) w' := by
  unfold RefSaid
  rw [if_pos ⟨h1, h2⟩, if_neg h]
  exact ⟨rfl, hw⟩
theorem Tryz.infoStrs : (Tryz.prog.info? 60).map (fun i => (i.zero, i.size, i.bytes)) = some (some (.slice none 0 0), 1, 24) := by kernel_rfl

theorem cell_second (w : World) (o1 : Obj) (c : Array Value) (t : TypeId) (j : Nat) : ((w.alloc o1).alloc (.cells c t)).cell? ⟨w.heap.size + 1, j, none⟩ = c[j]? := by
  have h := heap_alloc_new (w.alloc o1) (.cells c t)
  rw [World.size_alloc] at h
  exact cell_of_row _ _ j _ _ _ h

theorem refBlock_type {w : World} {b L M : Nat} {saidV words same : Value} {fresh : Bool} (h : w.heap[b]? = some (refBlock L M saidV words same fresh)) : ∀ c t fr, w.heap[b]? = some (.cells c t fr) → t = 62 := by
  intro c t fr e; rw [h] at e; simp [refBlock] at e; exact e.2.1.symm

theorem RefR.own_ne {w : World} {b gw cw L M : Nat} {saidV sameV : Value} {said : List (Hw.Wd × Hw.Wd)} {gs : List Nat} {fresh : Bool} (h : RefR w b gw cw L M saidV sameV said gs fresh) : saidV.ownBlock ≠ some b := by
  intro e
  rcases h.sd.own.2 with ⟨h1, _⟩ | ⟨g, cap, cur, h1, _, hg, _⟩
  · rw [h1] at e; simp [Value.ownBlock] at e
  · rw [h1] at e; simp [Value.ownBlock] at e; subst e; have := refBlock_type h.blk _ _ _ hg; simp at this

theorem RefR.own_type {w : World} {b gw cw L M : Nat} {saidV sameV : Value} {said : List (Hw.Wd × Hw.Wd)} {gs : List Nat} {fresh : Bool} (h : RefR w b gw cw L M saidV sameV said gs fresh) {k : Nat} (hk : saidV.ownBlock = some k) :
    ∃ cur, w.heap[k]? = some (.cells cur 60 (0, 0)) := by
  rcases h.sd.own.2 with ⟨h1, _⟩ | ⟨g, cap, cur, h1, _, hg, _⟩
  · rw [h1] at hk; simp [Value.ownBlock] at hk
  · rw [h1] at hk; simp [Value.ownBlock] at hk; subst hk; exact ⟨cur, hg⟩

theorem said_step {w w0 w1 : World} {b gw cw L M : Nat} {saidV sameV : Value} {said : List (Hw.Wd × Hw.Wd)} {gs : List Nat} {fresh : Bool} {s t : ByteArray} (hR : RefR w b gw cw L M saidV sameV said gs fresh)
    (hs : Hw.isWord L M s.data.toList = true) (ht : Hw.isWord L M t.data.toList = true) (hfull : said.length < 12) (h0 : SameW w w0) {v' : Value}
    (hown : w1.ownsRow 0 60 1 v' (said.length + 1) ((gs.map fun g => Value.slice (some ⟨g, 0, none⟩) 2 2) ++ [Value.slice (some ⟨w.heap.size, 0, none⟩) 2 2]))
    (hgrow : ((w0.alloc (Obj.cells #[Value.string s, Value.string t] 9)).alloc (Obj.cells #[Value.slice (some ⟨w.heap.size, 0, none⟩) 2 2] 60)).grownBy w1 saidV.ownBlock) :
    w1.heap[b]? = some (refBlock L M saidV (.slice (some ⟨gw, 0, none⟩) (Hw.upTo L M).length cw) sameV fresh) ∧
    RefR ((w1.setCell ⟨b, 2, none⟩ v').setCell ⟨b, 5, none⟩ (.bool false)) b gw cw L M v' sameV (said ++ [(s.data.toList, t.data.toList)]) (gs ++ [w.heap.size]) false ∧
    Kept (b :: saidV.ownBlock.toList) w ((w1.setCell ⟨b, 2, none⟩ v').setCell ⟨b, 5, none⟩ (.bool false)) := by
  have hbl : b < w.heap.size := lt_of_block hR.blk
  have hK0 : Kept (saidV.ownBlock.toList) w w1 := by
    refine ((h0.kept _).alloc _ |>.alloc _).trans (Kept.of_grown hgrow ?_)
    intro k hk; simp [hk]
  have hob := hR.own_ne
  have hb1 := hK0.at hR.blk (by simpa using hob)
  have hwn : w.heap.size = w0.heap.size := by rw [h0.1]
  have hnew : w1.heap[w.heap.size]? = some (Obj.cells #[Value.string s, Value.string t] 9 (0, 0)) := by
    rw [hgrow.block w.heap.size (by simp; omega) (fun e => by
      obtain ⟨cur, hc⟩ := hR.own_type e.symm
      have := lt_of_block hc; omega)]
    rw [Below.heap_alloc _ _ _ (by simp; omega), hwn]
    exact heap_alloc_new _ _
  have hKb : Kept [b] w1 ((w1.setCell ⟨b, 2, none⟩ v').setCell ⟨b, 5, none⟩ (.bool false)) := ((Kept.refl _ _).setCell (by simp) _).setCell (by simp) _
  refine ⟨hb1, ⟨hR.L1, hR.L3, hR.M1, hR.M6, by simp; omega, ?_, ?_, ⟨by simp [hR.sd.len], ?_, ?_⟩, ?_, fun h => by cases h⟩, ?_⟩
  · rw [heap_setCell_same _ b 5 _ _ _ (heap_setCell_same w1 b 2 _ _ _ hb1)]; rfl
  · refine (hR.wrd.kept hK0 ?_).kept hKb ?_
    · obtain ⟨cur, hg, _⟩ := hR.wrd
      intro hm
      simp at hm
      obtain ⟨c, hc⟩ := hR.own_type hm
      rw [hg] at hc; simp at hc
    · obtain ⟨cur, hg, _⟩ := hR.wrd
      simp; rintro rfl; have := refBlock_type hR.blk _ _ _ hg; simp at this
  · refine ⟨by simp [hR.sd.len], ?_⟩
    rcases hown.2 with ⟨_, h⟩ | ⟨g, cap, cur, h1, h2, hg, r⟩
    · omega
    · right
      refine ⟨g, cap, cur, by simpa using h1, h2, hKb.at hg ?_, by simpa using r⟩
      simp; rintro rfl; have := refBlock_type hb1 _ _ _ hg; simp at this
  · intro i hi
    have hbt : ∀ k c, w1.heap[k]? = some (.cells c 9 (0, 0)) → k ∉ [b] := by
      intro k c hk; simp; rintro rfl; have := refBlock_type hb1 _ _ _ hk; simp at this
    have hlen := hR.sd.len
    by_cases hlt : i < said.length
    · have h1 := hR.sd.pair i hlt
      have h2 : w1.heap[gs.getD i 0]? = _ := hK0.at h1 (fun hm => by
        simp at hm
        obtain ⟨c, hc⟩ := hR.own_type hm
        rw [show gs[i]?.getD 0 = gs.getD i 0 by simp, h1] at hc; simp at hc)
      have h3 := hKb.at h2 (hbt _ _ h2)
      have e1 : (gs ++ [w.heap.size]).getD i 0 = gs.getD i 0 := by simp [List.getElem?_append, show i < gs.length by omega]
      have e2 : (said ++ [(s.data.toList, t.data.toList)]).getD i ([], []) = said.getD i ([], []) := by simp [List.getElem?_append, hlt]
      rw [e1, e2]; exact h3
    · have hi' : i = said.length := by simp at hi; omega
      have e1 : (gs ++ [w.heap.size]).getD i 0 = w.heap.size := by simp [hi', ← hlen]
      have e2 : (said ++ [(s.data.toList, t.data.toList)]).getD i ([], []) = (s.data.toList, t.data.toList) := by simp [hi']
      rw [e1, e2]
      exact hKb.at hnew (hbt _ _ hnew)
  · intro p hp
    rcases List.mem_append.1 hp with hp | hp
    · exact hR.words p hp
    · simp at hp; subst hp; exact ⟨hs, ht⟩
  · refine (hK0.mono (fun k hk _ => List.mem_cons_of_mem _ hk)).trans (hKb.mono (fun k hk _ => ?_))
    simp at hk; subst hk; exact List.mem_cons_self

set_option maxRecDepth 100000 in
set_option maxHeartbeats 800000 in
theorem refSay_any (s t : ByteArray) (w : World) (b gw cw L M : Nat) (saidV sameV : Value) (said : List (Hw.Wd × Hw.Wd)) (gs : List Nat) (fresh : Bool) (hs : s.size ≤ maxLen) (ht : t.size ≤ maxLen) (hR : RefR w b gw cw L M saidV sameV said gs fresh) :
    Calls Tryz.prog 63 #[.pointer (some ⟨b, 0, none⟩), .string s, .string t] w fun e w' => RefSaid w b gw cw L M saidV sameV said s.data.toList t.data.toList e w' := by
  have c0 := ref_c0 hR.blk
  have c1 := ref_c1 hR.blk
  obtain ⟨sa, cap, rfl⟩ := hR.sd.shape
  have c2 := ref_c2 hR.blk
  have c5 := ref_c5 hR.blk
  have f2 := ref_free hR.blk 2
  have f5 := ref_free hR.blk 5
  have hfew := hR.few
  have HR := hide hR
  clear hR
  cases hws : Hw.isWord L M s.data.toList with
  | false =>
    go_enter Tryz.func63, Tryz.ntmps63
    go_wp2_with fail
    refine (isWord_any s L M b w hs HR.out.L1 HR.out.L3 HR.out.M6 c0 c1).mono ?_
    rintro e w1 ⟨rfl, n, rfl⟩
    rw [hws]
    go_wp2_with fail
    refine (isWord_any t L M b (w.drewN n) ht HR.out.L1 HR.out.L3 HR.out.M6 (by simpa using c0) (by simpa using c1)).mono ?_
    rintro e w1 ⟨rfl, m, rfl⟩
    go_wp2
    go_ret2
    exact RefSaid.no (Or.inl hws) ⟨rfl, rfl, rfl, rfl⟩
  | true =>
    cases hwt : Hw.isWord L M t.data.toList with
    | false =>
      go_enter Tryz.func63, Tryz.ntmps63
      go_wp2_with fail
      refine (isWord_any s L M b w hs HR.out.L1 HR.out.L3 HR.out.M6 c0 c1).mono ?_
      rintro e w1 ⟨rfl, n, rfl⟩
      rw [hws]
      go_wp2_with fail
      refine (isWord_any t L M b (w.drewN n) ht HR.out.L1 HR.out.L3 HR.out.M6 (by simpa using c0) (by simpa using c1)).mono ?_
      rintro e w1 ⟨rfl, m, rfl⟩
      rw [hwt]
      go_wp2
      go_ret2
      exact RefSaid.no (Or.inr hwt) ⟨rfl, rfl, rfl, rfl⟩
    | true =>
      by_cases hfull : said.length < 12
      · go_enter Tryz.func63, Tryz.ntmps63
        go_wp2_with fail
        refine (isWord_any s L M b w hs HR.out.L1 HR.out.L3 HR.out.M6 c0 c1).mono ?_
        rintro e w1 ⟨rfl, n, rfl⟩
        rw [hws]
        go_wp2_with fail
        refine (isWord_any t L M b (w.drewN n) ht HR.out.L1 HR.out.L3 HR.out.M6 (by simpa using c0) (by simpa using c1)).mono ?_
        rintro e w1 ⟨rfl, m, rfl⟩
        rw [hwt]
        obtain ⟨i0, hi, hz0, hz1, hz2⟩ := info_parts Tryz.infoStrs
        have HOWN : Hid (∀ o1 o2, (((w.drewN (n + m)).alloc o1).alloc o2).ownsRow 0 60 1 (.slice sa said.length cap) said.length (gs.map fun g => Value.slice (some ⟨g, 0, none⟩) 2 2)) := by
          intro o1 o2
          have h : (w.drewN (n + m)).ownsRow 0 60 1 (.slice sa said.length cap) said.length (gs.map fun g => Value.slice (some ⟨g, 0, none⟩) 2 2) := HR.out.sd.own
          exact (h.alloc o1).alloc o2
        have HI := hide hi
        have HZ0 := hide hz0
        have HZ1 := hide hz1
        have HZ2 := hide hz2
        clear hi hz0 hz1 hz2
        go_wp2_with (at_builtin; refine wpList_append_exact _ rfl (.tmp 32) (.tmp 36) 59 rfl 0 60 i0 (.slice none 0 0) 1 24 Tryz.underlying59 HI.out HZ0.out HZ1.out HZ2.out rfl (by decide) (.slice sa said.length cap) said.length (gs.map fun g => Value.slice (some ⟨g, 0, none⟩) 2 2) rfl (HOWN.out _ _) ⟨w.heap.size + 1, 0, none⟩ 1 1 [.slice (some ⟨w.heap.size, 0, none⟩) 2 2] rfl rfl ?c1 ?c2 ?c3 ?c4 ?c5 ?_)
        case c1 =>
          intro j u hj
          match j, hj with
          | 0, hj => simp at hj; subst hj; exact cell_second (w.drewN (n + m)) _ _ _ 0
        case c2 => intro u hu; simp at hu; subst hu; rfl
        case c3 => unfold maxLen; omega
        case c4 => omega
        case c5 => exact Nat.zero_le _
        · intro v' w1 hown' hgrow hex
          have R := said_step HR.out hws hwt hfull (w0 := w.drewN (n + m)) ⟨rfl, rfl, rfl, rfl⟩ hown' hgrow
          obtain ⟨hb1, hR1, hK1⟩ := R
          obtain ⟨g', cap', rfl⟩ : ∃ g' cap', v' = .slice (some ⟨g', 0, none⟩) (said.length + 1) cap' := by
            rcases hown'.2 with ⟨_, h⟩ | ⟨g, cap, cur, h, _⟩
            · omega
            · exact ⟨g, cap, h⟩
          have d2 := ref_c2 hb1
          have d5 := ref_c5 hb1
          have e2 := ref_free hb1 2
          have e5 := ref_free hb1 5
          have HR1 := hide hR1
          have HK1 := hide hK1
          have HEX : Hid (∀ k, (Value.slice (some ⟨g', 0, none⟩) (said.length + 1) cap').ownBlock = some k → (Value.slice sa said.length cap).ownBlock = some k ∨ w.heap.size ≤ k) := fun k hk => (hex k hk).imp id (fun h => by omega)
          clear hb1 hR1 hK1 hown' hgrow hex
          go_wp2
          go_ret2
          have hgoal : RefSaid w b gw cw L M (.slice sa said.length cap) sameV said s.data.toList t.data.toList (.returned (.tuple #[.int .i64 (said.length : Int), .int .i64 0])) ((w1.setCell ⟨b, 2, none⟩ (.slice (some ⟨g', 0, none⟩) (said.length + 1) cap')).setCell ⟨b, 5, none⟩ (.bool false)) := by
            unfold RefSaid
            rw [if_pos ⟨hws, hwt⟩, if_pos hfull]
            exact ⟨rfl, HK1.out, _, _, HR1.out, HEX.out⟩
          simpa using hgoal
      · go_enter Tryz.func63, Tryz.ntmps63
        go_wp2_with fail
        refine (isWord_any s L M b w hs HR.out.L1 HR.out.L3 HR.out.M6 c0 c1).mono ?_
        rintro e w1 ⟨rfl, n, rfl⟩
        rw [hws]
        go_wp2_with fail
        refine (isWord_any t L M b (w.drewN n) ht HR.out.L1 HR.out.L3 HR.out.M6 (by simpa using c0) (by simpa using c1)).mono ?_
        rintro e w1 ⟨rfl, m, rfl⟩
        rw [hwt]
        go_wp2
        go_ret2
        exact RefSaid.full hws hwt hfull ⟨rfl, rfl, rfl, rfl⟩
end Go.Proofs.YtfiebibpgbadlaaGreat
namespace Go.Proofs.YtfiebibpgbadlaaGreat
open Go.RowKit
set_option linter.unusedVariables false
set_option linter.unusedSimpArgs false

theorem step_append_own {P : Program} {ops : Array Oper} {o : Oper} {a : Act} {w : World} {K : Act → World → Prop} {Q : Exit → Act → World → Prop} {E : Prop}
    (hg : o.guard = none) (s x : Operand) (t : TypeId) (ho : o.op = Op.call { callee := Callee.builtin Builtin.append, args := #[s, x], argTypes := #[t, t] })
    (base : Nat) (e : TypeId) (i : TypeInfo) (z : Value) (size bytes : Nat) (ht : P.underlying t = some (.slice e)) (hi : P.info? e = some i) (hz : i.zero = some z)
    (hsize : i.size = size) (hby : i.bytes = bytes) (hzs : z.cells.size = size) (hsz : 0 < size)
    (v : Value) (n : Nat) (xs : List Value) (hs : a.eval s = v) (hown : w.ownsRow base e size v n xs)
    (ad : Addr) (m c : Nat) (news : List Value) (hx : a.eval x = .slice (some ad) m c) (hl : news.length = m * size) (hnews : ∀ j u, news[j]? = some u → w.cell? (ad.add j) = some u) (h1 : ∀ u ∈ news, u.oneCell' = true)
    (h63 : n + m ≤ maxLen) (hbytes : (n + m) * bytes ≤ 140737488355328) (hbase : base ≤ w.heap.size)
    (hK : ∀ v' w', w'.ownsRow base e size v' (n + m) (xs ++ news) → w.grownBy w' v.ownBlock → K (a.put o.dst v') w') :
    if Region.wanted o (yielded ops a.tmps) = true then Oper.wp P o a w K Q else E := by
  have hw : Region.wanted o (yielded ops a.tmps) = true := by simp [Region.wanted, hg]
  rw [if_pos hw]
  exact wp_append_own w s x t ho base e i z size bytes ht hi hz hsize hby hzs hsz v n xs hs hown ad m c news hx hl hnews h1 h63 hbytes hbase fun v' w' h2 h3 h4 => hK v' w' h2 h3

theorem Tryz.infoStr : (Tryz.prog.info? 9).map (fun i => (i.zero, i.size, i.bytes)) = some (some (.string ⟨#[]⟩), 1, 16) := by kernel_rfl

/-- While New goes on. -/
structure NInv (w wr : World) (L M : Nat) (wv : Value) (ws : List Hw.Wd) : Prop where
  blk : wr.heap[w.heap.size + 1]? = some (refBlock L M (.slice none 0 0) wv (.slice none 0 0) false)
  own : wr.ownsRow w.heap.size 9 1 wv ws.length (ws.map str)
  below : Below w.heap.size w wr

theorem NInv.read {w wr : World} {L M : Nat} {wv : Value} {ws : List Hw.Wd} (h : NInv w wr L M wv ws) {i : Nat} {s : Hw.Wd} (hi : ws[i]? = some s) :
    ∃ g cap, wv = .slice (some ⟨g, 0, none⟩) ws.length cap ∧ wr.cell? ⟨g, i, none⟩ = some (.string ⟨s.toArray⟩) := by
  have hlt : i < ws.length := by
    have := List.getElem?_eq_some_iff.1 hi; exact this.1
  rcases h.own.2 with ⟨h1, h2⟩ | ⟨g, cap, cur, h1, _, hg, hn, _, hsz, ht⟩
  · omega
  · refine ⟨g, cap, h1, ?_⟩
    rw [cell_of_row wr g i cur _ _ hg]
    have e : (cur.toList.take (ws.length * 1))[i]? = some (str s) := by
      rw [ht, List.getElem?_map, hi]; rfl
    rw [List.getElem?_take, if_pos (by omega)] at e
    simpa [str] using e

theorem NInv.shape {w wr : World} {L M : Nat} {wv : Value} {ws : List Hw.Wd} (h : NInv w wr L M wv ws) : ∃ sa cap, wv = .slice sa ws.length cap := by
  rcases h.own.2 with ⟨h1, h2⟩ | ⟨g, cap, cur, h1, _⟩
  · exact ⟨none, 0, by rw [h1, h2]⟩
  · exact ⟨_, _, h1⟩

theorem ninv_start (w : World) (L M : Nat) : NInv w ((w.alloc (Obj.cells #[Value.string ⟨#[]⟩] 9)).alloc (Obj.cells #[Value.int IntKind.i64 L, Value.int IntKind.i64 M, Value.slice none 0 0, Value.slice (some ⟨w.heap.size, 0, none⟩) 1 1, Value.slice none 0 0, Value.bool false] 62))
    L M (.slice (some ⟨w.heap.size, 0, none⟩) 1 1) (Hw.upTo L 0) := by
  refine ⟨?_, ?_, ?_⟩
  · have h := heap_alloc_new (w.alloc (Obj.cells #[Value.string ⟨#[]⟩] 9)) (Obj.cells #[Value.int IntKind.i64 L, Value.int IntKind.i64 M, Value.slice none 0 0, Value.slice (some ⟨w.heap.size, 0, none⟩) 1 1, Value.slice none 0 0, Value.bool false] 62)
    rw [World.size_alloc] at h
    exact h
  · refine ⟨by simp, .inr ⟨w.heap.size, 1, #[.string ⟨#[]⟩], rfl, Nat.le_refl _, ?_, Nat.le_refl _, by unfold maxLen; omega, rfl, by simp [Hw.upTo, Hw.level, str]⟩⟩
    rw [Below.heap_alloc _ _ _ (by simp)]
    exact heap_alloc_new _ _
  · exact ((Below.refl _ w).alloc (Nat.le_refl _) _).alloc (by simp) _

theorem ninv_step {w wr w0 w1 : World} {L M : Nat} {wv v' : Value} {ws : List Hw.Wd} (h : NInv w wr L M wv ws) {ns : ByteArray} {nw : Hw.Wd} (hns : ns = ⟨nw.toArray⟩) (h0 : SameW (wr.alloc (Obj.cells #[Value.string ns] 9)) w0)
    (hown : w1.ownsRow w.heap.size 9 1 v' (ws.length + 1) (ws.map str ++ [Value.string ns])) (hgrow : w0.grownBy w1 wv.ownBlock) :
    w1.heap[w.heap.size + 1]? = some (refBlock L M (.slice none 0 0) wv (.slice none 0 0) false) ∧ NInv w (w1.setCell ⟨w.heap.size + 1, 3, none⟩ v') L M v' (ws ++ [nw]) := by
  have hbl : w.heap.size + 1 < wr.heap.size := lt_of_block h.blk
  have hne : wv.ownBlock ≠ some (w.heap.size + 1) := by
    intro e
    rcases h.own.2 with ⟨h1, _⟩ | ⟨g, cap, cur, h1, _, hg, _⟩
    · rw [h1] at e; simp [Value.ownBlock] at e
    · rw [h1] at e; simp [Value.ownBlock] at e; subst e; have := refBlock_type h.blk _ _ _ hg; simp at this
  have hK : Kept wv.ownBlock.toList wr w1 := (((Kept.refl _ wr).alloc _).trans (h0.kept _)).trans (Kept.of_grown hgrow (fun k hk => by simp [hk]))
  have hb1 := hK.at h.blk (by simpa using hne)
  refine ⟨hb1, ?_, ?_, ?_⟩
  · rw [heap_setCell_same _ _ 3 _ _ _ hb1]; rfl
  · have e : (ws ++ [nw]).map str = ws.map str ++ [Value.string ns] := by rw [hns]; simp [str]
    rw [e, show (ws ++ [nw]).length = ws.length + 1 by simp]
    refine ⟨hown.1, ?_⟩
    rcases hown.2 with h1 | ⟨g, cap, cur, h1, h2, hg, r⟩
    · exact .inl h1
    · refine .inr ⟨g, cap, cur, h1, h2, ?_, r⟩
      rw [Below.heap_setCell _ _ _ _ (fun e => by subst e; have := refBlock_type hb1 _ _ _ hg; simp at this)]
      exact hg
  · have hb : Below w.heap.size wr w1 := hK.below (by have := h.below.size; omega) (fun k hk => by
      simp at hk
      rcases h.own.2 with ⟨h1, _⟩ | ⟨g, cap, cur, h1, hb, hg, _⟩
      · rw [h1] at hk; simp [Value.ownBlock] at hk
      · rw [h1] at hk; simp [Value.ownBlock] at hk; omega)
    exact (h.below.trans hb).setCell (by simp) _

theorem own_shape {w : World} {base : Nat} {e : TypeId} {size : Nat} {v : Value} {n : Nat} {xs : List Value} (h : w.ownsRow base e size v (n + 1) xs) : ∃ g cap, v = .slice (some ⟨g, 0, none⟩) (n + 1) cap := by
  rcases h.2 with ⟨_, h2⟩ | ⟨g, cap, cur, h1, _⟩
  · omega
  · exact ⟨g, cap, h1⟩

theorem newCell1 (w : World) (u : Value) (t : TypeId) : ∀ j x, [u][j]? = some x → ((w.alloc (.cells #[u] t)).drew).cell? ((⟨w.heap.size, 0, none⟩ : Addr).add j) = some x := by
  intro j x hj
  match j, hj with
  | 0, hj =>
    simp at hj; subst hj
    exact cell_of_row _ _ 0 _ _ _ (heap_alloc_new w (.cells #[u] t))
theorem one_str (s : ByteArray) : ∀ u ∈ [Value.string s], u.oneCell' = true := by intro u hu; simp at hu; subst hu; rfl

theorem slice_abc (q : Nat) (h : q < 3) (W : World) : (Instr.slice 9 (Value.string ⟨#[97, 98, 99]⟩) (some (Value.int IntKind.i64 (q : Int))) (some (Value.int IntKind.i64 (IntKind.i64.wrap ((q : Int) + 1)))) none).run Tryz.prog W = .ok (.string ⟨#[UInt8.ofNat (97 + q)]⟩) W := by
  rcases (show q = 0 ∨ q = 1 ∨ q = 2 by omega) with rfl | rfl | rfl <;> kernel_rfl

theorem nil_mem (L k : Nat) : ([] : Hw.Wd) ∈ Hw.upTo L k := by
  induction k with
  | zero => simp [Hw.upTo, Hw.level]
  | succ k ih => exact List.mem_append_left _ ih

theorem ninv_words {w wr : World} {L M k : Nat} {wv : Value} (h : NInv w wr L M wv (Hw.upTo L k)) : ∃ g cap cur, wv = .slice (some ⟨g, 0, none⟩) (Hw.upTo L k).length cap ∧ w.heap.size ≤ g ∧ wr.heap[g]? = some (.cells cur 9 (0, 0)) ∧ cur.toList.take (Hw.upTo L k).length = (Hw.upTo L k).map str := by
  have hpos : 0 < (Hw.upTo L k).length := by
    have : ([] : Hw.Wd) ∈ Hw.upTo L k := nil_mem L k
    exact List.length_pos_of_mem this
  rcases h.own.2 with ⟨_, h2⟩ | ⟨g, cap, cur, h1, hb, hg, _, _, _, ht⟩
  · omega
  · exact ⟨g, cap, cur, h1, hb, hg, by simpa using ht⟩

theorem new_bad (l m : Int) (w : World) (h : l < 1 ∨ 3 < l ∨ m < 1 ∨ 6 < m) :
    Calls Tryz.prog 36 #[.int .i64 l, .int .i64 m] w fun e w' => e = .returned (.tuple #[.pointer none, .int .i64 1]) ∧ w' = w := by
  by_cases h1 : l < 1
  · go_enter Tryz.func36, Tryz.ntmps36
    go_wp2
    go_ret2
    exact ⟨rfl, rfl⟩
  · by_cases h2 : 3 < l
    · go_enter Tryz.func36, Tryz.ntmps36
      go_wp2
      go_ret2
      exact ⟨rfl, rfl⟩
    · by_cases h3 : m < 1
      · go_enter Tryz.func36, Tryz.ntmps36
        go_wp2
        go_ret2
        exact ⟨rfl, rfl⟩
      · have h4 : 6 < m := by omega
        go_enter Tryz.func36, Tryz.ntmps36
        go_wp2
        go_ret2
        exact ⟨rfl, rfl⟩

set_option maxHeartbeats 1600000 in
theorem new_any (L M : Nat) (w : World) (hL1 : 1 ≤ L) (hL3 : L ≤ 3) (hM1 : 1 ≤ M) (hM6 : M ≤ 6) :
    Calls Tryz.prog 36 #[.int .i64 (L : Int), .int .i64 (M : Int)] w fun e w' => ∃ b gw cw, e = .returned (.tuple #[.pointer (some ⟨b, 0, none⟩), .int .i64 0]) ∧ Below w.heap.size w w' ∧ w.heap.size ≤ b ∧ w.heap.size ≤ gw ∧
      RefR w' b gw cw L M (.slice none 0 0) (.slice none 0 0) [] [] false := by
  have b1 : decide ((L : Int) < 1) = false := by simp; omega
  have b2 : decide (3 < (L : Int)) = false := by simp; omega
  have b3 : decide ((M : Int) < 1) = false := by simp; omega
  have b4 : decide (6 < (M : Int)) = false := by simp; omega
  have hN := upTo_small hL3 hM6
  go_enter Tryz.func36, Tryz.ntmps36
  go_wp2
  clear b1 b2 b3 b4
  go_loopw [7, 8] (fun f n wr => ∃ (k : Nat) (wv : Value), k ≤ M ∧ f = .int .i64 (Hw.off L k : Nat) ∧ n = .int .i64 ((k : Int) + 1) ∧ NInv w wr L M wv (Hw.upTo L k)) (fun _ n _ => M + 1 - (intOf n).toNat)
  case atStart => exact ⟨0, _, Nat.zero_le _, rfl, rfl, ninv_start w L M⟩
  case round =>
    obtain ⟨k, wv, hk, rfl, rfl, hI⟩ := hrel
    have HI := hide hI
    by_cases hlt : k < M
    · obtain ⟨sa, cap, rfl⟩ := hI.shape
      have c3 := ref_c3 hI.blk
      have hlen := Hw.length_upTo hL3 k
      have hsm : Hw.off L (k + 1) ≤ 1093 := by rw [← Hw.length_upTo hL3] at *; exact Nat.le_trans (by rw [Hw.length_upTo hL3, Hw.length_upTo hL3]; exact Hw.off_mono L (by omega)) hN
      have hoff : Hw.off L (k + 1) = Hw.off L k + L ^ k := rfl
      have hoffk : Hw.off L k ≤ 1093 := by omega
      rw [hlen] at c3
      have HLEN := hide hlen
      clear hI hlen
      generalize hP : L ^ k = P at *
      generalize hO1 : Hw.off L (k + 1) = O1 at *
      generalize hO : Hw.off L k = O at *
      have HP := hide hP
      have HO := hide hO
      have HO1 := hide hO1
      have HOFF := hide hoff
      have hle1 : O ≤ O1 := by omega
      have hkb : decide ((k : Int) + 1 ≤ (M : Int)) = true := by simp; omega
      clear hP hO hO1 hoff
      go_wp2
      clear hkb
      go_loopw [10] (fun i wr => ∃ (I : Nat) (wv : Value), O ≤ I ∧ I ≤ O1 ∧ i = .int .i64 (I : Int) ∧ NInv w wr L M wv (Hw.midTo L k (I - O))) (fun i _ => O1 - (intOf i).toNat)
      case atStart => exact ⟨O, _, Nat.le_refl _, hle1, rfl, by rw [Nat.sub_self, Hw.midTo_zero]; exact HI.out⟩
      case round =>
        clear HI c3
        obtain ⟨I, wv, hj0, hj, rfl, hI⟩ := hrel
        generalize hjj : I - O = j at *
        have HJJ := hide hjj
        have HI := hide hI
        clear hI hjj
        by_cases hlt2 : I < O1
        · have hjP : j < L ^ k := by rw [HP.out]; have := HOFF.out; have := HJJ.out; omega
          have HJP := hide hjP
          clear hjP
          go_wp2
          go_loopw [11] (fun c wr => ∃ (q : Nat) (wv : Value), q ≤ L ∧ c = .int .i64 (q : Int) ∧ NInv w wr L M wv (Hw.inTo L k j q)) (fun c _ => L - (intOf c).toNat)
          case atStart => exact ⟨0, _, by omega, rfl, by rw [Hw.inTo_zero]; exact HI.out⟩
          case round =>
            clear HI
            obtain ⟨q, wv, hq, rfl, hI⟩ := hrel
            have HI := hide hI
            by_cases hlt3 : q < L
            · obtain ⟨g, cap', rfl, cg⟩ := hI.read (Hw.inTo_at hL3 k j q HJP.out)
              rw [HO.out, show O + j = I by have := HJJ.out; omega] at cg
              have hIl : (I : Int) < ((Hw.inTo L k j q).length : Int) := by
                have h1 := (List.getElem?_eq_some_iff.1 (Hw.inTo_at hL3 k j q HJP.out)).1
                rw [HO.out] at h1; have := HJJ.out; omega
              have c3 := ref_c3 hI.blk
              have f3 := ref_free hI.blk 3
              have c3a : ∀ o, (wr.alloc o).cell? ⟨w.heap.size + 1, 3, none⟩ = some (.slice (some ⟨g, 0, none⟩) (Hw.inTo L k j q).length cap') := fun o => ((Kept.refl [] wr).alloc o).cell c3 (by simp)
              clear hI
              obtain ⟨i0, hi0, hz0, hz1, hz2⟩ := info_parts Tryz.infoStr
              have HI0 := hide hi0
              have HZ0 := hide hz0
              have HZ1 := hide hz1
              have HZ2 := hide hz2
              clear hi0 hz0 hz1 hz2
              have hlen3 : (Hw.inTo L k j q).length ≤ 1093 := by
                have := Hw.inTo_le hL3 k j q HJP.out
                rw [Hw.length_upTo hL3] at this hN
                have := Hw.off_mono L (show k + 1 + 1 ≤ M + 1 by omega)
                omega
              have hw6 : ((Hw.level L k).getD j []).length ≤ 6 := by
                have hj' : j < (Hw.level L k).length := by rw [Hw.length_level hL3]; exact HJP.out
                have := ((Hw.mem_level hL3 k _).1 (List.getElem_mem hj')).1
                simp [hj']; omega
              have hsuc := Hw.inTo_succ (L := L) k j q hlt3
              have HSUC := hide hsuc
              clear hsuc
              generalize (Hw.level L k).getD j [] = V at *
              generalize Hw.inTo L k j q = ws at *
              have hsl := slice_abc q (by omega)
              have hnew : (⟨V.toArray⟩ : ByteArray) ++ (⟨#[UInt8.ofNat (97 + q)]⟩ : ByteArray) = ⟨(V ++ [UInt8.ofNat (97 + q)]).toArray⟩ := ByteArray.mk_append_mk V [UInt8.ofNat (97 + q)]
              have HNEW := hide hnew
              clear hnew
              generalize UInt8.ofNat (97 + q) = ch at *
              have hadd : ¬ (9223372036854775807 < V.length + 1) := by omega
              have HOWN : Hid (∀ o1, ((wr.alloc o1).drew).ownsRow w.heap.size 9 1 (.slice (some ⟨g, 0, none⟩) ws.length cap') ws.length (ws.map str)) := fun o1 => HI.out.own.alloc o1
              go_wp2_with fail
              go_region_law (refine step_append_own rfl (.tmp 56) (.tmp 69) 60 rfl w.heap.size 9 i0 (.string ⟨#[]⟩) 1 16 Tryz.underlying60 HI0.out HZ0.out HZ1.out HZ2.out rfl (by decide) (.slice (some ⟨g, 0, none⟩) ws.length cap') ws.length (ws.map str) (by simp [Act.eval, Act.put]) (by exact HOWN.out _) ⟨wr.heap.size, 0, none⟩ 1 1 [.string ((⟨V.toArray⟩ : ByteArray) ++ (⟨#[ch]⟩ : ByteArray))] (by simp [Act.eval, Act.put]) rfl (by exact newCell1 wr _ _) (one_str _) (by unfold maxLen; omega) (by omega) (by have := HI.out.below.size; simp; omega) ?_; intro v' w1 hown hgrow; obtain ⟨g2, cap2, rfl⟩ := own_shape hown; have R := ninv_step HI.out HNEW.out (by exact ⟨rfl, rfl, rfl, rfl⟩) hown hgrow; have d3 := ref_c3 R.1; have e3 := ref_free R.1 3; have R2 := hide R.2; clear R hown hgrow)
              all_goals
                go_wp2
                go_roundw
                case rel =>
                  first
                    | exact ⟨q + 1, _, by omega, by go_num, by rw [HSUC.out]; exact Hid.out (by assumption)⟩
                    | ((repeat apply Exists.intro); exact ⟨⟨q + 1, _, by omega, by go_num, by rw [HSUC.out]; exact Hid.out (by assumption)⟩, rfl⟩)
                case measure => simp [intOf]; omega
            · have hqL : L ≤ q := by omega
              clear hI
              go_wp2
              go_roundw
              case rel => exact ⟨I + 1, _, by omega, by omega, by go_num, by rw [show I + 1 - O = j + 1 by have := HJJ.out; omega, ← Hw.inTo_all hL3 k j HJP.out q hqL]; exact HI.out⟩
              case measure => simp [intOf]; omega
        · go_wp2
          go_roundw
          case rel => exact ⟨k + 1, _, by omega, by rw [HO1.out], by go_num, by rw [← Hw.midTo_all hL3 k j (by rw [HP.out]; have := HOFF.out; have := HJJ.out; omega)]; exact HI.out⟩
          case measure => simp [intOf]; omega
    · clear hI
      go_wp2
      go_ret2
      have hkM : k = M := by omega
      have hI := HI.out
      rw [hkM] at hI
      obtain ⟨g, cw, cur, hv, hgb, hg, ht⟩ := ninv_words hI
      subst hv
      exact ⟨w.heap.size + 1, g, cw, rfl, hI.below, by omega, hgb, hL1, hL3, hM1, hM6, by simp, hI.blk, ⟨cur, hg, ht⟩, ⟨rfl, World.ownsRow_nil _ _ _ _, by simp⟩, by simp, by simp⟩
end Go.Proofs.YtfiebibpgbadlaaGreat
