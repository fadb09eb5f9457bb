import Derived.Test.YtfiebibpgbadlaaGreatDm
import Derived.Test.YtfiebibpgbadlaaGreatDo
namespace Go.Proofs.YtfiebibpgbadlaaGreat
open Go.RowKit
set_option linter.unusedVariables false
set_option linter.unusedSimpArgs false
namespace Dr

theorem begin_world (w : World) (L M : Nat) (said : List Hw.Rl) : DM ((((w.alloc (Obj.map #[] 0)).alloc (Obj.map #[] 0)).alloc (Obj.cells #[Value.slice none 0 0, Value.func (Fn.func 83) #[] #[]] 158)).alloc (Obj.cells #[Value.slice none 0 0, Value.map (some w.heap.size), Value.int IntKind.i64 L, Value.int IntKind.i64 M, Value.map (some (w.heap.size + 1)), Value.pointer (some ⟨w.heap.size + 1 + 1, 0, none⟩)] 118))
    w.heap.size (w.heap.size + 1 + 1 + 1) w.heap.size L M (w.heap.size + 1) (w.heap.size + 1 + 1) (.slice none 0 0) (.slice none 0 0) said [] (fun _ => none) [] [] := by
  have s1 : (w.alloc (Obj.map #[] 0)).heap.size = w.heap.size + 1 := by simp
  have s2 : ((w.alloc (Obj.map #[] 0)).alloc (Obj.map #[] 0)).heap.size = w.heap.size + 1 + 1 := by simp
  have m1 := mapIs_new w 3
  have m2 := mapIs_new (w.alloc (Obj.map #[] 0)) 9
  rw [s1] at m2
  have n1 := heap_alloc_new ((w.alloc (Obj.map #[] 0)).alloc (Obj.map #[] 0)) (Obj.cells #[Value.slice none 0 0, Value.func (Fn.func 83) #[] #[]] 158)
  rw [s2] at n1
  have s3 : (((w.alloc (Obj.map #[] 0)).alloc (Obj.map #[] 0)).alloc (Obj.cells #[Value.slice none 0 0, Value.func (Fn.func 83) #[] #[]] 158)).heap.size = w.heap.size + 1 + 1 + 1 := by simp
  have n2 := heap_alloc_new (((w.alloc (Obj.map #[] 0)).alloc (Obj.map #[] 0)).alloc (Obj.cells #[Value.slice none 0 0, Value.func (Fn.func 83) #[] #[]] 158)) (Obj.cells #[Value.slice none 0 0, Value.map (some w.heap.size), Value.int IntKind.i64 L, Value.int IntKind.i64 M, Value.map (some (w.heap.size + 1)), Value.pointer (some ⟨w.heap.size + 1 + 1, 0, none⟩)] 118)
  rw [s3] at n2
  have k1 : ∀ W : World, ∀ o, Kept [] W (W.alloc o) := fun W o => (Kept.refl [] W).alloc o
  refine ⟨⟨n2, ⟨rfl, .inl ⟨rfl, rfl⟩⟩, ⟨_, (((m1.kept (k1 _ _) (by simp)).kept (k1 _ _) (by simp)).kept (k1 _ _) (by simp)), by simp⟩, Hw.Sheet.nil _ _ _⟩, ⟨_, ((m2.kept (k1 _ _) (by simp)).kept (k1 _ _) (by simp)), by simp⟩, ⟨(k1 _ _).at n1 (by simp), ⟨rfl, .inl ⟨rfl, rfl⟩⟩⟩, by simp, by simp, by simp, by omega, by omega, by simp; omega⟩

set_option maxRecDepth 20000 in
set_option maxHeartbeats 3200000 in
theorem begin_any (w : World) (L M : Nat) (said : List Hw.Rl) :
    Calls Tryz.prog 55 #[.int .i64 (L : Int), .int .i64 (M : Int)] w fun e w' => ∃ d bm pm qb lv iv, e = .returned (.pointer (some ⟨d, 0, none⟩)) ∧ DM w' w.heap.size d bm L M pm qb lv iv said [] (fun _ => none) [] [] ∧ Below w.heap.size w w' := by
  have hmk1 : ∀ W : World, (Instr.makeMap 112 none).run Tryz.prog W = .ok (.map (some W.heap.size)) (W.alloc (.map #[] 0)) := fun W => rfl
  have hmk2 : ∀ W : World, (Instr.makeMap 115 none).run Tryz.prog W = .ok (.map (some W.heap.size)) (W.alloc (.map #[] 0)) := fun W => rfl
  go_enter Tryz.func55, Tryz.ntmps55
  go_wp2_with fail
  refine (Qs.qnew_any _).mono ?_
  rintro e w1 ⟨rfl, rfl⟩
  go_wp2
  go_ret
  exact ⟨_, _, _, _, _, _, rfl, begin_world w L M said, (((Below.refl _ _).alloc (Nat.le_refl _) _).alloc (by simp) _ |>.alloc (by simp; omega) _).alloc (by simp; omega) _⟩
end Dr
end Go.Proofs.YtfiebibpgbadlaaGreat
namespace Go.Proofs.YtfiebibpgbadlaaGreat
open Go.RowKit
set_option linter.unusedVariables false
set_option linter.unusedSimpArgs false
namespace Dr

/-- boxes of pairs stay. -/
def Fr (w w' : World) : Prop := ∀ (k : Nat) (c : Array Value) (fr : Nat × Nat), w.heap[k]? = some (.cells c 102 fr) → w'.heap[k]? = some (.cells c 102 fr)
theorem Fr.trans {a b c : World} (h : Fr a b) (k : Fr b c) : Fr a c := fun i x f e => k i x f (h i x f e)
theorem Fr.below {w w' : World} (h : Below w.heap.size w w') : Fr w w' := fun k c fr e => (h.block k (lt_of_block e)).trans e
theorem Fr.same {w w' : World} (h : SameW w w') : Fr w w' := fun k c fr e => by rw [h.1]; exact e
theorem Fr.sheet {w w' : World} {base d bm L M pm qb m : Nat} {lv lv' : Value} {said : List Hw.Rl} {ls ls' : List Hw.Ln} (h : Sh w base d bm L M pm qb lv said ls) (hs : ShS w w' base d bm L M pm qb lv lv' said ls ls' m) : Fr w w' := by
  intro k c fr e
  refine hs.kept.at e (fun hm => ?_)
  obtain ⟨FB, hFB, _⟩ := h.bk
  obtain ⟨es2, cl2, hbm1⟩ := hFB.obj
  simp only [List.mem_cons] at hm
  rcases hm with rfl | rfl | hm
  · rw [h.blk] at e; simp [dblock] at e
  · rw [hbm1] at e; cases e
  · obtain ⟨_, cur, hc⟩ := LinesAt.type h.own (by simpa using hm)
    rw [hc] at e; simp at e
theorem Fr.box {w : World} {B k l : Nat} {c0 : Array Value} {fr0 : Nat × Nat} (h : w.heap[B]? = some (.cells c0 150 fr0)) : Fr w ((w.setCell ⟨B, 0, none⟩ (.pointer (some ⟨k, 0, none⟩))).setCell ⟨B, 1, none⟩ (.int .i64 (l : Int))) := by
  intro j c fr e
  have hK : Kept [B] w ((w.setCell ⟨B, 0, none⟩ (.pointer (some ⟨k, 0, none⟩))).setCell ⟨B, 1, none⟩ (.int .i64 (l : Int))) := ((Kept.refl _ _).setCell (Or.inl (by simp)) _).setCell (Or.inl (by simp)) _
  refine hK.at e (fun hm => ?_)
  rw [List.mem_singleton] at hm; subst hm
  rw [h] at e; simp at e
theorem Fr.map {w w' : World} {pm : Nat} (h : ∃ es cl, w.heap[pm]? = some (.map es cl)) (hg : w.grownBy w' (some pm)) : Fr w w' := by
  intro j c fr e
  have hK : Kept [pm] w w' := Kept.of_grown hg (by simp)
  refine hK.at e (fun hm => ?_)
  rw [List.mem_singleton] at hm; subst hm
  obtain ⟨es, cl, h⟩ := h
  rw [h] at e; cases e

set_option maxRecDepth 20000 in
set_option maxHeartbeats 3200000 in
theorem at_anyF (w : World) (base d bm L M pm qb : Nat) (lv iv : Value) (said : List Hw.Rl) (ls : List Hw.Ln) (P : Hw.Pl) (K : List KM) (Q ex : List Hw.Wd) (T : Nat) (x : Hw.Wd) (hL3 : L ≤ 3) (hM6 : M ≤ 6) (hx : Hw.isWord L M x = true) (hD : DM w base d bm L M pm qb lv iv said ls P K Q) (hI : Hw.DI L M said ls P (kes K) Q ex T) :
    Calls Tryz.prog 85 #[.pointer (some ⟨d, 0, none⟩), .string ⟨x.toArray⟩] w fun e w' => AtP w w' base d bm L M pm qb iv said P K Q ex T ls x e ∧ Fr w w' := by
  obtain ⟨F, hF, hFp⟩ := hD.pl
  have hx6 : x.length ≤ 6 := by have := Hw.isWord_len hx; omega
  have c4 := cellAt hD.sh.blk (j := 4) (v := .map (some pm)) rfl
  have hdl : d < w.heap.size := lt_of_block hD.sh.blk
  have q4 := alloc1_cell hdl
  cases hPx : P x with
  | some p =>
    obtain ⟨k, l⟩ := p
    refine (at_old w base d bm L M pm qb lv iv said ls P K Q x k l _ hx6 hD hPx).mono ?_
    rintro e w' ⟨rfl, hb2⟩
    refine ⟨?_, Fr.below hb2⟩
    exact ⟨k, l, lv, ls, P, K, rfl, ⟨hD.below hb2, hI, ⟨hb2.os, hb2.tape, hb2.output, hb2.size, fun j hj => hb2.block j (by have := hD.size; omega)⟩, fun _ _ h => h⟩, hPx, fun _ _ h => h, fun _ h => h, fun _ => ⟨rfl, rfl⟩, Hw.Ext.refl _ _⟩
  | none =>
    have hrun := fun W (hW : Below w.heap.size w W) => (hF.kept (S := []) (Kept.of_below_size hW) (by simp)).look_none (t := 115) (Maps.string_keyed Tryz.underlying9) Tryz.underlying115 (zero_place _) (str_key x hx6) (by rw [hFp, hPx]; rfl)
    have hr1 := hrun w (Below.refl _ _)
    have hr2 := fun o => hrun (w.alloc o) (below_alloc w o)
    have HD := hide hD
    have HI := hide hI
    have HP := hide hPx
    have HF := hide hF
    have HFP := hide hFp
    clear hrun hF hFp hD hI hPx
    go_enter Tryz.func85, Tryz.ntmps85
    go_wp2_with fail
    have HW := hide (at_world w x)
    unfold atW at HW
    generalize ((((w.alloc (Obj.cells #[Value.pointer none, Value.int IntKind.i64 0] 150)).alloc (Obj.cells #[Value.pointer none, Value.int IntKind.i64 0] 150)).alloc (Obj.cells #[Value.string ⟨x.toArray⟩] 9)).alloc (Obj.cells #[Value.slice (some ⟨w.heap.size + 1 + 1, 0, none⟩) 1 1, Value.string ⟨x.toArray⟩] 153)) = w1 at HW ⊢
    have hf := (HI.out.bound hL3 hM6).2.1
    refine (self_any _ base d bm L M pm qb lv said ls x (HD.out.below HW.out.1).sh (by omega) (by have := HW.out.1.size; have := HD.out.size; omega) hx).mono ?_
    rintro e w2 ⟨lv2, rfl, hs2⟩
    have H2 := hide (at_self HD.out HW.out hs2)
    have HF2 := hide ((Fr.below HW.out.1).trans (Fr.sheet (HD.out.below HW.out.1).sh hs2))
    clear hs2 hr1 hr2 q4 c4 HF HFP
    have c4 := cellAt H2.out.1.sh.blk (j := 4) (v := .map (some pm)) rfl
    have x0 := cellAt H2.out.2.2.2.1 (j := 0) (v := .pointer none) rfl
    have x1 := cellAt H2.out.2.2.2.1 (j := 1) (v := .int .i64 0) rfl
    have xf0 := frozen_of_row w2 _ 0 _ _ H2.out.2.2.2.1
    have xf1 := frozen_of_row w2 _ 1 _ _ H2.out.2.2.2.1
    go_wp2_with fail
    have H3 := at_box (l := ls.length) H2.out HD.out.size
    have HF3 := hide (Fr.box (l := ls.length) (k := w.heap.size + 1 + 1 + 1) H2.out.2.2.2.1)
    generalize ((w2.setCell ⟨w.heap.size + 1, 0, none⟩ (.pointer (some ⟨w.heap.size + 1 + 1 + 1, 0, none⟩))).setCell ⟨w.heap.size + 1, 1, none⟩ (.int .i64 (ls.length : Int))) = w3 at H3 HF3 ⊢
    have hD3 := H3.1.same (drew_same w3)
    obtain ⟨F3, hF3, hF3p⟩ := hD3.pl
    have hnb := HI.out.bound hL3 hM6
    have hsf := Hw.sF_le hnb.1
    obtain ⟨w4, hrun, hm4, hg4⟩ := hF3.update (t := 115) (val := .agg #[.pointer (some ⟨w.heap.size + 1 + 1 + 1, 0, none⟩), .int .i64 (ls.length : Int)]) (Maps.string_keyed Tryz.underlying9) Tryz.underlying115 (by unfold maxLen; omega) (str_key x hx6)
    have R := at_fin HD.out HI.out hx HP.out H3 hF3p hm4 hg4
    have HF4 := hide (((HF2.out.trans HF3.out).trans (Fr.same (drew_same w3))).trans (Fr.map hF3.obj hg4))
    have HF5 := hide (Fr.box (l := ls.length) (k := w.heap.size + 1 + 1 + 1) R.1)
    clear x0 x1 xf0 xf1 c4 hm4 hg4 hF3 hF3p hsf hnb H2
    have c4 := cellAt H3.1.sh.blk (j := 4) (v := .map (some pm)) rfl
    have x0 := cellAt H3.2.2.2.1 (j := 0) (v := .pointer (some ⟨w.heap.size + 1 + 1 + 1, 0, none⟩)) rfl
    have x1 := cellAt H3.2.2.2.1 (j := 1) (v := .int .i64 (ls.length : Int)) rfl
    have HR := hide R.2.2.2
    have y0 := R.1
    have y1 := R.2.1
    have z0 := R.2.2.1
    clear R H3 hD3
    have y0a := cellAt y1 (j := 0) (v := .pointer (some ⟨w.heap.size + 1 + 1 + 1, 0, none⟩)) rfl
    have y1a := cellAt y1 (j := 1) (v := .int .i64 (ls.length : Int)) rfl
    have r0 := cellAt y0 (j := 0) (v := .pointer none) rfl
    have r1 := cellAt y0 (j := 1) (v := .int .i64 0) rfl
    have rf0 := frozen_of_row w4 _ 0 _ _ y0
    have rf1 := frozen_of_row w4 _ 1 _ _ y0
    go_region
    all_goals
      go_wp2
      refine bodyPost_ret (v := .agg #[.pointer (some ⟨w.heap.size + 1 + 1 + 1, 0, none⟩), .int .i64 (ls.length : Int)]) (by simp [results, Tryz.results85, go_sem, r0, r1]) rfl ?_
      refine ⟨?_, HF4.out.trans HF5.out⟩
      exact ⟨_, _, _, _, _, _, rfl, HR.out, Hw.Pl.set_same _ _ _, fun y v hy => by rw [Hw.Pl.set_other _ _ (by rintro rfl; rw [HP.out] at hy; cases hy)]; exact hy, fun A hA => List.mem_cons_of_mem _ hA, fun h => absurd HP.out h, Hw.Ext.one _ _⟩

set_option maxRecDepth 20000 in
set_option maxHeartbeats 3200000 in
theorem apart_anyF (w : World) (base d bm L M pm qb : Nat) (lv iv : Value) (said : List Hw.Rl) (ls : List Hw.Ln) (P : Hw.Pl) (K : List KM) (Q ex : List Hw.Wd) (T : Nat) (x y : Hw.Wd) (hL3 : L ≤ 3) (hM6 : M ≤ 6) (hx : Hw.isWord L M x = true) (hy : Hw.isWord L M y = true) (hD : DM w base d bm L M pm qb lv iv said ls P K Q) (hI : Hw.DI L M said ls P (kes K) Q ex T) :
    Calls Tryz.prog 56 #[.pointer (some ⟨d, 0, none⟩), .string ⟨x.toArray⟩, .string ⟨y.toArray⟩] w fun e w' => ApP w w' base d bm L M pm qb iv said P K Q ex T ls x y e ∧ Fr w w' := by
  have HD := hide hD
  have HI := hide hI
  clear hD hI
  have hfld := field0
  go_enter Tryz.func56, Tryz.ntmps56
  go_wp2_with fail
  refine (at_anyF _ base d bm L M pm qb lv iv said ls P K Q ex T x hL3 hM6 hx HD.out HI.out).mono ?_
  rintro e w1 ⟨⟨k1, l1, lv1, ls1, P1, K1, rfl, hs1, hp1, hm1, hk1, _, he1⟩, hf1⟩
  have HF1 := hide hf1
  clear hf1
  have H1 := hide (And.intro hs1 (And.intro hp1 (And.intro hm1 (And.intro hk1 he1))))
  clear hs1 hp1 hm1 hk1 he1
  go_wp2_with fail
  refine (at_anyF _ base d bm L M pm qb _ iv said _ _ _ Q ex T y hL3 hM6 hy H1.out.1.dm H1.out.1.di).mono ?_
  rintro e w2 ⟨⟨k2, l2, lv2, ls2, P2, K2, rfl, hs2, hp2, hm2, hk2, _, he2⟩, hf2⟩
  have HF2 := hide (HF1.out.trans hf2)
  clear hf2
  have H2 := hide (And.intro hs2 (And.intro hp2 (And.intro hm2 (And.intro hk2 he2))))
  clear hs2 hp2 hm2 hk2 he2
  have HE : Hid (DS w w2 base d bm L M pm qb lv2 iv said P ls2 P2 K2 Q ex T ∧ P2 x = some (k1, l1) ∧ P2 y = some (k2, l2) ∧ (∀ y v, P y = some v → P2 y = some v) ∧ (∀ A, A ∈ K → A ∈ K2) ∧ Hw.Ext ls ls2 2) :=
    ⟨H1.out.1.trans H2.out.1, H2.out.2.2.1 _ _ H1.out.2.1, H2.out.2.1, fun z v hz => H2.out.2.2.1 _ _ (H1.out.2.2.1 _ _ hz), fun A hA => H2.out.2.2.2.1 _ (H1.out.2.2.2.1 _ hA), H1.out.2.2.2.2.trans H2.out.2.2.2.2⟩
  by_cases hk : k1 = k2
  · subst hk
    have hrn := kind_same w2 k1
    go_wp2
    go_ret
    refine ⟨?_, HF2.out⟩
    exact ⟨false, k1, l1, k1, l2, lv2, ls2, P2, K2, by simp, by simp, HE.out⟩
  · have hrn := kind_neq HE.out.1.dm HE.out.1.di HE.out.2.1 HE.out.2.2.1 hk
    go_wp2
    go_ret
    refine ⟨?_, HF2.out⟩
    exact ⟨true, k1, l1, k2, l2, lv2, ls2, P2, K2, by simp [hk], by simp [hk], HE.out⟩

end Dr
end Go.Proofs.YtfiebibpgbadlaaGreat
