import Derived.Test.YtfiebibpgbadlaaGreatDo
namespace Go.Proofs.YtfiebibpgbadlaaGreat
open Go.RowKit
set_option linter.unusedVariables false
set_option linter.unusedSimpArgs false
namespace Dr

set_option maxRecDepth 20000 in
set_option maxHeartbeats 3200000 in
theorem lessen_any (w : World) (L M k : Nat) (rv : Value) (a m : Hw.Wd) (hL1 : 1 ≤ L) (hL3 : L ≤ 3) (ha : Hw.isWord L M a = true) (hm : Hw.isWord L M m = true) (hk : w.heap[k]? = some (.cells #[rv, .string ⟨m.toArray⟩] 153 (0, 0))) :
    Calls Tryz.prog 89 #[.pointer (some ⟨k, 0, none⟩), .string ⟨a.toArray⟩] w fun e w' => e = .returned (.string ⟨(Hw.lost L a m).toArray⟩) ∧ Kept [k] w w' ∧ w'.heap[k]? = some (.cells #[rv, .string ⟨(Hw.lesser L a m).toArray⟩] 153 (0, 0)) := by
  have c1 : w.cell? ⟨k, 1, none⟩ = some (.string ⟨m.toArray⟩) := cellAt hk rfl
  have HK := hide hk
  have hor : orI (Lib.compareInt (⟨a.toArray⟩ : ByteArray).size (⟨m.toArray⟩ : ByteArray).size) (Lib.compareBytes (⟨a.toArray⟩ : ByteArray).data.toList (⟨m.toArray⟩ : ByteArray).data.toList) = if Hw.fold L a < Hw.fold L m then -1 else if Hw.fold L m < Hw.fold L a then 1 else 0 := by
    have := Hw.orInt L hL1 hL3 ((Hw.isWord_iff _ _ _).1 ha).1 ((Hw.isWord_iff _ _ _).1 hm).1
    simpa [orI, ByteArray.size] using this
  have HOR := hide hor
  clear hk hor
  go_enter Tryz.func89, Tryz.ntmps89
  go_wp2_with fail
  refine (compare_any _ _ _).mono ?_
  rintro e w1 ⟨rfl, o, rfl⟩
  rw [HOR.out]
  have HB := hide (below_alloc w o)
  have hk1 := (HB.out.block _ (lt_of_block HK.out)).trans HK.out
  have HK1 := hide hk1
  have c2 : (w.alloc o).cell? ⟨k, 1, none⟩ = some (.string ⟨m.toArray⟩) := cellAt hk1 rfl
  have f2 := frozen_of_row (w.alloc o) k 1 _ _ hk1
  clear hk1 c1
  by_cases h : Hw.fold L a < Hw.fold L m
  · rw [if_pos h]
    generalize w.alloc o = w1 at *
    go_wp2
    go_ret
    unfold Hw.lost Hw.lesser
    rw [if_pos h, if_pos h]
    refine ⟨rfl, (Kept.of_below_size HB.out).trans ((Kept.refl [k] w1).setCell (Or.inl (by simp)) _), ?_⟩
    rw [heap_setCell_same _ _ 1 _ _ _ HK1.out]; rfl
  · rw [if_neg h]
    have hb : decide ((if Hw.fold L m < Hw.fold L a then (1 : Int) else 0) < 0) = false := by split <;> simp
    generalize (if Hw.fold L m < Hw.fold L a then (1 : Int) else 0) = z at *
    generalize w.alloc o = w1 at *
    go_wp2
    go_ret
    unfold Hw.lost Hw.lesser
    rw [if_neg h, if_neg h]
    exact ⟨rfl, Kept.of_below_size HB.out, HK1.out⟩

/-- a block of places. -/
def HasTy (w : World) (B : Nat) : Prop := ∃ c, w.heap[B]? = some (.cells c 150 (0, 0))
theorem HasTy.new (w : World) (c : Array Value) {B : Nat} (h : B = w.heap.size) : HasTy (w.alloc (.cells c 150)) B := by
  subst h; exact ⟨c, heap_alloc_new _ _⟩
theorem HasTy.alloc {w : World} {B : Nat} (h : HasTy w B) (o : Obj) : HasTy (w.alloc o) B := by
  obtain ⟨c, hc⟩ := h
  exact ⟨c, (Below.heap_alloc _ _ _ (lt_of_block hc)).trans hc⟩
theorem HasTy.drew {w : World} {B : Nat} (h : HasTy w B) : HasTy w.drew B := h
theorem HasTy.set {w : World} {B : Nat} (h : HasTy w B) (b j : Nat) (u : Value) : HasTy (w.setCell ⟨b, j, none⟩ u) B := by
  obtain ⟨c, hc⟩ := h
  by_cases e : B = b
  · subst e; exact ⟨_, heap_setCell_same _ _ j _ _ _ hc⟩
  · exact ⟨c, (Below.heap_setCell _ _ _ _ (by simpa using e)).trans hc⟩
theorem HasTy.below {w w' : World} {B : Nat} (h : HasTy w B) (hb : Below w.heap.size w w') : HasTy w' B := by
  obtain ⟨c, hc⟩ := h
  exact ⟨c, (hb.block _ (lt_of_block hc)).trans hc⟩
theorem HasTy.kept {w w' : World} {B : Nat} {S : List Nat} (h : HasTy w B) (hK : Kept S w w') (hn : B ∉ S) : HasTy w' B := by
  obtain ⟨c, hc⟩ := h
  exact ⟨c, hK.at hc hn⟩
theorem HasTy.frozen {w : World} {B : Nat} (h : HasTy w B) (j : Nat) : w.frozen? ⟨B, j, none⟩ = false := by
  obtain ⟨c, hc⟩ := h
  exact frozen_of_row w B j _ _ hc
theorem alloc_far {w : World} {p : Addr} {v : Value} {o : Obj} (h : w.cell? p = some v) : (w.alloc o).cell? p = some v := ((Kept.refl [] w).alloc o).cell h (by simp)
theorem set_far {w : World} {p q : Addr} {u v : Value} (hne : p.block ≠ q.block) (h : w.cell? p = some v) : (w.setCell q u).cell? p = some v := by
  rw [World.cell?_of_block (w := w) (a := p) (Below.heap_setCell _ _ _ _ hne)]; exact h

/-- a place in a box. -/
structure Bx (w : World) (base B k l : Nat) : Prop where
  low : base ≤ B
  ty : HasTy w B
  c0 : w.cell? ⟨B, 0, none⟩ = some (.pointer (some ⟨k, 0, none⟩))
  c1 : w.cell? ⟨B, 1, none⟩ = some (.int .i64 (l : Int))
theorem Bx.kept {w w' : World} {base B k l : Nat} {S : List Nat} (h : Bx w base B k l) (hK : Kept S w w') (hn : B ∉ S) : Bx w' base B k l :=
  ⟨h.low, h.ty.kept hK hn, hK.cell h.c0 hn, hK.cell h.c1 hn⟩

/-- an empty box. -/
structure ZB (w : World) (B : Nat) : Prop where
  ty : HasTy w B
  c0 : w.cell? ⟨B, 0, none⟩ = some (.pointer none)
  c1 : w.cell? ⟨B, 1, none⟩ = some (.int .i64 0)
  f0 : w.frozen? ⟨B, 0, none⟩ = false
  f1 : w.frozen? ⟨B, 1, none⟩ = false
  lt : B < w.heap.size
theorem ZB.of {w : World} {B : Nat} (h : w.heap[B]? = some (.cells #[.pointer none, .int .i64 0] 150 (0, 0))) : ZB w B :=
  ⟨⟨_, h⟩, cellAt h rfl, cellAt h rfl, frozen_of_row w B 0 _ _ h, frozen_of_row w B 1 _ _ h, lt_of_block h⟩
theorem ZB.below {w w' : World} {B : Nat} (h : ZB w B) (hb : Below w.heap.size w w') : ZB w' B :=
  ⟨h.ty.below hb, (hb.cell (p := ⟨B, 0, none⟩) h.lt).trans h.c0, (hb.cell (p := ⟨B, 1, none⟩) h.lt).trans h.c1, (hb.frozen (p := ⟨B, 0, none⟩) h.lt).trans h.f0, (hb.frozen (p := ⟨B, 1, none⟩) h.lt).trans h.f1, Nat.lt_of_lt_of_le h.lt hb.size⟩
/-- What a call of at leaves, while boxes are laid. -/
def AtC (w X w' : World) (k l : Nat) (e : Ending) : Prop := e = .returned (.agg #[.pointer (some ⟨k, 0, none⟩), .int .i64 (l : Int)]) ∧ Below w.heap.size w w' ∧ (∀ B, ZB X B → ZB w' B) ∧ X.heap.size ≤ w'.heap.size
theorem atc0 {w : World} {base d bm L M pm qb : Nat} {lv iv : Value} {said : List Hw.Rl} {ls : List Hw.Ln} {P : Hw.Pl} {K : List KM} {Q : List Hw.Wd} {x : Hw.Wd} {k l n : Nat} (hD : DMn w base d bm L M pm qb lv iv said ls P K Q n) (hx6 : x.length ≤ 6) (hPx : P x = some (k, l)) (X : World) (hX : Below w.heap.size w X) :
    Calls Tryz.prog 85 #[.pointer (some ⟨d, 0, none⟩), .string ⟨x.toArray⟩] X fun e w' => AtC w X w' k l e := by
  refine (at_old X base d bm L M pm qb lv iv said ls P K Q x k l n hx6 (hD.below hX) hPx).mono ?_
  rintro e w' ⟨rfl, hb⟩
  exact ⟨rfl, below_trans hX hb, fun B hB => hB.below hb, hb.size⟩
theorem atc1 {w : World} {base d bm L M pm qb : Nat} {lv iv : Value} {said : List Hw.Rl} {ls : List Hw.Ln} {P : Hw.Pl} {K : List KM} {Q : List Hw.Wd} {x : Hw.Wd} {k l n : Nat} (hD : DMn w base d bm L M pm qb lv iv said ls P K Q n) (hx6 : x.length ≤ 6) (hPx : P x = some (k, l)) (X : World) (hX : Below w.heap.size w X) :
    Calls Tryz.prog 85 #[.pointer (some ⟨d, 0, none⟩), .string ⟨x.toArray⟩] (X.alloc (.cells #[.pointer none, .int .i64 0] 150)) fun e w' => AtC w X w' k l e ∧ ZB w' X.heap.size := by
  refine (atc0 hD hx6 hPx _ (below_trans hX (below_alloc X (.cells #[.pointer none, .int .i64 0] 150)))).mono ?_
  rintro e w' ⟨rfl, hb, hz, hs⟩
  refine ⟨⟨rfl, hb, fun B hB => hz B (hB.below (below_alloc _ _)), ?_⟩, hz _ (ZB.of (heap_alloc_new _ _))⟩
  simp at hs; omega
theorem atc2 {w : World} {base d bm L M pm qb : Nat} {lv iv : Value} {said : List Hw.Rl} {ls : List Hw.Ln} {P : Hw.Pl} {K : List KM} {Q : List Hw.Wd} {x : Hw.Wd} {k l n : Nat} (hD : DMn w base d bm L M pm qb lv iv said ls P K Q n) (hx6 : x.length ≤ 6) (hPx : P x = some (k, l)) (X : World) (hX : Below w.heap.size w X) :
    Calls Tryz.prog 85 #[.pointer (some ⟨d, 0, none⟩), .string ⟨x.toArray⟩] ((X.alloc (.cells #[.pointer none, .int .i64 0] 150)).alloc (.cells #[.pointer none, .int .i64 0] 150)) fun e w' => AtC w X w' k l e ∧ ZB w' X.heap.size ∧ ZB w' (X.heap.size + 1) := by
  refine (atc1 hD hx6 hPx _ (below_trans hX (below_alloc X (.cells #[.pointer none, .int .i64 0] 150)))).mono ?_
  rintro e w' ⟨⟨rfl, hb, hz, hs⟩, hz1⟩
  refine ⟨⟨rfl, hb, fun B hB => hz B (hB.below (below_alloc _ _)), ?_⟩, hz _ (ZB.of (heap_alloc_new _ _)), by simpa using hz1⟩
  simp at hs; omega

theorem drew_far {w : World} {p : Addr} {v : Value} (h : w.cell? p = some v) : w.drew.cell? p = some v := h
theorem atc1d {w : World} {base d bm L M pm qb : Nat} {lv iv : Value} {said : List Hw.Rl} {ls : List Hw.Ln} {P : Hw.Pl} {K : List KM} {Q : List Hw.Wd} {x : Hw.Wd} {k l n : Nat} (hD : DMn w base d bm L M pm qb lv iv said ls P K Q n) (hx6 : x.length ≤ 6) (hPx : P x = some (k, l)) :
    Calls Tryz.prog 85 #[.pointer (some ⟨d, 0, none⟩), .string ⟨x.toArray⟩] (w.alloc (.cells #[.pointer none, .int .i64 0] 150)).drew fun e w' => AtC w w w' k l e ∧ ZB w' w.heap.size := by
  refine (atc0 hD hx6 hPx (w.alloc (.cells #[.pointer none, .int .i64 0] 150)).drew (below_trans (below_alloc _ _) (below_same (drew_same _)))).mono ?_
  rintro e w' ⟨rfl, hb, hz, hs⟩
  refine ⟨⟨rfl, hb, fun B hB => hz B (hB.below (below_trans (below_alloc _ _) (below_same (drew_same _)))), hb.size⟩, hz _ (ZB.of (heap_alloc_new w _))⟩
theorem atc2d {w : World} {base d bm L M pm qb : Nat} {lv iv : Value} {said : List Hw.Rl} {ls : List Hw.Ln} {P : Hw.Pl} {K : List KM} {Q : List Hw.Wd} {x : Hw.Wd} {k l n : Nat} (hD : DMn w base d bm L M pm qb lv iv said ls P K Q n) (hx6 : x.length ≤ 6) (hPx : P x = some (k, l)) :
    Calls Tryz.prog 85 #[.pointer (some ⟨d, 0, none⟩), .string ⟨x.toArray⟩] ((w.alloc (.cells #[.pointer none, .int .i64 0] 150)).alloc (.cells #[.pointer none, .int .i64 0] 150)).drew fun e w' => AtC w w w' k l e ∧ ZB w' w.heap.size ∧ ZB w' (w.heap.size + 1) := by
  have hb0 := below_trans (below_trans (below_alloc w (.cells #[.pointer none, .int .i64 0] 150)) (below_alloc _ (.cells #[.pointer none, .int .i64 0] 150))) (below_same (drew_same _))
  refine (atc0 hD hx6 hPx _ hb0).mono ?_
  rintro e w' ⟨rfl, hb, hz, hs⟩
  refine ⟨⟨rfl, hb, fun B hB => hz B (hB.below hb0), hb.size⟩, hz _ (ZB.of ?_), hz _ (ZB.of ?_)⟩
  · exact (Below.heap_alloc _ _ _ (by simp)).trans (heap_alloc_new w _)
  · exact heap_alloc2_new w _ _

/-- both places are found. -/
def JA (w wx : World) (base d bm L M pm qb : Nat) (lv iv : Value) (said : List Hw.Rl) (ls : List Hw.Ln) (P : Hw.Pl) (K : List KM) (Q : List Hw.Wd) (n B1 B2 k1 l1 k2 l2 : Nat) : Prop :=
  DMn wx base d bm L M pm qb lv iv said ls P K Q n ∧ Below base w wx ∧ Bx wx base B1 k1 l1 ∧ Bx wx base B2 k2 l2
theorem ja_of {w wx : World} {base d bm L M pm qb : Nat} {lv iv : Value} {said : List Hw.Rl} {ls : List Hw.Ln} {P : Hw.Pl} {K : List KM} {Q : List Hw.Wd} {n B1 B2 k1 l1 k2 l2 : Nat} (h : DMn w base d bm L M pm qb lv iv said ls P K Q n) (hb : Below w.heap.size w wx)
    (h1 : w.heap.size ≤ B1) (h2 : w.heap.size ≤ B2) (t1 : HasTy wx B1) (t2 : HasTy wx B2) (a0 : wx.cell? ⟨B1, 0, none⟩ = some (.pointer (some ⟨k1, 0, none⟩))) (a1 : wx.cell? ⟨B1, 1, none⟩ = some (.int .i64 (l1 : Int))) (b0 : wx.cell? ⟨B2, 0, none⟩ = some (.pointer (some ⟨k2, 0, none⟩))) (b1 : wx.cell? ⟨B2, 1, none⟩ = some (.int .i64 (l2 : Int))) :
    JA w wx base d bm L M pm qb lv iv said ls P K Q n B1 B2 k1 l1 k2 l2 :=
  ⟨h.below hb, low_of h.size hb, ⟨Nat.le_trans h.size h1, t1, a0, a1⟩, ⟨Nat.le_trans h.size h2, t2, b0, b1⟩⟩
theorem jf4a {w w2 : World} {base d bm L M pm qb : Nat} {lv iv : Value} {said : List Hw.Rl} {ls : List Hw.Ln} {P : Hw.Pl} {K : List KM} {Q : List Hw.Wd} {n k1 l1 k2 l2 : Nat} (h : DMn w base d bm L M pm qb lv iv said ls P K Q n) (hb : Below w.heap.size w w2) : Hid (JA w ((w2.alloc (.cells #[.pointer (some ⟨k1, 0, none⟩), .int .i64 (l1 : Int)] 150)).alloc (.cells #[.pointer (some ⟨k2, 0, none⟩), .int .i64 (l2 : Int)] 150)) base d bm L M pm qb lv iv said ls P K Q n w2.heap.size (w2.heap.size + 1) k1 l1 k2 l2) := by
  have hz := hb.size
  have e1 : ((w2.alloc (.cells #[.pointer (some ⟨k1, 0, none⟩), .int .i64 (l1 : Int)] 150)).alloc (.cells #[.pointer (some ⟨k2, 0, none⟩), .int .i64 (l2 : Int)] 150)).heap[w2.heap.size]? = some (.cells #[.pointer (some ⟨k1, 0, none⟩), .int .i64 (l1 : Int)] 150) := (Below.heap_alloc _ _ _ (by simp)).trans (heap_alloc_new _ _)
  have e2 : ((w2.alloc (.cells #[.pointer (some ⟨k1, 0, none⟩), .int .i64 (l1 : Int)] 150)).alloc (.cells #[.pointer (some ⟨k2, 0, none⟩), .int .i64 (l2 : Int)] 150)).heap[w2.heap.size + 1]? = some (.cells #[.pointer (some ⟨k2, 0, none⟩), .int .i64 (l2 : Int)] 150) := heap_alloc2_new _ _ _
  exact ja_of h (below_trans hb (below_trans (below_alloc _ _) (below_alloc _ _))) hz (by omega) ⟨_, e1⟩ ⟨_, e2⟩ (cellAt e1 rfl) (cellAt e1 rfl) (cellAt e2 rfl) (cellAt e2 rfl)
theorem jf4b {w w2 : World} {base d bm L M pm qb : Nat} {lv iv : Value} {said : List Hw.Rl} {ls : List Hw.Ln} {P : Hw.Pl} {K : List KM} {Q : List Hw.Wd} {n k1 l1 k2 l2 : Nat} (h : DMn w base d bm L M pm qb lv iv said ls P K Q n) (hb : Below w.heap.size w w2) : Hid (JA w ((w2.alloc (.cells #[.pointer (some ⟨k2, 0, none⟩), .int .i64 (l2 : Int)] 150)).alloc (.cells #[.pointer (some ⟨k1, 0, none⟩), .int .i64 (l1 : Int)] 150)) base d bm L M pm qb lv iv said ls P K Q n (w2.heap.size + 1) w2.heap.size k1 l1 k2 l2) := by
  have hz := hb.size
  have e1 : ((w2.alloc (.cells #[.pointer (some ⟨k2, 0, none⟩), .int .i64 (l2 : Int)] 150)).alloc (.cells #[.pointer (some ⟨k1, 0, none⟩), .int .i64 (l1 : Int)] 150)).heap[w2.heap.size]? = some (.cells #[.pointer (some ⟨k2, 0, none⟩), .int .i64 (l2 : Int)] 150) := (Below.heap_alloc _ _ _ (by simp)).trans (heap_alloc_new _ _)
  have e2 : ((w2.alloc (.cells #[.pointer (some ⟨k2, 0, none⟩), .int .i64 (l2 : Int)] 150)).alloc (.cells #[.pointer (some ⟨k1, 0, none⟩), .int .i64 (l1 : Int)] 150)).heap[w2.heap.size + 1]? = some (.cells #[.pointer (some ⟨k1, 0, none⟩), .int .i64 (l1 : Int)] 150) := heap_alloc2_new _ _ _
  exact ja_of h (below_trans hb (below_trans (below_alloc _ _) (below_alloc _ _))) (by omega) hz ⟨_, e2⟩ ⟨_, e1⟩ (cellAt e2 rfl) (cellAt e2 rfl) (cellAt e1 rfl) (cellAt e1 rfl)
/-- a box is filled. -/
theorem ZB.fill {w : World} {B k l : Nat} (h : ZB w B) : HasTy ((w.setCell ⟨B, 0, none⟩ (.pointer (some ⟨k, 0, none⟩))).setCell ⟨B, 1, none⟩ (.int .i64 (l : Int))) B ∧ ((w.setCell ⟨B, 0, none⟩ (.pointer (some ⟨k, 0, none⟩))).setCell ⟨B, 1, none⟩ (.int .i64 (l : Int))).cell? ⟨B, 0, none⟩ = some (.pointer (some ⟨k, 0, none⟩)) ∧ ((w.setCell ⟨B, 0, none⟩ (.pointer (some ⟨k, 0, none⟩))).setCell ⟨B, 1, none⟩ (.int .i64 (l : Int))).cell? ⟨B, 1, none⟩ = some (.int .i64 (l : Int)) := by
  refine ⟨(h.ty.set _ _ _).set _ _ _, ?_⟩
  exact ⟨(World.cell?_setCell_other _ _ _ _ (by simp)).trans (World.cell?_setCell_same _ _ _ h.c0), World.cell?_setCell_same _ _ _ ((World.cell?_setCell_other _ _ _ _ (by simp)).trans h.c1)⟩
theorem jf2 {w w2 : World} {base d bm L M pm qb : Nat} {lv iv : Value} {said : List Hw.Rl} {ls : List Hw.Ln} {P : Hw.Pl} {K : List KM} {Q : List Hw.Wd} {n k1 l1 k2 l2 X : Nat} (h : DMn w base d bm L M pm qb lv iv said ls P K Q n) (hb : Below w.heap.size w w2) (hX : ZB w2 X) (hl : w.heap.size ≤ X) : Hid (JA w (((w2.setCell ⟨X, 0, none⟩ (.pointer (some ⟨k1, 0, none⟩))).setCell ⟨X, 1, none⟩ (.int .i64 (l1 : Int))).alloc (.cells #[.pointer (some ⟨k2, 0, none⟩), .int .i64 (l2 : Int)] 150)) base d bm L M pm qb lv iv said ls P K Q n X w2.heap.size k1 l1 k2 l2) := by
  have hz := hb.size
  obtain ⟨f1, f2, f3⟩ := hX.fill (k := k1) (l := l1)
  have hb2 := (hb.setCell (p := ⟨X, 0, none⟩) hl (.pointer (some ⟨k1, 0, none⟩))).setCell (p := ⟨X, 1, none⟩) hl (.int .i64 (l1 : Int))
  have e2 : (((w2.setCell ⟨X, 0, none⟩ (.pointer (some ⟨k1, 0, none⟩))).setCell ⟨X, 1, none⟩ (.int .i64 (l1 : Int))).alloc (.cells #[.pointer (some ⟨k2, 0, none⟩), .int .i64 (l2 : Int)] 150)).heap[w2.heap.size]? = some (.cells #[.pointer (some ⟨k2, 0, none⟩), .int .i64 (l2 : Int)] 150) := by
    have := heap_alloc_new ((w2.setCell ⟨X, 0, none⟩ (.pointer (some ⟨k1, 0, none⟩))).setCell ⟨X, 1, none⟩ (.int .i64 (l1 : Int))) (.cells #[.pointer (some ⟨k2, 0, none⟩), .int .i64 (l2 : Int)] 150)
    simpa using this
  exact ja_of h (hb2.alloc (by simpa using hz) _) hl hz (f1.alloc _) ⟨_, e2⟩ (alloc_far f2) (alloc_far f3) (cellAt e2 rfl) (cellAt e2 rfl)
theorem jf3 {w w2 : World} {base d bm L M pm qb : Nat} {lv iv : Value} {said : List Hw.Rl} {ls : List Hw.Ln} {P : Hw.Pl} {K : List KM} {Q : List Hw.Wd} {n k1 l1 k2 l2 X : Nat} (h : DMn w base d bm L M pm qb lv iv said ls P K Q n) (hb : Below w.heap.size w w2) (hX : ZB w2 X) (hl : w.heap.size ≤ X) : Hid (JA w (((w2.setCell ⟨X, 0, none⟩ (.pointer (some ⟨k2, 0, none⟩))).setCell ⟨X, 1, none⟩ (.int .i64 (l2 : Int))).alloc (.cells #[.pointer (some ⟨k1, 0, none⟩), .int .i64 (l1 : Int)] 150)) base d bm L M pm qb lv iv said ls P K Q n w2.heap.size X k1 l1 k2 l2) := by
  have hz := hb.size
  obtain ⟨f1, f2, f3⟩ := hX.fill (k := k2) (l := l2)
  have hb2 := (hb.setCell (p := ⟨X, 0, none⟩) hl (.pointer (some ⟨k2, 0, none⟩))).setCell (p := ⟨X, 1, none⟩) hl (.int .i64 (l2 : Int))
  have e2 : (((w2.setCell ⟨X, 0, none⟩ (.pointer (some ⟨k2, 0, none⟩))).setCell ⟨X, 1, none⟩ (.int .i64 (l2 : Int))).alloc (.cells #[.pointer (some ⟨k1, 0, none⟩), .int .i64 (l1 : Int)] 150)).heap[w2.heap.size]? = some (.cells #[.pointer (some ⟨k1, 0, none⟩), .int .i64 (l1 : Int)] 150) := by
    have := heap_alloc_new ((w2.setCell ⟨X, 0, none⟩ (.pointer (some ⟨k2, 0, none⟩))).setCell ⟨X, 1, none⟩ (.int .i64 (l2 : Int))) (.cells #[.pointer (some ⟨k1, 0, none⟩), .int .i64 (l1 : Int)] 150)
    simpa using this
  exact ja_of h (hb2.alloc (by simpa using hz) _) hz hl ⟨_, e2⟩ (f1.alloc _) (cellAt e2 rfl) (cellAt e2 rfl) (alloc_far f2) (alloc_far f3)
theorem ZB.other {w : World} {B b j : Nat} {u : Value} (h : ZB w B) (hne : b ≠ B) : ZB (w.setCell ⟨b, j, none⟩ u) B :=
  ⟨h.ty.set _ _ _, (World.cell?_setCell_other _ _ _ _ (by simp [hne])).trans h.c0, (World.cell?_setCell_other _ _ _ _ (by simp [hne])).trans h.c1, (h.ty.set _ _ _).frozen _, (h.ty.set _ _ _).frozen _, by simpa using h.lt⟩
theorem jf1 {w w2 : World} {base d bm L M pm qb : Nat} {lv iv : Value} {said : List Hw.Rl} {ls : List Hw.Ln} {P : Hw.Pl} {K : List KM} {Q : List Hw.Wd} {n k1 l1 k2 l2 X Y : Nat} (h : DMn w base d bm L M pm qb lv iv said ls P K Q n) (hb : Below w.heap.size w w2) (hX : ZB w2 X) (hY : ZB w2 Y) (hl : w.heap.size ≤ X) (hl2 : w.heap.size ≤ Y) (hne : X ≠ Y) : Hid (JA w ((((w2.setCell ⟨X, 0, none⟩ (.pointer (some ⟨k1, 0, none⟩))).setCell ⟨X, 1, none⟩ (.int .i64 (l1 : Int))).setCell ⟨Y, 0, none⟩ (.pointer (some ⟨k2, 0, none⟩))).setCell ⟨Y, 1, none⟩ (.int .i64 (l2 : Int))) base d bm L M pm qb lv iv said ls P K Q n X Y k1 l1 k2 l2) := by
  obtain ⟨f1, f2, f3⟩ := hX.fill (k := k1) (l := l1)
  obtain ⟨g1, g2, g3⟩ := ((hY.other (b := X) (j := 0) (u := (.pointer (some ⟨k1, 0, none⟩))) hne).other (b := X) (j := 1) (u := (.int .i64 (l1 : Int))) hne).fill (k := k2) (l := l2)
  have hb2 := (((hb.setCell (p := ⟨X, 0, none⟩) hl (.pointer (some ⟨k1, 0, none⟩))).setCell (p := ⟨X, 1, none⟩) hl (.int .i64 (l1 : Int))).setCell (p := ⟨Y, 0, none⟩) hl2 (.pointer (some ⟨k2, 0, none⟩))).setCell (p := ⟨Y, 1, none⟩) hl2 (.int .i64 (l2 : Int))
  exact ja_of h hb2 hl hl2 ((f1.set _ _ _).set _ _ _) g1 (set_far hne (set_far hne f2)) (set_far hne (set_far hne f3)) g2 g3
theorem ne_up (n : Nat) : n ≠ n + 1 := by omega
theorem up_ne (n : Nat) : n + 1 ≠ n := by omega
theorem le_up {a b : Nat} (h : a ≤ b) : a ≤ b + 1 := by omega
end Dr
end Go.Proofs.YtfiebibpgbadlaaGreat
namespace Go.Proofs.YtfiebibpgbadlaaGreat
open Go.RowKit
set_option linter.unusedVariables false
set_option linter.unusedSimpArgs false
namespace Dr

/-- What join is told. -/
structure JIn (L : Nat) (ls : List Hw.Ln) (P : Hw.Pl) (K : List KM) (c k1 l1 k2 l2 : Nat) (x y : Hw.Wd) : Prop where
  line : Hw.Says ls c x y
  px : P x = some (k1, l1)
  py : P y = some (k2, l2)
  ne : k1 ≠ k2
  x6 : x.length ≤ 6
  y6 : y.length ≤ 6

/-- the smaller kind comes first. -/
structure JB (w wx : World) (base d bm L M pm qb : Nat) (lv iv : Value) (said : List Hw.Rl) (ls ls0 : List Hw.Ln) (P : Hw.Pl) (K : List KM) (Q : List Hw.Wd) (n B1 B2 c lA lB : Nat) (A B : KM) (a b x y : Hw.Wd) : Prop where
  dm : DMn wx base d bm L M pm qb lv iv said ls P K Q n
  low : Below base w wx
  b1 : Bx wx base B1 A.k lA
  b2 : Bx wx base B2 B.k lB
  ext : Hw.Ext ls0 ls 1
  line : Hw.Says ls c a b
  mA : A ∈ K
  mB : B ∈ K
  pa : P a = some (A.k, lA)
  pb : P b = some (B.k, lB)
  ne : A.k ≠ B.k
  le : A.ws.length ≤ B.ws.length
  xy : (a = x ∧ b = y) ∨ (a = y ∧ b = x)

theorem KAt.lens {w : World} {base : Nat} {A : KM} (h : KAt w base A) : ∃ sa cap, A.rv = .slice sa A.ws.length cap ∧ w.cell? ⟨A.k, 0, none⟩ = some (.slice sa A.ws.length cap) ∧ w.cell? ⟨A.k, 1, none⟩ = some (.string ⟨A.m.toArray⟩) := by
  obtain ⟨sa, cap, e⟩ := h.own.shape
  exact ⟨sa, cap, e, by rw [← e]; exact cellAt h.blk rfl, cellAt h.blk rfl⟩

theorem DMn.box_free {w : World} {base d bm L M pm qb n : Nat} {lv iv : Value} {said : List Hw.Rl} {ls : List Hw.Ln} {P : Hw.Pl} {K : List KM} {Q : List Hw.Wd} (h : DMn w base d bm L M pm qb lv iv said ls P K Q n) {B : Nat} (hB : HasTy w B) : B ∉ d :: bm :: lv.ownBlock.toList := by
  obtain ⟨c, e⟩ := hB
  obtain ⟨FB, hFB, _⟩ := h.sh.bk
  obtain ⟨es2, cl2, hbm1⟩ := hFB.obj
  intro hm
  simp only [List.mem_cons] at hm
  rcases hm with rfl | rfl | hm
  · rw [h.sh.blk] at e; simp [dblock] at e
  · rw [hbm1] at e; cases e
  · obtain ⟨_, cur, hc⟩ := LinesAt.type h.sh.own (by simpa using hm)
    rw [hc] at e; simp at e
/-- the two boxes change their places. -/
theorem jb_swap {w wx wq w3 W : World} {base d bm L M pm qb : Nat} {lv lv3 iv : Value} {said : List Hw.Rl} {ls ls3 : List Hw.Ln} {P : Hw.Pl} {K : List KM} {Q : List Hw.Wd} {n B1 B2 c3 l1 l2 : Nat} {A B : KM} {x y : Hw.Wd} (hJ : JA w wx base d bm L M pm qb lv iv said ls P K Q n B1 B2 A.k l1 B.k l2) (hA : A ∈ K) (hB : B ∈ K)
    (hpx : P x = some (A.k, l1)) (hpy : P y = some (B.k, l2)) (hne : A.k ≠ B.k) (hlt : B.ws.length < A.ws.length) (hq : SameW wx wq) (hs : ShS wq w3 base d bm L M pm qb lv lv3 said ls ls3 1) (hy : Hw.Says ls3 c3 y x)
    (hW : SameW ((((w3.setCell ⟨B1, 0, none⟩ (.pointer (some ⟨B.k, 0, none⟩))).setCell ⟨B1, 1, none⟩ (.int .i64 (l2 : Int))).setCell ⟨B2, 0, none⟩ (.pointer (some ⟨A.k, 0, none⟩))).setCell ⟨B2, 1, none⟩ (.int .i64 (l1 : Int))) W) :
    JB w W base d bm L M pm qb lv3 iv said ls3 ls P K Q n B1 B2 c3 l2 l1 B A y x x y := by
  obtain ⟨hD, hl, b1, b2⟩ := hJ
  have hD1 := hD.same hq
  obtain ⟨hD3, hl3⟩ := hD1.sheet hs
  have hne12 : B1 ≠ B2 := by
    rintro rfl
    have := b1.c0.symm.trans b2.c0
    simp [hne] at this
  have e1 : Bx wq base B1 A.k l1 := b1.kept (S := []) (hq.kept []) (by simp)
  have e2 : Bx wq base B2 B.k l2 := b2.kept (S := []) (hq.kept []) (by simp)
  have f1 := e1.kept hs.kept (hD1.box_free e1.ty)
  have f2 := e2.kept hs.kept (hD1.box_free e2.ty)
  have hK : Kept [B1, B2] w3 W := ((((((Kept.refl [B1, B2] w3).setCell (Or.inl (by simp)) _).setCell (Or.inl (by simp)) _).setCell (Or.inl (by simp)) _).setCell (Or.inl (by simp)) _)).trans (hW.kept _)
  obtain ⟨hDW, hlW⟩ := hD3.boxes hK (fun k hk => by
    simp at hk
    rcases hk with rfl | rfl
    · obtain ⟨c, hc⟩ := f1.ty; exact ⟨b1.low, _, _, hc⟩
    · obtain ⟨c, hc⟩ := f2.ty; exact ⟨b2.low, _, _, hc⟩)
  have t1 : HasTy W B1 := by
    have := (((f1.ty.set B1 0 (.pointer (some ⟨B.k, 0, none⟩))).set B1 1 (.int .i64 (l2 : Int))).set B2 0 (.pointer (some ⟨A.k, 0, none⟩))).set B2 1 (.int .i64 (l1 : Int))
    exact this.kept (S := []) (hW.kept []) (by simp)
  have t2 : HasTy W B2 := by
    have := (((f2.ty.set B1 0 (.pointer (some ⟨B.k, 0, none⟩))).set B1 1 (.int .i64 (l2 : Int))).set B2 0 (.pointer (some ⟨A.k, 0, none⟩))).set B2 1 (.int .i64 (l1 : Int))
    exact this.kept (S := []) (hW.kept []) (by simp)
  have cW : ∀ p v, ((((w3.setCell ⟨B1, 0, none⟩ (.pointer (some ⟨B.k, 0, none⟩))).setCell ⟨B1, 1, none⟩ (.int .i64 (l2 : Int))).setCell ⟨B2, 0, none⟩ (.pointer (some ⟨A.k, 0, none⟩))).setCell ⟨B2, 1, none⟩ (.int .i64 (l1 : Int))).cell? p = some v → W.cell? p = some v := fun p v h => (hW.kept []).cell h (by simp)
  refine ⟨hDW, (hl.trans (low_of hD.size (below_same hq))).trans (hl3.trans hlW), ⟨b1.low, t1, cW _ _ ?_, cW _ _ ?_⟩, ⟨b2.low, t2, cW _ _ ?_, cW _ _ ?_⟩, hs.ext, hy, hB, hA, hpy, hpx, hne.symm, by omega, .inr ⟨rfl, rfl⟩⟩
  · exact set_far hne12 (set_far hne12 ((World.cell?_setCell_other _ _ _ _ (by simp)).trans (World.cell?_setCell_same _ _ _ f1.c0)))
  · exact set_far hne12 (set_far hne12 (World.cell?_setCell_same _ _ _ ((World.cell?_setCell_other _ _ _ _ (by simp)).trans f1.c1)))
  · exact (World.cell?_setCell_other _ _ _ _ (by simp)).trans (World.cell?_setCell_same _ _ _ (set_far hne12.symm (set_far hne12.symm f2.c0)))
  · exact World.cell?_setCell_same _ _ _ ((World.cell?_setCell_other _ _ _ _ (by simp)).trans (set_far hne12.symm (set_far hne12.symm f2.c1)))

/-- some words have come to the other kind. -/
structure JL (w wr : World) (base d bm L M pm qb : Nat) (iv : Value) (said : List Hw.Rl) (ls2 : List Hw.Ln) (P : Hw.Pl) (K : List KM) (Q : List Hw.Wd) (n B1 B2 lA lB : Nat) (A B : KM) (rB : Hw.Wd) (j : Nat) (lv' : Value) (ls' : List Hw.Ln) (P' : Hw.Pl) : Prop where
  dm : DMn wr base d bm L M pm qb lv' iv said ls' P' K Q (n + j)
  low : Below base w wr
  b1 : Bx wr base B1 A.k lA
  b2 : Bx wr base B2 B.k lB
  ext : Hw.Ext ls2 ls' (3 * j)
  old : ∀ x, x ∉ A.ws.take j → P' x = P x
  new : ∀ x, x ∈ A.ws.take j → ∃ l, P' x = some (B.k, l) ∧ Hw.Says ls' l x rB

theorem jl_next {w wr wr2 w3 w4 : World} {base d bm L M pm qb n B1 B2 lA lB j c3 : Nat} {iv lv' lv3 : Value} {said : List Hw.Rl} {ls2 ls' ls3 : List Hw.Ln} {P P' : Hw.Pl} {K : List KM} {Q : List Hw.Wd} {A B : KM} {rB : Hw.Wd} {F : Lit → Option Value}
    (h : JL w wr base d bm L M pm qb iv said ls2 P K Q n B1 B2 lA lB A B rB j lv' ls' P') (hj : j < A.ws.length) (hnd : A.ws.Nodup) (hq : Below wr.heap.size wr wr2) (hs : ShS wr2 w3 base d bm L M pm qb lv' lv3 said ls' ls3 3) (hy : Hw.Says ls3 c3 A.ws[j] rB)
    (hF : ∀ s : Hw.Wd, F (.string s) = (P' s).map pv) (hm : MapIs w4 9 pm (n + j + 1) (setF F (.string A.ws[j]) (.agg #[.pointer (some ⟨B.k, 0, none⟩), .int .i64 (c3 : Int)]))) (hg : w3.grownBy w4 (some pm)) :
    JL w w4 base d bm L M pm qb iv said ls2 P K Q n B1 B2 lA lB A B rB (j + 1) lv3 ls3 (P'.set A.ws[j] (B.k, c3)) := by
  have hd2 := h.dm.below hq
  obtain ⟨hd3, hl3⟩ := hd2.sheet hs
  have e1 := (h.b1.kept (S := []) (Kept.of_below_size hq) (by simp)).kept hs.kept (hd2.box_free (h.b1.ty.below hq))
  have e2 := (h.b2.kept (S := []) (Kept.of_below_size hq) (by simp)).kept hs.kept (hd2.box_free (h.b2.ty.below hq))
  have hK : Kept [pm] w3 w4 := Kept.of_grown hg (by simp)
  obtain ⟨es3, cl3, hpm3⟩ := hd3.pl.obj
  have hpmc : ∀ i c t fr, w3.heap[i]? = some (.cells c t fr) → i ∉ [pm] := by
    intro i c t fr e hm
    simp at hm; subst hm
    rw [hpm3] at e; cases e
  have hrow : ∀ (v : Value) (ws : List Hw.Wd), StrsAt w3 base v ws → ∀ i, i ∈ [pm] → v.ownBlock ≠ some i := by
    intro v ws hv i hi e
    obtain ⟨_, cur, hc⟩ := hv.type e
    exact hpmc _ _ _ _ hc hi
  have htk : A.ws.take (j + 1) = A.ws.take j ++ [A.ws[j]] := List.take_succ_eq_append_getElem hj
  have hnot : A.ws[j] ∉ A.ws.take j := by
    intro hm
    rw [← List.take_append_drop (j + 1) A.ws, htk] at hnd
    exact (List.nodup_append.1 (List.nodup_append.1 hnd).1).2.2 _ hm _ (by simp) rfl
  refine ⟨⟨?_, ⟨_, hm, ?_⟩, hd3.q.kept hK (hpmc _ _ _ _ hd3.q.blk) (hrow _ _ hd3.q.own), fun C hC => (hd3.kd C hC).kept hK (hpmc _ _ _ _ (hd3.kd C hC).blk) (hrow _ _ (hd3.kd C hC).own), hd3.sep, hd3.seq, hd3.ne, hd3.lo, Nat.le_trans hd3.size hK.size⟩, ?_, ?_, ?_, ?_, ?_, ?_⟩
  · refine hd3.sh.kept hK (hpmc _ _ _ _ hd3.sh.blk) (by simpa using hd3.ne.symm) ?_
    intro i hi e
    obtain ⟨_, cur, hc⟩ := LinesAt.type hd3.sh.own e
    exact hpmc _ _ _ _ hc hi
  · intro s
    unfold setF Hw.Pl.set
    by_cases e : s = A.ws[j]
    · rw [e]; simp [pv]
    · have : ¬ (Lit.string s = Lit.string A.ws[j]) := by simpa using e
      rw [if_neg this, if_neg e]; exact hF s
  · exact (h.low.trans (low_of h.dm.size hq)).trans (hl3.trans (hK.below hd3.size (by simp; exact hd3.lo.2.2.1)))
  · obtain ⟨c, hc⟩ := e1.ty; exact e1.kept hK (hpmc _ _ _ _ hc)
  · obtain ⟨c, hc⟩ := e2.ty; exact e2.kept hK (hpmc _ _ _ _ hc)
  · exact (h.ext.trans hs.ext).mono (by omega)
  · intro x hx
    have hx1 : x ∉ A.ws.take j := fun hm => hx (by rw [htk]; exact List.mem_append_left _ hm)
    have hx2 : x ≠ A.ws[j] := fun e => hx (by rw [htk, e]; exact List.mem_append_right _ (List.mem_singleton.2 rfl))
    rw [Hw.Pl.set_other _ _ hx2]
    exact h.old x hx1
  · intro x hx
    rw [htk] at hx
    rcases List.mem_append.1 hx with hx | hx
    · obtain ⟨l, h1, h2⟩ := h.new x hx
      exact ⟨l, by rw [Hw.Pl.set_other _ _ (by rintro rfl; exact hnot hx)]; exact h1, hs.ext.says h2⟩
    · simp at hx; subst hx
      exact ⟨c3, Hw.Pl.set_same _ _ _, hy⟩
theorem JA.same {w wx wy : World} {base d bm L M pm qb : Nat} {lv iv : Value} {said : List Hw.Rl} {ls : List Hw.Ln} {P : Hw.Pl} {K : List KM} {Q : List Hw.Wd} {n B1 B2 k1 l1 k2 l2 : Nat} (h : JA w wx base d bm L M pm qb lv iv said ls P K Q n B1 B2 k1 l1 k2 l2) (hs : SameW wx wy) : JA w wy base d bm L M pm qb lv iv said ls P K Q n B1 B2 k1 l1 k2 l2 :=
  ⟨h.1.same hs, h.2.1.trans (low_of h.1.size (below_same hs)), h.2.2.1.kept (S := []) (hs.kept []) (by simp), h.2.2.2.kept (S := []) (hs.kept []) (by simp)⟩
/-- the boxes behind a step of the sheet. -/
theorem JA.sheet {w wx w3 : World} {base d bm L M pm qb m : Nat} {lv lv3 iv : Value} {said : List Hw.Rl} {ls ls3 : List Hw.Ln} {P : Hw.Pl} {K : List KM} {Q : List Hw.Wd} {n B1 B2 k1 l1 k2 l2 : Nat} (h : JA w wx base d bm L M pm qb lv iv said ls P K Q n B1 B2 k1 l1 k2 l2) (hs : ShS wx w3 base d bm L M pm qb lv lv3 said ls ls3 m) : JA w w3 base d bm L M pm qb lv3 iv said ls3 P K Q n B1 B2 k1 l1 k2 l2 := by
  obtain ⟨h3, hl⟩ := h.1.sheet hs
  exact ⟨h3, h.2.1.trans hl, h.2.2.1.kept hs.kept (h.1.box_free h.2.2.1.ty), h.2.2.2.kept hs.kept (h.1.box_free h.2.2.2.ty)⟩
theorem jl_start {w wx w3 : World} {base d bm L M pm qb : Nat} {lv lv3 iv : Value} {said : List Hw.Rl} {ls ls0 ls3 : List Hw.Ln} {P : Hw.Pl} {K : List KM} {Q : List Hw.Wd} {n B1 B2 c lA lB m : Nat} {A B : KM} {a b x y rB : Hw.Wd} (h : JB w wx base d bm L M pm qb lv iv said ls ls0 P K Q n B1 B2 c lA lB A B a b x y) (hs : ShS wx.drew w3 base d bm L M pm qb lv lv3 said ls ls3 m) :
    JL w w3 base d bm L M pm qb iv said ls3 P K Q n B1 B2 lA lB A B rB 0 lv3 ls3 P := by
  have hd := h.dm.same (drew_same wx)
  obtain ⟨hd3, hl⟩ := hd.sheet hs
  refine ⟨hd3, (h.low.trans (low_of h.dm.size (below_same (drew_same wx)))).trans hl, ?_, ?_, Hw.Ext.refl _ _, fun _ _ => rfl, by simp⟩
  · exact (h.b1.kept (S := []) ((drew_same wx).kept []) (by simp)).kept hs.kept (hd.box_free h.b1.ty)
  · exact (h.b2.kept (S := []) ((drew_same wx).kept []) (by simp)).kept hs.kept (hd.box_free h.b2.ty)
/-- all words have come. -/
structure JE (w wr : World) (base d bm L M pm qb : Nat) (iv : Value) (said : List Hw.Rl) (ls2 : List Hw.Ln) (P : Hw.Pl) (K : List KM) (Q : List Hw.Wd) (n B1 B2 lA lB : Nat) (A B : KM) (rB : Hw.Wd) (lv' : Value) (ls' : List Hw.Ln) (P' : Hw.Pl) : Prop where
  dm : DMn wr base d bm L M pm qb lv' iv said ls' P' K Q (n + A.ws.length)
  low : Below base w wr
  b1 : Bx wr base B1 A.k lA
  b2 : Bx wr base B2 B.k lB
  ext : Hw.Ext ls2 ls' (3 * A.ws.length)
  old : ∀ x, x ∉ A.ws → P' x = P x
  new : ∀ x, x ∈ A.ws → ∃ l, P' x = some (B.k, l) ∧ Hw.Says ls' l x rB
theorem jl_end {w wr : World} {base d bm L M pm qb n B1 B2 lA lB j : Nat} {iv lv' : Value} {said : List Hw.Rl} {ls2 ls' : List Hw.Ln} {P P' : Hw.Pl} {K : List KM} {Q : List Hw.Wd} {A B : KM} {rB : Hw.Wd} (h : JL w wr base d bm L M pm qb iv said ls2 P K Q n B1 B2 lA lB A B rB j lv' ls' P') (hj : j = A.ws.length) :
    JE w wr base d bm L M pm qb iv said ls2 P K Q n B1 B2 lA lB A B rB lv' ls' P' := by
  subst hj
  have e : A.ws.take A.ws.length = A.ws := List.take_length
  exact ⟨h.dm, h.low, h.b1, h.b2, h.ext, by have := h.old; rwa [e] at this, by have := h.new; rwa [e] at this⟩
theorem perm2 {K : List KM} {A B : KM} (hA : A ∈ K) (hB : B ∈ K) (hne : A.k ≠ B.k) : ∃ K0, K.Perm (A :: B :: K0) := by
  obtain ⟨s, t, rfl⟩ := List.append_of_mem hA
  have hp : (s ++ A :: t).Perm (A :: (s ++ t)) := List.perm_middle
  have hB' : B ∈ s ++ t := by
    have := hp.mem_iff.1 hB
    rcases List.mem_cons.1 this with rfl | h
    · exact absurd rfl hne
    · exact h
  obtain ⟨s', t', e⟩ := List.append_of_mem hB'
  rw [e] at hp
  exact ⟨s' ++ t', hp.trans (List.Perm.cons A List.perm_middle)⟩

/-- the words of both are in one list. -/
structure JF (w wx : World) (base d bm L M pm qb : Nat) (iv : Value) (said : List Hw.Rl) (P : Hw.Pl) (K0 : List KM) (Q : List Hw.Wd) (n B1 B2 lA lB : Nat) (A B : KM) (rvN lv' : Value) (ls' : List Hw.Ln) (P' : Hw.Pl) : Prop where
  dm : DMn wx base d bm L M pm qb lv' iv said ls' P' (⟨B.k, rvN, B.ws ++ A.ws, B.m⟩ :: K0) Q n
  low : Below base w wx
  b1 : Bx wx base B1 A.k lA
  b2 : Bx wx base B2 B.k lB
  ka : wx.cell? ⟨A.k, 1, none⟩ = some (.string ⟨A.m.toArray⟩)

theorem DMn.kind_free {w : World} {base d bm L M pm qb n : Nat} {lv iv : Value} {said : List Hw.Rl} {ls : List Hw.Ln} {P : Hw.Pl} {K : List KM} {Q : List Hw.Wd} (h : DMn w base d bm L M pm qb lv iv said ls P K Q n) {B : KM} (hB : B ∈ K) :
    (∀ k, k ∈ B.k :: B.rv.ownBlock.toList → base ≤ k ∧ ∃ c t, w.heap[k]? = some (.cells c t (0, 0)) ∧ (t = 153 ∨ t = 9)) := by
  intro k hk
  rcases List.mem_cons.1 hk with rfl | hk
  · exact ⟨(h.kd B hB).low, _, _, (h.kd B hB).blk, .inl rfl⟩
  · obtain ⟨h1, cur, h2⟩ := (h.kd B hB).own.type (by simpa using hk)
    exact ⟨h1, _, _, h2, .inr rfl⟩

theorem jf_append {w wr W w1 : World} {base d bm L M pm qb n B1 B2 lA lB : Nat} {iv lv' v' : Value} {said : List Hw.Rl} {ls2 ls' : List Hw.Ln} {P P' : Hw.Pl} {K K0 : List KM} {Q : List Hw.Wd} {A B : KM} {rB : Hw.Wd} (h : JE w wr base d bm L M pm qb iv said ls2 P K Q n B1 B2 lA lB A B rB lv' ls' P') (hp : K.Perm (A :: B :: K0)) (hids : (K.map KM.k).Nodup) (hW : SameW wr W)
    (hown : w1.ownsRow base 9 1 v' (B.ws.length + A.ws.length) (scells B.ws ++ scells A.ws)) (hgrow : W.grownBy w1 B.rv.ownBlock) (hex : ∀ k, v'.ownBlock = some k → B.rv.ownBlock = some k ∨ W.heap.size ≤ k) :
    w1.heap[B.k]? = some (.cells #[B.rv, .string ⟨B.m.toArray⟩] 153 (0, 0)) ∧ (∀ X k l, Bx wr base X k l → Bx w1 base X k l) ∧ JF w (w1.setCell ⟨B.k, 0, none⟩ v') base d bm L M pm qb iv said P K0 Q (n + A.ws.length) B1 B2 lA lB A B v' lv' ls' P' := by
  have hA : A ∈ K := hp.mem_iff.2 (by simp)
  have hB : B ∈ K := hp.mem_iff.2 (by simp)
  have hK0 : ∀ C, C ∈ K0 → C ∈ K := fun C hC => hp.mem_iff.2 (by simp [hC])
  have hn2 := (hp.map KM.k).nodup_iff.1 hids
  simp only [List.map_cons, List.nodup_cons, List.mem_cons, not_or] at hn2
  have hAB : A.k ≠ B.k := hn2.1.1
  have hC0 : ∀ C, C ∈ K0 → C.k ≠ B.k := fun C hC e => hn2.2.1 (e ▸ List.mem_map_of_mem hC)
  have hD := h.dm.same hW
  have hsz : W.heap.size = wr.heap.size := by rw [hW.1]
  have hKg : Kept B.rv.ownBlock.toList W w1 := Kept.of_grown hgrow (fun k hk => by simp [hk])
  have hfree := hD.kind_free hB
  -- what is written
  have hb1 : w1.heap[B.k]? = some (.cells #[B.rv, .string ⟨B.m.toArray⟩] 153 (0, 0)) := by
    refine hKg.at (hD.kd B hB).blk (fun hm => ?_)
    obtain ⟨_, cur, hc⟩ := (hD.kd B hB).own.type (by simpa using hm)
    rw [(hD.kd B hB).blk] at hc; simp at hc
  have hK : Kept (B.k :: B.rv.ownBlock.toList) W (w1.setCell ⟨B.k, 0, none⟩ v') := (hKg.mono (S' := B.k :: B.rv.ownBlock.toList) (fun k hk _ => List.mem_cons_of_mem _ hk)).setCell (Or.inl (by simp)) _
  have hcell : ∀ k c t fr, W.heap[k]? = some (.cells c t fr) → t ≠ 153 → t ≠ 9 → k ∉ B.k :: B.rv.ownBlock.toList := by
    intro k c t fr e n1 n2 hm
    obtain ⟨_, c', t', e', h'⟩ := hfree k hm
    rw [e] at e'; simp at e'
    rcases h' with h' | h'
    · exact n1 (e'.2.1.trans h')
    · exact n2 (e'.2.1.trans h')
  have hmap : ∀ k es cl, W.heap[k]? = some (.map es cl) → k ∉ B.k :: B.rv.ownBlock.toList := by
    intro k es cl e hm
    obtain ⟨_, c', t', e', h'⟩ := hfree k hm
    rw [e] at e'; cases e'
  have hkk : ∀ C, C ∈ K → C.k ≠ B.k → C.k ∉ B.k :: B.rv.ownBlock.toList := by
    intro C hC hne hm
    rcases List.mem_cons.1 hm with e | hm
    · exact hne e
    · obtain ⟨_, cur, hc⟩ := (hD.kd B hB).own.type (by simpa using hm)
      rw [(hD.kd C hC).blk] at hc; simp at hc
  have hrow : ∀ C, C ∈ K → C.k ≠ B.k → ∀ k, k ∈ B.k :: B.rv.ownBlock.toList → C.rv.ownBlock ≠ some k := by
    intro C hC hne k hk e
    rcases List.mem_cons.1 hk with rfl | hk
    · obtain ⟨_, cur, hc⟩ := (hD.kd C hC).own.type e
      rw [(hD.kd B hB).blk] at hc; simp at hc
    · exact hD.sep C B hC hB hne k e (by simpa using hk)
  have hqrow : ∀ k, k ∈ B.k :: B.rv.ownBlock.toList → iv.ownBlock ≠ some k := by
    intro k hk e
    rcases List.mem_cons.1 hk with rfl | hk
    · obtain ⟨_, cur, hc⟩ := hD.q.own.type e
      rw [(hD.kd B hB).blk] at hc; simp at hc
    · exact hD.seq B hB k (by simpa using hk) e
  obtain ⟨es, cl, hpm⟩ := hD.pl.obj
  obtain ⟨F, hF, _⟩ := hD.sh.bk
  obtain ⟨es2, cl2, hbm⟩ := hF.obj
  have hb2 : (w1.setCell ⟨B.k, 0, none⟩ v').heap[B.k]? = some (.cells #[v', .string ⟨B.m.toArray⟩] 153 (0, 0)) := by
    rw [heap_setCell_same _ _ 0 _ _ _ hb1]; rfl
  have hvN : ∀ k, v'.ownBlock = some k → k ≠ B.k := by
    rintro k hk rfl
    rcases hown.2 with ⟨rfl, _⟩ | ⟨g, cap, cur, rfl, _, hg, _⟩
    · simp [Value.ownBlock] at hk
    · simp [Value.ownBlock] at hk; subst hk; rw [hb1] at hg; simp at hg
  have hnewK : KAt (w1.setCell ⟨B.k, 0, none⟩ v') base ⟨B.k, v', B.ws ++ A.ws, B.m⟩ := by
    refine ⟨hb2, ?_, (hD.kd B hB).low⟩
    show StrsAt _ base v' (B.ws ++ A.ws)
    unfold StrsAt
    have e : scells (B.ws ++ A.ws) = scells B.ws ++ scells A.ws := by simp [scells]
    rw [e, List.length_append]
    refine ⟨hown.1, ?_⟩
    rcases hown.2 with h1 | ⟨g, cap, cur, h1, h2, hg, r⟩
    · exact .inl h1
    · refine .inr ⟨g, cap, cur, h1, h2, ?_, r⟩
      rw [Below.heap_setCell _ _ _ _ (hvN g (by rw [h1]; rfl))]; exact hg
  have hlt : ∀ C, C ∈ K → ∀ g, C.rv.ownBlock = some g → g < W.heap.size := by
    intro C hC g e
    obtain ⟨_, cur, hc⟩ := (hD.kd C hC).own.type e
    exact lt_of_block hc
  have hbx : ∀ {X k l : Nat}, Bx wr base X k l → Bx (w1.setCell ⟨B.k, 0, none⟩ v') base X k l := by
    intro X k l hX
    have hX' : Bx W base X k l := hX.kept (S := []) (hW.kept []) (by simp)
    obtain ⟨c, hc⟩ := hX'.ty
    exact hX'.kept hK (hcell _ _ _ _ hc (by decide) (by decide))
  have hbx1 : ∀ X k l, Bx wr base X k l → Bx w1 base X k l := by
    intro X k l hX
    have hX' : Bx W base X k l := hX.kept (S := []) (hW.kept []) (by simp)
    obtain ⟨c, hc⟩ := hX'.ty
    exact hX'.kept hKg (fun hm => hcell _ _ _ _ hc (by decide) (by decide) (List.mem_cons_of_mem _ hm))
  refine ⟨hb1, hbx1, ⟨⟨?_, hD.pl.kept hK (hmap _ _ _ hpm), hD.q.kept hK (hcell _ _ _ _ hD.q.blk (by decide) (by decide)) hqrow, ?_, ?_, ?_, hD.ne, hD.lo, Nat.le_trans hD.size hK.size⟩, ?_, hbx h.b1, hbx h.b2, ?_⟩⟩
  · refine hD.sh.kept hK (hcell _ _ _ _ hD.sh.blk (by decide) (by decide)) (hmap _ _ _ hbm) ?_
    intro k hk e
    obtain ⟨_, cur, hc⟩ := LinesAt.type hD.sh.own e
    exact hcell _ _ _ _ hc (by decide) (by decide) hk
  · intro C hC
    rcases List.mem_cons.1 hC with rfl | hC
    · exact hnewK
    · exact (hD.kd C (hK0 C hC)).kept hK (hkk C (hK0 C hC) (hC0 C hC)) (hrow C (hK0 C hC) (hC0 C hC))
  · intro C E hC hE hne g e1 e2
    rcases List.mem_cons.1 hC with rfl | hC <;> rcases List.mem_cons.1 hE with rfl | hE
    · exact hne rfl
    · rcases hex g e1 with e | e
      · exact hD.sep B E hB (hK0 E hE) hne g e e2
      · have := hlt E (hK0 E hE) g e2; omega
    · rcases hex g e2 with e | e
      · exact hD.sep C B (hK0 C hC) hB hne g e1 e
      · have := hlt C (hK0 C hC) g e1; omega
    · exact hD.sep C E (hK0 C hC) (hK0 E hE) hne g e1 e2
  · intro C hC g e1 e2
    rcases List.mem_cons.1 hC with rfl | hC
    · rcases hex g e1 with e | e
      · exact hD.seq B hB g e e2
      · obtain ⟨_, cur, hc⟩ := hD.q.own.type e2
        have := lt_of_block hc; omega
    · exact hD.seq C (hK0 C hC) g e1 e2
  · exact (h.low.trans (low_of h.dm.size (below_same hW))).trans (hK.below hD.size (fun k hk => (hfree k hk).1))
  · exact hK.cell (cellAt (hD.kd A hA).blk rfl) (hkk A hA hAB)
theorem strs_cells {w : World} {g : Nat} {cur : Array Value} {ws : List Hw.Wd} {t : TypeId} (hg : w.heap[g]? = some (.cells cur t (0, 0))) (ht : cur.toList.take ws.length = scells ws) : ∀ i u, (scells ws)[i]? = some u → w.drew.cell? ((⟨g, 0, none⟩ : Addr).add i) = some u := by
  intro i u hi
  have hadd : (⟨g, 0, none⟩ : Addr).add i = ⟨g, i, none⟩ := by unfold Addr.add; split <;> simp_all
  rw [hadd]
  show w.cell? _ = _
  rw [cell_of_row w g i cur _ _ hg]
  rw [← ht, List.getElem?_take] at hi
  split at hi
  · simpa using hi
  · cases hi
theorem own_shape2 {w : World} {base : Nat} {e : TypeId} {size : Nat} {v : Value} {n : Nat} {xs : List Value} (h : w.ownsRow base e size v n xs) (hn : 0 < n) : ∃ g cap, v = .slice (some ⟨g, 0, none⟩) n cap := by
  rcases h.2 with ⟨_, h2⟩ | ⟨g, cap, cur, h1, _⟩
  · omega
  · exact ⟨g, cap, h1⟩
/-- the least one is known. -/
structure JG (w wx : World) (base d bm L M pm qb : Nat) (iv : Value) (said : List Hw.Rl) (K0 : List KM) (Q : List Hw.Wd) (n : Nat) (A B : KM) (rvN lv' : Value) (ls' : List Hw.Ln) (P' : Hw.Pl) : Prop where
  dm : DMn wx base d bm L M pm qb lv' iv said ls' P' (⟨B.k, rvN, B.ws ++ A.ws, Hw.lesser L A.m B.m⟩ :: K0) Q n
  low : Below base w wx
theorem jg_less {w wx wy : World} {base d bm L M pm qb n B1 B2 lA lB : Nat} {iv rvN lv' : Value} {said : List Hw.Rl} {ls' : List Hw.Ln} {P P' : Hw.Pl} {K0 : List KM} {Q : List Hw.Wd} {A B : KM} (h : JF w wx base d bm L M pm qb iv said P K0 Q n B1 B2 lA lB A B rvN lv' ls' P') (hk : Kept [B.k] wx.drew wy) (hb : wy.heap[B.k]? = some (.cells #[rvN, .string ⟨(Hw.lesser L A.m B.m).toArray⟩] 153 (0, 0))) (hK0 : ∀ C, C ∈ K0 → C.k ≠ B.k) :
    JG w wy base d bm L M pm qb iv said K0 Q n A B rvN lv' ls' P' := by
  have hD := h.dm.same (drew_same wx)
  have hKB := hD.kd _ (List.mem_cons_self)
  have hcell : ∀ k c t fr, wx.drew.heap[k]? = some (.cells c t fr) → t ≠ 153 → k ∉ [B.k] := by
    intro k c t fr e n1 hm
    rw [List.mem_singleton] at hm; subst hm
    rw [hKB.blk] at e; simp at e; exact n1 e.2.1.symm
  have hstr : ∀ (v : Value) (ws : List Hw.Wd), StrsAt wx.drew base v ws → ∀ k, k ∈ [B.k] → v.ownBlock ≠ some k := by
    intro v ws hv k hk e
    obtain ⟨_, cur, hc⟩ := hv.type e
    exact hcell _ _ _ _ hc (by decide) hk
  have hmap : ∀ k es cl, wx.drew.heap[k]? = some (.map es cl) → k ∉ [B.k] := by
    intro k es cl e hm
    rw [List.mem_singleton] at hm; subst hm
    rw [hKB.blk] at e; cases e
  obtain ⟨es, cl, hpm⟩ := hD.pl.obj
  obtain ⟨F, hF, _⟩ := hD.sh.bk
  obtain ⟨es2, cl2, hbm⟩ := hF.obj
  refine ⟨⟨?_, hD.pl.kept hk (hmap _ _ _ hpm), hD.q.kept hk (hcell _ _ _ _ hD.q.blk (by decide)) (hstr _ _ hD.q.own), ?_, ?_, ?_, hD.ne, hD.lo, Nat.le_trans hD.size hk.size⟩, ?_⟩
  · refine hD.sh.kept hk (hcell _ _ _ _ hD.sh.blk (by decide)) (hmap _ _ _ hbm) ?_
    intro k hk' e
    obtain ⟨_, cur, hc⟩ := LinesAt.type hD.sh.own e
    exact hcell _ _ _ _ hc (by decide) hk'
  · intro C hC
    rcases List.mem_cons.1 hC with rfl | hC
    · exact ⟨hb, hKB.own.kept hk (hstr _ _ hKB.own), hKB.low⟩
    · have hC' := hD.kd C (List.mem_cons_of_mem _ hC)
      exact hC'.kept hk (by rw [List.mem_singleton]; exact hK0 C hC) (hstr _ _ hC'.own)
  · intro C E hC hE hne g e1 e2
    have f : ∀ X, X ∈ ((⟨B.k, rvN, B.ws ++ A.ws, Hw.lesser L A.m B.m⟩ : KM) :: K0) → ∃ Y, Y ∈ ((⟨B.k, rvN, B.ws ++ A.ws, B.m⟩ : KM) :: K0) ∧ Y.k = X.k ∧ Y.rv = X.rv := by
      intro X hX
      rcases List.mem_cons.1 hX with rfl | hX
      · exact ⟨_, List.mem_cons_self, rfl, rfl⟩
      · exact ⟨X, List.mem_cons_of_mem _ hX, rfl, rfl⟩
    obtain ⟨C', c1, c2, c3⟩ := f C hC
    obtain ⟨E', d1, d2, d3⟩ := f E hE
    exact hD.sep C' E' c1 d1 (by rw [c2, d2]; exact hne) g (by rw [c3]; exact e1) (by rw [d3]; exact e2)
  · intro C hC g e1
    rcases List.mem_cons.1 hC with rfl | hC
    · exact hD.seq _ (List.mem_cons_self) g e1
    · exact hD.seq C (List.mem_cons_of_mem _ hC) g e1
  · exact (h.low.trans (low_of h.dm.size (below_same (drew_same wx)))).trans (hk.below hD.size (by simp; exact hKB.low))
theorem k0_ne {K K0 : List KM} {A B : KM} (hp : K.Perm (A :: B :: K0)) (hids : (K.map KM.k).Nodup) : ∀ C, C ∈ K0 → C.k ≠ B.k := by
  have hn2 := (hp.map KM.k).nodup_iff.1 hids
  simp only [List.map_cons, List.nodup_cons] at hn2
  intro C hC e
  exact hn2.2.1 (e ▸ List.mem_map_of_mem hC)
/-- the queue moves. -/
theorem DMn.queue {w w' : World} {base d bm L M pm qb n : Nat} {lv iv iv' : Value} {said : List Hw.Rl} {ls : List Hw.Ln} {P : Hw.Pl} {K : List KM} {Q Q' : List Hw.Wd} (h : DMn w base d bm L M pm qb lv iv said ls P K Q n) (hK : Kept (qb :: iv.ownBlock.toList) w w') (hfr : ∀ k, iv'.ownBlock = some k → iv.ownBlock = some k ∨ w.heap.size ≤ k) (hq : Qs.QAt w' base qb iv' Q') :
    DMn w' base d bm L M pm qb lv iv' said ls P K Q' n ∧ Below base w w' := by
  have hty : ∀ k, k ∈ qb :: iv.ownBlock.toList → base ≤ k ∧ ∃ c t, w.heap[k]? = some (.cells c t (0, 0)) ∧ (t = 158 ∨ t = 9) := by
    intro k hk
    rcases List.mem_cons.1 hk with rfl | hk
    · exact ⟨h.lo.2.2.2, _, _, h.q.blk, .inl rfl⟩
    · obtain ⟨h1, cur, h2⟩ := h.q.own.type (by simpa using hk)
      exact ⟨h1, _, _, h2, .inr rfl⟩
  have hcell : ∀ k c t fr, w.heap[k]? = some (.cells c t fr) → t ≠ 158 → t ≠ 9 → k ∉ qb :: iv.ownBlock.toList := by
    intro k c t fr e n1 n2 hm
    obtain ⟨_, c', t', e', h'⟩ := hty k hm
    rw [e] at e'; simp at e'
    rcases h' with h' | h'
    · exact n1 (e'.2.1.trans h')
    · exact n2 (e'.2.1.trans h')
  have hmap : ∀ k es cl, w.heap[k]? = some (.map es cl) → k ∉ qb :: iv.ownBlock.toList := by
    intro k es cl e hm
    obtain ⟨_, c', t', e', h'⟩ := hty k hm
    rw [e] at e'; cases e'
  have hrow : ∀ A, A ∈ K → ∀ k, k ∈ qb :: iv.ownBlock.toList → A.rv.ownBlock ≠ some k := by
    intro A hA k hk e
    rcases List.mem_cons.1 hk with rfl | hk
    · obtain ⟨_, cur, hc⟩ := (h.kd A hA).own.type e
      rw [h.q.blk] at hc; simp at hc
    · exact h.seq A hA k e (by simpa using hk)
  obtain ⟨es, cl, hpm⟩ := h.pl.obj
  obtain ⟨F, hF, _⟩ := h.sh.bk
  obtain ⟨es2, cl2, hbm⟩ := hF.obj
  refine ⟨⟨?_, h.pl.kept hK (hmap _ _ _ hpm), hq, fun A hA => (h.kd A hA).kept hK (hcell _ _ _ _ (h.kd A hA).blk (by decide) (by decide)) (hrow A hA), h.sep, ?_, h.ne, h.lo, Nat.le_trans h.size hK.size⟩, hK.below h.size (fun k hk => (hty k hk).1)⟩
  · refine h.sh.kept hK (hcell _ _ _ _ h.sh.blk (by decide) (by decide)) (hmap _ _ _ hbm) ?_
    intro k hk e
    obtain ⟨_, cur, hc⟩ := LinesAt.type h.sh.own e
    exact hcell _ _ _ _ hc (by decide) (by decide) hk
  · intro A hA g e1 e2
    rcases hfr g e2 with e | e
    · exact h.seq A hA g e1 e
    · obtain ⟨_, cur, hc⟩ := (h.kd A hA).own.type e1
      have := lt_of_block hc; omega
theorem DMn.mono {w : World} {base d bm L M pm qb n n' : Nat} {lv iv : Value} {said : List Hw.Rl} {ls : List Hw.Ln} {P : Hw.Pl} {K : List KM} {Q : List Hw.Wd} (h : DMn w base d bm L M pm qb lv iv said ls P K Q n) (hn : n ≤ n') : DMn w base d bm L M pm qb lv iv said ls P K Q n' := by
  obtain ⟨F, h1, h2⟩ := h.pl
  exact ⟨h.sh, ⟨F, h1.mono hn, h2⟩, h.q, h.kd, h.sep, h.seq, h.ne, h.lo, h.size⟩

theorem join_done {w wx wz : World} {base d bm L M pm qb : Nat} {iv iv' rvN lv' : Value} {said : List Hw.Rl} {ls0 ls' : List Hw.Ln} {P P' : Hw.Pl} {K K0 : List KM} {Q Q' ex : List Hw.Wd} {T : Nat} {A B : KM} {a b x y rB : Hw.Wd} (hL : L ≤ 3) (hG : JG w wx base d bm L M pm qb iv said K0 Q (Hw.nw (kes K) + Hw.sF (kes K) + A.ws.length) A B rvN lv' ls' P') (hI : Hw.DI L M said ls0 P (kes K) Q ex T) (hperm : K.Perm (A :: B :: K0)) (hle : A.ws.length ≤ B.ws.length)
    (he : Hw.Ext ls0 ls' (3 + 3 * A.ws.length)) (hold : ∀ x, x ∉ A.ws → P' x = P x) (hnew : ∀ x, x ∈ A.ws → ∃ l, P' x = some (B.k, l) ∧ Hw.Says ls' l x rB) (hroot : ∀ x, x ∈ B.ws → ∃ l, P x = some (B.k, l) ∧ Hw.Says ls0 l x rB) (ha : a ∈ A.ws) (hb : b ∈ B.ws) (hxy : (a = x ∧ b = y) ∨ (a = y ∧ b = x))
    (hq : DMn wz base d bm L M pm qb lv' iv' said ls' P' (⟨B.k, rvN, B.ws ++ A.ws, Hw.lesser L A.m B.m⟩ :: K0) Q' (Hw.nw (kes K) + Hw.sF (kes K) + A.ws.length)) (hlow : Below base w wz)
    (hQ : ∀ x, x ∈ Q → x ∈ Q') (hQ' : ∀ x, x ∈ Q' → x ∈ Q ∨ (x = Hw.lost L A.m B.m ∧ x.length < M)) (hlen : Q'.length ≤ Q.length + 1) (hlost : (Hw.lost L A.m B.m).length < M → Hw.lost L A.m B.m ∈ Q') :
    DS w wz base d bm L M pm qb lv' iv' said P ls' P' (⟨B.k, rvN, B.ws ++ A.ws, Hw.lesser L A.m B.m⟩ :: K0) Q' ex T ∧ Hw.Tog P' x y := by
  have hp : (kes K).Perm (A.ke :: B.ke :: kes K0) := hperm.map KM.ke
  obtain ⟨hdi, htog, hab⟩ := (hI.perm hp).join (A := A.ke) (B := B.ke) (ls' := ls') (P' := P') (Q' := Q') hL hle hG.dm.sh.sheet he hold rB hnew hroot hQ hQ' hlen hlost
  have hn : Hw.nw (kes K) + Hw.sF (kes K) + A.ws.length ≤ Hw.nw (kes (⟨B.k, rvN, B.ws ++ A.ws, Hw.lesser L A.m B.m⟩ :: K0)) + Hw.sF (kes (⟨B.k, rvN, B.ws ++ A.ws, Hw.lesser L A.m B.m⟩ :: K0)) := by
    rw [Hw.perm_nw hp, Hw.perm_sF hp]
    have := Hw.cost_join hle
    simp [Hw.nw, Hw.sF, kes, KM.ke] at *
    omega
  refine ⟨⟨hq.mono hn, hdi, hlow, htog⟩, ?_⟩
  have ht : Hw.Tog P' a b := hab a b ha hb
  rcases hxy with ⟨rfl, rfl⟩ | ⟨rfl, rfl⟩
  · exact ht
  · exact ht.symm
theorem ext4 {a b c d e : List Hw.Ln} {n : Nat} (h1 : Hw.Ext a b 1) (h2 : Hw.Ext b c 1) (h3 : Hw.Ext c d 1) (h4 : Hw.Ext d e n) : Hw.Ext a e (3 + n) := (((h1.trans h2).trans h3).trans h4).mono (by omega)
end Dr
end Go.Proofs.YtfiebibpgbadlaaGreat
