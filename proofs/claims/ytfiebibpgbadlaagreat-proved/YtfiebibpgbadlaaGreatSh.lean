import Derived.Test.YtfiebibpgbadlaaGreatLnA
import Derived.Test.YtfiebibpgbadlaaGreatMp
import Derived.Test.YtfiebibpgbadlaaGreatQs
namespace Go.Proofs.YtfiebibpgbadlaaGreat
open Go.RowKit
set_option linter.unusedVariables false
set_option linter.unusedSimpArgs false

namespace Dr
theorem infoLn : (Tryz.prog.info? 54).map (fun i => (i.zero, i.size, i.bytes)) = some (some (.agg #[.int .i64 0, .string ⟨#[]⟩, .string ⟨#[]⟩, .int .i64 0, .int .i64 0, .int .i64 0, .string ⟨#[]⟩, .string ⟨#[]⟩]), 8, 96) := by kernel_rfl

def lagg (n : Hw.Ln) : Value := .agg #[.int .i64 n.how, .string ⟨n.left.toArray⟩, .string ⟨n.right.toArray⟩, .int .i64 n.said, .int .i64 n.a, .int .i64 n.b, .string ⟨n.ahead.toArray⟩, .string ⟨n.behind.toArray⟩]
def dblock (lv : Value) (bm L M pm qb : Nat) : Obj := .cells #[lv, .map (some bm), .int .i64 L, .int .i64 M, .map (some pm), .pointer (some ⟨qb, 0, none⟩)] 118 (0, 0)

/-- of some lines those that say it the other way round. -/
def Bks (w : World) (bm n : Nat) (ls : List Hw.Ln) : Prop := ∃ F, MapIs w 3 bm n F ∧ ∀ (a : Nat) v, F (.int .i64 a) = some v → ∃ (c : Nat) (x y : Hw.Wd), v = .int .i64 c ∧ Hw.Says ls a x y ∧ Hw.Says ls c y x
/-- A sheet, as a drawing keeps it. -/
structure Sh (w : World) (base d bm L M pm qb : Nat) (lv : Value) (said : List Hw.Rl) (ls : List Hw.Ln) : Prop where
  blk : w.heap[d]? = some (dblock lv bm L M pm qb)
  own : LinesAt w base lv ls
  bk : Bks w bm ls.length ls
  sheet : Hw.Sheet L M said ls

structure ShS (w w' : World) (base d bm L M pm qb : Nat) (lv lv' : Value) (said : List Hw.Rl) (ls ls' : List Hw.Ln) (m : Nat) : Prop where
  sh : Sh w' base d bm L M pm qb lv' said ls'
  kept : Kept (d :: bm :: lv.ownBlock.toList) w w'
  fresh : ∀ k, lv'.ownBlock = some k → lv.ownBlock = some k ∨ w.heap.size ≤ k
  ext : Hw.Ext ls ls' m

theorem LinesAt.kept {w w' : World} {base : Nat} {lv : Value} {ls : List Hw.Ln} {S : List Nat} (h : LinesAt w base lv ls) (hK : Kept S w w') (hS : ∀ k, k ∈ S → lv.ownBlock ≠ some k) : LinesAt w' base lv ls := by
  refine ⟨h.1, ?_⟩
  rcases h.2 with h1 | ⟨g, cap, cur, rfl, hb, hg, r⟩
  · exact .inl h1
  · exact .inr ⟨g, cap, cur, rfl, hb, hK.at hg (fun hm => hS g hm rfl), r⟩
theorem LinesAt.type {w : World} {base k : Nat} {lv : Value} {ls : List Hw.Ln} (h : LinesAt w base lv ls) (hk : lv.ownBlock = some k) : base ≤ k ∧ ∃ cur, w.heap[k]? = some (.cells cur 54 (0, 0)) := by
  rcases h.2 with ⟨rfl, _⟩ | ⟨g, cap, cur, rfl, hb, hg, _⟩
  · simp [Value.ownBlock] at hk
  · simp [Value.ownBlock] at hk; subst hk; exact ⟨hb, cur, hg⟩

theorem Sh.kept {w w' : World} {base d bm L M pm qb : Nat} {lv : Value} {said : List Hw.Rl} {ls : List Hw.Ln} {S : List Nat} (h : Sh w base d bm L M pm qb lv said ls) (hK : Kept S w w') (h1 : d ∉ S) (h2 : bm ∉ S) (h3 : ∀ k, k ∈ S → lv.ownBlock ≠ some k) : Sh w' base d bm L M pm qb lv said ls := by
  obtain ⟨F, hF, r⟩ := h.bk
  exact ⟨hK.at h.blk h1, LinesAt.kept h.own hK h3, ⟨F, hF.kept hK h2, r⟩, h.sheet⟩
theorem Sh.below {w w' : World} {base d bm L M pm qb : Nat} {lv : Value} {said : List Hw.Rl} {ls : List Hw.Ln} (h : Sh w base d bm L M pm qb lv said ls) (hb : Below w.heap.size w w') : Sh w' base d bm L M pm qb lv said ls :=
  h.kept (S := []) (Kept.of_below_size hb) (by simp) (by simp) (by simp)
theorem Sh.same {w w' : World} {base d bm L M pm qb : Nat} {lv : Value} {said : List Hw.Rl} {ls : List Hw.Ln} (h : Sh w base d bm L M pm qb lv said ls) (hb : SameW w w') : Sh w' base d bm L M pm qb lv said ls :=
  h.kept (S := []) (hb.kept []) (by simp) (by simp) (by simp)
theorem ShS.refl {w : World} {base d bm L M pm qb : Nat} {lv : Value} {said : List Hw.Rl} {ls : List Hw.Ln} (h : Sh w base d bm L M pm qb lv said ls) (m : Nat) : ShS w w base d bm L M pm qb lv lv said ls ls m :=
  ⟨h, Kept.refl _ _, fun k hk => .inl hk, Hw.Ext.refl _ _⟩
theorem ShS.of_below {w w' : World} {base d bm L M pm qb : Nat} {lv : Value} {said : List Hw.Rl} {ls : List Hw.Ln} (h : Sh w base d bm L M pm qb lv said ls) (hb : Below w.heap.size w w') (m : Nat) : ShS w w' base d bm L M pm qb lv lv said ls ls m :=
  ⟨h.below hb, Kept.of_below_size hb, fun k hk => .inl hk, Hw.Ext.refl _ _⟩
theorem ShS.mono {w w' : World} {base d bm L M pm qb : Nat} {lv lv' : Value} {said : List Hw.Rl} {ls ls' : List Hw.Ln} {m n : Nat} (h : ShS w w' base d bm L M pm qb lv lv' said ls ls' m) (hn : m ≤ n) : ShS w w' base d bm L M pm qb lv lv' said ls ls' n :=
  ⟨h.sh, h.kept, h.fresh, h.ext.mono hn⟩
theorem ShS.trans {w w1 w2 : World} {base d bm L M pm qb : Nat} {lv lv1 lv2 : Value} {said : List Hw.Rl} {ls ls1 ls2 : List Hw.Ln} {m n : Nat} (h : ShS w w1 base d bm L M pm qb lv lv1 said ls ls1 m) (h' : ShS w1 w2 base d bm L M pm qb lv1 lv2 said ls1 ls2 n) :
    ShS w w2 base d bm L M pm qb lv lv2 said ls ls2 (m + n) := by
  refine ⟨h'.sh, ⟨h'.kept.os.trans h.kept.os, h'.kept.tape.trans h.kept.tape, h'.kept.output.trans h.kept.output, Nat.le_trans h.kept.size h'.kept.size, fun k hk hn => ?_⟩, fun k hk => ?_, h.ext.trans h'.ext⟩
  · rw [h'.kept.block k (Nat.lt_of_lt_of_le hk h.kept.size) ?_, h.kept.block k hk hn]
    intro hm
    simp only [List.mem_cons] at hm hn
    rcases hm with e | e | e
    · exact hn (.inl e)
    · exact hn (.inr (.inl e))
    · rcases h.fresh k (by simpa using e) with e | e
      · exact hn (.inr (.inr (by simp [e])))
      · omega
  · rcases h'.fresh k hk with e | e
    · exact h.fresh k e
    · exact .inr (Nat.le_trans h.kept.size e)

theorem lcells_snoc (ls : List Hw.Ln) (n : Hw.Ln) : lcells (ls ++ [n]) = lcells ls ++ lcell n := by simp [lcells]
theorem one_line (n : Hw.Ln) : ∀ u ∈ lcell n, u.oneCell' = true := by
  intro u hu; simp [lcell] at hu; rcases hu with rfl | rfl | rfl | rfl | rfl | rfl | rfl | rfl <;> rfl
theorem line_new (w : World) (o : Obj) (n : Hw.Ln) (t : TypeId) : ∀ j x, (lcell n)[j]? = some x → (((w.alloc o).alloc (.cells #[.int .i64 n.how, .string ⟨n.left.toArray⟩, .string ⟨n.right.toArray⟩, .int .i64 n.said, .int .i64 n.a, .int .i64 n.b, .string ⟨n.ahead.toArray⟩, .string ⟨n.behind.toArray⟩] t)).drew).cell? ((⟨w.heap.size + 1, 0, none⟩ : Addr).add j) = some x := by
  intro j x hj
  have hadd : (⟨w.heap.size + 1, 0, none⟩ : Addr).add j = ⟨w.heap.size + 1, j, none⟩ := by unfold Addr.add; split <;> simp_all
  rw [hadd]
  show ((w.alloc o).alloc _).cell? _ = _
  rw [cell_second]
  simpa [lcell] using hj

theorem Sh.ne {w : World} {base d bm L M pm qb : Nat} {lv : Value} {said : List Hw.Rl} {ls : List Hw.Ln} (h : Sh w base d bm L M pm qb lv said ls) : lv.ownBlock ≠ some d ∧ lv.ownBlock ≠ some bm ∧ d ≠ bm := by
  obtain ⟨F, hF, _⟩ := h.bk
  obtain ⟨es, cl, hm⟩ := hF.obj
  refine ⟨?_, ?_, ?_⟩
  · intro e
    obtain ⟨_, cur, hc⟩ := LinesAt.type h.own e
    rw [h.blk] at hc; simp [dblock] at hc
  · intro e
    obtain ⟨_, cur, hc⟩ := LinesAt.type h.own e
    rw [hm] at hc; cases hc
  · rintro rfl
    rw [h.blk] at hm; simp [dblock] at hm

theorem add_step {w w0 w1 : World} {base d bm L M pm qb : Nat} {lv v' : Value} {said : List Hw.Rl} {ls : List Hw.Ln} {n : Hw.Ln} (h : Sh w base d bm L M pm qb lv said ls) {o1 o2 : Obj} (h0 : SameW ((w.alloc o1).alloc o2) w0)
    (hD : Hw.Drawn said ls ls.length n) (hx : Hw.isWord L M n.left = true) (hy : Hw.isWord L M n.right = true)
    (hown : w1.ownsRow base 54 8 v' (ls.length + 1) (lcells ls ++ lcell n)) (hgrow : w0.grownBy w1 lv.ownBlock) (hex : ∀ k, v'.ownBlock = some k → lv.ownBlock = some k ∨ w0.heap.size ≤ k) :
    w1.heap[d]? = some (dblock lv bm L M pm qb) ∧ ShS w (w1.setCell ⟨d, 0, none⟩ v') base d bm L M pm qb lv v' said ls (ls ++ [n]) 1 ∧ Bks (w1.setCell ⟨d, 0, none⟩ v') bm ls.length (ls ++ [n]) := by
  obtain ⟨n1, n2, n3⟩ := h.ne
  have hK : Kept lv.ownBlock.toList w w1 := ((((Kept.refl _ w).alloc _).alloc _).trans (h0.kept _)).trans (Kept.of_grown hgrow (fun k hk => by simp [hk]))
  have hb1 := hK.at h.blk (by simpa using n1)
  have hb2 : (w1.setCell ⟨d, 0, none⟩ v').heap[d]? = some (dblock v' bm L M pm qb) := by
    rw [dblock, heap_setCell_same _ _ 0 _ _ _ hb1]; rfl
  have hK2 : Kept (d :: bm :: lv.ownBlock.toList) w (w1.setCell ⟨d, 0, none⟩ v') := (hK.mono (S' := d :: bm :: lv.ownBlock.toList) (fun k hk _ => List.mem_cons_of_mem _ (List.mem_cons_of_mem _ hk))).setCell (Or.inl (by simp)) _
  have hKm : Kept (d :: lv.ownBlock.toList) w (w1.setCell ⟨d, 0, none⟩ v') := (hK.mono (S' := d :: lv.ownBlock.toList) (fun k hk _ => List.mem_cons_of_mem _ hk)).setCell (Or.inl (by simp)) _
  have hw0 : w0.heap.size = w.heap.size + 2 := by rw [h0.1]; simp
  obtain ⟨F, hF, r⟩ := h.bk
  have hF2 := hF.kept hKm (by simp; exact ⟨n3.symm, n2⟩)
  have hFp : ∀ (a : Nat) v, F (.int .i64 a) = some v → ∃ (c : Nat) (x y : Hw.Wd), v = .int .i64 c ∧ Hw.Says (ls ++ [n]) a x y ∧ Hw.Says (ls ++ [n]) c y x := by
    intro a v hv
    obtain ⟨c, x, y, h1, h2, h3⟩ := r a v hv
    exact ⟨c, x, y, h1, (Hw.Ext.one _ _).says h2, (Hw.Ext.one _ _).says h3⟩
  refine ⟨hb1, ⟨⟨hb2, ?_, ⟨F, hF2.mono (by simp), hFp⟩, h.sheet.add hD hx hy⟩, hK2, fun k hk => (hex k hk).imp id (fun h => by omega), Hw.Ext.one _ _⟩, ⟨F, hF2, hFp⟩⟩
  · unfold LinesAt
    rw [lcells_snoc, show (ls ++ [n]).length = ls.length + 1 by simp]
    refine ⟨hown.1, ?_⟩
    rcases hown.2 with h1 | ⟨g, cap, cur, h1, h2, hg, r⟩
    · exact .inl h1
    · refine .inr ⟨g, cap, cur, h1, h2, ?_, r⟩
      rw [Below.heap_setCell _ _ _ _ (fun e => by subst e; rw [hb1] at hg; simp [dblock] at hg)]
      exact hg

set_option maxRecDepth 100000 in
set_option maxHeartbeats 3200000 in
theorem add_any (w : World) (base d bm L M pm qb : Nat) (lv : Value) (said : List Hw.Rl) (ls : List Hw.Ln) (n : Hw.Ln) (hS : Sh w base d bm L M pm qb lv said ls) (hf : ls.length ≤ 60000) (hbase : base ≤ w.heap.size)
    (hD : Hw.Drawn said ls ls.length n) (hx : Hw.isWord L M n.left = true) (hy : Hw.isWord L M n.right = true) :
    Calls Tryz.prog 91 #[.pointer (some ⟨d, 0, none⟩), .agg #[.int .i64 n.how, .string ⟨n.left.toArray⟩, .string ⟨n.right.toArray⟩, .int .i64 n.said, .int .i64 n.a, .int .i64 n.b, .string ⟨n.ahead.toArray⟩, .string ⟨n.behind.toArray⟩]] w fun e w' => ∃ lv', e = .returned (.int .i64 (ls.length : Int)) ∧ ShS w w' base d bm L M pm qb lv lv' said ls (ls ++ [n]) 1 ∧ Bks w' bm ls.length (ls ++ [n]) := by
  obtain ⟨sa, cap, rfl⟩ := LinesAt.shape hS.own
  have c0 := cellAt hS.blk (j := 0) (v := .slice sa ls.length cap) rfl
  have f0 := frozen_of_row w d 0 _ _ hS.blk
  have hdl : d < w.heap.size := lt_of_block hS.blk
  have HS := hide hS
  have HD := hide hD
  have HX := hide hx
  have HY := hide hy
  have c0a : ∀ o, (w.alloc o).cell? ⟨d, 0, none⟩ = some (.slice sa ls.length cap) := fun o => ((Kept.refl [] w).alloc o).cell c0 (by simp)
  have c0b : ∀ o o2, ((w.alloc o).alloc o2).cell? ⟨d, 0, none⟩ = some (.slice sa ls.length cap) := fun o o2 => (((Kept.refl [] w).alloc o).alloc o2).cell c0 (by simp)
  clear hS hD hx hy
  obtain ⟨i0, hi0, hz0, hz1, hz2⟩ := info_parts infoLn
  have HI0 := hide hi0
  have HZ0 := hide hz0
  have HZ1 := hide hz1
  have HZ2 := hide hz2
  clear hi0 hz0 hz1 hz2
  have HOWN : Hid (∀ o1 o2, (((w.alloc o1).alloc o2).drew).ownsRow base 54 8 (.slice sa ls.length cap) ls.length (lcells ls)) := fun o1 o2 => (HS.out.own.alloc o1).alloc o2
  go_enter Tryz.func91, Tryz.ntmps91
  go_wp2
  go_region_law (refine step_append_exact rfl (.tmp 9) (.tmp 11) 50 rfl base 54 i0 (.agg #[.int .i64 0, .string ⟨#[]⟩, .string ⟨#[]⟩, .int .i64 0, .int .i64 0, .int .i64 0, .string ⟨#[]⟩, .string ⟨#[]⟩]) 8 96 Tryz.underlying50 HI0.out HZ0.out HZ1.out HZ2.out rfl (by decide) (.slice sa ls.length cap) ls.length (lcells ls) (by simp [Act.eval, Act.put]) (by exact HOWN.out _ _) ⟨w.heap.size + 1, 0, none⟩ 1 1 (lcell n) (by simp [Act.eval, Act.put]) rfl (by exact line_new w _ n _) (one_line n) (by unfold maxLen; omega) (by omega) (by simp; omega) ?_; intro v' w1 hown hgrow hex; obtain ⟨g2, cap2, rfl⟩ := own_shape hown; have R := add_step HS.out (by exact ⟨rfl, rfl, rfl, rfl⟩) HD.out HX.out HY.out hown hgrow hex; have d0 := cellAt R.1 (j := 0) (v := .slice sa ls.length cap) rfl; have e0 := frozen_of_row w1 d 0 _ _ R.1; have R2 := hide R.2; have d1 := cellAt R2.out.1.sh.blk (j := 0) (v := .slice (some ⟨g2, 0, none⟩) (ls.length + 1) cap2) rfl; clear R hown hgrow hex)
  all_goals
    go_wp2
    go_ret
    exact ⟨_, by simp, R2.out.1, R2.out.2⟩
end Dr
end Go.Proofs.YtfiebibpgbadlaaGreat
